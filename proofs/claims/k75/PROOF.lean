import PyProof.Rows.All
import Wide.All
import OpenK.AllK
import Wide.FinOn
import Lean
import PyProof.EqAt
import PyProof.EqKinds
import PyProof.TupleCall
import PySem.Challenge.RW_leastrow_k75_no_window
set_option Elab.async false
set_option linter.all false
set_option maxRecDepth 100000
/-! THE HAND LAYER, for ints, bools, texts, own classes, LISTS and tuples (index, slices, in, append, pop ..), calls, loops. Paste it whole ahead of your own text; what your proof does not reach may be deleted. -/
namespace L2
open PySem PySem.Spec PyProof.Rows

/-- a key: an int or a str -/
noncomputable abbrev Key := Sum Int Str
noncomputable def keyIs : Key → Value → Bool
  | .inl k, v => Value.isInt k v
  | .inr x, v => Value.isStrOf x v
noncomputable def keyH (w : World) : Key → Int
  | .inl k => hashInt k
  | .inr x => hashStr w x
theorem keyIs_shape : ∀ {k : Key} {v : Value}, keyIs k v = true → (∃ i t, k = Sum.inl i ∧ v = Value.int i t) ∨ (∃ x t, k = Sum.inr x ∧ v = Value.str x t)
  | .inl i, v, h => by
    obtain ⟨t, e⟩ := Value.isInt_shape (k := i) (v := v) h
    exact .inl ⟨i, t, rfl, e⟩
  | .inr x, v, h => by
    obtain ⟨t, e⟩ := Value.isStrOf_shape (x := x) (v := v) h
    exact .inr ⟨x, t, rfl, e⟩
theorem keyIs_int (i : Int) (t : Tok) : keyIs (.inl i) (.int i t) = true := by simp [keyIs, Value.isInt]
theorem keyIs_str (x : Str) (t : Tok) : keyIs (.inr x) (.str x t) = true := by simp [keyIs, Value.isStrOf]
theorem key_ll (a b : Int) : decide ((Sum.inl a : Key) = Sum.inl b) = (a == b) := by
  by_cases e : a = b
  · subst e; simp
  · have h : ¬ (Sum.inl a : Key) = Sum.inl b := fun q => e (Sum.inl.inj q)
    rw [decide_eq_false h]
    exact (beq_eq_false_iff_ne.mpr e).symm
theorem key_rr (a b : Str) : decide ((Sum.inr a : Key) = Sum.inr b) = decide (a = b) := by
  by_cases e : a = b
  · subst e; simp
  · have h : ¬ (Sum.inr a : Key) = Sum.inr b := fun q => e (Sum.inr.inj q)
    rw [decide_eq_false h, decide_eq_false e]
theorem key_lr (a : Int) (b : Str) : decide ((Sum.inl a : Key) = Sum.inr b) = false := decide_eq_false (fun q => nomatch q)
theorem key_rl (a : Str) (b : Int) : decide ((Sum.inr a : Key) = Sum.inl b) = false := decide_eq_false (fun q => nomatch q)

noncomputable def mixKind (prog : Program) (w : World) : PySem.KeyKind prog w Key where
  is := keyIs
  hash := keyH w
  inj := fun v a b ha hb => by
    rcases keyIs_shape ha with ⟨i, t, rfl, rfl⟩ | ⟨x, t, rfl, rfl⟩
    · rcases keyIs_shape hb with ⟨j, u, rfl, e⟩ | ⟨y, u, rfl, e⟩
      · injection e with e1 _; rw [e1]
      · exact nomatch e
    · rcases keyIs_shape hb with ⟨j, u, rfl, e⟩ | ⟨y, u, rfl, e⟩
      · exact nomatch e
      · injection e with e1 _; rw [e1]
  byValue := fun k v h => by
    rcases keyIs_shape h with ⟨i, t, rfl, rfl⟩ | ⟨x, t, rfl, rfl⟩ <;> rfl
  pyHash := fun hv h => by
    rcases keyIs_shape hv with ⟨i, t, rfl, rfl⟩ | ⟨x, t, rfl, rfl⟩
    · exact wpAny_pyHash_int h
    · exact wpAny_pyHash_str h
  eqBool := fun hu hv h => by
    rcases keyIs_shape hu with ⟨i, t, rfl, rfl⟩ | ⟨x, t, rfl, rfl⟩
    · rcases keyIs_shape hv with ⟨j, u, rfl, rfl⟩ | ⟨y, u, rfl, rfl⟩
      · rw [key_ll] at h; exact wpAny_eqBool_int h
      · rw [key_lr] at h; exact SeqAt.EqAt.int_str i t y u _ _ _ _ h
    · rcases keyIs_shape hv with ⟨j, u, rfl, rfl⟩ | ⟨y, u, rfl, rfl⟩
      · rw [key_rl] at h; exact SeqAt.EqAt.str_int x t j u _ _ _ _ h
      · rw [key_rr] at h; exact wpAny_eqBool_str h
  «strs» := fun k x t v h => by
    rcases keyIs_shape h with ⟨i, u, rfl, e⟩ | ⟨y, u, rfl, e⟩
    · exact nomatch e
    · injection e with e1 _
      subst e1
      cases v <;> rfl

theorem mixKind_int (prog : Program) (w : World) (i : Int) (t : Tok) : (mixKind prog w).is (.inl i) (.int i t) = true := keyIs_int i t
theorem mixKind_str (prog : Program) (w : World) (x : Str) (t : Tok) : (mixKind prog w).is (.inr x) (.str x t) = true := keyIs_str x t
end L2

namespace L2
open PySem PySem.Spec PyProof.Rows

/-- a value, without the heap -/
inductive V where
  | non | bl (b : Bool) | int (i : Int) | str (x : Str) | byt (b : Array UInt8) | flt (b : UInt64) | ref (a : Addr) | ty (n : String)
  deriving DecidableEq

noncomputable def RelV : V → Value → Prop
  | .non, u => u = Value.none
  | .bl b, u => u = Value.bool b
  | .int i, u => ∃ t, u = Value.int i t
  | .str x, u => ∃ t, u = Value.str x t
  | .byt b, u => ∃ t, u = Value.bytes b t
  | .flt b, u => ∃ t, u = Value.float b t
  | .ref a, u => u = Value.ref a
  | .ty n, u => u = Value.type n

noncomputable abbrev Vals : List V → List Value → Prop := Paired RelV
theorem Vals.length {xs : List V} {us : List Value} (r : Vals xs us) : xs.length = us.length := Paired.length r
theorem Vals.get : ∀ {xs : List V} {us : List Value} {i : Nat} {x : V}, Vals xs us → xs[i]? = some x → ∃ u, us[i]? = some u ∧ RelV x u
  | _, _, _, _, .nil, e => by simp at e
  | _, _, 0, _, .cons r _, e => by simp at e; subst e; exact ⟨_, rfl, r⟩
  | _, _, i + 1, x, .cons _ t, e => by
    obtain ⟨u, h1, h2⟩ := Vals.get (i := i) (x := x) t (by simpa using e)
    exact ⟨u, by simpa using h1, h2⟩
theorem Vals.set {x : V} {u : Value} (r : RelV x u) : ∀ {xs : List V} {us : List Value} (i : Nat), Vals xs us → Vals (xs.set i x) (us.set i u)
  | _, _, _, .nil => .nil
  | _, _, 0, .cons _ t => .cons r t
  | _, _, i + 1, .cons q t => .cons q (Vals.set r i t)
theorem Vals.append : ∀ {xs ys : List V} {us ws : List Value}, Vals xs us → Vals ys ws → Vals (xs ++ ys) (us ++ ws)
  | _, _, _, _, .nil, s => s
  | _, _, _, _, .cons r t, s => .cons r (Vals.append t s)
theorem Vals.take : ∀ {xs : List V} {us : List Value} (n : Nat), Vals xs us → Vals (xs.take n) (us.take n)
  | _, _, 0, _ => .nil
  | _, _, _ + 1, .nil => .nil
  | _, _, n + 1, .cons r t => .cons r (Vals.take n t)
theorem Vals.drop : ∀ {xs : List V} {us : List Value} (n : Nat), Vals xs us → Vals (xs.drop n) (us.drop n)
  | _, _, 0, r => r
  | _, _, _ + 1, .nil => .nil
  | _, _, n + 1, .cons _ t => Vals.drop n t
noncomputable def RelO : Option V → Option Value → Prop
  | some v, some u => RelV v u
  | none, none => True
  | _, _ => False
noncomputable def KV {κ : Type} : List (κ × V) → List (κ × Value) → Prop := Paired fun (p : κ × V) (q : κ × Value) => p.1 = q.1 ∧ RelV p.2 q.2

/-- a key of a dict (00_mix): an int or a text -/
noncomputable def kV : Key → V
  | .inl i => .int i
  | .inr x => .str x

/-- what stands at a tracked address -/
inductive HO where
  /-- a list -/
  | lst (xs : List V)
  /-- a tuple (never changes) -/
  | tup (xs : List V)
  /-- a dict whose keys are ints and texts; one whose keys are tuples of ints and texts (the empty one is both) -/
  | dK (kvs : List (Key × V)) | dT (kvs : List (List Key × V))
  /-- a set of ints: its members, its size -/
  | set (S : Int → Bool) (n : Nat)
  /-- an instance of the class at C, its dict at dx, its attributes -/
  | ins (C dx : Addr) (fs : List (Str × V))
  /-- the dict of the instance at x -/
  | own (x : Addr)
  /-- the dict of an exception -/
  | xd (fs : List (Str × V))
  /-- a bound method, f of x -/
  | met (f x : Addr)
  /-- a range object lo, lo + 1, .. below hi -/
  | rng (lo hi : Int)
  /-- a thing that is known to the object (the script; a dict while a loop walks it): read, never written while it is so -/
  | frz (o : Obj) (u : HO)
  /-- a code object's table -/
  | tbl (ps : Array Value)
  /-- any other thing, by what is true of its one object (a def of one's own: SetO a S n := HO.ext fun h => ..) -/
  | ext (φ : Heap → Prop)

noncomputable abbrev Hp := Addr → Option HO
noncomputable def upd (H : Hp) (a : Addr) (o : HO) : Hp := fun b => if b = a then some o else H b
theorem upd_same {H : Hp} {a : Addr} {o : HO} : upd H a o a = some o := by unfold upd; rw [if_pos rfl]
theorem upd_ne {H : Hp} {a b : Addr} {o : HO} (h : b ≠ a) : upd H a o b = H b := by unfold upd; rw [if_neg h]
theorem ne_of_none {H : Hp} {a b : Addr} {o : HO} (h : H a = some o) (h' : H b = none) : a ≠ b := by
  intro e; subst e; rw [h] at h'; cases h'

noncomputable def IsTupD (h : Heap) (a : Addr) (items : Array Value) : Prop := ∃ o, h.get? a = some o ∧ o.cls = .type "tuple" ∧ (∃ n, o.data = .seq items n) ∧ o.dict = none
theorem IsTupD.tup {h : Heap} {a : Addr} {items : Array Value} (x : IsTupD h a items) : IsTup h a items := let ⟨o, e, c, d, _⟩ := x; ⟨o, e, c, d⟩
theorem IsTupD.new (h : Heap) (items : Array Value) : IsTupD (h.push { cls := .type "tuple", data := .seq items }) h.objs.size items := ⟨_, Heap.get?_push_size _ rfl, rfl, ⟨_, rfl⟩, rfl⟩
section
variable (P : Program) (w : World)
noncomputable def ObjOk (H : Hp) (h : Heap) (a : Addr) : HO → Prop
  | .lst xs => xs.length ≤ sizeLine ∧ ∃ (its : List Value) (n : Nat), Vals xs its ∧ h.get? a = some { cls := .type "list", data := .seq its.toArray n }
  | .tup xs => xs.length ≤ sizeLine ∧ ∃ its : List Value, Vals xs its ∧ IsTupD h a its.toArray
  | .dK kvs => kvs.length ≤ sizeLine ∧ (a == sysModules) = false ∧ ∃ vs, KV kvs vs ∧ h.DictOf (mixKind P w) a vs
  | .dT kvs => kvs.length ≤ sizeLine ∧ (a == sysModules) = false ∧ ∃ xs : List (List Key × Addr × Value),
      Paired (fun (p : List Key × V) (q : List Key × Addr × Value) => p.1 = q.1 ∧ H q.2.1 = some (.tup (p.1.map kV)) ∧ RelV p.2 q.2.2) kvs xs ∧
      ∃ o es ep, h.get? a = some o ∧ o.ExactDict ∧ o.data = .dict es ep ∧ es.toList = xs.map (entryOfKey (tupleKind (mixKind P w))) ∧ (xs.map (·.1)).Nodup
  | .set S n => h.SetOf (intKind P w) a S n
  | .ins C dx fs => H dx = some (.own a) ∧ fs.length ≤ 1000 ∧ dx ≠ a ∧ h.get? a = some (PySem.W.instObj C dx) ∧
      ∃ mA, h.Ns1 dx mA ∧ (∀ f, RelO (fs.lookup f) (mA f)) ∧ PySem.Within mA (fs.map (·.1))
  | .own _ => ∃ o, h.get? a = some o
  | .xd fs => ∃ mA, h.Ns1 a mA ∧ ∀ f, RelO (fs.lookup f) (mA f)
  | .rng lo hi => ∃ t u v, h.get? a = some { cls := .type "range", data := .fields #[.int lo t, .int hi u, .int 1 v] }
  | .frz o u => h.get? a = some o ∧ ObjOk H h a u
  | .tbl ps => h.get? a = some { cls := .none, data := .fields ps }
  | .met f x => h.get? a = some (PySem.W.methodObj (.ref f) (.ref x))
  | .ext φ => φ h ∧ (∃ o, h.get? a = some o) ∧ ∀ h1 h2 : Heap, φ h1 → (∀ o, h1.get? a = some o → h2.get? a = some o) → φ h2
/-- the abstract heap is held -/
noncomputable def HOk (H : Hp) (h : Heap) : Prop := ∀ a o, H a = some o → ObjOk P w H h a o
end

section
variable {P : Program} {w : World} {H H' : Hp} {h h' : Heap} {a : Addr} {o : HO}
theorem ObjOk.lt (x : ObjOk P w H h a o) : a < h.objs.size := by
  cases o with
  | lst xs => obtain ⟨_, _, _, _, e⟩ := x; exact Heap.lt_size e
  | tup xs => obtain ⟨_, _, _, p⟩ := x; exact p.tup.lt
  | dK kvs => obtain ⟨_, _, _, _, o, _, _, e, _⟩ := x; exact Heap.lt_size e
  | dT kvs => obtain ⟨_, _, _, _, o, _, _, e, _⟩ := x; exact Heap.lt_size e
  | set S n => obtain ⟨o, _, _, _, e, _⟩ := x; exact Heap.lt_size e
  | ins C dx fs => obtain ⟨_, _, _, e, _⟩ := x; exact Heap.lt_size e
  | own y => obtain ⟨_, e⟩ := x; exact Heap.lt_size e
  | xd fs => obtain ⟨_, ⟨_, _, _, e, _⟩, _⟩ := x; exact Heap.lt_size e
  | rng lo hi => obtain ⟨_, _, _, e⟩ := x; exact Heap.lt_size e
  | frz ob u => obtain ⟨e, _⟩ := x; exact Heap.lt_size e
  | tbl ps => exact Heap.lt_size (show h.get? a = some _ from x)
  | met f y => exact Heap.lt_size (show h.get? a = some _ from x)
  | ext φ => obtain ⟨_, ⟨_, e⟩, _⟩ := x; exact Heap.lt_size e
theorem Paired.mapP {α β : Type} {F G : α → β → Prop} : ∀ {l₁ : List α} {l₂ : List β}, Paired F l₁ l₂ → (∀ a b, F a b → G a b) → Paired G l₁ l₂
  | _, _, .nil, _ => .nil
  | _, _, .cons r t, f => .cons (f _ _ r) (Paired.mapP t f)
/-- what an object's description leans on: its own object, its own dict, the tuples -/
theorem ObjOk.stay (x : ObjOk P w H h a o) (k : ∀ b u, (b = a ∨ H b = some (.own a)) → h.get? b = some u → h'.get? b = some u)
    (ho : ∀ b, H b = some (.own a) → H' b = some (.own a)) (ht : ∀ b xs, H b = some (.tup xs) → H' b = some (.tup xs)) : ObjOk P w H' h' a o := by
  induction o with
  | lst xs => obtain ⟨z, its, n, r, e⟩ := x; exact ⟨z, its, n, r, k _ _ (.inl rfl) e⟩
  | tup xs => obtain ⟨z, its, r, ob, e, c⟩ := x; exact ⟨z, its, r, ob, k _ _ (.inl rfl) e, c⟩
  | dK kvs => obtain ⟨z, y, vs, r, ob, es, ep, e, c⟩ := x; exact ⟨z, y, vs, r, ob, es, ep, k _ _ (.inl rfl) e, c⟩
  | dT kvs =>
    obtain ⟨z, y, xs, r, ob, es, ep, e, c⟩ := x
    exact ⟨z, y, xs, Paired.mapP r fun p q z => ⟨z.1, ht _ _ z.2.1, z.2.2⟩, ob, es, ep, k _ _ (.inl rfl) e, c⟩
  | set S n => obtain ⟨ob, es, ep, t, e, c⟩ := x; exact ⟨ob, es, ep, t, k _ _ (.inl rfl) e, c⟩
  | ins C dx fs =>
    obtain ⟨d, z, ne, e, mA, ⟨od, es, ep, e2, c⟩, r⟩ := x
    exact ⟨ho _ d, z, ne, k _ _ (.inl rfl) e, mA, ⟨od, es, ep, k _ _ (.inr d) e2, c⟩, r⟩
  | own y => obtain ⟨ob, e⟩ := x; exact ⟨ob, k _ _ (.inl rfl) e⟩
  | xd fs => obtain ⟨mA, ⟨od, es, ep, e, c⟩, r⟩ := x; exact ⟨mA, ⟨od, es, ep, k _ _ (.inl rfl) e, c⟩, r⟩
  | rng lo hi => obtain ⟨t, u, v, e⟩ := x; exact ⟨t, u, v, k _ _ (.inl rfl) e⟩
  | frz ob u ih => obtain ⟨e, q⟩ := x; exact ⟨k _ _ (.inl rfl) e, ih q⟩
  | tbl ps =>
    have e : h.get? a = some { cls := .none, data := .fields ps } := x
    show h'.get? a = some { cls := .none, data := .fields ps }
    exact k a _ (.inl rfl) e
  | met f y =>
    have e : h.get? a = some (PySem.W.methodObj (.ref f) (.ref y)) := x
    show h'.get? a = some (PySem.W.methodObj (.ref f) (.ref y))
    exact k a _ (.inl rfl) e
  | ext φ => obtain ⟨p, ⟨o, e⟩, st⟩ := x; exact ⟨st _ _ p fun o q => k _ _ (.inl rfl) q, ⟨o, k _ _ (.inl rfl) e⟩, st⟩
theorem HOk.lt (x : HOk P w H h) (e : H a = some o) : a < h.objs.size := (x a o e).lt
theorem HOk.fresh (x : HOk P w H h) (e : h.objs.size ≤ a) : H a = none := by
  cases q : H a with
  | none => rfl
  | some u => exact absurd (Nat.lt_of_lt_of_le (x.lt q) e) (Nat.lt_irrefl _)
/-- every object of the heap is kept -/
theorem HOk.kept (x : HOk P w H h) (k : ∀ b u, h.get? b = some u → h'.get? b = some u) : HOk P w H h' := fun a o e =>
  (x a o e).stay (fun b u _ q => k b u q) (fun _ q => q) fun _ _ q => q
/-- a new object is laid and tracked -/
theorem HOk.laid (x : HOk P w H h) (k : ∀ b u, h.get? b = some u → h'.get? b = some u) (hp : h.objs.size ≤ a) (new : ObjOk P w (upd H a o) h' a o) : HOk P w (upd H a o) h' := fun b u e => by
  have hn := x.fresh hp
  by_cases hb : b = a
  · subst hb; rw [upd_same] at e; cases e; exact new
  · rw [upd_ne hb] at e
    exact (x b u e).stay (fun c v _ q => k c v q) (fun c q => by rw [upd_ne (ne_of_none q hn)]; exact q) fun c xs q => by rw [upd_ne (ne_of_none q hn)]; exact q
end

/-- what may be read as u: it is u, or a known u -/
noncomputable def Rd (H : Hp) (a : Addr) (u : HO) : Prop := H a = some u ∨ ∃ o, H a = some (.frz o u)
theorem Rd.of {H : Hp} {a : Addr} {u : HO} (h : H a = some u) : Rd H a u := .inl h
theorem Rd.ok {P : Program} {w : World} {H : Hp} {h : Heap} {a : Addr} {u : HO} (r : Rd H a u) (x : HOk P w H h) : ObjOk P w H h a u := by
  rcases r with r | ⟨o, r⟩
  · exact x a u r
  · obtain ⟨_, q⟩ := x a _ r
    exact q
/-- what may be written -/
noncomputable def Mut : Option HO → Prop
  | some (.lst _) => True
  | some (.dK _) => True
  | some (.dT _) => True
  | some (.set _ _) => True
  | some (.ins _ _ _) => True
  | some (.ext _) => True
  | _ => False
section
variable {P : Program} {w : World} {H : Hp} {h h' : Heap} {x e : Addr} {o' : HO}
/-- the object at e is changed: x itself, or the dict of the instance x -/
theorem HOk.write (ok : HOk P w H h) (mu : Mut (H x)) (he : e = x ∨ H e = some (.own x)) (k : ∀ b u, b ≠ e → h.get? b = some u → h'.get? b = some u) (heo : ∃ u, h'.get? e = some u)
    (new : ObjOk P w (upd H x o') h' x o') : HOk P w (upd H x o') h' := fun b u q => by
  have nown : ∀ c y, H c = some (.own y) → c ≠ x := fun c y r z => by subst z; rw [r] at mu; exact mu
  have ntup : ∀ c xs, H c = some (.tup xs) → c ≠ x := fun c xs r z => by subst z; rw [r] at mu; exact mu
  by_cases hb : b = x
  · subst hb; rw [upd_same] at q; cases q; exact new
  · rw [upd_ne hb] at q
    by_cases hbe : b = e
    · have q' : H b = some (.own x) := by
        rcases he with z | z
        · exact absurd (hbe.trans z) hb
        · rw [hbe]; exact z
      rw [q] at q'; cases q'
      obtain ⟨v, hv⟩ := heo
      exact ⟨v, by rw [hbe]; exact hv⟩
    · refine (ok b u q).stay (fun c v hc r => k c v ?_ r) (fun c r => by rw [upd_ne (nown c b r)]; exact r) fun c xs r => by rw [upd_ne (ntup c xs r)]; exact r
      rcases hc with rfl | hc
      · exact hbe
      · rintro rfl
        rcases he with z | z
        · exact nown c b hc z
        · rw [hc] at z; cases z; exact hb rfl
end

/-! ### kept unless tracked; of the frames at fs (the callers') the slots may change (an exception that passes writes there); of the records at ex (iterators) nothing is said -/
structure Un (fs ex : List Addr) (H H' : Hp) (h h' : Heap) : Prop where
  keep : ∀ b o, h.get? b = some o → H b = none → b ∉ fs → b ∉ ex → h'.get? b = some o
  slot : ∀ b o, h.get? b = some o → H b = none → b ∈ fs → b ∉ ex → ∃ sl, h'.get? b = some { o with slots := sl }
  free : ∀ b o, h.get? b = some o → H b = none → b ∉ ex → H' b = none
  there : ∀ b o, h.get? b = some o → b ∉ ex → ∃ o', h'.get? b = some o'
  tups : ∀ b xs, H b = some (.tup xs) → H' b = some (.tup xs)
  frzs : ∀ b o u, H b = some (.frz o u) → H' b = some (.frz o u)
  tbls : ∀ b ps, H b = some (.tbl ps) → ∃ more, H' b = some (.tbl (ps ++ more))
section
variable {fs fs' ex ex' : List Addr} {H H1 H2 : Hp} {h h1 h2 h' : Heap} {a x e : Addr} {o : HO}
theorem Un.any (u : Un fs ex H H1 h h1) {b : Addr} {ob : Obj} (q : h.get? b = some ob) (n : H b = none) (hx : b ∉ ex) : ∃ sl, h1.get? b = some { ob with slots := sl } := by
  by_cases hb : b ∈ fs
  · exact u.slot b ob q n hb hx
  · exact ⟨ob.slots, u.keep b ob q n hb hx⟩
theorem Un.trans (a : Un fs ex H H1 h h1) (b : Un fs ex H1 H2 h1 h2) : Un fs ex H H2 h h2 where
  keep := fun c ob q n hc hx => b.keep c ob (a.keep c ob q n hc hx) (a.free c ob q n hx) hc hx
  slot := fun c ob q n hc hx => by
    obtain ⟨sl, e1⟩ := a.slot c ob q n hc hx
    obtain ⟨sl', e2⟩ := b.slot c _ e1 (a.free c ob q n hx) hc hx
    exact ⟨sl', e2⟩
  free := fun c ob q n hx => by
    obtain ⟨o', e1⟩ := a.there c ob q hx
    exact b.free c o' e1 (a.free c ob q n hx) hx
  there := fun c ob q hx => by
    obtain ⟨o', e1⟩ := a.there c ob q hx
    exact b.there c o' e1 hx
  tups := fun c xs q => b.tups c xs (a.tups c xs q)
  frzs := fun c ob xs q => b.frzs c ob xs (a.frzs c ob xs q)
  tbls := fun c ps q => by
    obtain ⟨m1, e1⟩ := a.tbls c ps q
    obtain ⟨m2, e2⟩ := b.tbls c _ e1
    exact ⟨m1 ++ m2, by rw [e2, Array.append_assoc]⟩
theorem Un.kept (k : ∀ b u, h.get? b = some u → h'.get? b = some u) : Un fs ex H H h h' :=
  ⟨fun b ob q _ _ _ => k b ob q, fun b ob q _ _ _ => ⟨ob.slots, k b ob q⟩, fun _ _ _ n _ => n, fun b ob q _ => ⟨ob, k b ob q⟩, fun _ _ q => q, fun _ _ _ q => q, fun _ ps q => ⟨#[], by rw [q]; simp⟩⟩
theorem Un.refl : Un fs ex H H h h := Un.kept fun _ _ q => q
theorem Un.laid (k : ∀ b u, h.get? b = some u → h'.get? b = some u) (hp : h.objs.size ≤ a) (hn : H a = none) : Un fs ex H (upd H a o) h h' where
  keep := fun b u q _ _ _ => k b u q
  slot := fun b u q _ _ _ => ⟨u.slots, k b u q⟩
  free := fun b u q n _ => by rw [upd_ne (Nat.ne_of_lt (Nat.lt_of_lt_of_le (Heap.lt_size q) hp))]; exact n
  there := fun b u q _ => ⟨u, k b u q⟩
  tups := fun b xs q => by rw [upd_ne (ne_of_none q hn)]; exact q
  frzs := fun b u xs q => by rw [upd_ne (ne_of_none q hn)]; exact q
  tbls := fun b ps q => ⟨#[], by rw [upd_ne (ne_of_none q hn), q]; simp⟩
theorem Un.write (mu : Mut (H x)) (he : e = x ∨ H e = some (.own x)) (k : ∀ b u, b ≠ e → h.get? b = some u → h'.get? b = some u) (heo : ∃ u, h'.get? e = some u) : Un fs ex H (upd H x o) h h' := by
  have hx : ∀ b, H b = none → b ≠ x := fun b n z => by subst z; rw [n] at mu; exact mu
  have hb : ∀ b, H b = none → b ≠ e := fun b n z => by
    subst z
    rcases he with r | r
    · exact hx b n r
    · rw [n] at r; cases r
  have hm : ∀ b u, H b = some u → ¬ Mut (some u) → b ≠ x := fun b u q nm z => by subst z; rw [q] at mu; exact nm mu
  refine ⟨fun b u q n _ _ => k b u (hb b n) q, fun b u q n _ _ => ⟨u.slots, k b u (hb b n) q⟩, fun b u q n _ => by rw [upd_ne (hx b n)]; exact n, fun b u q _ => ?_,
    fun b xs q => by rw [upd_ne (hm b _ q fun z => z)]; exact q, fun b u xs q => by rw [upd_ne (hm b _ q fun z => z)]; exact q, fun b ps q => ⟨#[], by rw [upd_ne (hm b _ q fun z => z), q]; simp⟩⟩
  by_cases hbe : b = e
  · subst hbe; exact heo
  · exact ⟨u, k b u hbe q⟩
theorem Un.mono (u : Un fs ex H H1 h h1) (hs : ∀ b ∈ fs, b ∈ fs') (hx : ∀ b ∈ ex, b ∈ ex') : Un fs' ex' H H1 h h1 :=
  ⟨fun b ob q n hb he => u.keep b ob q n (fun z => hb (hs b z)) fun z => he (hx b z), fun _ _ q n _ he => u.any q n fun z => he (hx _ z), fun b ob q n he => u.free b ob q n fun z => he (hx b z), fun b ob q he => u.there b ob q fun z => he (hx b z), u.tups, u.frzs, u.tbls⟩
end

/-! ### the heap without what is tracked -/
noncomputable def trk (h : Heap) (H : Hp) : List Addr := (List.range h.objs.size).filter fun a => (H a).isSome
noncomputable def hidT (h : Heap) (H : Hp) : Heap := PySem.W.hideAll h (trk h H)
theorem hidT_size (h : Heap) (H : Hp) : (hidT h H).objs.size = h.objs.size := PySem.W.hideAll_size _ _
theorem hidT_get {h : Heap} {H : Hp} {b : Addr} {o : Obj} (e : h.get? b = some o) (n : H b = none) : (hidT h H).get? b = some o :=
  PySem.W.hideAll_get _ e fun hm => by
    have q : (H b).isSome = true := (List.mem_filter.mp hm).2
    rw [n] at q; simp at q
theorem of_hidT {h : Heap} {H : Hp} {b : Addr} {o : Obj} (e : (hidT h H).get? b = some o) : h.get? b = some o ∧ H b = none := by
  have e' : h.get? b = some o := PySem.W.of_hideAll (trk h H) e
  refine ⟨e', ?_⟩
  cases q : H b with
  | none => rfl
  | some x =>
    have hm : b ∈ trk h H := List.mem_filter.mpr ⟨List.mem_range.mpr (Heap.lt_size e'), by simp [q]⟩
    have z : (hidT h H).get? b = none := PySem.W.hideAll_none (trk h H) hm
    rw [z] at e; cases e

/-! ### OpenK's ledger, filled with every new object but one -/
noncomputable def allNews (g h : Heap) (L : Addr) : List (Addr × Obj) := (List.range h.objs.size).filterMap fun a => if a = L ∨ (g.get? a).isSome = true then none else (h.get? a).map fun o => (a, o)
noncomputable def rest (g h : Heap) (L d : Addr) : List (Addr × Obj) := (allNews g h L).filter fun p => decide (p.1 ≠ d)
end L2

namespace L2
open PySem PySem.Spec PyProof.Rows

/-- the module's facts, over the base: the heap at the law's entry without what is tracked there -/
structure Mod (K : PySem.W.Frag) (mg : Str → Option Value) (base : Heap) : Prop where
  kin : K.In base
  glob : base.Ns mainGlobals mg
  blt : ∃ mb, base.Ns builtinsNs mb ∧ ∀ x : Str, x ≠ "__name__" → mb x = bootBuiltins x
  nolimit : base.NoLimit

/-- the context: a def's body (or a comprehension's block) running. base: fixed through the whole law; s₀, H₀: the entry; outer: the frames whose slots others may change (a def's callers); stack: all frames that run;
   ex: iterators that were made ahead of the entry and are walked here (a comprehension's); fn: the names whose cells were made at the entry (a def: all; a comprehension's block: its own); calm: not within an except suite; pn: pins that every state bears; xe: what is wanted of an exception that leaves the code -/
structure Cx where
  prog : Program
  w : World
  K : PySem.W.Frag
  mg : Str → Option Value
  base : Heap
  A : Around
  N : List Str
  s₀ : Shared
  H₀ : Hp
  env : Env
  outer : List Env
  stack : List Env
  ex : List Addr
  fn : Str → Bool
  calm : Bool
  pn : List (Addr × Obj)
  xe : Value → Shared → Prop
  B₀ : Hp := H₀
  hB : ∀ b o, H₀ b = some o → (∀ xs, o ≠ .lst xs) → B₀ b = some o := by intro b o e _; exact e
/-- the callers' frames -/
noncomputable def frs (l : List Env) : List Addr := l.filterMap (·.frame)
noncomputable abbrev Cx.fs (X : Cx) : List Addr := frs X.outer

noncomputable def Vis (sc : Scope) (x : Str) : Prop := sc.names.lookup x = some .local ∨ sc.names.lookup x = some .cell ∨ sc.names.lookup x = some .free
noncomputable def Loc (sc : Scope) (x : Str) : Prop := sc.names.lookup x = some .local ∨ sc.names.lookup x = some .cell
noncomputable def Look (env : Env) (h : Heap) (m : Str → Option Value) (x : Str) (u : Value) : Prop :=
  (env.kindOf x = some .local ∧ m x = some u) ∨ ((env.kindOf x = some .cell ∨ env.kindOf x = some .free) ∧ ∃ c, env.cells.lookup x = some c ∧ h.IsCell c (some u))

structure Cx.Ok (X : Cx) : Prop where
  mod : Mod X.K X.mg X.base
  kind : X.env.scope.kind = .function
  glob : X.env.globals = mainGlobals
  blt : X.env.builtins = builtinsNs
  above : X.s₀.heap.objs.size ≤ X.env.locals
  inj : ∀ x y c, X.env.cells.lookup x = some c → X.env.cells.lookup y = some c → x = y
  has : ∀ x, (X.env.kindOf x = some .cell ∨ X.env.kindOf x = some .free) → ∃ c, X.env.cells.lookup x = some c
  cab : ∀ x c, X.fn x = true → X.env.cells.lookup x = some c → X.s₀.heap.objs.size ≤ c
  hd : X.calm = true → X.A.handled = none
  frames : X.A.frames = some X.stack
  stk : X.stack = X.outer ∨ (X.stack = X.env :: X.outer ∧ X.env.frame = some X.env.locals)
  exf : ∀ b ∈ X.ex, b ≠ X.env.locals ∧ ∀ x c, X.env.cells.lookup x = some c → c ≠ b
  bs : ∀ b o, X.base.get? b = some o → X.s₀.heap.get? b = some o ∧ X.H₀ b = none
  bsz : X.base.objs.size ≤ X.s₀.heap.objs.size
  noex : ∀ b o, X.base.get? b = some o → b ∉ X.ex
  exfs : ∀ b ∈ X.ex, b ∉ X.fs
  funs : X.s₀.heap.FunFrames X.base X.outer
  frf : ∀ b ∈ X.fs, X.H₀ b = none

structure Inv (X : Cx) (pins : List (Addr × Obj)) (σ : List (Option V)) (H : Hp) (s : Shared) : Prop where
  ok : X.Ok
  os : s.os = X.s₀.os
  bare : AllBare s.gens
  base : Un X.fs X.ex X.H₀ H X.s₀.heap s.heap
  loc : ∃ m, s.heap.Ns X.env.locals m ∧ ∀ (i : Nat) (x : Str) (v : V), X.N[i]? = some x → σ[i]? = some (some v) → Vis X.env.scope x → ∃ u, RelV v u ∧ Look X.env s.heap m x u
  cell : ∀ x c, X.env.cells.lookup x = some c → ∃ v, s.heap.IsCell c v
  free : H X.env.locals = none
  freeC : ∀ x c, X.env.cells.lookup x = some c → H c = none
  pin : ∀ p ∈ X.pn ++ pins, s.heap.get? p.1 = some p.2 ∧ H p.1 = none ∧ p.1 ≠ X.env.locals ∧ p.1 ∉ X.fs ∧ ∀ v, p.2.data ≠ .cell v
  hok : HOk X.prog X.w H s.heap
  len : σ.length = X.N.length

section
variable {X : Cx} {pins : List (Addr × Obj)} {σ : List (Option V)} {H H' : Hp} {s : Shared} {h' : Heap}

theorem Cx.Ok.nofr (ok : X.Ok) {b : Addr} {o : Obj} (e : X.base.get? b = some o) : b ∉ X.fs := fun hb => by
  have := (ok.funs.mem hb).1
  rw [e] at this; cases this
theorem Inv.bs (I : Inv X pins σ H s) : ∀ b o, X.base.get? b = some o → s.heap.get? b = some o ∧ H b = none := fun b o e =>
  ⟨I.base.keep b o (I.ok.bs b o e).1 (I.ok.bs b o e).2 (I.ok.nofr e) (I.ok.noex b o e), I.base.free b o (I.ok.bs b o e).1 (I.ok.bs b o e).2 (I.ok.noex b o e)⟩
theorem Inv.bk (I : Inv X pins σ H s) : ∀ b o, X.base.get? b = some o → s.heap.get? b = some o := fun b o e => (I.bs b o e).1
theorem Inv.mod (I : Inv X pins σ H s) : Mod X.K X.mg X.base := I.ok.mod
theorem Inv.kIn (I : Inv X pins σ H s) : X.K.In s.heap := I.ok.mod.kin.keeps I.bk
theorem Inv.nolimit (I : Inv X pins σ H s) : s.heap.NoLimit := I.ok.mod.nolimit.keeps I.bk
/-- the frame over the base: for OpenK's rules (K.In X.base is I.mod.kin) -/
theorem Inv.fr (I : Inv X pins σ H s) : ∃ m, Fr X.base X.env.locals s.heap m :=
  let ⟨m, hn, _⟩ := I.loc
  ⟨m, hn, I.bk, Nat.le_trans I.ok.bsz I.ok.above⟩
theorem Inv.lt (I : Inv X pins σ H s) : X.env.locals < s.heap.objs.size := let ⟨_, hn, _⟩ := I.loc; hn.lt
theorem Inv.sz (I : Inv X pins σ H s) : X.s₀.heap.objs.size ≤ s.heap.objs.size := Nat.le_trans I.ok.above (Nat.le_of_lt I.lt)
theorem Inv.nofs (I : Inv X pins σ H s) {a : Addr} (h : s.heap.objs.size ≤ a) : a ∉ X.fs := fun hb => by
  obtain ⟨_, o, ho, _⟩ := I.ok.funs.mem hb
  exact absurd (Nat.lt_of_lt_of_le (Heap.lt_size ho) (Nat.le_trans I.sz h)) (Nat.lt_irrefl _)
theorem Inv.cne (I : Inv X pins σ H s) : ∀ x c, X.env.cells.lookup x = some c → c ≠ X.env.locals := fun x c e z => by
  obtain ⟨v, o, ho, hd⟩ := I.cell x c e
  obtain ⟨m, ⟨o', es, ep, ho', hd', _⟩, _⟩ := I.loc
  rw [z, ho'] at ho; cases ho; rw [hd'] at hd; cases hd
theorem Inv.funs (I : Inv X pins σ H s) : s.heap.FunFrames X.base X.outer := by
  have all : ∀ (l : List Env), (∀ b ∈ frs l, b ∈ X.fs) → X.s₀.heap.FunFrames X.base l → s.heap.FunFrames X.base l := by
    intro l
    induction l with
    | nil => intro _ _; trivial
    | cons env r ih =>
      intro hs hl
      obtain ⟨hk, ⟨L, o, hf, hn, ho, hd⟩, hr⟩ := hl
      have hL : L ∈ X.fs := hs L (by unfold frs; rw [List.filterMap_cons, hf]; exact List.mem_cons_self)
      obtain ⟨sl, e⟩ := I.base.slot L o ho (I.ok.frf L hL) hL fun z => I.ok.exfs L z hL
      exact ⟨hk, ⟨L, _, hf, hn, e, hd⟩, ih (fun b hb => hs b (by unfold frs; rw [List.filterMap_cons, hf]; exact List.mem_cons_of_mem _ hb)) hr⟩
  exact all X.outer (fun _ hb => hb) I.ok.funs

/-- the frames that run, for a call -/
theorem Inv.stack (I : Inv X pins σ H s) : s.heap.FunFrames X.base X.stack := by
  rcases I.ok.stk with e | ⟨e, hf⟩
  · rw [e]; exact I.funs
  · rw [e]
    obtain ⟨m, hn, _⟩ := I.loc
    refine .cons (by rw [I.ok.kind]; decide) hf hn ?_ I.funs
    exact Heap.get?_none_of_le (Nat.le_trans I.ok.bsz I.ok.above)
theorem Inv.stkSub (I : Inv X pins σ H s) : ∀ b ∈ frs X.stack, b ∈ X.env.locals :: X.fs := fun b hb => by
  rcases I.ok.stk with e | ⟨e, hf⟩
  · rw [e] at hb; exact List.mem_cons_of_mem _ hb
  · rw [e] at hb
    unfold frs at hb
    rw [List.filterMap_cons, hf] at hb
    exact hb
theorem Inv.stkFree (I : Inv X pins σ H s) : ∀ b ∈ frs X.stack, H b = none := fun b hb => by
  rcases List.mem_cons.mp (I.stkSub b hb) with e | hb
  · rw [e]; exact I.free
  · obtain ⟨_, o, ho, _⟩ := I.ok.funs.mem hb
    exact I.base.free b o ho (I.ok.frf b hb) fun z => I.ok.exfs b z hb

/-- THE STEP: the untracked objects but the frame and the records at ch are kept (the callers' frames up to slots), the frame's map is kept, the new abstract heap is held -/
theorem Inv.step {g' : Array GenState} {t' : Nat} {d' : Drawn} {ch : List Addr} (I : Inv X pins σ H s)
    (hch : ∀ b ∈ ch, (b ∈ X.ex ∨ X.s₀.heap.objs.size ≤ b) ∧ b ≠ X.env.locals ∧ (∀ x c, X.env.cells.lookup x = some c → c ≠ b) ∧ ∀ p ∈ X.pn ++ pins, p.1 ≠ b)
    (keep : ∀ b o, b ≠ X.env.locals → b ∉ X.fs → b ∉ ch → s.heap.get? b = some o → H b = none → h'.get? b = some o)
    (slot : ∀ b o, b ≠ X.env.locals → b ∈ X.fs → b ∉ ch → s.heap.get? b = some o → H b = none → ∃ sl, h'.get? b = some { o with slots := sl }) (free : ∀ b o, b ∉ ch → s.heap.get? b = some o → H b = none → H' b = none)
    (there : ∀ b o, b ∉ ch → s.heap.get? b = some o → ∃ o', h'.get? b = some o')
    (tups : ∀ b xs, H b = some (.tup xs) → H' b = some (.tup xs)) (frzs : ∀ b o u, H b = some (.frz o u) → H' b = some (.frz o u)) (tbls : ∀ b ps, H b = some (.tbl ps) → ∃ more, H' b = some (.tbl (ps ++ more)))
    (ns : ∀ m, s.heap.Ns X.env.locals m → h'.Ns X.env.locals m) (hok : HOk X.prog X.w H' h') (hg : AllBare g') :
    Inv X pins σ H' { s with heap := h', gens := g', drawn := d', toks := t' } := by
  have neL : ∀ b o, X.s₀.heap.get? b = some o → b ≠ X.env.locals := fun b o e => Nat.ne_of_lt (Nat.lt_of_lt_of_le (Heap.lt_size e) I.ok.above)
  have neC : ∀ b o, X.s₀.heap.get? b = some o → b ∉ X.ex → b ∉ ch := fun b o e hx hb => by
    rcases (hch b hb).1 with z | z
    · exact hx z
    · exact absurd (Nat.lt_of_lt_of_le (Heap.lt_size e) z) (Nat.lt_irrefl _)
  have cellK : ∀ x c, X.env.cells.lookup x = some c → ∀ v, s.heap.IsCell c v → h'.IsCell c v := fun x c e v ⟨o, ho, hd⟩ => by
    have nch : c ∉ ch := fun z => (hch c z).2.2.1 x c e rfl
    by_cases hc : c ∈ X.fs
    · obtain ⟨sl, q⟩ := slot c o (I.cne x c e) hc nch ho (I.freeC x c e)
      exact ⟨_, q, hd⟩
    · exact ⟨o, keep c o (I.cne x c e) hc nch ho (I.freeC x c e), hd⟩
  refine ⟨I.ok, I.os, hg, ⟨fun b o e n hb hx => ?_, fun b o e n hb hx => ?_, fun b o e n hx => ?_, fun b o e hx => ?_, fun b xs e => tups b xs (I.base.tups b xs e), fun b o xs e => frzs b o xs (I.base.frzs b o xs e), fun b ps e => ?_⟩, ?_, fun x c e => ?_, ?_, fun x c e => ?_, fun p hp => ?_, hok, I.len⟩
  · exact keep b o (neL b o e) hb (neC b o e hx) (I.base.keep b o e n hb hx) (I.base.free b o e n hx)
  · obtain ⟨sl, e1⟩ := I.base.slot b o e n hb hx
    obtain ⟨sl', e2⟩ := slot b _ (neL b o e) hb (neC b o e hx) e1 (I.base.free b o e n hx)
    exact ⟨sl', e2⟩
  · obtain ⟨o', e1⟩ := I.base.there b o e hx
    exact free b o' (neC b o e hx) e1 (I.base.free b o e n hx)
  · obtain ⟨o', e1⟩ := I.base.there b o e hx
    exact there b o' (neC b o e hx) e1
  · obtain ⟨m1, e1⟩ := I.base.tbls b ps e
    obtain ⟨m2, e2⟩ := tbls b _ e1
    exact ⟨m1 ++ m2, by rw [e2, Array.append_assoc]⟩
  · obtain ⟨m, hn, hl⟩ := I.loc
    refine ⟨m, ns m hn, fun i x v e1 e2 e3 => ?_⟩
    obtain ⟨u, r, l⟩ := hl i x v e1 e2 e3
    refine ⟨u, r, ?_⟩
    rcases l with l | ⟨k, c, e, z⟩
    · exact .inl l
    · exact .inr ⟨k, c, e, cellK x c e _ z⟩
  · obtain ⟨v, z⟩ := I.cell x c e
    exact ⟨v, cellK x c e v z⟩
  · obtain ⟨m, ⟨o, _, _, ho, _⟩, _⟩ := I.loc
    exact free _ o (fun z => (hch _ z).2.1 rfl) ho I.free
  · obtain ⟨v, o, ho, hd⟩ := I.cell x c e
    exact free c o (fun z => (hch c z).2.2.1 x c e rfl) ho (I.freeC x c e)
  · obtain ⟨e, n, ne, nf, d⟩ := I.pin p hp
    have nch : p.1 ∉ ch := fun z => (hch p.1 z).2.2.2 p hp rfl
    exact ⟨keep p.1 p.2 ne nf nch e n, free p.1 p.2 nch e n, ne, nf, d⟩
/-- .. where the frame's own object is kept too -/
theorem Inv.un {t' : Nat} (I : Inv X pins σ H s) (u : Un X.fs [] H H' s.heap h') (hok : HOk X.prog X.w H' h') : Inv X pins σ H' { s with heap := h', toks := t' } := by
  obtain ⟨m, ⟨o, es, ep, ho, r⟩, _⟩ := id I.loc
  obtain ⟨sl, hL⟩ := u.any ho I.free (by simp)
  exact I.step (g' := s.gens) (d' := s.drawn) (ch := []) (fun _ z => nomatch z) (fun b o _ hb _ e n => u.keep b o e n hb (by simp)) (fun b o _ hb _ e n => u.slot b o e n hb (by simp)) (fun b o _ e n => u.free b o e n (by simp)) (fun b o _ e => u.there b o e (by simp)) u.tups u.frzs u.tbls (fun m' hm => by
    obtain ⟨o', es', ep', ho', r'⟩ := hm
    rw [ho] at ho'; cases ho'
    exact ⟨_, es', ep', hL, r'⟩) hok I.bare
/-- behind a call (or a comprehension's block): the slots of this frame may have changed too, the records at ch may have turned -/
theorem Inv.call {g' : Array GenState} {t' : Nat} {d' : Drawn} {ch : List Addr} (I : Inv X pins σ H s) (u : Un (frs X.stack) ch H H' s.heap h') (hok : HOk X.prog X.w H' h') (hg : AllBare g')
    (hch : ∀ b ∈ ch, (b ∈ X.ex ∨ X.s₀.heap.objs.size ≤ b) ∧ b ≠ X.env.locals ∧ (∀ x c, X.env.cells.lookup x = some c → c ≠ b) ∧ ∀ p ∈ X.pn ++ pins, p.1 ≠ b) :
    Inv X pins σ H' { s with heap := h', gens := g', drawn := d', toks := t' } := by
  obtain ⟨m, ⟨o, es, ep, ho, r⟩, _⟩ := id I.loc
  obtain ⟨sl, hL⟩ := u.any ho I.free fun z => (hch _ z).2.1 rfl
  exact I.step (ch := ch) hch (fun b o hL hb hc e n => u.keep b o e n (fun z => (List.mem_cons.mp (I.stkSub b z)).elim hL hb) hc) (fun b o _ _ hc e n => u.any e n hc) (fun b o hc e n => u.free b o e n hc) (fun b o hc e => u.there b o e hc) u.tups u.frzs u.tbls (fun m' hm => by
    obtain ⟨o', es', ep', ho', r'⟩ := hm
    rw [ho] at ho'; cases ho'
    exact ⟨_, es', ep', hL, r'⟩) hok hg
/-- an untracked record of ours (an iterator) has turned -/
theorem Inv.turned {t' : Nat} {it : Addr} (I : Inv X pins σ H s) (k : ∀ b o, b ≠ it → s.heap.get? b = some o → h'.get? b = some o) (hn : H it = none) (hL : it ≠ X.env.locals)
    (h1 : it ∈ X.ex ∨ X.s₀.heap.objs.size ≤ it) (h2 : ∀ x c, X.env.cells.lookup x = some c → c ≠ it) (h3 : ∀ p ∈ X.pn ++ pins, p.1 ≠ it) : Inv X pins σ H { s with heap := h', toks := t' } := by
  have nit : ∀ b u, H b = some u → b ≠ it := fun b u e z => by rw [z, hn] at e; cases e
  refine I.step (g' := s.gens) (d' := s.drawn) (ch := [it]) (fun b hb => ?_) (fun b o _ _ hc e _ => k b o (fun z => hc (by simp [z])) e) (fun b o _ _ hc e _ => ⟨o.slots, k b o (fun z => hc (by simp [z])) e⟩) (fun _ _ _ _ n => n)
    (fun b o hc e => ⟨o, k b o (fun z => hc (by simp [z])) e⟩) (fun _ _ e => e) (fun _ _ _ e => e) (fun b ps e => ⟨#[], by rw [e]; simp⟩) (fun m hm => ?_) (fun b u e => ?_) I.bare
  · have e : b = it := by simpa using hb
    subst e
    exact ⟨h1, hL, h2, h3⟩
  · obtain ⟨o, es, ep, ho, r⟩ := hm
    exact ⟨o, es, ep, k _ o (Ne.symm hL) ho, r⟩
  · refine (I.hok b u e).stay (fun c v hc q => k c v ?_ q) (fun _ q => q) fun _ _ q => q
    rcases hc with z | z
    · rw [z]; exact nit b u e
    · exact nit c _ z
theorem Inv.tok (I : Inv X pins σ H s) (t : Nat) : Inv X pins σ H { s with toks := t } := I.un (h' := s.heap) (t' := t) Un.refl I.hok
/-- all objects kept -/
theorem Inv.kept {t' : Nat} (I : Inv X pins σ H s) (k : ∀ b u, s.heap.get? b = some u → h'.get? b = some u) : Inv X pins σ H { s with heap := h', toks := t' } := I.un (Un.kept k) (I.hok.kept k)
/-- a new object laid and tracked -/
theorem Inv.laid {a : Addr} {o : HO} {t' : Nat} (I : Inv X pins σ H s) (k : ∀ b u, s.heap.get? b = some u → h'.get? b = some u) (hp : s.heap.objs.size ≤ a) (new : ObjOk X.prog X.w (upd H a o) h' a o) :
    Inv X pins σ (upd H a o) { s with heap := h', toks := t' } := I.un (Un.laid k hp (I.hok.fresh hp)) (I.hok.laid k hp new)
/-- an object written -/
theorem Inv.write {x e : Addr} {o : HO} {t' : Nat} (I : Inv X pins σ H s) (mu : Mut (H x)) (he : e = x ∨ H e = some (.own x)) (k : ∀ b u, b ≠ e → s.heap.get? b = some u → h'.get? b = some u) (heo : ∃ u, h'.get? e = some u)
    (new : ObjOk X.prog X.w (upd H x o) h' x o) : Inv X pins σ (upd H x o) { s with heap := h', toks := t' } := I.un (Un.write mu he k heo) (I.hok.write mu he k heo new)
theorem Inv.pins_of {pins' : List (Addr × Obj)} (I : Inv X pins σ H s) (h : ∀ p ∈ pins', s.heap.get? p.1 = some p.2 ∧ H p.1 = none ∧ p.1 ≠ X.env.locals ∧ p.1 ∉ X.fs ∧ ∀ v, p.2.data ≠ .cell v) : Inv X pins' σ H s :=
  ⟨I.ok, I.os, I.bare, I.base, I.loc, I.cell, I.free, I.freeC, fun p hp => (List.mem_append.mp hp).elim (fun z => I.pin p (List.mem_append_left _ z)) (h p), I.hok, I.len⟩

theorem nodup_ix {N : List Str} (hN : N.Nodup) {i j : Nat} {x : Str} (a : N[i]? = some x) (b : N[j]? = some x) : i = j := by
  obtain ⟨h1, e1⟩ := List.getElem?_eq_some_iff.mp a
  obtain ⟨h2, e2⟩ := List.getElem?_eq_some_iff.mp b
  exact (List.getElem_inj hN).mp (e1.trans e2.symm)

/-- a name is stored; what changed -/
theorem store_ok2 {M : Model} {A : Around} {E : Value → Shared → Prop} {i : Nat} {x : Str} {v : V} {u : Value} {Q : Unit → Shared → Prop} (I : Inv X pins σ H s) (hN : X.N.Nodup) (hi : X.N[i]? = some x) (hx : Loc X.env.scope x) (r : RelV v u)
    (h : ∀ s', Inv X pins (σ.set i (some v)) H s' → (∃ a, Heap.SameBut a s.heap s'.heap ∧ (a = X.env.locals ∨ X.env.cells.lookup x = some a)) → Q () s') (hf : X.fn x = true ∨ X.env.scope.names.lookup x = some .local := by first | exact .inl rfl | exact .inr rfl | assumption) : wpAny M A (storeName X.env x u) Q E s := by
  obtain ⟨m, hn, hl⟩ := id I.loc
  have hcls : (X.env.scope.kind == .class || (X.env.scope.kind == .module && X.env.locals != X.env.globals)) = false := by rw [I.ok.kind]; rfl
  have hiσ : i < σ.length := by rw [I.len]; exact (List.getElem?_eq_some_iff.mp hi).1
  have cne := I.cne
  have tracked : ∀ {a : Addr} {h' : Heap}, (∃ o, s.heap.get? a = some o ∧ H a = none) → Heap.SameBut a s.heap h' → HOk X.prog X.w H h' := fun {a h'} ha hs b ob e => by
    obtain ⟨_, _, hfree⟩ := ha
    refine (I.hok b ob e).stay (fun c w' hc q => (hs.2 c ?_).trans q) (fun _ q => q) fun _ _ q => q
    rintro rfl
    rcases hc with rfl | hc
    · rw [hfree] at e; cases e
    · rw [hfree] at hc; cases hc
  rcases hx with hk | hk
  · refine wpAny_storeName_local hk hn (fun h' hn' hs => ?_) hcls
    obtain ⟨oL, _, _, hoL, _⟩ := id hn
    refine h _ ⟨I.ok, I.os, I.bare, ⟨fun b o e n hb hx => ?_, fun b o e n hb hx => ?_, I.base.free, fun b o e hx => ?_, I.base.tups, I.base.frzs, I.base.tbls⟩, ⟨_, hn', fun j y v' e1 e2 e3 => ?_⟩, fun y c e => ?_, I.free, I.freeC, fun p hp => ?_, tracked ⟨oL, hoL, I.free⟩ hs, by simpa using I.len⟩ ⟨_, hs, .inl rfl⟩
    · exact (hs.2 b (Nat.ne_of_lt (Nat.lt_of_lt_of_le (Heap.lt_size e) I.ok.above))).trans (I.base.keep b o e n hb hx)
    · obtain ⟨sl, e1⟩ := I.base.slot b o e n hb hx
      exact ⟨sl, (hs.2 b (Nat.ne_of_lt (Nat.lt_of_lt_of_le (Heap.lt_size e) I.ok.above))).trans e1⟩
    · obtain ⟨o', e1⟩ := I.base.there b o e hx
      exact ⟨o', (hs.2 b (Nat.ne_of_lt (Nat.lt_of_lt_of_le (Heap.lt_size e) I.ok.above))).trans e1⟩
    · by_cases hj : j = i
      · subst hj
        rw [hi] at e1; cases e1
        rw [List.getElem?_set_self hiσ] at e2
        cases e2
        exact ⟨u, r, .inl ⟨hk, by simp⟩⟩
      · rw [List.getElem?_set_ne (Ne.symm hj)] at e2
        obtain ⟨u', r', q⟩ := hl j y v' e1 e2 e3
        refine ⟨u', r', ?_⟩
        rcases q with ⟨k, e⟩ | ⟨k, c, e, z⟩
        · refine .inl ⟨k, ?_⟩
          have : y ≠ x := fun e => hj (nodup_ix hN e1 (e ▸ hi))
          simp [this, e]
        · exact .inr ⟨k, c, e, z.sameBut hs (cne y c e)⟩
    · obtain ⟨w', z⟩ := I.cell y c e
      exact ⟨w', z.sameBut hs (cne y c e)⟩
    · obtain ⟨e, n, ne, nf, d⟩ := I.pin p hp
      exact ⟨(hs.2 p.1 ne).trans e, n, ne, nf, d⟩
  · have hfn : X.fn x = true := by
      rcases hf with z | z
      · exact z
      · rw [z] at hk; cases hk
    obtain ⟨c, hc⟩ := I.ok.has x (.inl hk)
    obtain ⟨w', z⟩ := I.cell x c hc
    refine wpAny_storeName_cell I.ok.kind hk hc z (fun h' hc' hs => ?_)
    obtain ⟨oc, hoc, hocd⟩ := id z
    refine h { s with heap := h' } ⟨I.ok, I.os, I.bare, ⟨fun b o e n hb hx => ?_, fun b o e n hb hx => ?_, I.base.free, fun b o e hx => ?_, I.base.tups, I.base.frzs, I.base.tbls⟩, ⟨m, hn.sameBut hs (Ne.symm (cne x c hc)), fun j y v' e1 e2 e3 => ?_⟩, fun y c' e => ?_, I.free, I.freeC, fun p hp => ?_, tracked ⟨oc, hoc, I.freeC x c hc⟩ hs, by simpa using I.len⟩ ⟨c, hs, .inr hc⟩
    · exact (hs.2 b (Nat.ne_of_lt (Nat.lt_of_lt_of_le (Heap.lt_size e) (I.ok.cab x c hfn hc)))).trans (I.base.keep b o e n hb hx)
    · obtain ⟨sl, e1⟩ := I.base.slot b o e n hb hx
      exact ⟨sl, (hs.2 b (Nat.ne_of_lt (Nat.lt_of_lt_of_le (Heap.lt_size e) (I.ok.cab x c hfn hc)))).trans e1⟩
    · obtain ⟨o', e1⟩ := I.base.there b o e hx
      exact ⟨o', (hs.2 b (Nat.ne_of_lt (Nat.lt_of_lt_of_le (Heap.lt_size e) (I.ok.cab x c hfn hc)))).trans e1⟩
    · by_cases hj : j = i
      · subst hj
        rw [hi] at e1; cases e1
        rw [List.getElem?_set_self hiσ] at e2
        cases e2
        exact ⟨u, r, .inr ⟨.inl hk, c, hc, hc'⟩⟩
      · rw [List.getElem?_set_ne (Ne.symm hj)] at e2
        obtain ⟨u', r', q⟩ := hl j y v' e1 e2 e3
        refine ⟨u', r', ?_⟩
        rcases q with q | ⟨k, c', e, z'⟩
        · exact .inl q
        · refine .inr ⟨k, c', e, z'.sameBut hs ?_⟩
          rintro rfl
          exact hj (nodup_ix hN e1 (I.ok.inj _ _ _ e hc ▸ hi))
    · by_cases hcc : c' = c
      · subst hcc; exact ⟨_, hc'⟩
      · obtain ⟨w2, z2⟩ := I.cell y c' e
        exact ⟨w2, z2.sameBut hs hcc⟩
    · obtain ⟨e, n, ne, nf, d⟩ := I.pin p hp
      refine ⟨(hs.2 p.1 ?_).trans e, n, ne, nf, d⟩
      intro q
      rw [q, hoc] at e
      have q' : oc = p.2 := Option.some.inj e
      exact d w' (by rw [← q']; exact hocd)
theorem store_ok {M : Model} {A : Around} {E : Value → Shared → Prop} {i : Nat} {x : Str} {v : V} {u : Value} {Q : Unit → Shared → Prop} (I : Inv X pins σ H s) (hN : X.N.Nodup) (hi : X.N[i]? = some x) (hx : Loc X.env.scope x) (r : RelV v u)
    (h : ∀ s', Inv X pins (σ.set i (some v)) H s' → Q () s') (hf : X.fn x = true ∨ X.env.scope.names.lookup x = some .local := by first | exact .inl rfl | exact .inr rfl | assumption) : wpAny M A (storeName X.env x u) Q E s :=
  store_ok2 I hN hi hx r (fun s' I' _ => h s' I') hf
/-- behind a call or a block, the state as it is -/
theorem Inv.call' {s' : Shared} {ch : List Addr} (I : Inv X pins σ H s) (ho : s'.os = s.os) (u : Un (frs X.stack) ch H H' s.heap s'.heap) (hok : HOk X.prog X.w H' s'.heap) (hg : AllBare s'.gens)
    (hch : ∀ b ∈ ch, (b ∈ X.ex ∨ X.s₀.heap.objs.size ≤ b) ∧ b ≠ X.env.locals ∧ (∀ x c, X.env.cells.lookup x = some c → c ≠ b) ∧ ∀ p ∈ X.pn ++ pins, p.1 ≠ b) : Inv X pins σ H' s' := by
  obtain ⟨h', g', d', t', o'⟩ := s'
  have e : o' = s.os := ho
  subst e
  exact I.call (g' := g') (t' := t') (d' := d') u hok hg hch
end

/-! ### the judgements -/
/-- an exception: its class, its own dict's address (where it has one), the abstract heap behind it -/
noncomputable abbrev XK := Value → Option Addr → Hp → Prop
noncomputable abbrev St := List (Option V)
noncomputable abbrev VK := V → Hp → Prop
/-- an expression's reading; a test's; an argument list's -/
noncomputable abbrev TE := St → Hp → VK → Prop
noncomputable abbrev TT := St → Hp → (Bool → Hp → Prop) → Prop
noncomputable abbrev TA := St → Hp → (List V → Hp → Prop) → Prop
/-- what is wanted behind a statement -/
structure Ends where
  nx : St → Hp → Prop
  rt : VK
  bk : St → Hp → Prop := fun _ _ => False
  ct : St → Hp → Prop := fun _ _ => False
noncomputable abbrev TS := Ends → St → Hp → Prop

noncomputable def EP (X : Cx) (pins : List (Addr × Obj)) (σ : St) (Q : VK) (u : Value) (s' : Shared) : Prop := ∃ v H', Inv X pins σ H' s' ∧ RelV v u ∧ Q v H'
noncomputable def TP (X : Cx) (pins : List (Addr × Obj)) (σ : St) (Q : Bool → Hp → Prop) (b : Bool) (s' : Shared) : Prop := ∃ H', Inv X pins σ H' s' ∧ Q b H'
noncomputable def AP (X : Cx) (pins : List (Addr × Obj)) (σ : St) (Q : List V → Hp → Prop) (us : List Value) (s' : Shared) : Prop := ∃ vs H', Inv X pins σ H' s' ∧ Vals vs us ∧ Q vs H'
noncomputable def SP (X : Cx) (pins : List (Addr × Obj)) (D : Ends) (f : Flow) (s' : Shared) : Prop :=
  match f with
  | .next => ∃ σ' H', Inv X pins σ' H' s' ∧ D.nx σ' H'
  | .brk => ∃ σ' H', Inv X pins σ' H' s' ∧ D.bk σ' H'
  | .cont => ∃ σ' H', Inv X pins σ' H' s' ∧ D.ct σ' H'
  | .ret u => ∃ v σ' H', Inv X pins σ' H' s' ∧ RelV v u ∧ D.rt v H'

noncomputable def PE (X : Cx) (e : Expr) (t : TE) : Prop :=
  ∀ (pins : List (Addr × Obj)) (s : Shared) (σ : St) (H : Hp) (Q : VK), Inv X pins σ H s → t σ H Q → wpAny (model X.prog X.w) X.A (eval e X.env) (EP X pins σ Q) X.xe s
noncomputable def PT (X : Cx) (e : Expr) (t : TT) : Prop :=
  ∀ (pins : List (Addr × Obj)) (s : Shared) (σ : St) (H : Hp) (Q : Bool → Hp → Prop), Inv X pins σ H s → t σ H Q → wpAny (model X.prog X.w) X.A (isTrue e X.env (eval e X.env)) (TP X pins σ Q) X.xe s
/-- a test whatever its 'whole' is (and, or) -/
noncomputable def PW (X : Cx) (e : Expr) (t : TT) : Prop :=
  ∀ (whole : Sem Value) (pins : List (Addr × Obj)) (s : Shared) (σ : St) (H : Hp) (Q : Bool → Hp → Prop), Inv X pins σ H s → t σ H Q → wpAny (model X.prog X.w) X.A (isTrue e X.env whole) (TP X pins σ Q) X.xe s
theorem PW.pt {X : Cx} {e : Expr} {t : TT} (h : PW X e t) : PT X e t := h _
/-- an argument list (no star), from the left -/
noncomputable def PA (X : Cx) (es : List Expr) (t : TA) : Prop :=
  ∀ (pos : Pos) (pins : List (Addr × Obj)) (s : Shared) (σ : St) (H : Hp) (Q : List V → Hp → Prop), Inv X pins σ H s → t σ H Q → wpAny (model X.prog X.w) X.A (spliced (backTo pos (starEach es X.env))) (AP X pins σ Q) X.xe s
noncomputable def PS (X : Cx) (st : Stmt) (t : TS) : Prop :=
  ∀ (pins : List (Addr × Obj)) (s : Shared) (σ : St) (H : Hp) (D : Ends), Inv X pins σ H s → t D σ H → wpAny (model X.prog X.w) X.A (exec st X.env) (SP X pins D) X.xe s
noncomputable def PSs (X : Cx) (st : List Stmt) (t : TS) : Prop :=
  ∀ (pins : List (Addr × Obj)) (s : Shared) (σ : St) (H : Hp) (D : Ends), Inv X pins σ H s → t D σ H → wpAny (model X.prog X.w) X.A (execs st X.env) (SP X pins D) X.xe s
/-- weaken the end -/
theorem thn {α : Type} {t : Sem α} {Q Q' : α → Shared → Prop} {M : Model} {A : Around} {E : Value → Shared → Prop} {s : Shared} (h : wpAny M A t Q E s) (hQ : ∀ a s, Q a s → Q' a s) : wpAny M A t Q' E s := wpAny_mono h hQ fun _ _ x => x
end L2

namespace L2
open PySem PySem.Spec PyProof.Rows
section
variable {X : Cx}

/-! ### names and constants -/
noncomputable def tVar (i : Nat) : TE := fun σ H Q => ∃ v, σ[i]? = some (some v) ∧ Q v H
noncomputable def tC (v : V) : TE := fun _ H Q => Q v H
theorem pe_var {i : Nat} {x : Str} {pos : Pos} (hN : X.N[i]? = some x) (hv : Vis X.env.scope x) (hd : (x == ("__debug__" : Str)) = false := by decide) (hcd : (x == ("__classdict__" : Str)) = false := by decide) : PE X (.Name x pos) (tVar i) := by
  intro pins s σ H Q I h
  obtain ⟨v, e, h⟩ := h
  obtain ⟨m, hn, hl⟩ := I.loc
  obtain ⟨u, r, l⟩ := hl i x v hN e hv
  have fin : EP X pins σ Q u s := ⟨v, H, I, r, h⟩
  rcases l with ⟨hk, hm⟩ | ⟨hk, c, hc, hcell⟩
  · exact wpAny_Name (wpAny_loadName_local I.ok.kind hk hn hm fin) hd
  · rcases hk with hk | hk
    · exact wpAny_Name (wpAny_loadName_cell I.ok.kind hk hc hcell fin) hd
    · exact wpAny_Name (wpAny_loadName_free I.ok.kind hk hc hcell fin hcd) hd
theorem pe_int {i j pos} : PE X (.Constant (.int i) j pos) (tC (.int i)) := fun _ _ _ H _ I h => wpAny_Constant_int ⟨.int i, H, I.tok _, ⟨_, rfl⟩, h⟩
theorem pe_bl {b j pos} : PE X (.Constant (.bool b) j pos) (tC (.bl b)) := fun _ _ _ H _ I h => Constant_bool ⟨.bl b, H, I, rfl, h⟩
theorem pe_non {j pos} : PE X (.Constant .none j pos) (tC .non) := fun _ _ _ H _ I h => Constant_none ⟨.non, H, I, rfl, h⟩
theorem pe_str {x j pos} : PE X (.Constant (.str x) j pos) (tC (.str x)) := fun _ _ _ H _ I h => Calls.Constant_str ⟨.str x, H, I.tok _, ⟨_, rfl⟩, h⟩

/-- a global name of the def -/
noncomputable def Gl (X : Cx) (x : Str) : Prop := X.env.kindOf x = some .globalImplicit
theorem ld_glob {E : Value → Shared → Prop} {pins : List (Addr × Obj)} {s : Shared} {σ : St} {H : Hp} {x : Str} {u : Value} {pos : Pos} {Q : Value → Shared → Prop} (I : Inv X pins σ H s) (hg : Gl X x) (hm : X.mg x = some u) (h : Q u s)
    (hd : (x == ("__debug__" : Str)) = false := by decide) : wpAny (model X.prog X.w) X.A (eval (.Name x pos) X.env) Q E s :=
  Calls.Name_function_global I.ok.kind hg (Calls.loadGlobal_global (by rw [I.ok.glob]; exact I.mod.glob.keeps I.bk) hm h) hd
theorem ld_blt {E : Value → Shared → Prop} {pins : List (Addr × Obj)} {s : Shared} {σ : St} {H : Hp} {x : Str} {u : Value} {pos : Pos} {Q : Value → Shared → Prop} (I : Inv X pins σ H s) (hg : Gl X x) (hm : X.mg x = none) (hv : bootBuiltins x = some u) (h : Q u s)
    (hn : x ≠ "__name__" := by decide) (hd : (x == ("__debug__" : Str)) = false := by decide) : wpAny (model X.prog X.w) X.A (eval (.Name x pos) X.env) Q E s := by
  obtain ⟨mb, h1, h2⟩ := I.mod.blt
  exact Calls.Name_function_global I.ok.kind hg (Calls.loadGlobal_builtin (by rw [I.ok.glob]; exact I.mod.glob.keeps I.bk) hm (by rw [I.ok.blt]; exact h1.keeps I.bk) ((h2 x hn).trans hv) h) hd
/-- a module's constant, a class, a function, as a value -/
theorem pe_glob {x : Str} {v : V} {u : Value} {pos : Pos} (hg : Gl X x) (hm : X.mg x = some u) (r : RelV v u) (hd : (x == ("__debug__" : Str)) = false := by decide) : PE X (.Name x pos) (tC v) :=
  fun _ _ _ H _ I h => ld_glob I hg hm ⟨v, H, I, r, h⟩ hd
theorem pe_bltn {x : Str} {v : V} {u : Value} {pos : Pos} (hg : Gl X x) (hm : X.mg x = none) (hv : bootBuiltins x = some u) (r : RelV v u) (hn : x ≠ "__name__" := by decide) (hd : (x == ("__debug__" : Str)) = false := by decide) : PE X (.Name x pos) (tC v) :=
  fun _ _ _ H _ I h => ld_blt I hg hm hv ⟨v, H, I, r, h⟩ hn hd

/-! ### arithmetic -/
/-- two ints -/
noncomputable def t2I (ta tb : TE) (k : Int → Int → Hp → Prop) : St → Hp → Prop := fun σ H => ta σ H fun x H1 => tb σ H1 fun y H2 => ∃ i j, x = .int i ∧ y = .int j ∧ k i j H2
variable {a b : Expr} {ta tb : TE} {pos : Pos}
noncomputable def tCmp (p : Int → Int → Bool) (ta tb : TE) : TE := fun σ H Q => t2I ta tb (fun i j H2 => Q (.bl (p i j)) H2) σ H
noncomputable abbrev tLt : TE → TE → TE := tCmp fun i j => decide (i < j)
noncomputable abbrev tLe : TE → TE → TE := tCmp fun i j => decide (i ≤ j)
noncomputable abbrev tGt : TE → TE → TE := tCmp fun i j => decide (j < i)
noncomputable abbrev tGe : TE → TE → TE := tCmp fun i j => decide (j ≤ i)
noncomputable abbrev tEqI : TE → TE → TE := tCmp fun i j => decide (i = j)
noncomputable abbrev tNeI : TE → TE → TE := tCmp fun i j => !decide (i = j)
/-- a comparison as a value, as a test -/
noncomputable def tB (t : TE) : TT := fun σ H Q => t σ H fun x H1 => ∃ c, x = .bl c ∧ Q c H1
/-- an expression whose value is a bool, as a test -/
theorem pt_val {e : Expr} {t : TE} (h : PE X e t) (he : ∀ whole, isTrue e X.env whole = (do let v ← whole; standAt e.pos; holding [v] (truthy v)) := by intro _; rfl) : PT X e (tB t) := by
  intro pins s σ H Q I hw
  refine isTrue_plain (thn (h pins s σ H _ I hw) fun v s1 ⟨x, H1, I1, r1, q1⟩ => ?_) (he _)
  obtain ⟨d, rfl, q⟩ := q1
  cases r1
  exact wpAny_truthy_bool ⟨H1, I1, q⟩

/-! ### and, or, not -/
variable {tA tB' : TT} {rest : List Expr}
noncomputable def tAnd (t u : TT) : TT := fun σ H Q => t σ H fun c H1 => if c = true then u σ H1 Q else Q false H1
noncomputable def tOr (t u : TT) : TT := fun σ H Q => t σ H fun c H1 => if c = true then Q true H1 else u σ H1 Q
noncomputable def tNot (t : TT) : TT := fun σ H Q => t σ H fun c H1 => Q (!c) H1
theorem pw_and1 (ha : PT X a tA) : PW X (.BoolOp .And [a] pos) tA := by
  intro wh pins s σ H Q I h
  refine isTrue_and (thn (ha pins s σ H Q I h) fun c s1 e => ?_)
  cases c with
  | true => exact isTrue_and_nil e
  | false => exact e
theorem pw_or1 (ha : PT X a tA) : PW X (.BoolOp .Or [a] pos) tA := by
  intro wh pins s σ H Q I h
  refine isTrue_or (thn (ha pins s σ H Q I h) fun c s1 e => ?_)
  cases c with
  | false => exact isTrue_or_nil e
  | true => exact e
theorem pw_and (ha : PT X a tA) (hb : PW X (.BoolOp .And (b :: rest) pos) tB') : PW X (.BoolOp .And (a :: b :: rest) pos) (tAnd tA tB') := by
  intro wh pins s σ H Q I h
  refine isTrue_and (thn (ha pins s σ H _ I h) fun c s1 ⟨H1, I1, q1⟩ => ?_)
  cases c with
  | true => exact hb wh pins s1 σ H1 Q I1 q1
  | false => exact ⟨H1, I1, q1⟩
theorem pw_or (ha : PT X a tA) (hb : PW X (.BoolOp .Or (b :: rest) pos) tB') : PW X (.BoolOp .Or (a :: b :: rest) pos) (tOr tA tB') := by
  intro wh pins s σ H Q I h
  refine isTrue_or (thn (ha pins s σ H _ I h) fun c s1 ⟨H1, I1, q1⟩ => ?_)
  cases c with
  | true => exact ⟨H1, I1, q1⟩
  | false => exact hb wh pins s1 σ H1 Q I1 q1
theorem pt_not (ha : PT X a tA) : PT X (.UnaryOp .Not a pos) (tNot tA) := by
  intro pins s σ H Q I h
  exact isTrue_not (ha pins s σ H (fun c H1 => Q (!c) H1) I h)
/-- .. as values (bools) -/
noncomputable def tAndV (ta tb : TE) : TE := fun σ H Q => ta σ H fun x H1 => ∃ c, x = .bl c ∧ if c = true then tb σ H1 Q else Q (.bl false) H1
theorem pe_one {op} {t : TE} (h : PE X a t) : PE X (.BoolOp op [a] pos) t := fun pins s σ H Q I hw => BoolOp_one (h pins s σ H Q I hw)
theorem pe_and (ha : PE X a ta) (hb : PE X (.BoolOp .And (b :: rest) pos) tb) : PE X (.BoolOp .And (a :: b :: rest) pos) (tAndV ta tb) := by
  intro pins s σ H Q I h
  refine BoolOp_and (thn (ha pins s σ H _ I h) fun v s1 ⟨x, H1, I1, r1, q1⟩ => ?_)
  obtain ⟨c, rfl, q1⟩ := q1
  cases r1
  refine wpAny_truthy_bool ?_
  cases c with
  | true => exact hb pins s1 σ H1 Q I1 q1
  | false => exact ⟨.bl false, H1, I1, rfl, q1⟩
/-- a if t else b -/
noncomputable def tIf (t : TT) (ta tb : TE) : TE := fun σ H Q => t σ H fun c H1 => if c = true then ta σ H1 Q else tb σ H1 Q
theorem pe_ifExp {c : Expr} (hc : PT X c tA) (ha : PE X a ta) (hb : PE X b tb) : PE X (.IfExp c a b pos) (tIf tA ta tb) := by
  intro pins s σ H Q I h
  refine wpAny_IfExp (thn (hc pins s σ H _ I h) fun d s1 ⟨H1, I1, q1⟩ => ?_)
  cases d with
  | true => exact ha pins s1 σ H1 Q I1 q1
  | false => exact hb pins s1 σ H1 Q I1 q1
end
end L2

namespace L2
open PySem PySem.Spec PyProof.Rows

/-! ### a list, a tuple that is read: tracked, frozen, or an object of the module -/
noncomputable def SqL (K : PySem.W.Frag) (H : Hp) (a : Addr) (xs : List V) : Prop :=
  Rd H a (.lst xs) ∨
    ∃ (o : Obj) (its : Array Value) (n : Nat), K.lookup a = some o ∧ o.cls = .type "list" ∧ o.dict = none ∧ o.data = .seq its n ∧ its.size ≤ sizeLine ∧ Vals xs its.toList
noncomputable def SqT (K : PySem.W.Frag) (H : Hp) (a : Addr) (xs : List V) : Prop :=
  Rd H a (.tup xs) ∨
    ∃ (o : Obj) (its : Array Value) (n : Nat), K.lookup a = some o ∧ o.cls = .type "tuple" ∧ o.data = .seq its n ∧ its.size ≤ sizeLine ∧ Vals xs its.toList
noncomputable def absV : Value → Option V
  | .none => some .non
  | .bool b => some (.bl b)
  | .int i _ => some (.int i)
  | .str x _ => some (.str x)
  | .bytes b _ => some (.byt b)
  | .float b _ => some (.flt b)
  | .ref a => some (.ref a)
  | .type n => some (.ty n)
  | _ => none
theorem RelV.abs {x : V} {u : Value} (r : RelV x u) : absV u = some x := by
  cases x with
  | non => cases r; rfl
  | bl _ => cases r; rfl
  | int _ => obtain ⟨t, rfl⟩ := r; rfl
  | str _ => obtain ⟨t, rfl⟩ := r; rfl
  | byt _ => obtain ⟨t, rfl⟩ := r; rfl
  | flt _ => obtain ⟨t, rfl⟩ := r; rfl
  | ref _ => cases r; rfl
  | ty _ => cases r; rfl
theorem RelV.inj {x y : V} {u : Value} (r : RelV x u) (q : RelV y u) : x = y := Option.some.inj (r.abs.symm.trans q.abs)
theorem Vals.inj : ∀ {xs ys : List V} {us : List Value}, Vals xs us → Vals ys us → xs = ys
  | _, _, _, .nil, .nil => rfl
  | _, _, _, .cons r t, .cons r' t' => by rw [r.inj r', Vals.inj t t']
section
variable {X : Cx} {pins : List (Addr × Obj)} {σ : St} {H : Hp} {s : Shared} {a : Addr} {xs ys : List V}
theorem SqL.of {K : PySem.W.Frag} (h : H a = some (.lst xs)) : SqL K H a xs := .inl (.inl h)
theorem SqT.of {K : PySem.W.Frag} (h : H a = some (.tup xs)) : SqT K H a xs := .inl (.inl h)
theorem Inv.list (I : Inv X pins σ H s) (h : SqL X.K H a xs) : ∃ its : List Value, Vals xs its ∧ PlainL s.heap a its.toArray ∧ xs.length ≤ sizeLine := by
  rcases h with h | ⟨o, its, n, hk, hc, hd, hs, hz, r⟩
  · obtain ⟨z, its, n, r, e⟩ := h.ok I.hok
    exact ⟨its, r, ⟨_, n, e, rfl, rfl, rfl⟩, z⟩
  · refine ⟨its.toList, r, ⟨o, n, I.kIn a o hk, hc, hd, by simpa using hs⟩, ?_⟩
    have e := r.length
    simp only [Array.length_toList] at e
    omega
theorem Inv.tuple (I : Inv X pins σ H s) (h : SqT X.K H a xs) : ∃ its : List Value, Vals xs its ∧ IsTup s.heap a its.toArray ∧ xs.length ≤ sizeLine := by
  rcases h with h | ⟨o, its, n, hk, hc, hs, hz, r⟩
  · obtain ⟨z, its, r, p⟩ := h.ok I.hok
    exact ⟨its, r, p.tup, z⟩
  · refine ⟨its.toList, r, ⟨o, I.kIn a o hk, hc, n, by simpa using hs⟩, ?_⟩
    have e := r.length
    simp only [Array.length_toList] at e
    omega
theorem Inv.list_inj (I : Inv X pins σ H s) (h : SqL X.K H a xs) (h' : SqL X.K H a ys) : xs = ys := by
  obtain ⟨its, r, ⟨o, n, e, _, _, d⟩, _⟩ := I.list h
  obtain ⟨its', r', ⟨o', n', e', _, _, d'⟩, _⟩ := I.list h'
  rw [e] at e'; cases e'
  rw [d] at d'
  injection d' with d1 _
  have : its = its' := by simpa using congrArg Array.toList d1
  subst this
  exact r.inj r'
theorem Inv.tuple_inj (I : Inv X pins σ H s) (h : SqT X.K H a xs) (h' : SqT X.K H a ys) : xs = ys := by
  obtain ⟨its, r, ⟨o, e, _, n, d⟩, _⟩ := I.tuple h
  obtain ⟨its', r', ⟨o', e', _, n', d'⟩, _⟩ := I.tuple h'
  rw [e] at e'; cases e'
  rw [d] at d'
  injection d' with d1 _
  have : its = its' := by simpa using congrArg Array.toList d1
  subst this
  exact r.inj r'
end

/-! ### another wish about exceptions -/
noncomputable abbrev Cx.wish (X : Cx) (E : Value → Shared → Prop) : Cx := { X with xe := E }
/-- no exception leaves -/
noncomputable abbrev Cx.nox (X : Cx) : Cx := X.wish fun _ _ => False
theorem Cx.Ok.wish {X : Cx} (ok : X.Ok) (E : Value → Shared → Prop) : (X.wish E).Ok :=
  ⟨ok.mod, ok.kind, ok.glob, ok.blt, ok.above, ok.inj, ok.has, ok.cab, ok.hd, ok.frames, ok.stk, ok.exf, ok.bs, ok.bsz, ok.noex, ok.exfs, ok.funs, ok.frf⟩
theorem Cx.Ok.unwish {X : Cx} {E : Value → Shared → Prop} (ok : (X.wish E).Ok) : X.Ok :=
  ⟨ok.mod, ok.kind, ok.glob, ok.blt, ok.above, ok.inj, ok.has, ok.cab, ok.hd, ok.frames, ok.stk, ok.exf, ok.bs, ok.bsz, ok.noex, ok.exfs, ok.funs, ok.frf⟩
section
variable {X : Cx} {pins : List (Addr × Obj)} {σ : St} {H : Hp} {s : Shared} {E : Value → Shared → Prop}
theorem Inv.wish (I : Inv X pins σ H s) (E : Value → Shared → Prop) : Inv (X.wish E) pins σ H s := ⟨I.ok.wish E, I.os, I.bare, I.base, I.loc, I.cell, I.free, I.freeC, I.pin, I.hok, I.len⟩
theorem Inv.unwish (I : Inv (X.wish E) pins σ H s) : Inv X pins σ H s := ⟨I.ok.unwish, I.os, I.bare, I.base, I.loc, I.cell, I.free, I.freeC, I.pin, I.hok, I.len⟩
theorem SP.unwish {D : Ends} {f : Flow} {s' : Shared} (h : SP (X.wish E) pins D f s') : SP X pins D f s' := by
  cases f with
  | next => obtain ⟨σ', H', I, q⟩ := h; exact ⟨σ', H', I.unwish, q⟩
  | brk => obtain ⟨σ', H', I, q⟩ := h; exact ⟨σ', H', I.unwish, q⟩
  | cont => obtain ⟨σ', H', I, q⟩ := h; exact ⟨σ', H', I.unwish, q⟩
  | ret u => obtain ⟨v, σ', H', I, r, q⟩ := h; exact ⟨v, σ', H', I.unwish, r, q⟩
theorem PE.nox {e : Expr} {t : TE} (h : PE X.nox e t) : PE X e t := fun pins s σ H Q I hw =>
  wpAny_mono (h pins s σ H Q (I.wish _) hw) (fun _ _ ⟨v, H', I', r, q⟩ => ⟨v, H', I'.unwish, r, q⟩) fun _ _ z => False.elim z
theorem PT.nox {e : Expr} {t : TT} (h : PT X.nox e t) : PT X e t := fun pins s σ H Q I hw =>
  wpAny_mono (h pins s σ H Q (I.wish _) hw) (fun _ _ ⟨H', I', q⟩ => ⟨H', I'.unwish, q⟩) fun _ _ z => False.elim z
theorem PSs.nox {st : List Stmt} {t : TS} (h : PSs X.nox st t) : PSs X st t := fun pins s σ H D I hw =>
  wpAny_mono (h pins s σ H D (I.wish _) hw) (fun _ _ q => q.unwish) fun _ _ z => False.elim z
end

/-! ### blocks and small statements -/
section
variable {X : Cx} {st : Stmt} {rest : List Stmt} {t u : TS} {e : Expr} {te : TE} {pos : Pos}
noncomputable def tNext : TS := fun D σ H => D.nx σ H
noncomputable def tSeq (t u : TS) : TS := fun D σ H => t { D with nx := u D } σ H
theorem pss_nil : PSs X [] tNext := fun _ _ σ H _ I h => wpAny_execs_nil ⟨σ, H, I, h⟩
theorem pss_cons (h1 : PS X st t) (h2 : PSs X rest u) : PSs X (st :: rest) (tSeq t u) := by
  intro pins s σ H D I h
  refine wpAny_execs_cons (thn (h1 pins s σ H { D with nx := u D } I h) fun f s1 q => ?_)
  cases f with
  | next =>
    obtain ⟨σ', H', I', q⟩ := q
    exact h2 pins s1 σ' H' D I' q
  | ret v => exact q
  | brk => exact q
  | cont => exact q
theorem pss_one (h1 : PS X st t) : PSs X [st] t := by
  intro pins s σ H D I h
  refine wpAny_execs_cons (thn (h1 pins s σ H D I h) fun f s1 q => ?_)
  cases f with
  | next => exact wpAny_execs_nil q
  | ret v => exact q
  | brk => exact q
  | cont => exact q
/-- in a def's body nothing is shown -/
theorem Inv.quiet {pins : List (Addr × Obj)} {σ : St} {H : Hp} {s : Shared} (I : Inv X pins σ H s) : interactive X.env = false := by simp [interactive, I.ok.kind]
/-- an expression whose value is dropped -/
noncomputable def tDrop (te : TE) : TS := fun D σ H => te σ H fun _ H1 => D.nx σ H1
theorem ps_expr (he : PE X e te) (hs : swapsWith e none pos.line X.env = pure false := by rfl) : PS X (.Expr e pos) (tDrop te) := by
  intro pins s σ H D I h
  exact wpAny_Expr_any (thn (he pins s σ H _ I h) fun v s1 ⟨x, H1, I1, r1, q1⟩ => ⟨σ, H1, I1, q1⟩) I.quiet hs
noncomputable def tRet (te : TE) : TS := fun D σ H => te σ H D.rt
theorem ps_ret (he : PE X e te) : PS X (.Return (some e) pos) (tRet te) := by
  intro pins s σ H D I h
  exact wpAny_Return_some (thn (he pins s σ H _ I h) fun v s1 ⟨x, H1, I1, r1, q1⟩ => ⟨x, σ, H1, I1, r1, q1⟩)
noncomputable def tIfS (c : TT) (t u : TS) : TS := fun D σ H => c σ H fun b H1 => if b = true then t D σ H1 else u D σ H1
theorem ps_if {c : Expr} {a b : List Stmt} {tc : TT} (hc : PT X c tc) (ha : PSs X a t) (hb : PSs X b u) : PS X (.If c a b pos) (tIfS tc t u) := by
  intro pins s σ H D I h
  refine wpAny_If (thn (hc pins s σ H _ I h) fun d s1 ⟨H1, I1, q1⟩ => ?_)
  cases d with
  | true => exact ha pins s1 σ H1 D I1 q1
  | false => exact hb pins s1 σ H1 D I1 q1
end

/-! ### targets -/
noncomputable abbrev TG := V → St → Hp → (St → Hp → Prop) → Prop
noncomputable abbrev TGs := List V → St → Hp → (St → Hp → Prop) → Prop
noncomputable def PG (X : Cx) (target : Expr) (t : TG) : Prop :=
  ∀ (pins : List (Addr × Obj)) (s : Shared) (σ : St) (H : Hp) (v : V) (u : Value) (Q : St → Hp → Prop), Inv X pins σ H s → RelV v u → t v σ H Q →
    wpAny (model X.prog X.w) X.A (assign target X.env u) (fun _ s' => ∃ σ' H', Inv X pins σ' H' s' ∧ Q σ' H') X.xe s
/-- several targets, one after another -/
noncomputable def PGs (X : Cx) (ts : List Expr) (t : TGs) : Prop :=
  ∀ (pins : List (Addr × Obj)) (s : Shared) (σ : St) (H : Hp) (vs : List V) (us : List Value) (Q : St → Hp → Prop), Inv X pins σ H s → Vals vs us → t vs σ H Q →
    wpAny (model X.prog X.w) X.A (assignInOrder ((assignEach ts X.env).map (·.2)) us) (fun _ s' => ∃ σ' H', Inv X pins σ' H' s' ∧ Q σ' H') X.xe s
/-- o[i] = v, by values -/
noncomputable abbrev TSet := V → V → V → Hp → (Hp → Prop) → Prop
/-- a op= b, by values -/
noncomputable abbrev TIp := V → V → Hp → VK → Prop
section
variable {X : Cx} {pos : Pos}
noncomputable def gName (i : Nat) : TG := fun v σ H Q => Q (σ.set i (some v)) H
theorem pg_name {i : Nat} {x : Str} (hN : X.N.Nodup) (hi : X.N[i]? = some x) (hx : Loc X.env.scope x) (hf : X.fn x = true ∨ X.env.scope.names.lookup x = some .local := by first | exact .inl rfl | exact .inr rfl | assumption) : PG X (.Name x pos) (gName i) := by
  intro pins s σ H v u Q I r h
  exact wpAny_assign_Name (store_ok I hN hi hx r (fun s' I' => ⟨_, H, I', h⟩) hf)
noncomputable def gNil : TGs := fun vs σ H Q => vs = [] ∧ Q σ H
noncomputable def gCons (t : TG) (u : TGs) : TGs := fun vs σ H Q => ∃ v r, vs = v :: r ∧ t v σ H fun σ' H' => u r σ' H' Q
theorem pgs_nil : PGs X [] gNil := by
  intro pins s σ H vs us Q I r h
  obtain ⟨e, h⟩ := h
  subst e
  cases r
  exact assignInOrder_nil ⟨σ, H, I, h⟩
theorem pgs_cons {e : Expr} {es : List Expr} {t : TG} {u : TGs} (h1 : PG X e t) (h2 : PGs X es u)
    (hs : (assignEach (e :: es) X.env).map (·.2) = assign e X.env :: (assignEach es X.env).map (·.2) := by rfl) : PGs X (e :: es) (gCons t u) := by
  intro pins s σ H vs us Q I r h
  obtain ⟨v, vr, e1, h⟩ := h
  subst e1
  cases r with
  | cons r rr =>
    rw [hs]
    refine assignInOrder_cons (thn (h1 pins s σ H _ _ _ I r h) fun _ s1 ⟨σ1, H1, I1, q1⟩ => ?_)
    exact h2 pins s1 σ1 H1 _ _ Q I1 rr q1
/-- (a, b, ..) = a tuple of that length -/
noncomputable def gTup (K : PySem.W.Frag) (n : Nat) (t : TGs) : TG := fun v σ H Q => ∃ a xs, v = .ref a ∧ SqT K H a xs ∧ xs.length = n ∧ t xs σ H Q
theorem pg_tup {es : List Expr} {k : Nat} {t : TGs} {n : Nat} (hc : X.calm = true) (h : PGs X es t)
    (hn : (assignEach es X.env).length = n := by rfl) (hst : (assignEach es X.env).findIdx? (·.1) = none := by rfl) : PG X (.Tuple es k pos) (gTup X.K n t) := by
  intro pins s σ H v u Q I r hw
  obtain ⟨a, xs, e1, hq, hl, hw⟩ := hw
  subst e1
  cases r
  obtain ⟨its, rv, ht, hz⟩ := I.tuple hq
  refine assign_Tuple_tuple (I.ok.hd hc) ht (by simp [hn, ← hl, rv.length]) hst fun h' hx => ?_
  have I1 : Inv X pins σ H { s with heap := h' } := I.kept (t' := s.toks) fun b o e => hx b o (Nat.ne_of_lt (Heap.lt_size e)) e
  exact h pins _ σ H xs _ Q I1 (by simpa using rv) hw
/-- target = value -/
noncomputable def tAsg (te : TE) (g : TG) : TS := fun D σ H => te σ H fun x H1 => g x σ H1 D.nx
theorem ps_asg {tg e : Expr} {te : TE} {g : TG} (he : PE X e te) (hg : PG X tg g) (hs : swapsWithSole [tg] e pos.line X.env = pure false := by rfl) (hw : swappedStores [tg] e X.env = pure none := by rfl)
    (h1 : (assignEach [tg] X.env).map (·.2) = [assign tg X.env] := by rfl) : PS X (.Assign [tg] e pos) (tAsg te g) := by
  intro pins s σ H D I h
  refine wpAny_Assign_stores (thn (he pins s σ H _ I h) fun v s1 ⟨x, H1, I1, r1, q1⟩ => ?_) hs hw
  rw [h1]
  exact thn (hg pins s1 σ H1 x v _ I1 r1 q1) fun _ s2 q => q
/-- name = value -/
theorem ps_set {i : Nat} {x : Str} {e : Expr} {te : TE} {pos' : Pos} (hN : X.N.Nodup) (hi : X.N[i]? = some x) (hx : Loc X.env.scope x) (he : PE X e te) (hs : swapsWith e (some (.Name x pos')) pos.line X.env = pure false := by rfl) (hf : X.fn x = true ∨ X.env.scope.names.lookup x = some .local := by first | exact .inl rfl | exact .inr rfl | assumption) :
    PS X (.Assign [.Name x pos'] e pos) (tAsg te (gName i)) := by
  intro pins s σ H D I h
  refine wpAny_Assign_Name (thn (he pins s σ H _ I h) fun v s1 ⟨y, H1, I1, r1, q1⟩ => ?_) hs
  exact store_ok I1 hN hi hx r1 (fun s2 I2 => ⟨_, H1, I2, q1⟩) hf
end

/-! ### while -/
section
variable {X : Cx} {pos : Pos}
end

/-! ### what a loop or a comprehension walks -/
/-- at turn i: it yields x (the heap may grow), or it stops -/
structure It where
  go : Nat → Hp → Prop
  yld : Nat → Hp → V → Hp → Prop
  stop : Nat → Hp → Prop
/-- the iterator's own objects may turn: they are not the frame's, not pinned, younger than the entry (or a comprehension's own) -/
noncomputable def FpOk (X : Cx) (pins : List (Addr × Obj)) (H : Hp) (b : Addr) : Prop :=
  H b = none ∧ b ≠ X.env.locals ∧ b ∉ X.fs ∧ (b ∈ X.ex ∨ X.s₀.heap.objs.size ≤ b) ∧ (∀ x c, X.env.cells.lookup x = some c → c ≠ b) ∧ ∀ p ∈ X.pn ++ pins, p.1 ≠ b
theorem Inv.fpOk {X : Cx} {pins : List (Addr × Obj)} {σ : St} {H H' : Hp} {s : Shared} {b : Addr} (I : Inv X pins σ H s) (hb : s.heap.objs.size ≤ b) (hn : H' b = none) : FpOk X pins H' b := by
  refine ⟨hn, Nat.ne_of_gt (Nat.lt_of_lt_of_le I.lt hb), I.nofs hb, .inr (Nat.le_trans I.sz hb), fun x c e z => ?_, fun p hp z => ?_⟩
  · obtain ⟨v, q⟩ := I.cell x c e
    exact absurd (Nat.lt_of_lt_of_le q.lt (by rw [z]; exact hb)) (Nat.lt_irrefl _)
  · exact absurd (Nat.lt_of_lt_of_le (Heap.lt_size (I.pin p hp).1) (by rw [z]; exact hb)) (Nat.lt_irrefl _)
structure Turn (P : Program) (w : World) (K : PySem.W.Frag) (tg : Expr) (J : It) (fp : List Addr) (it : Addr) (tn : Nat → Heap → Prop) : Prop where
  mem : it ∈ fp
  obj : ∀ i h, tn i h → ∀ b ∈ fp, ∃ o, h.get? b = some o ∧ ∀ v, o.data ≠ .cell v
  keep : ∀ i h h', tn i h → (∀ b ∈ fp, ∀ o, h.get? b = some o → h'.get? b = some o) → tn i h'
  item : ∀ (X : Cx), X.prog = P → X.w = w → X.K = K → X.calm = true → ∀ (i : Nat) (pins : List (Addr × Obj)) (s : Shared) (σ : St) (H : Hp) (E : Value → Shared → Prop), Inv X pins σ H s → (∀ b ∈ fp, FpOk X pins H b) → tn i s.heap → J.go i H →
    wpAny (model P w) X.A (pyNext (.ref it)) (fun r s1 => ∃ u, r = some u ∧
      wpAny (model P w) X.A (letOwnedTupleGo tg (.ref it) u) (fun _ s2 => ∃ x H', Inv X pins σ H' s2 ∧ RelV x u ∧ J.yld i H x H' ∧ tn (i + 1) s2.heap ∧ ∀ b ∈ fp, H' b = none) E s1) E s
  done : ∀ (X : Cx), X.prog = P → X.w = w → X.K = K → X.calm = true → ∀ (i : Nat) (pins : List (Addr × Obj)) (s : Shared) (σ : St) (H : Hp) (E : Value → Shared → Prop), Inv X pins σ H s → (∀ b ∈ fp, FpOk X pins H b) → tn i s.heap → J.stop i H →
    wpAny (model P w) X.A (pyNext (.ref it)) (fun r s1 => r = none ∧ Inv X pins σ H s1) E s
  self : ∀ (A : Around) (i : Nat) (s : Shared) (Q : Value → Shared → Prop) (E : Value → Shared → Prop), tn i s.heap → Q (.ref it) s → wpAny (model P w) A (pyIter (.ref it)) Q E s
noncomputable abbrev TI := St → Hp → (It → Hp → Prop) → Prop
/-- an iterator has come -/
noncomputable def PIE (X : Cx) (pins : List (Addr × Obj)) (σ : St) (tg : Expr) (R : It → Hp → Prop) (itv : Value) (s2 : Shared) : Prop :=
  ∃ (it : Addr) (fp : List Addr) (tn : Nat → Heap → Prop) (J : It) (H' : Hp), itv = .ref it ∧ Inv X pins σ H' s2 ∧ Turn X.prog X.w X.K tg J fp it tn ∧ tn 0 s2.heap ∧ (∀ b ∈ fp, FpOk X pins H' b) ∧ R J H'
noncomputable def PI (X : Cx) (tg iter : Expr) (wi : TI) : Prop :=
  ∀ (pins : List (Addr × Obj)) (s : Shared) (σ : St) (H : Hp) (R : It → Hp → Prop), Inv X pins σ H s → wi σ H R →
    wpAny (model X.prog X.w) X.A (eval iter X.env) (fun v s1 => wpAny (model X.prog X.w) X.A (pyIter v) (PIE X pins σ tg R) X.xe s1) X.xe s

/-- the step ahead of the store is nothing for an iterator that keeps no tuple -/
theorem go_of {M : Model} {A : Around} {E : Value → Shared → Prop} {s : Shared} {tg : Expr} {it : Addr} {u : Value} {o : Obj} {n : String} {vs : Array Value} {Q : Unit → Shared → Prop} (ho : s.heap.get? it = some o) (hc : o.cls = .type n) (hd : o.data = .fields vs)
    (hn : ["enumerate", "zip", "dict_itemiterator", "dict_reverseitemiterator", "odict_iterator", "itertools.zip_longest", "itertools.pairwise"].contains n = false) (hQ : Q () s) : wpAny M A (letOwnedTupleGo tg (.ref it) u) Q E s := by
  unfold letOwnedTupleGo
  cases tg <;> first
    | exact wpAny_pure hQ
    | (cases u <;> first
        | exact wpAny_pure hQ
        | (refine wpAny_bind (wpAny_load ho ?_)
           rw [hc, hd]
           show wpAny M A (if (["enumerate", "zip", "dict_itemiterator", "dict_reverseitemiterator", "odict_iterator", "itertools.zip_longest", "itertools.pairwise"].contains n && vs[0]? == some (rawInt _)) = true then _ else _) Q E s
           rw [if_neg (by intro h; rw [hn, Bool.false_and] at h; cases h)]
           exact wpAny_pure hQ))

/-- the list at a, as it stands at each turn (a loop may append to it) -/
noncomputable def Itl (K : PySem.W.Frag) (a : Addr) : It :=
  ⟨fun i H => ∃ xs x, SqL K H a xs ∧ xs[i]? = some x, fun i H x H' => H' = H ∧ ∀ xs, SqL K H a xs → xs[i]? = some x, fun i H => ∃ xs, SqL K H a xs ∧ xs.length ≤ i⟩
noncomputable def Itt (K : PySem.W.Frag) (a : Addr) : It :=
  ⟨fun i H => ∃ xs x, SqT K H a xs ∧ xs[i]? = some x, fun i H x H' => H' = H ∧ ∀ xs, SqT K H a xs → xs[i]? = some x, fun i H => ∃ xs, SqT K H a xs ∧ xs.length ≤ i⟩
/-- lo, lo + 1, .. (n of them) -/
noncomputable def Itr (lo : Int) (n : Nat) : It := ⟨fun i _ => i < n, fun i H x H' => H' = H ∧ x = .int (lo + i), fun i _ => n ≤ i⟩
theorem turn_list {P : Program} {w : World} {K : PySem.W.Frag} {tg : Expr} (a it : Addr) : Turn P w K tg (Itl K a) [it] it (fun i h => h.IsListIter it a i) where
  mem := by simp
  obj := fun i h st b hb => by
    have e : b = it := by simpa using hb
    subst e
    obtain ⟨o, e, c, d⟩ := st
    exact ⟨o, e, fun v z => by rw [d] at z; cases z⟩
  keep := fun i h h' st k => st.at fun o e => k it (by simp) o e
  item := by
    intro X hP hw hK hc i pins s σ H E I hf st hg
    subst hP hw hK
    obtain ⟨xs, x, hq, hx⟩ := hg
    obtain ⟨its, rv, p, hz⟩ := I.list hq
    obtain ⟨u, hu, ru⟩ := rv.get hx
    obtain ⟨f0, f1, f2, f3, f4, f5⟩ := hf it (by simp)
    refine wpAny_pyNext_list_item st p.isList (x := u) (by simpa using hu) fun h' st' sb => ?_
    have I1 : Inv X pins σ H { s with heap := h' } := I.turned (t' := s.toks) (fun b o hb e => (sb.2 b hb).trans e) f0 f1 f3 f4 f5
    obtain ⟨o, e, c, d⟩ := id st'
    exact ⟨u, rfl, go_of (s := { s with heap := h' }) e c d (by decide) ⟨x, H, I1, ru, ⟨rfl, fun ys hy => by rw [I.list_inj hy hq]; exact hx⟩, st', fun b hb => (hf b hb).1⟩⟩
  done := by
    intro X hP hw hK hc i pins s σ H E I hf st hg
    subst hP hw hK
    obtain ⟨xs, hq, hx⟩ := hg
    obtain ⟨its, rv, p, hz⟩ := I.list hq
    obtain ⟨f0, f1, f2, f3, f4, f5⟩ := hf it (by simp)
    have hl := rv.length
    exact wpAny_pyNext_list_end (I.ok.hd hc) st p.isList (by simp; omega) fun h' eb => ⟨rfl, I.turned (t' := s.toks) (fun b o hb e => eb b o hb e) f0 f1 f3 f4 f5⟩
  self := fun _ _ _ _ _ st h => wpAny_pyIter_listiter st h
theorem turn_tuple {P : Program} {w : World} {K : PySem.W.Frag} {tg : Expr} (a it : Addr) : Turn P w K tg (Itt K a) [it] it (fun i h => h.IsTupleIter it a i) where
  mem := by simp
  obj := fun i h st b hb => by
    have e : b = it := by simpa using hb
    subst e
    obtain ⟨o, e, c, d⟩ := st
    exact ⟨o, e, fun v z => by rw [d] at z; cases z⟩
  keep := fun i h h' st k => st.at fun o e => k it (by simp) o e
  item := by
    intro X hP hw hK hc i pins s σ H E I hf st hg
    subst hP hw hK
    obtain ⟨xs, x, hq, hx⟩ := hg
    obtain ⟨its, rv, p, hz⟩ := I.tuple hq
    obtain ⟨u, hu, ru⟩ := rv.get hx
    obtain ⟨f0, f1, f2, f3, f4, f5⟩ := hf it (by simp)
    refine wpAny_pyNext_tuple_item st (show s.heap.IsTuple a its.toArray from p) (x := u) (by simpa using hu) fun h' st' sb => ?_
    have I1 : Inv X pins σ H { s with heap := h' } := I.turned (t' := s.toks) (fun b o hb e => (sb.2 b hb).trans e) f0 f1 f3 f4 f5
    obtain ⟨o, e, c, d⟩ := id st'
    exact ⟨u, rfl, go_of (s := { s with heap := h' }) e c d (by decide) ⟨x, H, I1, ru, ⟨rfl, fun ys hy => by rw [I.tuple_inj hy hq]; exact hx⟩, st', fun b hb => (hf b hb).1⟩⟩
  done := by
    intro X hP hw hK hc i pins s σ H E I hf st hg
    subst hP hw hK
    obtain ⟨xs, hq, hx⟩ := hg
    obtain ⟨its, rv, p, hz⟩ := I.tuple hq
    obtain ⟨f0, f1, f2, f3, f4, f5⟩ := hf it (by simp)
    have hl := rv.length
    exact wpAny_pyNext_tuple_end (I.ok.hd hc) st (show s.heap.IsTuple a its.toArray from p) (by simp; omega) fun h' eb => ⟨rfl, I.turned (t' := s.toks) (fun b o hb e => eb b o hb e) f0 f1 f3 f4 f5⟩
  self := fun _ _ _ _ _ st h => wpAny_pyIter_tupleiter st h
theorem turn_range {P : Program} {w : World} {K : PySem.W.Frag} {tg : Expr} (it : Addr) (lo : Int) (n : Nat) : Turn P w K tg (Itr lo n) [it] it (fun i h => IsRangeIter h it (lo + (i : Nat) * 1) ((n : Int) - (i : Nat)) 1) where
  mem := by simp
  obj := fun i h st b hb => by
    have e : b = it := by simpa using hb
    subst e
    exact ⟨_, st, fun v z => by
      have z' : Data.fields _ = Data.cell v := z
      cases z'⟩
  keep := fun i h h' st k => k it (by simp) _ st
  item := by
    intro X hP hw hK hc i pins s σ H E I hf st hg
    subst hP hw hK
    obtain ⟨f0, f1, f2, f3, f4, f5⟩ := hf it (by simp)
    have W := Walks.range (prog := X.prog) (w := X.w) (I.ok.hd hc) it lo 1 n
    refine W.item i s _ _ hg st fun v h' tk hv st' kk => ?_
    obtain ⟨t, rfl⟩ := hv
    have I1 : Inv X pins σ H { s with heap := h', toks := tk } := I.turned (fun b o hb e => kk b o (by simpa using hb) e) f0 f1 f3 f4 f5
    refine ⟨_, rfl, go_of (s := { s with heap := h', toks := tk }) (n := "range_iterator") st' rfl rfl (by decide) ⟨.int (lo + i), H, I1, ⟨t, ?_⟩, ⟨rfl, rfl⟩, st', fun b hb => (hf b hb).1⟩⟩
    rw [Int.mul_one]
  done := by
    intro X hP hw hK hc i pins s σ H E I hf st hg
    subst hP hw hK
    obtain ⟨f0, f1, f2, f3, f4, f5⟩ := hf it (by simp)
    exact wpAny_pyNext_range_end (I.ok.hd hc) st (by have : n ≤ i := hg; omega) fun h' eb => ⟨rfl, I.turned (t' := s.toks) (fun b o hb e => eb b o hb e) f0 f1 f3 f4 f5⟩
  self := fun _ _ _ _ _ st h => wpAny_pyIter_rangeiter st h
end L2

namespace L2
open PySem PySem.Spec PyProof.Rows
section
variable {X : Cx} {tg : Expr}
noncomputable def iList (K : PySem.W.Frag) (tl : TE) : TI := fun σ H R => tl σ H fun x H1 => ∃ a, x = .ref a ∧ (∃ xs, SqL K H1 a xs) ∧ R (Itl K a) H1
noncomputable def iTup (K : PySem.W.Frag) (tl : TE) : TI := fun σ H R => tl σ H fun x H1 => ∃ a, x = .ref a ∧ (∃ xs, SqT K H1 a xs) ∧ R (Itt K a) H1
theorem pi_list {l : Expr} {tl : TE} (hl : PE X l tl) : PI X tg l (iList X.K tl) := by
  intro pins s σ H R I h
  refine thn (hl pins s σ H _ I h) fun v s1 ⟨x, H1, I1, r1, q1⟩ => ?_
  obtain ⟨a, e, ⟨xs, hq⟩, q⟩ := q1
  subst e
  cases r1
  obtain ⟨its, rv, p, hz⟩ := I1.list hq
  refine wpAny_pyIter_list p.isList ?_
  refine ⟨s1.heap.objs.size, [s1.heap.objs.size], _, _, H1, rfl, I1.kept (t' := s1.toks) fun b o e => Heap.get?_push_of_some _ e, turn_list a _, ⟨_, Heap.get?_push_size _ rfl, rfl, rfl⟩, fun b hb => ?_, q⟩
  have e : b = s1.heap.objs.size := by simpa using hb
  subst e
  exact I1.fpOk (Nat.le_refl _) (I1.hok.fresh (Nat.le_refl _))
theorem pi_tup {l : Expr} {tl : TE} (hl : PE X l tl) : PI X tg l (iTup X.K tl) := by
  intro pins s σ H R I h
  refine thn (hl pins s σ H _ I h) fun v s1 ⟨x, H1, I1, r1, q1⟩ => ?_
  obtain ⟨a, e, ⟨xs, hq⟩, q⟩ := q1
  subst e
  cases r1
  obtain ⟨its, rv, p, hz⟩ := I1.tuple hq
  refine wpAny_pyIter_tuple (show s1.heap.IsTuple a its.toArray from p) ?_
  refine ⟨s1.heap.objs.size, [s1.heap.objs.size], _, _, H1, rfl, I1.kept (t' := s1.toks) fun b o e => Heap.get?_push_of_some _ e, turn_tuple a _, ⟨_, Heap.get?_push_size _ rfl, rfl, rfl⟩, fun b hb => ?_, q⟩
  have e : b = s1.heap.objs.size := by simpa using hb
  subst e
  exact I1.fpOk (Nat.le_refl _) (I1.hok.fresh (Nat.le_refl _))
/-- a range object just made, walked -/
theorem range_it {pins : List (Addr × Obj)} {σ : St} {H : Hp} {s : Shared} {R : It → Hp → Prop} {E : Value → Shared → Prop} {lo hi : Int} {t u v : Tok} {tk : Nat} (I : Inv X pins σ H s) (h1 : -(2 ^ 62) ≤ lo) (h2 : lo < 2 ^ 62) (h3 : -(2 ^ 62) ≤ hi) (h4 : hi < 2 ^ 62)
    (q : R (Itr lo (hi - lo).toNat) H) : wpAny (model X.prog X.w) X.A (pyIter (.ref s.heap.objs.size)) (PIE X pins σ tg R) E { s with heap := s.heap.push { cls := .type "range", data := .fields #[.int lo t, .int hi u, .int 1 v] }, toks := tk } := by
  refine wpAny_pyIter_range (IsRange.new ..) (small_one h1 h2 h3 h4) ?_
  have I1 : Inv X pins σ H { s with heap := s.heap.push { cls := .type "range", data := .fields #[.int lo t, .int hi u, .int 1 v] }, toks := tk } := I.kept fun b o e => Heap.get?_push_of_some _ e
  refine ⟨(s.heap.push { cls := .type "range", data := .fields #[.int lo t, .int hi u, .int 1 v] }).objs.size, [(s.heap.push { cls := .type "range", data := .fields #[.int lo t, .int hi u, .int 1 v] }).objs.size], _, _, H, rfl,
    I1.kept (t' := tk) fun b o e => Heap.get?_push_of_some _ e, turn_range _ lo (hi - lo).toNat, ?_, fun b hb => ?_, q⟩
  · have e1 : lo + ((0 : Nat) : Int) * 1 = lo := by simp
    have e2 : (((hi - lo).toNat : Nat) : Int) - ((0 : Nat) : Int) = Builtin.Range.rangeSize lo hi 1 := by rw [rangeSize_one]; split <;> omega
    show IsRangeIter _ _ (lo + ((0 : Nat) : Int) * 1) ((((hi - lo).toNat : Nat) : Int) - ((0 : Nat) : Int)) 1
    rw [e1, e2]
    exact Heap.get?_push_size _ rfl
  · have e : b = (s.heap.push { cls := .type "range", data := .fields #[.int lo t, .int hi u, .int 1 v] }).objs.size := by simpa using hb
    subst e
    exact I1.fpOk (Nat.le_refl _) (I1.hok.fresh (Nat.le_refl _))
noncomputable def iRng1 (ta : TA) : TI := fun σ H R => ta σ H fun vs H1 => ∃ j : Int, vs = [.int j] ∧ -(2 ^ 62) ≤ j ∧ j < 2 ^ 62 ∧ R (Itr 0 j.toNat) H1
theorem pi_range1 {a : Expr} {ta : TA} {p pos : Pos} (hg : Gl X "range") (hm : X.mg "range" = none) (ha : PA X [a] ta) (hs : starEach [a] X.env = [(false, eval a X.env)] := by rfl) : PI X tg (.Call (.Name "range" p) [a] [] pos) (iRng1 ta) := by
  intro pins s σ H R I h
  refine Call_ (ld_blt I hg hm boot_range (PyProof.Rows.callWith_type1 (thn (ha pos pins s σ H _ I h) fun us s1 ⟨vs, H1, I1, r1, q1⟩ => ?_) hs rfl))
  obtain ⟨j, e, q1, q2, q⟩ := q1
  subst e
  cases r1 with
  | cons r rr =>
    cases rr
    obtain ⟨t, rfl⟩ := r
    exact call_range_1 (range_it I1 (by omega) (by omega) q1 q2 (by simpa using q))
/-! ### for -/
/-- W: the invariant by the turn and a measure; N: what the body is to reach -/
noncomputable def tFor (wi : TI) (g : TG) (tb : TS) : TS := fun D σ H => wi σ H fun J H1 => ∃ W : Nat → Nat → St → Hp → Prop, (∃ m, W 0 m σ H1) ∧ ∀ i m σ H, W i m σ H →
  (J.stop i H ∧ D.nx σ H) ∨ (J.go i H ∧ ∃ N : St → Hp → Prop, (∀ σ' H', N σ' H' → ∃ m', m' < m ∧ W (i + 1) m' σ' H') ∧ ∀ x H', J.yld i H x H' → g x σ H' fun σ2 H2 => tb { D with nx := N, ct := N, bk := D.nx } σ2 H2)
/-- the records at fp as they stand -/
noncomputable def pinsAt (fp : List Addr) (h : Heap) : List (Addr × Obj) := fp.filterMap fun b => (h.get? b).map fun o => (b, o)
theorem mem_pinsAt {fp : List Addr} {h : Heap} {b : Addr} {o : Obj} (hb : b ∈ fp) (e : h.get? b = some o) : (b, o) ∈ pinsAt fp h := List.mem_filterMap.mpr ⟨b, hb, by rw [e]; rfl⟩
theorem of_pinsAt {fp : List Addr} {h : Heap} {p : Addr × Obj} (hp : p ∈ pinsAt fp h) : p.1 ∈ fp ∧ h.get? p.1 = some p.2 := by
  obtain ⟨b, hb, e⟩ := List.mem_filterMap.mp hp
  cases q : h.get? b with
  | none => rw [q] at e; cases e
  | some o =>
    rw [q] at e
    have e' : (b, o) = p := Option.some.inj e
    subst e'
    exact ⟨hb, q⟩
theorem Inv.pinned {pins : List (Addr × Obj)} {σ : St} {H : Hp} {s : Shared} {fp : List Addr} (I : Inv X pins σ H s) (hf : ∀ b ∈ fp, FpOk X pins H b) (ho : ∀ b ∈ fp, ∃ o, s.heap.get? b = some o ∧ ∀ v, o.data ≠ .cell v) : Inv X (pins ++ pinsAt fp s.heap) σ H s :=
  I.pins_of fun p hp => (List.mem_append.mp hp).elim (fun z => I.pin p (List.mem_append_right _ z)) fun z => by
    obtain ⟨hb, e⟩ := of_pinsAt z
    obtain ⟨f0, f1, f2, _⟩ := hf p.1 hb
    obtain ⟨o, e', d⟩ := ho p.1 hb
    rw [e] at e'; cases e'
    exact ⟨e, f0, f1, f2, d⟩
theorem Inv.unpinned {pins pl : List (Addr × Obj)} {σ : St} {H : Hp} {s : Shared} (I : Inv X (pins ++ pl) σ H s) : Inv X pins σ H s := I.pins_of fun p hp => I.pin p (List.mem_append_right _ (List.mem_append_left _ hp))
theorem ps_for {iter : Expr} {body : List Stmt} {wi : TI} {g : TG} {tb : TS} {pos : Pos} (hp : PassesOwn (model X.prog X.w) X.A X.env X.xe) (hc : X.calm = true) (hi : PI X tg iter wi) (hg : PG X tg g) (hb : PSs X body tb)
    (hs : ∀ x, foldedSetIterable iter X.env x = pure x := by intro _; rfl) : PS X (.For tg iter body [] pos) (tFor wi g tb) := by
  intro pins s σ H D I h
  refine wpAny_For (thn (hi pins s σ H _ I h) fun v s1 h1 => thn h1 fun itv s2 h2 => ?_) hs
  obtain ⟨it, fp, tn, J, H2, e, I2, T, st2, f2, W, ⟨m0, w0⟩, turn⟩ := h2
  subst e
  -- what stays true of the iterator's objects through the loop
  have stat : ∀ {H' : Hp}, (∀ b ∈ fp, H' b = none) → ∀ b ∈ fp, FpOk X pins H' b := fun hn b hb => ⟨hn b hb, (f2 b hb).2⟩
  refine codeAny_forLoop_any (fun n s' => ∃ i σ' H', Inv X pins σ' H' s' ∧ tn i s'.heap ∧ (∀ b ∈ fp, H' b = none) ∧ W i n σ' H') ?_ m0 ⟨0, σ, H2, I2, st2, fun b hb => (f2 b hb).1, w0⟩
  rintro n s3 ⟨i, σ3, H3, I3, st3, fr3, w3⟩
  rcases turn i n σ3 H3 w3 with ⟨stop, qn⟩ | ⟨go, N, hN, step⟩
  · refine wpAny_passesOwn hp (thn (T.done X rfl rfl rfl hc i pins s3 σ3 H3 X.xe I3 (stat fr3) st3 stop) fun r s4 ⟨hr, I4⟩ => ?_)
    subst hr
    exact wpAny_execs_nil ⟨σ3, H3, I4, qn⟩
  · refine wpAny_passesOwn hp (thn (T.item X rfl rfl rfl hc i pins s3 σ3 H3 X.xe I3 (stat fr3) st3 go) fun r s4 ⟨u, hr, h4⟩ => ?_)
    subst hr
    refine wpAny_passesOwn hp (thn h4 fun _ s5 ⟨x, H5, I5, r5, y5, st5, fr5⟩ => ?_)
    have I5' := I5.pinned (stat fr5) (T.obj _ _ st5)
    refine wpAny_passesOwn hp (thn (hg _ s5 σ3 H5 x u _ I5' r5 (step x H5 y5)) fun _ s6 ⟨σ6, H6, I6, q6⟩ => ?_)
    refine wpAny_passesOwn hp (thn (hb _ s6 σ6 H6 _ I6 q6) fun f s7 q7 => ?_)
    have again : ∀ {σ7 : St} {H7 : Hp}, Inv X (pins ++ pinsAt fp s5.heap) σ7 H7 s7 → N σ7 H7 → ∃ m, m < n ∧ ∃ i σ' H', Inv X pins σ' H' s7 ∧ tn i s7.heap ∧ (∀ b ∈ fp, H' b = none) ∧ W i m σ' H' := fun {σ7 H7} I7 n7 => by
      obtain ⟨m', hm, w7⟩ := hN σ7 H7 n7
      refine ⟨m', hm, i + 1, σ7, H7, I7.unpinned, T.keep _ _ _ st5 fun b hb o e => (I7.pin (b, o) (List.mem_append_right _ (List.mem_append_right _ (mem_pinsAt hb e)))).1, fun b hb => ?_, w7⟩
      obtain ⟨o, e, d⟩ := T.obj _ _ st5 b hb
      exact (I7.pin (b, o) (List.mem_append_right _ (List.mem_append_right _ (mem_pinsAt hb e)))).2.1
    cases f with
    | next => obtain ⟨σ7, H7, I7, n7⟩ := q7; exact again I7 n7
    | cont => obtain ⟨σ7, H7, I7, n7⟩ := q7; exact again I7 n7
    | brk => obtain ⟨σ7, H7, I7, q7⟩ := q7; exact ⟨σ7, H7, I7.unpinned, q7⟩
    | ret v => obtain ⟨x7, σ7, H7, I7, r7, q7⟩ := q7; exact ⟨x7, σ7, H7, I7.unpinned, r7, q7⟩
end

end L2

namespace L2
open PySem PySem.Spec PyProof.Rows

noncomputable abbrev R2 := V → V → Hp → VK → Prop
/-- a two-place operation on values: f is binaryOp op, inplaceOp op or compareOp op -/
noncomputable def OpR (X : Cx) (f : Value → Value → Sem Value) (r : R2) : Prop :=
  ∀ (pins : List (Addr × Obj)) (s : Shared) (σ : St) (H : Hp) (x y : V) (v u : Value) (Q : VK), Inv X pins σ H s → RelV x v → RelV y u → r x y H Q →
    wpAny (model X.prog X.w) X.A (f v u) (EP X pins σ Q) X.xe s
/-- a one-place operation -/
noncomputable def UnR (X : Cx) (f : Value → Sem Value) (r : V → Hp → VK → Prop) : Prop :=
  ∀ (pins : List (Addr × Obj)) (s : Shared) (σ : St) (H : Hp) (x : V) (v : Value) (Q : VK), Inv X pins σ H s → RelV x v → r x H Q →
    wpAny (model X.prog X.w) X.A (f v) (EP X pins σ Q) X.xe s
/-- a call of a value that is known (a builtin, a type) with values -/
noncomputable def CallR (X : Cx) (f : Value) (r : List V → Hp → VK → Prop) : Prop :=
  ∀ (pins : List (Addr × Obj)) (s : Shared) (σ : St) (H : Hp) (xs : List V) (us : List Value) (Q : VK), Inv X pins σ H s → Vals xs us → r xs H Q →
    wpAny (model X.prog X.w) X.A (call f us) (EP X pins σ Q) X.xe s
noncomputable def tOp (r : R2) (ta tb : TE) : TE := fun σ H Q => ta σ H fun x H1 => tb σ H1 fun y H2 => r x y H2 Q
noncomputable def tUn (r : V → Hp → VK → Prop) (ta : TE) : TE := fun σ H Q => ta σ H fun x H1 => r x H1 Q
/-- ints in, under C, and a value out -/
noncomputable def rI (C : Int → Int → Prop) (g : Int → Int → V) : R2 := fun x y H Q => ∃ i j, x = .int i ∧ y = .int j ∧ C i j ∧ Q (g i j) H
noncomputable def rI0 (g : Int → Int → V) : R2 := fun x y H Q => ∃ i j, x = .int i ∧ y = .int j ∧ Q (g i j) H
noncomputable def rU (g : Int → V) : V → Hp → VK → Prop := fun x H Q => ∃ i, x = .int i ∧ Q (g i) H

section
variable {X : Cx} {a b c : Expr} {ta tb tc : TE} {pos : Pos}

theorem binT (ha : PE X a ta) (hb : PE X b tb) {pins : List (Addr × Obj)} {s : Shared} {σ : St} {H : Hp} {R : V → V → Hp → Prop} (I : Inv X pins σ H s)
    (h : ta σ H fun x H1 => tb σ H1 fun y H2 => R x y H2) {Q : Value → Shared → Prop} {f : Value → Value → Sem Value}
    (hf : ∀ v u s2 x y H2, Inv X pins σ H2 s2 → RelV x v → RelV y u → R x y H2 → wpAny (model X.prog X.w) X.A (f v u) Q X.xe s2) :
    wpAny (model X.prog X.w) X.A (eval a X.env) (fun v s₁ => wpAny (model X.prog X.w) X.A (eval b X.env) (fun u s₂ => wpAny (model X.prog X.w) X.A (f v u) Q X.xe s₂) X.xe s₁) X.xe s := by
  refine thn (ha pins s σ H _ I h) fun v s1 ⟨x, H1, I1, r1, q1⟩ => ?_
  refine thn (hb pins s1 σ H1 _ I1 q1) fun u s2 ⟨y, H2, I2, r2, q2⟩ => ?_
  exact hf v u s2 x y H2 I2 r1 r2 q2

theorem pe_op {op : Operator} {r : R2} (ho : OpR X (binaryOp op) r) (ha : PE X a ta) (hb : PE X b tb) : PE X (.BinOp a op b pos) (tOp r ta tb) := by
  intro pins s σ H Q I h
  exact wpAny_BinOp (binT ha hb I h fun v u s2 x y H2 I2 rx ry q => ho pins s2 σ H2 x y v u Q I2 rx ry q)
theorem pe_un {op : UnaryOp} {r : V → Hp → VK → Prop} (ho : UnR X (unaryOp op) r) (ha : PE X a ta) : PE X (.UnaryOp op a pos) (tUn r ta) := by
  intro pins s σ H Q I h
  exact UnaryOp_ (thn (ha pins s σ H _ I h) fun v s1 ⟨x, H1, I1, r1, q1⟩ => ho pins s1 σ H1 x v Q I1 r1 q1)
/-! ### ints -/
theorem opI {f : Value → Value → Sem Value} {C : Int → Int → Prop} {g : Int → Int → Int}
    (rule : ∀ (i j : Int) (t u : Tok) (s : Shared) (Q : Value → Shared → Prop) (E : Value → Shared → Prop), C i j → Q (.int (g i j) s.toks) { s with toks := s.toks + 1 } → wpAny (model X.prog X.w) X.A (f (.int i t) (.int j u)) Q E s) :
    OpR X f (rI C fun i j => .int (g i j)) := by
  intro pins s σ H x y v u Q I rx ry h
  obtain ⟨i, j, rfl, rfl, hc, q⟩ := h
  obtain ⟨t, rfl⟩ := rx
  obtain ⟨t', rfl⟩ := ry
  exact rule i j t t' s _ _ hc ⟨.int (g i j), H, I.tok _, ⟨_, rfl⟩, q⟩
theorem opI0 {f : Value → Value → Sem Value} {g : Int → Int → Int}
    (rule : ∀ (i j : Int) (t u : Tok) (s : Shared) (Q : Value → Shared → Prop) (E : Value → Shared → Prop), Q (.int (g i j) s.toks) { s with toks := s.toks + 1 } → wpAny (model X.prog X.w) X.A (f (.int i t) (.int j u)) Q E s) :
    OpR X f (rI0 fun i j => .int (g i j)) := by
  intro pins s σ H x y v u Q I rx ry h
  obtain ⟨i, j, rfl, rfl, q⟩ := h
  obtain ⟨t, rfl⟩ := rx
  obtain ⟨t', rfl⟩ := ry
  exact rule i j t t' s _ _ ⟨.int (g i j), H, I.tok _, ⟨_, rfl⟩, q⟩
theorem opB0 {f : Value → Value → Sem Value} {g : Int → Int → Bool}
    (rule : ∀ (i j : Int) (t u : Tok) (s : Shared) (Q : Value → Shared → Prop) (E : Value → Shared → Prop), Q (.bool (g i j)) s → wpAny (model X.prog X.w) X.A (f (.int i t) (.int j u)) Q E s) :
    OpR X f (rI0 fun i j => .bl (g i j)) := by
  intro pins s σ H x y v u Q I rx ry h
  obtain ⟨i, j, rfl, rfl, q⟩ := h
  obtain ⟨t, rfl⟩ := rx
  obtain ⟨t', rfl⟩ := ry
  exact rule i j t t' s _ _ ⟨.bl (g i j), H, I, rfl, q⟩

noncomputable def CDiv (i j : Int) : Prop := 0 < j ∧ j < 1073741824
noncomputable def CPow (i j : Int) : Prop := 0 ≤ j ∧ j ≤ 1000000 ∧ i.natAbs < 2 ^ 64
noncomputable def CMul (i j : Int) : Prop := (-(2 ^ 64) < i ∧ i < 2 ^ 64) ∨ (-(2 ^ 64) < j ∧ j < 2 ^ 64)
theorem CMul.ok {i j : Int} (h : CMul i j) : IntMulOk i j := by
  rcases h with ⟨h1, h2⟩ | ⟨h1, h2⟩
  · exact .of_left (intBits_le_64 h1 h2)
  · exact .of_right (intBits_le_64 h1 h2)
theorem op_add : OpR X (binaryOp .Add) (rI0 fun i j => .int (i + j)) := opI0 fun _ _ _ _ _ _ _ q => add_int q
theorem op_sub : OpR X (binaryOp .Sub) (rI0 fun i j => .int (i - j)) := opI0 fun _ _ _ _ _ _ _ q => sub_int q
theorem op_mul : OpR X (binaryOp .Mult) (rI CMul fun i j => .int (i * j)) := opI fun _ _ _ _ _ _ _ hc q => mul_int q hc.ok
/-- // by a positive divisor -/
theorem op_fdiv : OpR X (binaryOp .FloorDiv) (rI CDiv fun i j => .int (i / j)) := opI fun i j _ _ _ _ _ hc q => by
  have h1 : (0 : Int) < j := hc.1
  have h2 : j < 1073741824 := hc.2
  exact floordiv_int (by omega) (by rw [Int.fdiv_eq_ediv_of_nonneg i (by omega)]; exact q) (.inl (PyProof.noPylong_small (by omega)))
/-- % by a positive divisor of any size -/
theorem op_mod : OpR X (binaryOp .Mod) (rI (fun _ j => 0 < j) fun i j => .int (i % j)) := opI fun i j _ _ _ _ _ hc q => by
  have h1 : (0 : Int) < j := hc
  exact mod_int' (by omega) (by rw [Int.fmod_eq_emod_of_nonneg i (by omega)]; exact q)
theorem op_pow : OpR X (binaryOp .Pow) (rI CPow fun i j => .int (i ^ j.toNat)) := opI fun _ _ _ _ _ _ _ hc q => pow_int_small hc.1 hc.2.1 hc.2.2 q
theorem op_shl : OpR X (binaryOp .LShift) (rI CPow fun i j => .int (i * 2 ^ j.toNat)) := opI fun _ _ _ _ _ _ _ hc q => lshift_int_small hc.1 hc.2.1 hc.2.2 q
theorem op_and : OpR X (binaryOp .BitAnd) (rI0 fun i j => .int (Builtin.bitAnd i j)) := opI0 fun _ _ _ _ _ _ _ q => and_int q
theorem op_or : OpR X (binaryOp .BitOr) (rI0 fun i j => .int (Builtin.bitOr i j)) := opI0 fun _ _ _ _ _ _ _ q => or_int q
theorem op_xor : OpR X (binaryOp .BitXor) (rI0 fun i j => .int (Builtin.bitXor i j)) := opI0 fun _ _ _ _ _ _ _ q => xor_int q

theorem unI {f : Value → Sem Value} {g : Int → Int}
    (rule : ∀ (i : Int) (t : Tok) (s : Shared) (Q : Value → Shared → Prop) (E : Value → Shared → Prop), Q (.int (g i) s.toks) { s with toks := s.toks + 1 } → wpAny (model X.prog X.w) X.A (f (.int i t)) Q E s) :
    UnR X f (rU fun i => .int (g i)) := by
  intro pins s σ H x v Q I rx h
  obtain ⟨i, rfl, q⟩ := h
  obtain ⟨t, rfl⟩ := rx
  exact rule i t s _ _ ⟨.int (g i), H, I.tok _, ⟨_, rfl⟩, q⟩
theorem un_neg : UnR X (unaryOp .USub) (rU fun i => .int (-i)) := unI fun _ _ _ _ _ q => neg_int q
end

/-! ### comparisons -/
/-- the scalars that == tells apart as data does -/
noncomputable def scal : V → V → Bool
  | .non, .non => true | .non, .int _ => true | .int _, .non => true | .non, .bl _ => true | .bl _, .non => true | .non, .str _ => true | .str _, .non => true
  | .int _, .int _ => true | .bl _, .bl _ => true | .str _, .str _ => true | .byt _, .byt _ => true
  | .int _, .str _ => true | .str _, .int _ => true | .bl _, .str _ => true | .str _, .bl _ => true
  | _, _ => false
noncomputable def rEq : R2 := fun x y H Q => scal x y = true ∧ Q (.bl (decide (x = y))) H
noncomputable def rNe : R2 := fun x y H Q => scal x y = true ∧ Q (.bl (!decide (x = y))) H

theorem dec_int {i j : Int} : decide (V.int i = V.int j) = (i == j) := by
  rw [Bool.eq_iff_iff]
  simp
theorem dec_bl {i j : Bool} : decide (V.bl i = V.bl j) = (i == j) := by
  rw [Bool.eq_iff_iff]
  simp
theorem dec_str {i j : Str} : decide (V.str i = V.str j) = (i == j) := by
  rw [Bool.eq_iff_iff]
  simp
theorem dec_byt {i j : Array UInt8} : decide (V.byt i = V.byt j) = (i.toList == j.toList) := by
  rw [Bool.eq_iff_iff]
  cases i
  cases j
  simp

section
variable {X : Cx} {a b c : Expr} {ta tb tc : TE} {pos : Pos}
theorem fin_bl {pins : List (Addr × Obj)} {σ : St} {H : Hp} {s : Shared} {Q : VK} {k k' : Bool} (I : Inv X pins σ H s) (q : Q (.bl k) H) (e : k = k') : EP X pins σ Q (.bool k') s := by
  subst e
  exact ⟨.bl k, H, I, rfl, q⟩
theorem op_eq : OpR X (compareOp .Eq) rEq := by
  intro pins s σ H x y v u Q I rx ry h
  obtain ⟨hs, q⟩ := h
  cases x with
  | non =>
    cases rx
    cases y with
    | non => cases ry; exact PySem.EqNone.eq_none_none (fin_bl I q (by simp))
    | bl j => cases ry; exact PySem.EqNone.eq_none_bool (fin_bl I q (by simp))
    | int j => obtain ⟨t', rfl⟩ := ry; exact PySem.EqNone.eq_none_int (fin_bl I q (by simp))
    | str j => obtain ⟨t', rfl⟩ := ry; exact PySem.EqNone.eq_none_str (fin_bl I q (by simp))
    | _ => exact absurd (show false = true from hs) Bool.false_ne_true
  | bl i =>
    cases rx
    cases y with
    | non => cases ry; exact PySem.EqNone.eq_bool_none (fin_bl I q (by simp))
    | bl j => cases ry; exact eq_bool (fin_bl I q dec_bl)
    | str j => obtain ⟨t', rfl⟩ := ry; exact PySem.EqMixed.eq_bool_str (fin_bl I q (by simp))
    | _ => exact absurd (show false = true from hs) Bool.false_ne_true
  | int i =>
    obtain ⟨t, rfl⟩ := rx
    cases y with
    | non => cases ry; exact PySem.EqNone.eq_int_none (fin_bl I q (by simp))
    | int j => obtain ⟨t', rfl⟩ := ry; exact eq_int (fin_bl I q dec_int)
    | str j => obtain ⟨t', rfl⟩ := ry; exact PySem.EqMixed.eq_int_str (fin_bl I q (by simp))
    | _ => exact absurd (show false = true from hs) Bool.false_ne_true
  | str i =>
    obtain ⟨t, rfl⟩ := rx
    cases y with
    | non => cases ry; exact PySem.EqNone.eq_str_none (fin_bl I q (by simp))
    | bl j => cases ry; exact PySem.EqMixed.eq_str_bool (fin_bl I q (by simp))
    | int j => obtain ⟨t', rfl⟩ := ry; exact PySem.EqMixed.eq_str_int (fin_bl I q (by simp))
    | str j => obtain ⟨t', rfl⟩ := ry; exact eq_str (fin_bl I q dec_str)
    | _ => exact absurd (show false = true from hs) Bool.false_ne_true
  | byt i =>
    obtain ⟨t, rfl⟩ := rx
    cases y with
    | byt j => obtain ⟨t', rfl⟩ := ry; exact PySem.W.eq_bytes (fin_bl I q dec_byt)
    | _ => exact absurd (show false = true from hs) Bool.false_ne_true
  | _ => cases y <;> exact absurd (show false = true from hs) Bool.false_ne_true
theorem op_ne : OpR X (compareOp .NotEq) rNe := by
  intro pins s σ H x y v u Q I rx ry h
  obtain ⟨hs, q⟩ := h
  cases x with
  | non =>
    cases rx
    cases y with
    | non => cases ry; exact PySem.EqNone.ne_none_none (fin_bl I q (by simp))
    | bl j => cases ry; exact PySem.EqNone.ne_none_bool (fin_bl I q (by simp))
    | int j => obtain ⟨t', rfl⟩ := ry; exact PySem.EqNone.ne_none_int (fin_bl I q (by simp))
    | str j => obtain ⟨t', rfl⟩ := ry; exact PySem.EqNone.ne_none_str (fin_bl I q (by simp))
    | _ => exact absurd (show false = true from hs) Bool.false_ne_true
  | bl i =>
    cases rx
    cases y with
    | non => cases ry; exact PySem.EqNone.ne_bool_none (fin_bl I q (by simp))
    | bl j => cases ry; exact ne_bool (fin_bl I q (congrArg not dec_bl))
    | str j => obtain ⟨t', rfl⟩ := ry; exact PySem.EqMixed.ne_bool_str (fin_bl I q (by simp))
    | _ => exact absurd (show false = true from hs) Bool.false_ne_true
  | int i =>
    obtain ⟨t, rfl⟩ := rx
    cases y with
    | non => cases ry; exact PySem.EqNone.ne_int_none (fin_bl I q (by simp))
    | int j => obtain ⟨t', rfl⟩ := ry; exact ne_int (fin_bl I q (congrArg not dec_int))
    | str j => obtain ⟨t', rfl⟩ := ry; exact PySem.EqMixed.ne_int_str (fin_bl I q (by simp))
    | _ => exact absurd (show false = true from hs) Bool.false_ne_true
  | str i =>
    obtain ⟨t, rfl⟩ := rx
    cases y with
    | non => cases ry; exact PySem.EqNone.ne_str_none (fin_bl I q (by simp))
    | bl j => cases ry; exact PySem.EqMixed.ne_str_bool (fin_bl I q (by simp))
    | int j => obtain ⟨t', rfl⟩ := ry; exact PySem.EqMixed.ne_str_int (fin_bl I q (by simp))
    | str j => obtain ⟨t', rfl⟩ := ry; exact ne_str (fin_bl I q (congrArg not dec_str))
    | _ => exact absurd (show false = true from hs) Bool.false_ne_true
  | byt i =>
    obtain ⟨t, rfl⟩ := rx
    cases y with
    | byt j => obtain ⟨t', rfl⟩ := ry; exact PySem.W.ne_bytes (fin_bl I q (congrArg not dec_byt))
    | _ => exact absurd (show false = true from hs) Bool.false_ne_true
  | _ => cases y <;> exact absurd (show false = true from hs) Bool.false_ne_true

theorem op_lt : OpR X (compareOp .Lt) (rI0 fun i j => .bl (decide (i < j))) := opB0 fun _ _ _ _ _ _ _ q => lt_int q
theorem op_le : OpR X (compareOp .LtE) (rI0 fun i j => .bl (decide (i ≤ j))) := opB0 fun _ _ _ _ _ _ _ q => le_int q
theorem op_ge : OpR X (compareOp .GtE) (rI0 fun i j => .bl (decide (j ≤ i))) := opB0 fun _ _ _ _ _ _ _ q => ge_int q
/-- is None, is not None: the right side a value none -/
theorem op_isN : OpR X (compareOp .Is) (fun x y H Q => y = .non ∧ Q (.bl (decide (x = .non))) H) := by
  intro pins s σ H x y v u Q I rx ry h
  obtain ⟨rfl, q⟩ := h
  cases ry
  refine is_none_gen (fin_bl I q ?_)
  cases x <;> first
    | (cases rx; rfl)
    | (obtain ⟨t, rfl⟩ := rx; rfl)
/-- two rules for one operation: by cases -/
theorem OpR.or {f : Value → Value → Sem Value} {r r' : R2} (h : OpR X f r) (h' : OpR X f r') : OpR X f (fun x y H Q => r x y H Q ∨ r' x y H Q) := by
  intro pins s σ H x y v u Q I rx ry q
  rcases q with q | q
  · exact h pins s σ H x y v u Q I rx ry q
  · exact h' pins s σ H x y v u Q I rx ry q

theorem nomark (b : Expr) {op : CmpOp} (h : op ≠ .In := by decide) (h2 : op ≠ .NotIn := by decide) : behindInMarks op b = false := by
  have e1 : (op == CmpOp.In) = false := by cases op <;> first | rfl | exact absurd rfl h
  have e2 : (op == CmpOp.NotIn) = false := by cases op <;> first | rfl | exact absurd rfl h2
  cases b <;> simp [behindInMarks, e1, e2]
/-- a comparison as a value; hm: nomark b, or (for in, not in) by with_unfolding_all rfl -/
theorem pe_cmpR {op : CmpOp} {r : R2} (ho : OpR X (compareOp op) r) (ha : PE X a ta) (hb : PE X b tb) (hm : behindInMarks op b = false) : PE X (.Compare a [op] [b] pos) (tOp r ta tb) := by
  intro pins s σ H Q I h
  exact wpAny_Compare1 (binT ha hb I h fun v u s2 x y H2 I2 rx ry q => ho pins s2 σ H2 x y v u Q I2 rx ry q) hm
/-- a reading of a value as a test -/
noncomputable def tTest (t : TE) : TT := fun σ H Q => t σ H fun x H' => ∃ k, x = .bl k ∧ Q k H'
theorem pt_cmpR {op : CmpOp} {r : R2} (ho : OpR X (compareOp op) r) (ha : PE X a ta) (hb : PE X b tb) (hm : behindInMarks op b = false) : PT X (.Compare a [op] [b] pos) (tTest (tOp r ta tb)) := by
  intro pins s σ H Q I h
  refine wpAny_isTrue_Compare1 (thn (ha pins s σ H _ I h) fun v s1 ⟨x, H1, I1, r1, q1⟩ => thn (hb pins s1 σ H1 _ I1 q1) fun u s2 ⟨y, H2, I2, r2, q2⟩ =>
    thn (ho pins s2 σ H2 x y v u _ I2 r1 r2 q2) fun c s3 ⟨z, H3, I3, r3, k, e, q3⟩ => ?_) hm
  subst e
  cases r3
  exact wpAny_truthy_bool ⟨H3, I3, q3⟩
theorem line63 : (sizeLine : Nat) < 2 ^ 63 := by rw [sizeLine_eq]; decide
/-! ### scalar builtins, by CallR -/
theorem vals1 {x : V} {us : List Value} (r : Vals [x] us) : ∃ u, us = [u] ∧ RelV x u := by
  cases r with
  | cons r1 r2 => cases r2; exact ⟨_, rfl, r1⟩
theorem vals2 {x y : V} {us : List Value} (r : Vals [x, y] us) : ∃ u w', us = [u, w'] ∧ RelV x u ∧ RelV y w' := by
  cases r with
  | cons r1 r2 =>
    cases r2 with
    | cons r3 r4 => cases r4; exact ⟨_, _, rfl, r1, r3⟩
end
end L2

namespace L2
open PySem PySem.Spec PyProof.Rows

/-! ### an instance, its attributes a map -/
structure ObjM (h : Heap) (x dx C : Addr) (mA : Str → Option Value) : Prop where
  obj : h.get? x = some (PySem.W.instObj C dx)
  ns : h.Ns1 dx mA
  ne : dx ≠ x

theorem lookIn_ns {h : Heap} {dx : Addr} {mA : Str → Option Value} (n : h.Ns1 dx mA) : ∃ od, h.get? dx = some od ∧ ∀ name, PySem.W.lookIn name od = some (mA name) := by
  obtain ⟨o, es, ep, ho, hd, hk, _, hm⟩ := n
  refine ⟨o, ho, fun name => ?_⟩
  have e := hm name
  unfold nsFind findBy at e
  rw [← Array.find?_toList] at e
  unfold PySem.W.lookIn
  rw [hd]
  dsimp only
  split
  · rename_i y q
    rw [q] at e
    exact congrArg some e
  · rename_i q
    rw [q] at e
    have a : es.toList.any (·.refKey) = false := by
      rw [List.any_eq_false]
      intro y hy
      obtain ⟨z, t, hkey⟩ := hk y (Array.mem_toList_iff.mp hy)
      simp [DictEntry.refKey, hkey]
    have a' : ¬ es.toList.any (·.refKey) = true := by rw [a]; exact Bool.false_ne_true
    rw [if_neg a']
    exact congrArg some e

theorem ObjM.look {h : Heap} {x dx C : Addr} {mA : Str → Option Value} (I : ObjM h x dx C mA) : ∃ od, PySem.W.InstAt h x (PySem.W.instObj C dx) C (some od) ∧ ∀ name, PySem.W.lookIn name od = some (mA name) :=
  let ⟨od, ho, hl⟩ := lookIn_ns I.ns
  ⟨od, ⟨I.obj, rfl, rfl, ho⟩, hl⟩

section
variable {prog : Program} {w : World} {A : Around} {E : Value → Shared → Prop} {s : Shared} {K : PySem.W.Frag} {x dx C f : Addr} {mA : Str → Option Value} {name : Str} {v : Value}

theorem get_map {expr : Bool} {Q : Value → Shared → Prop} (X : K.In s.heap) (I : ObjM s.heap x dx C mA) (hg : PySem.W.plainGet K C name = true) (hh : PySem.W.hasDictIn K C = true)
    (ha : PySem.W.findIn K (.ref C) name = some none) (hv : mA name = some v) (hv' : PySem.W.handedIn v = true) (h : Q v { s with toks := s.toks + 1 }) :
    wpAny (model prog w) A (getAttr (.ref x) name expr) Q E s := by
  obtain ⟨od, J, hl⟩ := I.look
  exact PySem.W.get_value X J (PySem.W.plainGet_of hg).1 (PySem.W.findObj_own hh ha rfl (by rw [hl, hv])) hv' h

theorem set_map {ns : List Str} {Q : Unit → Shared → Prop} (X : K.In s.heap) (I : ObjM s.heap x dx C mA)
    (hs : PySem.W.findIn K (.ref C) "__setattr__" = some (some (.builtin "object.__setattr__"))) (hp : PySem.W.plainOver K C = true) (ht : PySem.W.takerIn K C name = some none) (hh : PySem.W.hasDictIn K C = true)
    (hw : PySem.Within mA ns) (hsz : ns.length ≤ sizeLine)
    (h : ∀ h', ObjM h' x dx C (fun y => if y = name then some v else mA y) → Heap.SameBut dx s.heap h' → Q () { s with heap := h', toks := s.toks + 2 }) :
    wpAny (model prog w) A (setAttr (.ref x) name v) Q E s := by
  obtain ⟨od, J, hl⟩ := I.look
  refine PySem.W.set_plain X J hs (PySem.W.osa_open (s := { s with toks := s.toks + 1 }) (r := none) X J hp ht fun b => ?_)
  obtain ⟨cd, hc, hd'⟩ := PySem.W.any_some hh
  have hx : s.heap.get? x = some ⟨.ref C, some dx, .plain, #[]⟩ := I.obj
  refine wpAny_bind (wpAny_pure (wpAny_bind (wpAny_bind (wpAny_loadPart hx (wpAny_bind (PySem.W.Looks.here (s := { s with toks := s.toks + 1 }) (PySem.W.looks_clsIn X hc) ?_))))))
  rw [hd']
  refine wpAny_pure (a := some dx) (wpAny_bind (wpAny_pure (wpAny_bind ?_)))
  refine wpAny_nsSet1 (s := { s with toks := s.toks + 1 }) I.ns fun h' hn2 hs2 => ?_
  obtain ⟨oD, esD, epD, hoD, hdD, hcD⟩ := hn2.count (PySem.Within.cons name v hw)
  refine wpAny_bind (wpAny_lookBehind hoD (by rw [hdD]; exact pastItsLine_dict (Nat.le_trans hcD (by rw [List.length_cons]; omega))) ?_)
  exact wpAny_pure (h _ ⟨(hs2.2 _ (Ne.symm I.ne)).trans I.obj, hn2, I.ne⟩ hs2)

/-- C(..): the dict at the heap's end, the instance behind it; then its __init__ -/
theorem make_map {R : Result → Shared → Prop} {vs : List Value} {kw : List (Str × Value)} (X : K.In s.heap) (hm : PySem.W.makesIn K C = true)
    (hi : PySem.W.findIn K (.ref C) "__init__" = some (some (.ref f))) (hf : PySem.W.typeIn K (.ref f) = some (.type "function"))
    (h : codeAny (model prog w) (A.under (.builtin "type.__call__" ⟨.ref C :: vs, kw⟩)) (.call (.ref f) ⟨.ref (s.heap.objs.size + 1) :: vs, kw⟩) (PySem.W.InitBack (s.heap.objs.size + 1) R)
      { s with heap := (s.heap.push PySem.W.emptyDict).push (PySem.W.instObj C s.heap.objs.size) }) :
    codeAny (model prog w) A (.call (.ref C) ⟨vs, kw⟩) R s := by
  obtain ⟨hh, g, d, t, os⟩ := s
  exact PySem.W.make_core (PySem.W.makes_of X hm) (PySem.W.looks_findIn X hi) (fun self => PySem.W.bind_fn X self hf) (.inl rfl) h
end

/-! ### the attributes as a list of pairs -/
noncomputable def putF (f : Str) (v : V) : List (Str × V) → List (Str × V)
  | [] => [(f, v)]
  | (g, x) :: r => if g = f then (g, v) :: r else (g, x) :: putF f v r
theorem lookup_putF (f g : Str) (v : V) : ∀ fs : List (Str × V), (putF f v fs).lookup g = if g = f then some v else fs.lookup g
  | [] => by
    show List.lookup g [(f, v)] = _
    by_cases h : g = f
    · have hb : (g == f) = true := beq_iff_eq.mpr h
      simp only [List.lookup, hb, if_pos h]
    · have hb : (g == f) = false := beq_eq_false_iff_ne.mpr h
      simp only [List.lookup, hb, if_neg h]
  | (k, x) :: r => by
    have ih := lookup_putF f g v r
    rw [show putF f v ((k, x) :: r) = (if k = f then (k, v) :: r else (k, x) :: putF f v r) from rfl]
    by_cases hk : k = f
    · rw [if_pos hk]
      by_cases h : g = k
      · have hb : (g == k) = true := beq_iff_eq.mpr h
        simp only [List.lookup, hb, if_pos (h.trans hk)]
      · have hb : (g == k) = false := beq_eq_false_iff_ne.mpr h
        simp only [List.lookup, hb, if_neg (fun e : g = f => h (e.trans hk.symm))]
    · rw [if_neg hk]
      by_cases h : g = k
      · have hb : (g == k) = true := beq_iff_eq.mpr h
        simp only [List.lookup, hb, if_neg (fun e : g = f => hk (h.symm.trans e))]
      · have hb : (g == k) = false := beq_eq_false_iff_ne.mpr h
        simp only [List.lookup, hb]
        exact ih
theorem keys_putF (f : Str) (v : V) : ∀ fs : List (Str × V), f ∈ (putF f v fs).map (·.1) ∧ ∀ g, g ∈ fs.map (·.1) → g ∈ (putF f v fs).map (·.1)
  | [] => ⟨by simp [putF], fun g h => by simp at h⟩
  | (k, x) :: r => by
    obtain ⟨i1, i2⟩ := keys_putF f v r
    rw [show putF f v ((k, x) :: r) = (if k = f then (k, v) :: r else (k, x) :: putF f v r) from rfl]
    by_cases hk : k = f
    · rw [if_pos hk]
      subst hk
      exact ⟨by simp, fun g h => by simpa using h⟩
    · rw [if_neg hk]
      refine ⟨?_, fun g h => ?_⟩
      · rw [List.map_cons]
        exact List.mem_cons_of_mem _ i1
      · rw [List.map_cons] at h ⊢
        rcases List.mem_cons.mp h with e | e
        · exact List.mem_cons.mpr (.inl e)
        · exact List.mem_cons_of_mem _ (i2 g e)
theorem length_putF (f : Str) (v : V) : ∀ fs : List (Str × V), (putF f v fs).length ≤ fs.length + 1
  | [] => by simp [putF]
  | (k, x) :: r => by
    have ih := length_putF f v r
    rw [show putF f v ((k, x) :: r) = (if k = f then (k, v) :: r else (k, x) :: putF f v r) from rfl]
    by_cases hk : k = f
    · rw [if_pos hk, List.length_cons, List.length_cons]; omega
    · rw [if_neg hk, List.length_cons, List.length_cons]; omega

theorem RelO.some_of {v : V} {o : Option Value} (r : RelO (some v) o) : ∃ u, o = some u ∧ RelV v u := by
  cases o with
  | none => exact (show False from r).elim
  | some u => exact ⟨u, rfl, r⟩
theorem handed_of {v : V} {u : Value} (r : RelV v u) : PySem.W.handedIn u = true := by
  cases v with
  | non => cases (show u = Value.none from r); rfl
  | bl b => cases (show u = Value.bool b from r); rfl
  | int i => obtain ⟨t, e⟩ := (show ∃ t, u = Value.int i t from r); cases e; rfl
  | str x => obtain ⟨t, e⟩ := (show ∃ t, u = Value.str x t from r); cases e; rfl
  | byt b => obtain ⟨t, e⟩ := (show ∃ t, u = Value.bytes b t from r); cases e; rfl
  | flt b => obtain ⟨t, e⟩ := (show ∃ t, u = Value.float b t from r); cases e; rfl
  | ref a => cases (show u = Value.ref a from r); rfl
  | ty n => cases (show u = Value.type n from r); rfl

section
variable {P : Program} {w : World} {H H' : Hp} {h h' : Heap} {a C dx : Addr} {fs fs' : List (Str × V)}
theorem ins_get (hok : HOk P w H h) (e : H a = some (.ins C dx fs)) : ∃ mA, ObjM h a dx C mA ∧ (∀ f, RelO (fs.lookup f) (mA f)) ∧ PySem.Within mA (fs.map (·.1)) ∧ fs.length ≤ 1000 ∧ H dx = some (.own a) := by
  obtain ⟨d, z, ne, ob, mA, n, r, q⟩ := (show ObjOk P w H h a (.ins C dx fs) from hok a _ e)
  exact ⟨mA, ⟨ob, n, ne⟩, r, q, z, d⟩
end

/-! ### what of the text a class must have -/
structure Cls (K : PySem.W.Frag) (C : Addr) : Prop where
  pg : PySem.W.plainGet K C Str.empty = true
  hd : PySem.W.hasDictIn K C = true
  po : PySem.W.plainOver K C = true
  sa : PySem.W.findIn K (.ref C) "__setattr__" = some (some (.builtin "object.__setattr__"))
theorem Cls.get {K : PySem.W.Frag} {C : Addr} (c : Cls K C) (f : Str) : PySem.W.plainGet K C f = true := c.pg
/-- no class of it has the name -/
noncomputable def NoAttr (K : PySem.W.Frag) (C : Addr) (f : Str) : Prop := PySem.W.findIn K (.ref C) f = some none
theorem NoAttr.taker {K : PySem.W.Frag} {C : Addr} {f : Str} (n : NoAttr K C f) : PySem.W.takerIn K C f = some none := by
  unfold PySem.W.takerIn
  rw [show PySem.W.findIn K (.ref C) f = some none from n]
  rfl
/-- a constant of the class -/
structure Con (K : PySem.W.Frag) (C : Addr) (f : Str) (v : V) (u : Value) : Prop where
  at_ : PySem.W.findIn K (.ref C) f = some (some u)
  rel : RelV v u
  get : PySem.W.specialIn K u "__get__" = some none
  cp : PySem.W.copiedNames.contains f = false
/-- a method: a plain def of the class or of one above it -/
structure Meth (K : PySem.W.Frag) (C : Addr) (m : Str) (f : Addr) : Prop where
  at_ : PySem.W.findIn K (.ref C) m = some (some (.ref f))
  fn : PySem.W.isFn K (.ref f) = true
  kp : PySem.W.keepIn K (.ref f) = true

section
variable {X : Cx} {pins : List (Addr × Obj)} {σ : St} {H : Hp} {s : Shared} {a C dx : Addr} {fs : List (Str × V)} {f : Str} {v : V} {A : Around} {E : Value → Shared → Prop}

theorem setattr_ok {y : V} {u : Value} {Q : Unit → Shared → Prop} (I : Inv X pins σ H s) (e : H a = some (.ins C dx fs)) (c : Cls X.K C) (n : NoAttr X.K C f) (hl : fs.length < 1000) (ry : RelV y u)
    (h : ∀ s', Inv X pins σ (upd H a (.ins C dx (putF f y fs))) s' → Q () s') : wpAny (model X.prog X.w) A (setAttr (.ref a) f u) Q E s := by
  obtain ⟨mA, O, r, wi, _, ho⟩ := ins_get I.hok e
  have hz : (fs.map (·.1)).length ≤ sizeLine := by rw [List.length_map, sizeLine_eq]; omega
  refine set_map I.kIn O c.sa c.po n.taker c.hd wi hz fun h' O' sb => h _ ?_
  have hd : ∃ o, h'.get? dx = some o := let ⟨o, _, _, e', _⟩ := O'.ns; ⟨o, e'⟩
  refine I.write (x := a) (e := dx) (by rw [e]; exact True.intro) (.inr ho) (fun b q hb z => (sb.2 b hb).trans z) hd ?_
  refine ⟨by rw [upd_ne O.ne]; exact ho, ?_, O.ne, O'.obj, _, O'.ns, fun g => ?_, fun g hg => ?_⟩
  · have := length_putF f y fs; omega
  · show RelO ((putF f y fs).lookup g) (if g = f then some u else mA g)
    rw [lookup_putF]
    by_cases q : g = f
    · rw [if_pos q, if_pos q]; exact ry
    · rw [if_neg q, if_neg q]; exact r g
  · by_cases q : g = f
    · rw [q]; exact (keys_putF f y fs).1
    · refine (keys_putF f y fs).2 g (wi g fun z => hg ?_)
      show (if g = f then some u else mA g) = none
      rw [if_neg q]; exact z

/-- a new instance, tracked, without attributes -/
theorem Inv.made (I : Inv X pins σ H s) : Inv X pins σ (upd (upd H s.heap.objs.size (.own (s.heap.objs.size + 1))) (s.heap.objs.size + 1) (.ins C s.heap.objs.size []))
    { s with heap := (s.heap.push PySem.W.emptyDict).push (PySem.W.instObj C s.heap.objs.size) } := by
  have e1 : (s.heap.push PySem.W.emptyDict).get? s.heap.objs.size = some PySem.W.emptyDict := Heap.get?_push_size s.heap rfl
  have e2 : ((s.heap.push PySem.W.emptyDict).push (PySem.W.instObj C s.heap.objs.size)).get? (s.heap.objs.size + 1) = some (PySem.W.instObj C s.heap.objs.size) := by
    have := Heap.get?_push_size (s.heap.push PySem.W.emptyDict) (o := PySem.W.instObj C s.heap.objs.size) rfl
    rwa [Heap.size_push] at this
  have e3 : (s.heap.push PySem.W.emptyDict).Ns s.heap.objs.size (fun _ => none) := ⟨PySem.W.emptyDict, #[], _, e1, rfl, (fun e he => absurd he (by simp)), fun _ => rfl⟩
  have I1 := I.laid (a := s.heap.objs.size) (o := .own (s.heap.objs.size + 1)) (h' := s.heap.push PySem.W.emptyDict) (t' := s.toks) (fun b u q => Heap.get?_push_of_some _ q) (Nat.le_refl _) ⟨_, e1⟩
  refine I1.laid (a := s.heap.objs.size + 1) (o := .ins C s.heap.objs.size []) (t' := s.toks) (fun b u q => Heap.get?_push_of_some _ q) (Nat.le_of_eq (Heap.size_push _ _)) ?_
  have ne : s.heap.objs.size ≠ s.heap.objs.size + 1 := Nat.ne_of_lt (Nat.lt_succ_self _)
  refine ⟨by rw [upd_ne ne, upd_same], Nat.zero_le _, ne, e2, fun _ => none, (Heap.Ns1.of_empty e3).at fun o q => Heap.get?_push_of_some _ q, fun _ => True.intro, fun y hy => absurd rfl hy⟩

/-- e.f where nothing but the object is asked: through attributeBase (super) and the last hold -/
theorem attr_of {prog : Program} {w : World} {env : Env} {e : Expr} {f : Str} {pos : Pos} {s : Shared} {Q : Value → Shared → Prop} (hb : attributeBase e f env (eval e env) = eval e env)
    (h : wpAny (model prog w) A (eval e env) (fun o s₁ => wpAny (model prog w) A (getAttr o f true) Q E s₁) E s) : wpAny (model prog w) A (eval (.Attribute e f pos) env) Q E s :=
  Attribute_any_ h (by rw [arm_eval_Attribute, hb])
end

/-- e.f = value -/
noncomputable def sFld (K : PySem.W.Frag) (ta tv : TE) (f : Str) : TS := fun D σ H => tv σ H fun y H1 => ta σ H1 fun x H2 => ∃ a C dx fs, x = .ref a ∧ H2 a = some (.ins C dx fs) ∧ Cls K C ∧ NoAttr K C f ∧ fs.length < 1000 ∧
  D.nx σ (upd H2 a (.ins C dx (putF f y fs)))
section
variable {X : Cx} {o e value : Expr} {f : Str} {pos pos' tpos : Pos} {ta tv : TE}
theorem ps_fld (ha : PE X o ta) (hv : PE X value tv) (hs : swapsWith value (some (.Attribute o f pos')) pos.line X.env = pure false) : PS X (.Assign [.Attribute o f pos'] value pos) (sFld X.K ta tv f) := by
  intro pins s σ H D I h
  refine plainObj_wpAny_Assign_Attribute (thn (hv pins s σ H _ I h) fun u s1 ⟨y, H1, I1, ry, q⟩ => thn (ha pins s1 σ H1 _ I1 q) fun ov s2 ⟨x, H2, I2, rx, a, C, dx, fs, ex, ea, c, n, l, q2⟩ => ?_) hs
  subst ex
  obtain rfl : ov = Value.ref a := rx
  exact setattr_ok I2 ea c n l ry fun s3 I3 => ⟨σ, _, I3, q2⟩
end

/-! ### isinstance -/
section
variable {X : Cx} {pins : List (Addr × Obj)} {σ : St} {H : Hp} {s : Shared} {A : Around} {E : Value → Shared → Prop} {Q : Value → Shared → Prop} {c : Value} {b : Bool}
/-- the type of a value, as the fragment's deciders take it; for an instance its class -/
inductive TyOf (K : PySem.W.Frag) (H : Hp) : V → Value → Prop where
  | non : TyOf K H .non (.type "NoneType")
  | bl (x : Bool) : TyOf K H (.bl x) (.type "bool")
  | int (i : Int) : TyOf K H (.int i) (.type "int")
  | str (x : Str) : TyOf K H (.str x) (.type "str")
  | flt (x : UInt64) : TyOf K H (.flt x) (.type "float")
  | lst {a : Addr} {xs : List V} (e : H a = some (.lst xs)) : TyOf K H (.ref a) (.type "list")
  | frz {a : Addr} {o : Obj} {xs : List V} (e : H a = some (.frz o (.lst xs))) : TyOf K H (.ref a) (.type "list")
  | tup {a : Addr} {xs : List V} (e : H a = some (.tup xs)) : TyOf K H (.ref a) (.type "tuple")
  | dK {a : Addr} {kvs : List (Key × V)} (e : Rd H a (.dK kvs)) : TyOf K H (.ref a) (.type "dict")
  | dT {a : Addr} {kvs : List (List Key × V)} (e : H a = some (.dT kvs)) : TyOf K H (.ref a) (.type "dict")
  | ins {a C dx : Addr} {fs : List (Str × V)} (e : H a = some (.ins C dx fs)) (cl : Cls K C) (ha : PySem.W.findIn K (.ref C) "__class__" = some (some (.builtin "object.__class__")))
      (hn : PySem.W.specialIn K (.builtin "object.__class__") "__get__" = some (some (.builtin "getset_descriptor.__get__"))) (htk : PySem.W.takesIn K (.builtin "object.__class__") = some true)
      (hm : PySem.W.mroIn K C (.type "object") = some true) : TyOf K H (.ref a) (.ref C)
/-- isinstance(x, c) for one class c, a built-in or an own one: kitOne's answer -/
theorem isinst_ok {x : V} {u t : Value} (I : Inv X pins σ H s) (rx : RelV x u) (ty : TyOf X.K H x t) (e : PySem.W.kitOne X.K t c = some b) (h : ∀ tk, Q (.bool b) { s with toks := tk }) :
    wpAny (model X.prog X.w) A (call (.builtin "isinstance") [u, c]) Q E s := by
  cases ty with
  | non => cases (show u = Value.none from rx); exact PySem.W.kia_one PySem.W.kitx_none I.kIn True.intro e (fun z => nomatch z) h
  | bl y => cases (show u = Value.bool y from rx); exact PySem.W.kia_one PySem.W.kitx_bool I.kIn True.intro e (fun z => nomatch z) h
  | int i => obtain ⟨t, q⟩ := (show ∃ t, u = Value.int i t from rx); cases q; exact PySem.W.kia_one PySem.W.kitx_int I.kIn True.intro e (fun z => nomatch z) h
  | str y => obtain ⟨t, q⟩ := (show ∃ t, u = Value.str y t from rx); cases q; exact PySem.W.kia_one PySem.W.kitx_str I.kIn True.intro e (fun z => nomatch z) h
  | flt y => obtain ⟨t, q⟩ := (show ∃ t, u = Value.float y t from rx); cases q; exact PySem.W.kia_one PySem.W.kitx_float I.kIn True.intro e (fun z => nomatch z) h
  | @lst a xs ea =>
    cases (show u = Value.ref a from rx)
    obtain ⟨_, _, n, _, h1⟩ := (show ObjOk X.prog X.w H s.heap a (.lst xs) from I.hok a _ ea)
    exact PySem.W.kia_one PySem.W.kitx_list I.kIn ⟨_, h1, rfl⟩ e (fun z => nomatch z) h
  | @frz a ob xs ea =>
    cases (show u = Value.ref a from rx)
    obtain ⟨_, _, _, n, _, h1⟩ := (show ObjOk X.prog X.w H s.heap a (.frz ob (.lst xs)) from I.hok a _ ea)
    exact PySem.W.kia_one PySem.W.kitx_list I.kIn ⟨_, h1, rfl⟩ e (fun z => nomatch z) h
  | @tup a xs ea =>
    cases (show u = Value.ref a from rx)
    obtain ⟨_, _, _, p⟩ := (show ObjOk X.prog X.w H s.heap a (.tup xs) from I.hok a _ ea)
    obtain ⟨o, h1, h2, _⟩ := p
    exact PySem.W.kia_one PySem.W.kitx_tuple I.kIn ⟨o, h1, h2⟩ e (fun z => nomatch z) h
  | @dK a kvs ea =>
    cases (show u = Value.ref a from rx)
    obtain ⟨_, _, vs, _, p⟩ := (show ObjOk X.prog X.w H s.heap a (.dK kvs) from ea.ok I.hok)
    obtain ⟨o, es, ep, h1, h2, _⟩ := p
    exact PySem.W.kia_one PySem.W.kitx_dict I.kIn ⟨o, h1, h2.1⟩ e (fun z => nomatch z) h
  | @dT a kvs ea =>
    cases (show u = Value.ref a from rx)
    obtain ⟨_, _, xs, _, o, es, ep, h1, h2, _⟩ := (show ObjOk X.prog X.w H s.heap a (.dT kvs) from I.hok a _ ea)
    exact PySem.W.kia_one PySem.W.kitx_dict I.kIn ⟨o, h1, h2.1⟩ e (fun z => nomatch z) h
  | @ins a C dx fs ea cl ha hn htk hm =>
    cases (show u = Value.ref a from rx)
    obtain ⟨mA, O, _⟩ := ins_get I.hok ea
    obtain ⟨od, J, _⟩ := O.look
    exact PySem.W.kia_one (PySem.W.kitx_own (cl.get _) cl.hd ha hn htk hm) I.kIn J e (fun z => nomatch z) h
end
end L2

namespace L2
open PySem PySem.Spec PyProof.Rows

/-! ### room -/
structure Room (k : Nat) (A : Around) : Prop where
  hd : A.handled = none
  dp : A.depth + 3 * k + 5 < recursionLimit
  un : A.units + 16 * k + 200 < cLine
  gd : A.guards = some []
theorem Room.mono {j k : Nat} {A : Around} (r : Room k A) (h : j ≤ k) : Room j A := ⟨r.hd, by have := r.dp; omega, by have := r.un; omega, r.gd⟩
theorem Room.deeper {k : Nat} {A : Around} (r : Room (k + 1) A) (env : Env) : Room k (A.deeper env) :=
  ⟨r.hd, by have := r.dp; show A.depth + 1 + 3 * k + 5 < _; omega, by have := r.un; show A.units + 3 + 16 * k + 200 < _; omega, r.gd⟩
theorem Room.in1 {k : Nat} {A : Around} (r : Room (k + 1) A) : Room k A.in1 :=
  ⟨r.hd, by have := r.dp; show A.depth + 3 * k + 5 < _; omega, by have := r.un; show A.units + 1 + 16 * k + 200 < _; omega, r.gd⟩
theorem make_depth {A : Around} {C : Addr} {us : List Value} {kw : List (Str × Value)} : (A.under (.builtin "type.__call__" ⟨.ref C :: us, kw⟩)).depth = A.depth + 1 := by
  first | rfl | simp [Around.under, Code.weight, Code.isCreation, Code.isGuard, Code.isCaller, Code.frames, Code.isFrame, guardIds]
theorem make_units {A : Around} {C : Addr} {us : List Value} {kw : List (Str × Value)} : (A.under (.builtin "type.__call__" ⟨.ref C :: us, kw⟩)).units = A.units + 1 := by
  first | rfl | simp [Around.under, Code.cUnits, Code.frames, Code.isFrame]
theorem Room.make {k : Nat} {A : Around} (r : Room (k + 1) A) (C : Addr) (us : List Value) (kw : List (Str × Value)) : Room k (A.under (.builtin "type.__call__" ⟨.ref C :: us, kw⟩)) :=
  ⟨r.hd, by have := r.dp; rw [make_depth]; omega, by have := r.un; rw [make_units]; omega, by rw [show (A.under (.builtin "type.__call__" ⟨.ref C :: us, kw⟩)).guards = pushGuards (Code.builtin "type.__call__" ⟨.ref C :: us, kw⟩).guards A.guards from rfl, r.gd]; first | rfl | simp [Code.guards, Code.isGuard, guardIds, pushGuards]⟩
theorem Room.depth {k : Nat} {A : Around} (r : Room k A) : A.depth < recursionLimit := by have := r.dp; omega
theorem Room.units {k : Nat} {A : Around} (r : Room k A) : A.units + 64 < cLine := by have := r.un; omega
/-! ### argument lists and displays -/
noncomputable def tNil : TA := fun _ H Q => Q [] H
noncomputable def tCons (ta : TE) (tr : TA) : TA := fun σ H Q => ta σ H fun x H1 => tr σ H1 fun xs H2 => Q (x :: xs) H2
section
variable {X : Cx} {e : Expr} {es : List Expr} {te : TE} {t : TA} {pos : Pos}
theorem pa_nil : PA X [] tNil := fun _ _ _ _ H Q I h => Calls.spliced_nil ⟨[], H, I, .nil, h⟩
theorem pa_cons (ha : PE X e te) (hr : PA X es t) (hs : starEach (e :: es) X.env = (false, eval e X.env) :: starEach es X.env := by rfl) : PA X (e :: es) (tCons te t) := by
  intro pos pins s σ H Q I h
  rw [hs]
  show wpAny _ _ (spliced ((false, eval e X.env) :: backTo pos (starEach es X.env))) _ _ s
  refine Calls.spliced_cons (thn (ha pins s σ H _ I h) fun u s1 ⟨x, H1, I1, r1, q1⟩ => ?_)
  exact thn (hr pos pins s1 σ H1 _ I1 q1) fun us s2 ⟨xs, H2, I2, r2, q2⟩ => ⟨x :: xs, H2, I2, .cons r1 r2, q2⟩

/-- a tuple, a list of written items -/
noncomputable def tTup (t : TA) : TE := fun σ H Q => t σ H fun xs H1 => xs.length ≤ sizeLine ∧ ∀ p, H1 p = none → Q (.ref p) (upd H1 p (.tup xs))
noncomputable def tLst (t : TA) : TE := fun σ H Q => t σ H fun xs H1 => xs.length ≤ sizeLine ∧ ∀ p, H1 p = none → Q (.ref p) (upd H1 p (.lst xs))
theorem pe_tup {x1} (h : PA X es t) : PE X (.Tuple es x1 pos) (tTup t) := by
  intro pins s σ H Q I hq
  refine wpAny_Tuple_spliced (thn (h pos pins s σ H _ I hq) fun us s1 ⟨xs, H1, I1, r, z, q⟩ => ⟨by rw [← r.length]; exact z, ?_⟩)
  have hf : H1 s1.heap.objs.size = none := I1.hok.fresh (Nat.le_refl _)
  refine ⟨.ref s1.heap.objs.size, upd H1 s1.heap.objs.size (.tup xs), I1.laid (t' := s1.toks) (fun b u e => Heap.get?_push_of_some _ e) (Nat.le_refl _) ?_, rfl, q _ hf⟩
  exact ⟨z, us, r, IsTupD.new _ _⟩
theorem pe_lst (h : PA X es t) : PE X (.List es pos) (tLst t) := by
  intro pins s σ H Q I hq
  refine wpAny_List_spliced (thn (h pos pins s σ H _ I hq) fun us s1 ⟨xs, H1, I1, r, z, q⟩ => ⟨by rw [← r.length]; exact z, ?_⟩)
  have hf : H1 s1.heap.objs.size = none := I1.hok.fresh (Nat.le_refl _)
  refine ⟨.ref s1.heap.objs.size, upd H1 s1.heap.objs.size (.lst xs), I1.laid (t' := s1.toks) (fun b u e => Heap.get?_push_of_some _ e) (Nat.le_refl _) ?_, rfl, q _ hf⟩
  exact ⟨z, us, 0, r, Heap.get?_push_size _ rfl⟩
end

/-! ### what a def promises -/
/-- a def's promise: the bound arguments in the parameters' order, the heap, the wanted end, the wanted exception -/
noncomputable abbrev Sp := List V → Hp → VK → XK → Prop
/-- how an exception lies behind a call (file 08 gives it): the callers' frames, abstract heap and state ahead of the call, the wish, the exception, the state -/
noncomputable abbrev CXT := List Env → Hp → Shared → XK → Value → Shared → Prop

/-- the state at a call -/
structure Env0 (P : Program) (w : World) (K : PySem.W.Frag) (mg : Str → Option Value) (base : Heap) (A : Around) (outer : List Env) (s : Shared) (H : Hp) : Prop where
  frames : A.frames = some outer
  mod : Mod K mg base
  bs : ∀ b o, base.get? b = some o → s.heap.get? b = some o ∧ H b = none
  bsz : base.objs.size ≤ s.heap.objs.size
  funs : s.heap.FunFrames base outer
  frf : ∀ b ∈ frs outer, H b = none
  hok : HOk P w H s.heap
  bare : AllBare s.gens
/-- a call's end -/
noncomputable def CE (outer : List Env) (P : Program) (w : World) (H : Hp) (s : Shared) (Q : VK) (u : Value) (s' : Shared) : Prop :=
  ∃ v H', s'.os = s.os ∧ AllBare s'.gens ∧ Un (frs outer) [] H H' s.heap s'.heap ∧ HOk P w H' s'.heap ∧ RelV v u ∧ Q v H'
noncomputable def CR (CX : CXT) (outer : List Env) (P : Program) (w : World) (H : Hp) (s : Shared) (Q : VK) (E : XK) (r : Result) (s' : Shared) : Prop :=
  match r with
  | .ok (.ret u) => CE outer P w H s Q u s'
  | .ok _ => False
  | .error e => CX outer H s E e s'
structure FnOk (P : Program) (w : World) (K : PySem.W.Frag) (mg : Str → Option Value) (base : Heap) (CX : CXT) (k : Nat) (f : Addr) (fd : FuncData) (ps : List Str) (sp : Sp) : Prop where
  len : ∀ vs H Q E, sp vs H Q E → vs.length = ps.length
  run : ∀ (A : Around) (outer : List Env) (s : Shared) (H : Hp) (args : Args) (us : List Value) (vs : List V) (Q : VK) (E : XK), Room k A → Env0 P w K mg base A outer s H → BindsTo s fd args (ps.zip us) → Vals vs us → sp vs H Q E →
    codeAny (model P w) A (.call (.ref f) args) (CR CX outer P w H s Q E) s
theorem FnOk.mono {P : Program} {w : World} {K : PySem.W.Frag} {mg : Str → Option Value} {base : Heap} {CX : CXT} {j k : Nat} {f : Addr} {fd : FuncData} {ps : List Str} {sp : Sp} (F : FnOk P w K mg base CX j f fd ps sp) (h : j ≤ k) :
    FnOk P w K mg base CX k f fd ps sp := ⟨F.len, fun A outer s H args us vs Q E hr => F.run A outer s H args us vs Q E (hr.mono h)⟩
/-- a weaker promise -/
theorem FnOk.imp {P : Program} {w : World} {K : PySem.W.Frag} {mg : Str → Option Value} {base : Heap} {CX : CXT} {k : Nat} {f : Addr} {fd : FuncData} {ps : List Str} {sp sp' : Sp} (F : FnOk P w K mg base CX k f fd ps sp)
    (h : ∀ vs H Q E, sp' vs H Q E → sp vs H Q E) : FnOk P w K mg base CX k f fd ps sp' :=
  ⟨fun vs H Q E q => F.len vs H Q E (h _ _ _ _ q), fun A outer s H args us vs Q E hr he hb hv hs => F.run A outer s H args us vs Q E hr he hb hv (h _ _ _ _ hs)⟩

theorem Env0.make {P : Program} {w : World} {K : PySem.W.Frag} {mg : Str → Option Value} {base : Heap} {A : Around} {outer : List Env} {s : Shared} {H : Hp} (e : Env0 P w K mg base A outer s H) (C : Addr) (us : List Value) (kw : List (Str × Value)) :
    Env0 P w K mg base (A.under (.builtin "type.__call__" ⟨.ref C :: us, kw⟩)) outer s H := ⟨by first | exact e.frames | (simpa [Around.under, Code.envs, Code.isFrame, pushEnvs] using e.frames), e.mod, e.bs, e.bsz, e.funs, e.frf, e.hok, e.bare⟩
theorem Env0.in1 {P : Program} {w : World} {K : PySem.W.Frag} {mg : Str → Option Value} {base : Heap} {A : Around} {outer : List Env} {s : Shared} {H : Hp} (e : Env0 P w K mg base A outer s H) :
    Env0 P w K mg base A.in1 outer s H := ⟨e.frames, e.mod, e.bs, e.bsz, e.funs, e.frf, e.hok, e.bare⟩

section
variable {X : Cx} {pins : List (Addr × Obj)} {σ : St} {H : Hp} {s s' : Shared}
/-- from a body: what a callee wants -/
theorem Inv.env0 (I : Inv X pins σ H s) : Env0 X.prog X.w X.K X.mg X.base X.A X.stack s H :=
  ⟨I.ok.frames, I.ok.mod, I.bs, Nat.le_trans I.ok.bsz I.sz, I.stack, I.stkFree, I.hok, I.bare⟩
/-- behind a call -/
theorem Inv.after {Q : VK} {u : Value} (I : Inv X pins σ H s) (h : CE X.stack X.prog X.w H s Q u s') : EP X pins σ Q u s' := by
  obtain ⟨v, H', os, bare, un, hok, r, q⟩ := h
  obtain ⟨hh, g, d, t, os'⟩ := s'
  obtain rfl : os' = s.os := os
  exact ⟨v, H', I.call (h' := hh) (g' := g) (d' := d) (t' := t) (ch := []) un hok bare (fun b z => absurd z (by simp)), r, q⟩
end

/-! ### calls -/
/-- f(..): the written arguments, then the defaults dvs; E: what is wanted of an exception -/
noncomputable def tCall (sp : Sp) (dvs : List V) (E : XK) (t : TA) : TE := fun σ H Q => t σ H fun vs H1 => sp (vs ++ dvs) H1 Q E
/-- C(..): a new instance and its dict, then __init__ -/
noncomputable def tMake (C : Addr) (sp : Sp) (dvs : List V) (E : XK) (t : TA) : TE := fun σ H Q => t σ H fun vs H1 => ∀ x dx, H1 x = none → H1 dx = none → dx ≠ x →
  sp (.ref x :: (vs ++ dvs)) (upd (upd H1 dx (.own x)) x (.ins C dx [])) (fun v H2 => v = .non ∧ Q (.ref x) H2) E

/-- how the parameters are bound: us the positional arguments, kw the keywords' values by name, ds the defaults that fill up -/
noncomputable def Binds (K : PySem.W.Frag) (fd : FuncData) (ps : List Str) (ds : List Value) : Prop :=
  ∀ (s : Shared) (us : List Value), K.In s.heap → (us ++ ds).length = ps.length → BindsTo s fd ⟨us, []⟩ (ps.zip (us ++ ds))
/-- every parameter is given -/
theorem Binds.all {K : PySem.W.Frag} {fd : FuncData} {ps : List Str} (h : ∀ us : List Value, us.length = ps.length → bindArgs fd ⟨us, []⟩ = pure (ps.zip us)) : Binds K fd ps [] := fun s us _ hl => by
  rw [List.append_nil] at hl ⊢
  exact .of_eq (h us hl)

/-- an exception of a callee reaches what this body wants of exceptions -/
noncomputable def Passes (CX : CXT) (X : Cx) (E : XK) : Prop := ∀ (pins : List (Addr × Obj)) (σ : St) (H : Hp) (s : Shared) (e : Value) (s' : Shared), Inv X pins σ H s → CX X.stack H s E e s' → X.xe e s'

section
variable {X : Cx} {CX : CXT} {k : Nat} {f C : Addr} {fd : FuncData} {ps : List Str} {sp : Sp} {dvs : List V} {ds : List Value} {E : XK} {x m : Str} {p pos apos : Pos} {e o : Expr} {es : List Expr} {ta : TE} {t : TA}

/-- the callee runs -/
theorem run_fn {pins : List (Addr × Obj)} {σ : St} {H : Hp} {s : Shared} {Q : VK} {us : List Value} {vs : List V} (F : FnOk X.prog X.w X.K X.mg X.base CX k f fd ps sp) (hr : Room k X.A) (hb : Binds X.K fd ps ds) (hd : Vals dvs ds) (hx : Passes CX X E)
    (I : Inv X pins σ H s) (r : Vals vs us) (h : sp (vs ++ dvs) H Q E) : wpAny (model X.prog X.w) X.A (call (.ref f) us) (EP X pins σ Q) X.xe s := by
  have r2 : Vals (vs ++ dvs) (us ++ ds) := r.append hd
  have hl : (us ++ ds).length = ps.length := by rw [← r2.length]; exact F.len _ _ _ _ h
  refine wpAny_call (codeAny_mono (F.run X.A X.stack s H ⟨us, []⟩ (us ++ ds) (vs ++ dvs) Q E hr I.env0 (hb s us I.kIn hl) r2 h) fun r s' hq => ?_)
  cases r with
  | error e => exact hx pins σ H s e s' I hq
  | ok fl =>
    cases fl with
    | ret u => exact I.after hq
    | next => exact False.elim hq
    | brk => exact False.elim hq
    | cont => exact False.elim hq

theorem pe_call (F : FnOk X.prog X.w X.K X.mg X.base CX k f fd ps sp) (hr : Room k X.A) (hg : Gl X x) (hm : X.mg x = some (.ref f)) (hk : PySem.W.keepIn X.K (.ref f) = true) (hb : Binds X.K fd ps ds) (hd : Vals dvs ds) (hx : Passes CX X E)
    (ha : PA X (e :: es) t) (hdb : (x == ("__debug__" : Str)) = false := by decide) (he : starEach (e :: es) X.env = (false, eval e X.env) :: starEach es X.env := by rfl) (hpl : (backTo pos (starEach es X.env)).any (·.1) = false := by rfl) :
    PE X (.Call (.Name x p) (e :: es) [] pos) (tCall sp dvs E t) := by
  intro pins s σ H Q I h
  refine wpAny_Call_Name_kw (ld_glob I hg hm ?_ hdb)
  refine PySem.W.callWith_K (h₀ := X.base) I.ok.mod.kin hk (thn (ha pos pins s σ H _ I h) fun us s1 ⟨vs, H1, I1, r, q⟩ => ⟨I1.kIn, ?_⟩) he hpl
  exact run_fn F hr hb hd hx I1 r q
/-- what a class must have to be made -/
structure Mk (K : PySem.W.Frag) (C f : Addr) : Prop where
  makes : PySem.W.makesIn K C = true
  init : PySem.W.findIn K (.ref C) "__init__" = some (some (.ref f))
  fn : PySem.W.isFn K (.ref f) = true
  kp : PySem.W.keepIn K (.ref C) = true

theorem run_make {pins : List (Addr × Obj)} {σ : St} {H : Hp} {s : Shared} {Q : VK} {us : List Value} {vs : List V} (M : Mk X.K C f) (F : FnOk X.prog X.w X.K X.mg X.base CX k f fd ps sp) (hr : Room (k + 1) X.A) (hb : Binds X.K fd ps ds) (hd : Vals dvs ds)
    (hx : Passes CX X E) (I : Inv X pins σ H s) (r : Vals vs us)
    (h : ∀ x dx, H x = none → H dx = none → dx ≠ x → sp (.ref x :: (vs ++ dvs)) (upd (upd H dx (.own x)) x (.ins C dx [])) (fun v H2 => v = .non ∧ Q (.ref x) H2) E) :
    wpAny (model X.prog X.w) X.A (call (.ref C) us) (EP X pins σ Q) X.xe s := by
  have hq := h (s.heap.objs.size + 1) s.heap.objs.size (I.hok.fresh (Nat.le_succ _)) (I.hok.fresh (Nat.le_refl _)) (Nat.ne_of_lt (Nat.lt_succ_self _))
  have I2 := Inv.made (C := C) I
  have r2 : Vals (V.ref (s.heap.objs.size + 1) :: (vs ++ dvs)) (Value.ref (s.heap.objs.size + 1) :: (us ++ ds)) := .cons rfl (r.append hd)
  have hl : (Value.ref (s.heap.objs.size + 1) :: us ++ ds).length = ps.length := by
    have e := r2.length
    rw [F.len _ _ _ _ hq] at e
    exact e.symm
  refine wpAny_call (make_map (f := f) I.kIn M.makes M.init (beq_iff_eq.mp M.fn) (codeAny_mono (F.run _ X.stack _ _ ⟨Value.ref (s.heap.objs.size + 1) :: us, []⟩ (Value.ref (s.heap.objs.size + 1) :: (us ++ ds)) _ _ E (hr.make C us [])
    (I2.env0.make C us []) (hb _ (Value.ref (s.heap.objs.size + 1) :: us) I2.kIn hl) r2 hq) fun r s' hq' => ?_))
  cases r with
  | error e => exact hx pins σ _ _ e s' I2 hq'
  | ok fl =>
    cases fl with
    | ret u =>
      obtain ⟨v, H', I3, rv, ev, q3⟩ := I2.after hq'
      subst ev
      exact ⟨rv, ⟨V.ref (s.heap.objs.size + 1), H', I3, rfl, q3⟩⟩
    | next => exact False.elim hq'
    | brk => exact False.elim hq'
    | cont => exact False.elim hq'
theorem pe_make (M : Mk X.K C f) (F : FnOk X.prog X.w X.K X.mg X.base CX k f fd ps sp) (hr : Room (k + 1) X.A) (hg : Gl X x) (hm : X.mg x = some (.ref C)) (hb : Binds X.K fd ps ds) (hd : Vals dvs ds) (hx : Passes CX X E)
    (ha : PA X (e :: es) t) (hdb : (x == ("__debug__" : Str)) = false := by decide) (he : starEach (e :: es) X.env = (false, eval e X.env) :: starEach es X.env := by rfl) (hpl : (backTo pos (starEach es X.env)).any (·.1) = false := by rfl) :
    PE X (.Call (.Name x p) (e :: es) [] pos) (tMake C sp dvs E t) := by
  intro pins s σ H Q I h
  refine wpAny_Call_Name_kw (ld_glob I hg hm ?_ hdb)
  refine PySem.W.callWith_K (h₀ := X.base) I.ok.mod.kin M.kp (thn (ha pos pins s σ H _ I h) fun us s1 ⟨vs, H1, I1, r, q⟩ => ⟨I1.kIn, ?_⟩) he hpl
  exact run_make M F hr hb hd hx I1 r q
end

section
variable {X : Cx} {CX : CXT} {k : Nat} {f C : Addr} {fd : FuncData} {ps ks : List Str} {sp : Sp} {E : XK} {x m : Str} {p pos apos kpos : Pos} {e o : Expr} {es : List Expr} {kws : List Keyword} {te ta : TE} {t tk : TA} {nm : Option Str}
/-- how a call with keywords binds: g puts the positional values us and the keywords' values ws (names ks) in the parameters' order, defaults among them -/
structure KBinds (K : PySem.W.Frag) (fd : FuncData) (ps ks : List Str) (g : List Value → List Value → List Value) (gV : List V → List V → List V) : Prop where
  to : ∀ (s : Shared) (us ws : List Value), K.In s.heap → (g us ws).length = ps.length → BindsTo s fd ⟨us, ks.zip ws⟩ (ps.zip (g us ws))
  rel : ∀ {vs : List V} {us : List Value} {zs : List V} {ws : List Value}, Vals vs us → Vals zs ws → Vals (gV vs zs) (g us ws)
variable {g : List Value → List Value → List Value} {gV : List V → List V → List V}
end

/-! ### a def's body keeps its promise -/
/-- names: the parameters first -/
structure FnScope (N P : List Str) (sc : Scope) : Prop where
  kind : sc.kind = .function
  co : sc.isCoroutine = false
  gen : sc.isGenerator = false
  nd : N.Nodup
  pre : N.take P.length = P
  par : ∀ x ∈ P, sc.names.lookup x = some .local ∨ sc.names.lookup x = some .cell
  nofree : ∀ y ∈ sc.names, y.2 ≠ .free

theorem bindL_out {kindOf : Str → Option NameKind} {x : Str} : ∀ {binds : List (Str × Value)} {m : Str → Option Value}, (∀ v, (x, v) ∉ binds) → bindL kindOf binds m x = m x
  | [], _, _ => rfl
  | (n, v) :: r, m, h => by
    unfold bindL
    rw [bindL_out fun w hw => h w (List.mem_cons_of_mem _ hw)]
    split
    · have : x ≠ n := by rintro rfl; exact h v List.mem_cons_self
      simp [this]
    · rfl
theorem bindC_out {kindOf : Str → Option NameKind} {x : Str} : ∀ {binds : List (Str × Value)} {m : Str → Option Value}, (∀ v, (x, v) ∉ binds) → bindC kindOf binds m x = m x
  | [], _, _ => rfl
  | (n, v) :: r, m, h => by
    unfold bindC
    rw [bindC_out fun w hw => h w (List.mem_cons_of_mem _ hw)]
    split
    · rfl
    · have : x ≠ n := by rintro rfl; exact h v List.mem_cons_self
      simp [this]
theorem bindL_get {kindOf : Str → Option NameKind} {x : Str} {v : Value} : ∀ {P : List Str} {vs : List Value} {i : Nat} {m : Str → Option Value}, P.Nodup → P[i]? = some x → vs[i]? = some v → kindOf x = some .local →
    bindL kindOf (P.zip vs) m x = some v
  | [], _, _, _, _, h, _, _ => by simp at h
  | _ :: _, [], _, _, _, _, h, _ => by simp at h
  | p :: P, w :: vs, 0, m, nd, h1, h2, hk => by
    simp at h1 h2; subst h1; subst h2
    show bindL kindOf ((p, w) :: P.zip vs) m p = _
    unfold bindL
    rw [bindL_out fun v hv => (List.nodup_cons.mp nd).1 (List.of_mem_zip hv).1, if_pos hk]
    simp
  | p :: P, w :: vs, i + 1, m, nd, h1, h2, hk => by
    show bindL kindOf ((p, w) :: P.zip vs) m x = _
    unfold bindL
    exact bindL_get (i := i) (List.nodup_cons.mp nd).2 (by simpa using h1) (by simpa using h2) hk
theorem bindC_get {kindOf : Str → Option NameKind} {x : Str} {v : Value} : ∀ {P : List Str} {vs : List Value} {i : Nat} {m : Str → Option Value}, P.Nodup → P[i]? = some x → vs[i]? = some v → kindOf x ≠ some .local →
    bindC kindOf (P.zip vs) m x = some v
  | [], _, _, _, _, h, _, _ => by simp at h
  | _ :: _, [], _, _, _, _, h, _ => by simp at h
  | p :: P, w :: vs, 0, m, nd, h1, h2, hk => by
    simp at h1 h2; subst h1; subst h2
    show bindC kindOf ((p, w) :: P.zip vs) m p = _
    unfold bindC
    rw [bindC_out fun v hv => (List.nodup_cons.mp nd).1 (List.of_mem_zip hv).1, if_neg hk]
    simp
  | p :: P, w :: vs, i + 1, m, nd, h1, h2, hk => by
    show bindC kindOf ((p, w) :: P.zip vs) m x = _
    unfold bindC
    exact bindC_get (i := i) (List.nodup_cons.mp nd).2 (by simpa using h1) (by simpa using h2) hk

/-- the names' values at the entry -/
noncomputable def start (N : List Str) (vs : List V) : St := vs.map some ++ List.replicate (N.length - vs.length) none

/-- the context of a def's body, at its entry; an exception leaves the frame, then lies as CX says -/
noncomputable def cxOf (CX : CXT) (P : Program) (w : World) (K : PySem.W.Frag) (mg : Str → Option Value) (base : Heap) (N : List Str) (qual : Str) (scope : Scope) (f : Addr) (cd : Value) (A : Around) (outer : List Env) (s : Shared) (H : Hp) (E : XK) : Cx where
  prog := P
  w := w
  K := K
  mg := mg
  base := base
  A := A.deeper (envOfC qual scope s.heap.objs.size f cd)
  N := N
  s₀ := s
  H₀ := H
  env := envOfC qual scope s.heap.objs.size f cd
  outer := outer
  stack := envOfC qual scope s.heap.objs.size f cd :: outer
  ex := []
  calm := true
  fn := fun _ => true
  pn := []
  xe := fun e s' => wpAny (model P w) (A.deeper (envOfC qual scope s.heap.objs.size f cd)) (leaving (envOfC qual scope s.heap.objs.size f cd) e) (fun _ s'' => CX outer H s E e s'') (fun e' s'' => CX outer H s E e' s'') s'

theorem cell_has {sc : Scope} {n : Nat} {x : Str} (h : sc.names.lookup x = some .cell) : ∃ c, (cellsFrom n sc.names []).lookup x = some c := by
  have q := PySem.W.cellsFrom_some sc.names n [] (.inl h)
  exact Option.isSome_iff_exists.mp q

theorem inv_start {CX : CXT} {P : Program} {w : World} {K : PySem.W.Frag} {mg : Str → Option Value} {base : Heap} {N ps : List Str} {qual : Str} {scope : Scope} {f : Addr} {cd : Value} {A : Around} {outer : List Env} {s s1 : Shared} {H : Hp} {E : XK} {us : List Value} {vs : List V}
    (S : FnScope N ps scope) (hd : A.handled = none) (e0 : Env0 P w K mg base A outer s H) (hl : vs.length = ps.length) (r : Vals vs us)
    (x : InCallC s s.heap.objs.size (bindL (envOfC qual scope s.heap.objs.size f cd).kindOf (ps.zip us) fun _ => none) (cellsFrom (s.heap.objs.size + 1) scope.names []) (bindC (envOfC qual scope s.heap.objs.size f cd).kindOf (ps.zip us) fun _ => none) s1) :
    Inv (cxOf CX P w K mg base N qual scope f cd A outer s H E) [] (start N vs) H s1 := by
  have hpl : ps.length ≤ N.length := by have := congrArg List.length S.pre; rw [List.length_take] at this; omega
  obtain ⟨h1, tk, rfl, hk⟩ := x.done
  have noA : ∀ b : Addr, b ∉ (cxOf CX P w K mg base N qual scope f cd A outer s H E).ex := fun b z => absurd (show b ∈ ([] : List Addr) from z) (by simp)
  refine ⟨⟨e0.mod, S.kind, rfl, rfl, Nat.le_refl _, fun y z c h1 h2 => ?_, fun y hy => ?_, fun y c _ h => ?_, fun _ => hd, Around.frames_deeper e0.frames, .inr ⟨rfl, rfl⟩, fun b z => absurd z (noA b), e0.bs, e0.bsz, fun b _ _ => noA b, fun b z => absurd z (noA b), e0.funs, e0.frf⟩,
    rfl, e0.bare, Un.kept hk, ⟨_, x.toInCall.ns, fun i y v h1 h2 h3 => ?_⟩, fun y c h => ⟨_, x.cell y c h⟩, e0.hok.fresh (Nat.le_refl _), fun y c h => ?_, fun p hp => absurd (show p ∈ ([] : List (Addr × Obj)) from hp) (by simp), e0.hok.kept hk, ?_⟩
  · exact name_of_addr x.apart (PySem.mem_of_lookup h1) (PySem.mem_of_lookup h2)
  · have hy : scope.names.lookup y = some .cell ∨ scope.names.lookup y = some .free := hy
    rcases hy with hy | hy
    · exact cell_has hy
    · exact absurd rfl (S.nofree _ (PySem.mem_of_lookup hy))
  · exact Nat.le_of_lt (x.above y c (PySem.mem_of_lookup h))
  · have hi : i < vs.length := by
      unfold start at h2
      by_cases hi : i < vs.length
      · exact hi
      · rw [List.getElem?_append_right (by simpa using hi)] at h2
        rw [List.getElem?_replicate] at h2
        split at h2 <;> cases h2
    have ha : vs[i]? = some v := by
      unfold start at h2
      rw [List.getElem?_append_left (by simpa using hi), List.getElem?_map] at h2
      cases e : vs[i]? with
      | none => rw [e] at h2; cases h2
      | some a => rw [e] at h2; cases h2; rfl
    obtain ⟨u, hu, rv⟩ := r.get ha
    have hp : ps[i]? = some y := by
      rw [← S.pre, List.getElem?_take_of_lt (by omega)]; exact h1
    have ndP : ps.Nodup := by rw [← S.pre]; exact S.nd.sublist (List.take_sublist _ _)
    refine ⟨u, rv, ?_⟩
    rcases S.par y (List.mem_of_getElem? hp) with k | k
    · exact .inl ⟨k, bindL_get ndP hp hu k⟩
    · obtain ⟨c, e⟩ := cell_has (n := s.heap.objs.size + 1) k
      refine .inr ⟨.inl k, c, e, ?_⟩
      have q := x.cell y c e
      rw [bindC_get ndP hp hu (by show scope.names.lookup y ≠ _; rw [k]; decide)] at q
      exact q
  · exact e0.hok.fresh (Nat.le_of_lt (x.above y c (PySem.mem_of_lookup h)))
  · unfold start
    show _ = N.length
    rw [List.length_append, List.length_map, List.length_replicate]
    omega

/-- THE RULE: a def (or a method) of the text, by its body. The body's reading t is chosen for each entry; it is run at the parameters' values -/
theorem fn_of {CX : CXT} {P : Program} {w : World} {K : PySem.W.Frag} {mg : Str → Option Value} {base : Heap} {k : Nat} {f : Addr} {name qual : Str} {params : Arguments} {body : List Stmt} {scope : Scope} {dV kV doc pm cdv ct oc : Value} {an od : Option Addr}
    {osl : Array (Option Value)} {N ps : List Str} {sp : Sp} (lk : K.lookup f = some ⟨oc, od, .func (PySem.W.fnOf name qual params body scope dV kV doc pm an cdv ct), osl⟩) (hcd : PySem.W.codeIn K cdv qual = true) (S : FnScope N ps scope)
    (len : ∀ vs H Q E, sp vs H Q E → vs.length = ps.length)
    (hbody : ∀ (A : Around) (outer : List Env) (s : Shared) (H : Hp) (vs : List V) (Q : VK) (E : XK), Room k (A.deeper (envOfC qual scope s.heap.objs.size f cdv)) → sp vs H Q E →
      ∃ t, PSs (cxOf CX P w K mg base N qual scope f cdv A outer s H E) body t ∧ t { nx := fun _ H' => Q .non H', rt := Q } (start N vs) H) :
    FnOk P w K mg base CX (k + 1) f (PySem.W.fnOf name qual params body scope dV kV doc pm an cdv ct) ps sp := by
  refine ⟨len, fun A outer s H args us vs Q E hr e0 hb r hsp => ?_⟩
  have hl := len _ _ _ _ hsp
  have KX : K.In s.heap := e0.mod.kin.keeps fun b o e => (e0.bs b o e).1
  have lim : s.heap.NoLimit := e0.mod.nolimit.keeps fun b o e => (e0.bs b o e).1
  have hkind : ∀ y ∈ ps.zip us, scope.names.lookup y.1 = some .local ∨ (scope.names.lookup y.1 = some .cell ∧ ((cellsFrom (s.heap.objs.size + 1) scope.names []).lookup y.1).isSome = true) := fun ⟨n, v⟩ hy => by
    rcases S.par n (List.of_mem_zip hy).1 with q | q
    · exact .inl q
    · exact .inr ⟨q, PySem.W.cellsFrom_some _ _ _ (.inl q)⟩
  refine codeAny_call_function hr.depth (KX _ _ lk) rfl S.co S.gen rfl (PySem.W.codeRec_of KX hcd) (hb _ _ _ _ ?_)
  refine wpAny_newFunctionEnv_cells S.kind hkind fun env he s1 x => ?_
  subst he
  refine ⟨lim.keeps x.toInCall.keep, codeAny_func ?_⟩
  obtain ⟨t, ht, hq⟩ := hbody A outer s H vs Q E (hr.deeper _) hsp
  have I : Inv (cxOf CX P w K mg base N qual scope f cdv A outer s H E) [] (start N vs) H s1 := inv_start S hr.hd e0 hl r x
  refine wpAny_mono (ht [] s1 (start N vs) H _ I hq) (fun fl s' hs => ?_) fun e s' hs => hs
  have fin : ∀ {σ' : St} {H' : Hp} {v : V} {u : Value}, Inv (cxOf CX P w K mg base N qual scope f cdv A outer s H E) [] σ' H' s' → RelV v u → Q v H' → CE outer P w H s Q u s' :=
    fun {σ' H' v u} J rv q => ⟨v, H', J.os, J.bare, J.base, J.hok, rv, q⟩
  cases fl with
  | ret u =>
    obtain ⟨v, σ', H', J, rv, q⟩ := hs
    exact fin J rv q
  | next =>
    obtain ⟨σ', H', J, q⟩ := hs
    exact fin (v := V.non) (u := Value.none) J rfl q
  | brk =>
    obtain ⟨_, _, _, q⟩ := hs
    exact False.elim q
  | cont =>
    obtain ⟨_, _, _, q⟩ := hs
    exact False.elim q
end L2

namespace L2
open PySem PySem.Spec PyProof.Rows
section
variable {X : Cx} {x : Str} {p pos : Pos} {e : Expr} {es : List Expr} {t : TA} {id T : String} {r : List V → Hp → VK → Prop}

noncomputable def tCB (r : List V → Hp → VK → Prop) (t : TA) : TE := fun σ H Q => t σ H fun vs H1 => r vs H1 Q
/-- f(e, ..), f a built-in function -/
theorem pe_callB (hc : CallR X (.builtin id) r) (hg : Gl X x) (hm : X.mg x = none) (hv : bootBuiltins x = some (.builtin id)) (ha : PA X (e :: es) t) (hn : x ≠ "__name__" := by decide) (hdb : (x == ("__debug__" : Str)) = false := by decide)
    (he : starEach (e :: es) X.env = (false, eval e X.env) :: starEach es X.env := by rfl) (hpl : (backTo pos (starEach es X.env)).any (·.1) = false := by rfl) : PE X (.Call (.Name x p) (e :: es) [] pos) (tCB r t) := by
  intro pins s σ H Q I h
  refine wpAny_Call_Name_kw (ld_blt I hg hm hv ?_ hn hdb)
  exact PyProof.Rows.callWith_builtin1 (thn (ha pos pins s σ H _ I h) fun us s1 ⟨vs, H1, I1, r1, q1⟩ => hc pins s1 σ H1 vs us Q I1 r1 q1) he hpl
/-- T(e, ..), T a built-in type -/
theorem pe_callTy (hc : CallR X (.type T) r) (hg : Gl X x) (hm : X.mg x = none) (hv : bootBuiltins x = some (.type T)) (ha : PA X (e :: es) t) (hn : x ≠ "__name__" := by decide) (hdb : (x == ("__debug__" : Str)) = false := by decide)
    (he : starEach (e :: es) X.env = (false, eval e X.env) :: starEach es X.env := by rfl) (hpl : (backTo pos (starEach es X.env)).any (·.1) = false := by rfl) : PE X (.Call (.Name x p) (e :: es) [] pos) (tCB r t) := by
  intro pins s σ H Q I h
  refine wpAny_Call_Name_kw (ld_blt I hg hm hv ?_ hn hdb)
  exact PyProof.Rows.callWith_type1 (thn (ha pos pins s σ H _ I h) fun us s1 ⟨vs, H1, I1, r1, q1⟩ => hc pins s1 σ H1 vs us Q I1 r1 q1) he hpl
end
end L2

namespace HT
open PySem PyProof.Rows

/-- t < u of tuples of ints -/
noncomputable def lexLt : List Int → List Int → Bool
  | [], [] => false
  | [], _ :: _ => true
  | _ :: _, [] => false
  | x :: xs, y :: ys => if x = y then lexLt xs ys else decide (x < y)
section
open PySem.SeqAt
open PySem.AutoSeq1 (wpAny_loadPart')
open PySem.MeetsSeq PySem.MeetsSeq2 PySem.MeetsSeq3

end

section
variable {prog : Program} {w : World} {A : Around} {E : Value → Shared → Prop} {s : Shared}

/-- t + u, t not empty -/
theorem cat_tup {t b : Addr} {vs ws : List Value} {Q : Value → Shared → Prop} (ht : IsTup s.heap t vs.toArray) (hb : IsTup s.heap b ws.toArray) (hv : vs ≠ [])
    (h1 : ws = [] → Q (.ref t) s) (h2 : ws ≠ [] → Q (.ref s.heap.objs.size) { s with heap := s.heap.push { cls := .type "tuple", data := .seq (vs ++ ws).toArray } })
    (hsz : vs.length + ws.length ≤ sizeLine) : wpAny (model prog w) A (binaryOp .Add (.ref t) (.ref b)) Q E s := by
  obtain ⟨⟨cls, dd, data, sl⟩, ho, hc, n, hd⟩ := id ht
  obtain ⟨⟨cls2, dd2, data2, sl2⟩, ho2, hc2, n2, hd2⟩ := id hb
  simp only at hc hd hc2 hd2
  subst hc hd hc2 hd2
  have e : vs.toArray ++ ws.toArray = (vs ++ ws).toArray := by simp
  by_cases hw : ws = []
  · exact concat_meets ⟨_, ho, rfl⟩ ⟨_, ho2, rfl⟩ noFill_tuple_add seq_tuple_add PySem.F.slot_tuple_add PySem.F.entry_tuple_add (PySem.F.args_tuple_add_2 _ _)
      (tuple_addW1 t b vs.toArray ws.toArray n n2 dd dd2 sl sl2 (by simpa using hv) (by simp [hw])) ⟨ho, ho2, h1 hw⟩
  · refine concat_meets ⟨_, ho, rfl⟩ ⟨_, ho2, rfl⟩ noFill_tuple_add seq_tuple_add PySem.F.slot_tuple_add PySem.F.entry_tuple_add (PySem.F.args_tuple_add_2 _ _)
      (tuple_addW2 t b vs.toArray ws.toArray n n2 dd dd2 sl sl2 (by simpa using hv) (by simpa using hw) (by rw [List.size_toArray, List.size_toArray]; exact hsz)) ⟨ho, ho2, ?_⟩
    rw [e]
    exact h2 hw

/-! ### t[a:b], not the whole -/
/-- a slice's bound as a place among n (d where it is left out) -/
noncomputable def sIx (n d : Nat) : Option Int → Nat
  | none => d
  | some v => if v < 0 then (v + (n : Int)).toNat else min v.toNat n
theorem sIx_none (n d : Nat) : sIx n d none = d := rfl
theorem sIx_nat (n d k : Nat) : sIx n d (some (k : Int)) = min k n := by
  show (if (k : Int) < 0 then ((k : Int) + (n : Int)).toNat else min (k : Int).toNat n) = min k n
  rw [if_neg (by omega), Int.toNat_natCast]
theorem sIx_le (n d : Nat) (hd : d ≤ n) (o : Option Int) : sIx n d o ≤ n := by
  cases o with
  | none => exact hd
  | some v =>
    show (if v < 0 then (v + (n : Int)).toNat else min v.toNat n) ≤ n
    by_cases hv : v < 0
    · rw [if_pos hv]; omega
    · rw [if_neg hv]; exact Nat.min_le_right _ _
theorem clip_eq (v : Int) (n d : Nat) : (if v < 0 then max (v + (n : Int)) 0 else min v (n : Int)) = ((sIx n d (some v) : Nat) : Int) := by
  show (if v < 0 then max (v + (n : Int)) 0 else min v (n : Int)) = (((if v < 0 then (v + (n : Int)).toNat else min v.toNat n) : Nat) : Int)
  by_cases hv : v < 0
  · simp only [if_pos hv]; omega
  · simp only [if_neg hv]; omega
theorem adjust_gen (lo hi : Option Int) (n : Nat) : Builtin.Slice.sliceAdjust lo hi 1 (n : Int) = (((sIx n 0 lo : Nat) : Int), ((sIx n n hi : Nat) : Int)) := by
  have h1 : ¬ ((1 : Int) < 0) := by omega
  unfold Builtin.Slice.sliceAdjust
  simp only [h1, if_false]
  refine Prod.ext ?_ ?_
  · cases lo with
    | none => rfl
    | some v => exact clip_eq v n 0
  · cases hi with
    | none => rfl
    | some v => exact clip_eq v n n
theorem places_gen (i j : Nat) : Builtin.Slice.slicePlaces (i : Int) (j : Int) 1 = j - i := by
  unfold Builtin.Slice.slicePlaces
  have h1 : (1 : Int) > 0 := by omega
  simp only [h1, if_true, Int.ediv_one]
  split <;> omega
theorem slicePart_ {v : Value} {o : Option Int} {Q : Option Int → Shared → Prop} (p : IsPart v o) (h : Q o s) : wpAny (model prog w) A (Builtin.Slice.slicePartIndex v) Q E s := by
  cases p with
  | none => exact slicePart_none h
  | int i t => exact slicePart_int h
theorem sliceApplied_gen {sl : Addr} {vl vu : Value} {lo hi : Option Int} {n : Nat} {Q : Int × Int × Nat → Shared → Prop} (hs : s.heap.IsSliceOf sl vl vu .none) (pl : IsPart vl lo) (pu : IsPart vu hi)
    (h : Q (((sIx n 0 lo : Nat) : Int), 1, sIx n n hi - sIx n 0 lo) s) : wpAny (model prog w) A (Builtin.Slice.sliceApplied (.ref sl) (pure (n : Int))) Q E s := by
  obtain ⟨os, hos, hcs, hds⟩ := id hs
  unfold Builtin.Slice.sliceApplied Builtin.Slice.sliceFields
  refine wpAny_bind (wpAny_bind (wpAny_field hos hds (x := vl) rfl (wpAny_bind (wpAny_field hos hds (x := vu) rfl (wpAny_bind (wpAny_field hos hds (x := .none) rfl (wpAny_pure ?_)))))))
  refine wpAny_bind (slicePart_none ?_)
  show wpAny _ _ (if ((1 : Int) == 0) = true then _ else _) _ _ s
  rw [if_neg (by decide)]
  refine wpAny_bind (slicePart_ pl (wpAny_bind (slicePart_ pu (wpAny_bind (wpAny_pure ?_)))))
  show wpAny _ _ (match Builtin.Slice.sliceAdjust lo hi 1 (n : Int) with | (lo, hi) => pure (lo, (1 : Int), Builtin.Slice.slicePlaces lo hi 1)) _ _ s
  rw [adjust_gen lo hi n]
  show wpAny _ _ (pure (((sIx n 0 lo : Nat) : Int), (1 : Int), Builtin.Slice.slicePlaces ((sIx n 0 lo : Nat) : Int) ((sIx n n hi : Nat) : Int) 1)) _ _ s
  rw [places_gen]
  exact wpAny_pure h
theorem pick_gen (xs : Array Value) (i k : Nat) : ((List.range k).filterMap fun (m : Nat) => xs[((i : Int) + (m : Int) * 1).toNat]?).toArray = ((xs.toList.drop i).take k).toArray := by
  have e : (fun (m : Nat) => xs[((i : Int) + (m : Int) * 1).toNat]?) = fun m => xs[i + m]? := by
    funext m
    have : ((i : Int) + (m : Int) * 1).toNat = i + m := by omega
    rw [this]
  rw [e]
  have := pick_run xs i k
  rw [List.filterMap_map] at this
  have e2 : ((fun x => xs[x]?) ∘ fun x => i + x) = fun m => xs[i + m]? := rfl
  rw [e2] at this
  rw [this]

theorem getItem_tuple_cut {t sl : Addr} {items : Array Value} {vl vu : Value} {lo hi : Option Int} {Q : Value → Shared → Prop} (ht : IsTup s.heap t items) (hs : s.heap.IsSliceOf sl vl vu .none) (pl : IsPart vl lo) (pu : IsPart vu hi)
    (hw : ¬ (sIx items.size 0 lo = 0 ∧ sIx items.size items.size hi = items.size))
    (h : Q (.ref s.heap.objs.size) { s with heap := s.heap.push { cls := .type "tuple", data := .seq ((items.toList.drop (sIx items.size 0 lo)).take (sIx items.size items.size hi - sIx items.size 0 lo)).toArray } })
    (hsz : items.size ≤ sizeLine) : wpAny (model prog w) A (getItem (.ref t) (.ref sl)) Q E s := by
  have htake : sizeOk (.seq ((items.toList.drop (sIx items.size 0 lo)).take (sIx items.size items.size hi - sIx items.size 0 lo)).toArray) := by
    show ((items.toList.drop (sIx items.size 0 lo)).take (sIx items.size items.size hi - sIx items.size 0 lo)).toArray.size ≤ sizeLine
    rw [List.size_toArray, List.length_take, List.length_drop, Array.length_toList]
    omega
  have hj : sIx items.size items.size hi ≤ items.size := sIx_le _ _ (Nat.le_refl _) hi
  obtain ⟨os, hos, hcs, hds⟩ := id hs
  have hTs : s.TypeIs (.ref sl) "slice" := ⟨os, hos, hcs⟩
  unfold getItem
  try with_reducible refine wpAny_holding ?_
  first | refine wpAny_bind (wpAny_pure ?_) | skip
  refine wpAny_bind (wpAny_sequenceKey ht.typeIs (by decide) ?_)
  refine wpAny_bind (wpAny_callSpecial?_slot (name := Str.ofString "__getitem__") ht.typeIs PyProof.Rows.slot_tuple_getitem
    (wpAny_call_entry PyProof.Rows.slot_tuple_getitem ht.typeIs entry_tuple_getitem ?_ (args_tuple_getitem _ _)))
  show wpAny _ _ (Builtin.Tuple.tupleItemsOf (.ref t) >>= _) _ _ s
  refine wpAny_bind (tupleItemsOf_ ht ?_)
  refine wpAny_bind (wpAny_typeOf hTs ?_)
  rw [if_pos (by decide)]
  refine wpAny_bind (sliceApplied_gen hs pl pu ?_)
  have hno : ¬ ((((sIx items.size 0 lo : Nat) : Int) == 0 && (1 : Int) == 1 && (sIx items.size items.size hi - sIx items.size 0 lo) == items.size) = true) := by
    intro q
    rw [Bool.and_eq_true, Bool.and_eq_true] at q
    have q1 : ((sIx items.size 0 lo : Nat) : Int) = 0 := eq_of_beq q.1.1
    have q2 : sIx items.size items.size hi - sIx items.size 0 lo = items.size := eq_of_beq q.2
    exact hw ⟨by omega, by omega⟩
  show wpAny _ _ (if (((sIx items.size 0 lo : Nat) : Int) == 0 && (1 : Int) == 1 && (sIx items.size items.size hi - sIx items.size 0 lo) == items.size) = true then _ else _) _ _ s
  rw [if_neg hno, pick_gen]
  first
    | exact wpAny_bind (m := Builtin.Tuple.tupleExact _) (wpAny_newObj_type (wpAny_pure ⟨_, rfl, wpAny_pure h⟩) htake)
    | exact wpAny_bind (m := Builtin.Tuple.tupleExact _) (wpAny_newObj_type (wpAny_bind (wpAny_pure (wpAny_pure ⟨_, rfl, wpAny_pure h⟩))) htake)
    | exact wpAny_bind (wpAny_bind (m := Builtin.Tuple.tupleExact _) (wpAny_newObj_type (wpAny_pure (wpAny_pure ⟨_, rfl, wpAny_pure h⟩)) htake))
    | exact wpAny_bind (wpAny_bind (m := Builtin.Tuple.tupleExact _) (wpAny_newObj_type (wpAny_pure ⟨_, rfl, wpAny_pure h⟩) htake))
end
end HT

namespace L2
open PySem PySem.Spec PyProof.Rows

/-! ### the parts of a slice -/
noncomputable abbrev TO := St → Hp → (Option Int → Hp → Prop) → Prop
/-- a slice's part (left out, or an int) -/
noncomputable def PO (X : Cx) (e : Option Expr) (t : TO) : Prop :=
  ∀ (pins : List (Addr × Obj)) (s : Shared) (σ : St) (H : Hp) (Q : Option Int → Hp → Prop), Inv X pins σ H s → t σ H Q →
    wpAny (model X.prog X.w) X.A (evalPart e X.env) (fun u s' => ∃ o H', Inv X pins σ H' s' ∧ IsPart u o ∧ Q o H') X.xe s
noncomputable def tNoPart : TO := fun _ H Q => Q none H
noncomputable def tPart (t : TE) : TO := fun σ H Q => t σ H fun x H1 => ∃ i, x = .int i ∧ Q (some i) H1

section
variable {X : Cx} {e : Expr} {te : TE} {lo hi : Option Expr} {tl th : TO} {pos p2 : Pos}

theorem po_none : PO X none tNoPart := by
  intro pins s σ H Q I h
  rw [evalPart_none]
  exact wpAny_pure ⟨none, H, I, .none, h⟩
theorem po_some (h : PE X e te) : PO X (some e) (tPart te) := by
  intro pins s σ H Q I hw
  rw [evalPart_some]
  refine thn (h pins s σ H _ I hw) fun u s1 ⟨x, H1, I1, r1, q1⟩ => ?_
  obtain ⟨i, rfl, q⟩ := q1
  obtain ⟨t, rfl⟩ := r1
  exact ⟨some i, H1, I1, .int i t, q⟩

/-- what a slice of a value is, by values: the slice object stands at sl -/
noncomputable def SlR (X : Cx) (r : V → Option Int → Option Int → Hp → VK → Prop) : Prop :=
  ∀ (pins : List (Addr × Obj)) (s : Shared) (σ : St) (H : Hp) (x : V) (v vl vu : Value) (lo hi : Option Int) (sl : Addr) (Q : VK), Inv X pins σ H s → RelV x v → s.heap.IsSliceOf sl vl vu .none → IsPart vl lo → IsPart vu hi → r x lo hi H Q →
    ∃ T id, typeLookup (.type T) "__getitem__" = pure (some (.builtin id)) ∧ s.TypeIs v T ∧ wpAny (model X.prog X.w) X.A (getItem v (.ref sl)) (EP X pins σ Q) X.xe s
theorem SlR.or {r r' : V → Option Int → Option Int → Hp → VK → Prop} (h : SlR X r) (h' : SlR X r') : SlR X (fun x lo hi H Q => r x lo hi H Q ∨ r' x lo hi H Q) := by
  intro pins s σ H x v vl vu lo hi sl Q I rx hs pl pu q
  rcases q with q | q
  · exact h pins s σ H x v vl vu lo hi sl Q I rx hs pl pu q
  · exact h' pins s σ H x v vl vu lo hi sl Q I rx hs pl pu q
noncomputable def tSl (r : V → Option Int → Option Int → Hp → VK → Prop) (te : TE) (tl th : TO) : TE := fun σ H Q => te σ H fun x H1 => tl σ H1 fun l H2 => th σ H2 fun u H3 => r x l u H3 Q
/-- a[lo:hi], any a -/
theorem pe_slice {r : V → Option Int → Option Int → Hp → VK → Prop} (hr : SlR X r) (he : PE X e te) (hl : PO X lo tl) (hu : PO X hi th) : PE X (.Subscript e (.Slice lo hi none p2) pos) (tSl r te tl th) := by
  intro pins s σ H Q I h
  refine Subscript_ (thn (he pins s σ H _ I h) fun v s1 ⟨x, H1, I1, r1, q1⟩ => ?_)
  refine wpAny_Slice (thn (hl pins s1 σ H1 _ I1 q1) fun vl s2 ⟨l, H2, I2, pl, q2⟩ => thn (hu pins s2 σ H2 _ I2 q2) fun vu s3 ⟨u, H3, I3, pu, q3⟩ => ?_)
  rw [evalPart_none]
  refine wpAny_pure ?_
  have I4 : Inv X pins σ H3 { s3 with heap := s3.heap.push { cls := .type "slice", data := .fields #[vl, vu, .none] } } := I3.kept (t' := s3.toks) fun b ob q => Heap.get?_push_of_some _ q
  obtain ⟨T, id, hT, ht, hg⟩ := hr pins { s3 with heap := s3.heap.push { cls := .type "slice", data := .fields #[vl, vu, .none] } } σ H3 x v vl vu l u s3.heap.objs.size Q I4 r1 (Heap.IsSliceOf.new ..) pl pu q3
  show wpAny (model X.prog X.w) X.A (subscriptTail e (.Slice lo hi none p2) v (.ref s3.heap.objs.size)) (EP X pins σ Q) X.xe { s3 with heap := s3.heap.push { cls := .type "slice", data := .fields #[vl, vu, .none] } }
  exact tail_any (ops := [.ref s3.heap.objs.size, v]) ht hT hg (by with_unfolding_all rfl)

/-- the items of xs[lo:hi] -/
noncomputable def cutV (xs : List V) (lo hi : Option Int) : List V := (xs.drop (HT.sIx xs.length 0 lo)).take (HT.sIx xs.length xs.length hi - HT.sIx xs.length 0 lo)
theorem cutV_length (xs : List V) (lo hi : Option Int) : (cutV xs lo hi).length ≤ xs.length := by
  unfold cutV
  rw [List.length_take, List.length_drop]
  omega
/-- t[lo:hi], not the whole of it (the whole would be t itself) -/
noncomputable def rSlT (K : PySem.W.Frag) : V → Option Int → Option Int → Hp → VK → Prop := fun x lo hi H Q => ∃ a xs, x = .ref a ∧ SqT K H a xs ∧
  ¬ (HT.sIx xs.length 0 lo = 0 ∧ HT.sIx xs.length xs.length hi = xs.length) ∧ ∀ p, H p = none → Q (.ref p) (upd H p (.tup (cutV xs lo hi)))
theorem sl_tup : SlR X (rSlT X.K) := by
  intro pins s σ H x v vl vu lo hi sl Q I rx hs pl pu h
  obtain ⟨a, xs, rfl, hx, hw, q⟩ := h
  cases rx
  obtain ⟨its, r, ht, hz⟩ := I.tuple hx
  have hlen : its.toArray.size = xs.length := by rw [List.size_toArray]; exact r.length.symm
  refine ⟨"tuple", _, PyProof.Rows.slot_tuple_getitem.lookup, ht.typeIs, ?_⟩
  refine HT.getItem_tuple_cut ht hs pl pu (by rw [hlen]; exact hw) ?_ (by rw [hlen]; exact hz)
  rw [hlen]
  refine ⟨.ref s.heap.objs.size, _, I.laid (t' := s.toks) (o := .tup (cutV xs lo hi)) (fun b ob q => Heap.get?_push_of_some _ q) (Nat.le_refl _) ?_, rfl, q _ (I.hok.fresh (Nat.le_refl _))⟩
  exact ⟨Nat.le_trans (cutV_length xs lo hi) hz, _, (r.drop (HT.sIx xs.length 0 lo)).take (HT.sIx xs.length xs.length hi - HT.sIx xs.length 0 lo), IsTupD.new _ _⟩

/-- t + u, t not empty: u empty gives t itself -/
noncomputable def rCatT (K : PySem.W.Frag) : R2 := fun x y H Q => ∃ a b xs ys, x = .ref a ∧ y = .ref b ∧ SqT K H a xs ∧ SqT K H b ys ∧ xs ≠ [] ∧ xs.length + ys.length ≤ sizeLine ∧
  (ys = [] → Q (.ref a) H) ∧ (ys ≠ [] → ∀ p, H p = none → Q (.ref p) (upd H p (.tup (xs ++ ys))))
theorem Vals.nil_iff {xs : List V} {us : List Value} (r : Vals xs us) : us = [] ↔ xs = [] := by
  cases r with
  | nil => simp
  | cons _ _ => simp
theorem op_catT : OpR X (binaryOp .Add) (rCatT X.K) := by
  intro pins s σ H x y v u Q I rx ry h
  obtain ⟨a, b, xs, ys, rfl, rfl, ha, hb, hx, hz, q1, q2⟩ := h
  cases rx
  cases ry
  obtain ⟨its, r1, p1, _⟩ := I.tuple ha
  obtain ⟨its2, r2, p2, _⟩ := I.tuple hb
  refine HT.cat_tup p1 p2 (fun z => hx (r1.nil_iff.mp z)) (fun z => ⟨.ref a, H, I, rfl, q1 (r2.nil_iff.mp z)⟩) (fun z => ?_) (by rw [← r1.length, ← r2.length]; exact hz)
  refine ⟨.ref s.heap.objs.size, _, I.laid (t' := s.toks) (o := .tup (xs ++ ys)) (fun b ob q => Heap.get?_push_of_some _ q) (Nat.le_refl _) ?_, rfl, q2 (fun w => z (r2.nil_iff.mpr w)) _ (I.hok.fresh (Nat.le_refl _))⟩
  exact ⟨by rw [List.length_append]; exact hz, _, r1.append r2, IsTupD.new _ _⟩
end
end L2

namespace L2
open PySem PySem.Spec PyProof.Rows

/-! ### places -/
/-- the place that an index of any sign means -/
noncomputable def ixN (n : Nat) (i : Int) : Option Nat := if 0 ≤ i then (if i < n then some i.toNat else none) else if -(n : Int) ≤ i then some (i + n).toNat else none
noncomputable def atI {α : Type} (xs : List α) (i : Int) : Option α := (ixN xs.length i).bind fun j => xs[j]?
theorem ixN_seq {n : Nat} {i : Int} {j : Nat} (h : ixN n i = some j) : seqIndex? i n = some j ∧ j < n ∧ -(n : Int) ≤ i ∧ i < n := by
  unfold ixN at h
  by_cases h0 : 0 ≤ i
  · rw [if_pos h0] at h
    by_cases h1 : i < n
    · rw [if_pos h1] at h
      have e : i.toNat = j := Option.some.inj h
      exact ⟨by rw [seqIndex_of h0 h1, e], by omega, by omega, h1⟩
    · rw [if_neg h1] at h; cases h
  · rw [if_neg h0] at h
    by_cases h1 : -(n : Int) ≤ i
    · rw [if_pos h1] at h
      have e : (i + n).toNat = j := Option.some.inj h
      exact ⟨by rw [seqIndex_neg (by omega) h1, e], by omega, h1, by omega⟩
    · rw [if_neg h1] at h; cases h
theorem atI_get {α : Type} {xs : List α} {i : Int} {v : α} (h : atI xs i = some v) : ∃ j, seqIndex? i xs.length = some j ∧ xs[j]? = some v ∧ j < xs.length ∧ -(xs.length : Int) ≤ i ∧ i < xs.length := by
  unfold atI at h
  cases e : ixN xs.length i with
  | none => rw [e] at h; cases h
  | some j =>
    rw [e] at h
    obtain ⟨h1, h2, h3, h4⟩ := ixN_seq e
    exact ⟨j, h1, h, h2, h3, h4⟩
theorem atI_nat {α : Type} {xs : List α} {j : Nat} {v : α} (h : xs[j]? = some v) : atI xs (j : Int) = some v := by
  have hj : j < xs.length := (List.getElem?_eq_some_iff.mp h).1
  have e : ixN xs.length (j : Int) = some j := by
    unfold ixN
    rw [if_pos (by omega), if_pos (by omega)]; simp
  unfold atI; rw [e]; exact h
/-! ### what may be subscripted -/
/-- what stands as an index of a plain subscript -/
noncomputable def PlainIx (b : Expr) : Prop := ∀ o i, subscripted b false o i = operate [o, i] (getItem o i)
/-- a subscript by values -/
noncomputable def IxR (X : Cx) (r : R2) : Prop :=
  ∀ (value slice : Expr) (pins : List (Addr × Obj)) (s : Shared) (σ : St) (H : Hp) (x y : V) (v u : Value) (Q : VK), Inv X pins σ H s → RelV x v → RelV y u → r x y H Q →
    subscripted slice false v u = operate [v, u] (getItem v u) → wpAny (model X.prog X.w) X.A (subscriptTail value slice v u) (EP X pins σ Q) X.xe s
/-- a call of a builtin's method by values: the receiver, the arguments -/
noncomputable def MtR (X : Cx) (id : String) (r : V → List V → Hp → VK → Prop) : Prop :=
  ∀ (pins : List (Addr × Obj)) (s : Shared) (σ : St) (H : Hp) (x : V) (xs : List V) (v : Value) (us : List Value) (Q : VK), Inv X pins σ H s → RelV x v → Vals xs us → r x xs H Q →
    wpAny (model X.prog X.w) X.A (call (.builtin id) (v :: us)) (EP X pins σ Q) X.xe s
section
variable {X : Cx} {a b : Expr} {ta tb : TE} {pos : Pos}
theorem IxR.or {r r' : R2} (h : IxR X r) (h' : IxR X r') : IxR X (fun x y H Q => r x y H Q ∨ r' x y H Q) := by
  intro value slice pins s σ H x y v u Q I rx ry q hs
  rcases q with q | q
  · exact h value slice pins s σ H x y v u Q I rx ry q hs
  · exact h' value slice pins s σ H x y v u Q I rx ry q hs
theorem MtR.or {id : String} {r r' : V → List V → Hp → VK → Prop} (h : MtR X id r) (h' : MtR X id r') : MtR X id (fun x xs H Q => r x xs H Q ∨ r' x xs H Q) := by
  intro pins s σ H x xs v us Q I rx rs q
  rcases q with q | q
  · exact h pins s σ H x xs v us Q I rx rs q
  · exact h' pins s σ H x xs v us Q I rx rs q
/-- a[b] -/
theorem pe_ix {r : R2} (hr : IxR X r) (ha : PE X a ta) (hb : PE X b tb) (hs : PlainIx b) : PE X (.Subscript a b pos) (tOp r ta tb) := by
  intro pins s σ H Q I h
  exact Subscript_ (binT ha hb I h fun v u s2 x y H2 I2 rx ry q => hr a b pins s2 σ H2 x y v u Q I2 rx ry q (hs _ _))

noncomputable def rIxL (K : PySem.W.Frag) : R2 := fun x y H Q => ∃ p xs i v, x = .ref p ∧ y = .int i ∧ SqL K H p xs ∧ atI xs i = some v ∧ Q v H
noncomputable def rIxT (K : PySem.W.Frag) : R2 := fun x y H Q => ∃ p xs i v, x = .ref p ∧ y = .int i ∧ SqT K H p xs ∧ atI xs i = some v ∧ Q v H
theorem ix_list : IxR X (rIxL X.K) := by
  intro value slice pins s σ H x y v u Q I rx ry h hs
  obtain ⟨p, xs, i, z, rfl, rfl, hq, he, q⟩ := h
  cases rx
  obtain ⟨t, rfl⟩ := ry
  obtain ⟨its, r, pl, hz⟩ := I.list hq
  obtain ⟨j, h1, h2, h3, h4, h5⟩ := atI_get he
  obtain ⟨w, ew, rw'⟩ := r.get h2
  have hl := r.length
  have hn := line63
  have fin : EP X pins σ Q w s := ⟨z, H, I, rw', q⟩
  by_cases h0 : 0 ≤ i
  · have hj : i.toNat = j := by
      rw [seqIndex_of h0 h5] at h1
      exact Option.some.inj h1
    exact item_listR pl.isList h0 (by omega) (by rw [hj]; simpa using ew) fin hs
  · have hj : (i + (its.toArray.size : Int)).toNat = j := by
      rw [seqIndex_neg (by omega) h4] at h1
      rw [List.size_toArray, ← hl]
      exact Option.some.inj h1
    exact subscriptTail_builtinR (x := w) pl.isList.typeIs slot_list_getitem.lookup
      (wpAny_getItem_list_neg (Q := fun r s' => r = w ∧ EP X pins σ Q r s') pl.isList (by omega) (by rw [List.size_toArray] <;> omega) (by omega) (by rw [hj]; simpa using ew) ⟨rfl, fin⟩) hs
theorem ix_tup : IxR X (rIxT X.K) := by
  intro value slice pins s σ H x y v u Q I rx ry h hs
  obtain ⟨p, xs, i, z, rfl, rfl, hq, he, q⟩ := h
  cases rx
  obtain ⟨t, rfl⟩ := ry
  obtain ⟨its, r, pl, hz⟩ := I.tuple hq
  obtain ⟨j, h1, h2, h3, h4, h5⟩ := atI_get he
  obtain ⟨w, ew, rw'⟩ := r.get h2
  have hl := r.length
  have hn := line63
  have fin : EP X pins σ Q w s := ⟨z, H, I, rw', q⟩
  exact subscriptTail_builtinR (x := w) pl.typeIs slot_tuple_getitem.lookup
    (getItem_tuple (j := j) (Q := fun r s' => r = w ∧ EP X pins σ Q r s') pl (by omega) (by omega) (by rw [List.size_toArray, ← hl]; exact h1) (by simpa using ew) ⟨rfl, fin⟩) hs
theorem Inv.lst {pins : List (Addr × Obj)} {σ : St} {H : Hp} {s : Shared} {p : Addr} {xs : List V} (I : Inv X pins σ H s) (h : H p = some (.lst xs)) :
    ∃ (its : List Value) (n : Nat), Vals xs its ∧ s.heap.get? p = some { cls := .type "list", data := .seq its.toArray n } ∧ xs.length ≤ sizeLine := by
  obtain ⟨z, its, n, r, e⟩ := I.hok p _ h
  exact ⟨its, n, r, e, z⟩
/-! ### slices -/
theorem slice_bounds (lo hi : Option Int) (n : Nat) : (sliceBounds lo hi none n).1 = ((HT.sIx n 0 lo : Nat) : Int) ∧ (sliceBounds lo hi none n).2.1 = ((HT.sIx n n hi : Nat) : Int) ∧ (sliceBounds lo hi none n).2.2 = 1 := by
  refine ⟨?_, ?_, rfl⟩
  · cases lo with
    | none => simp [sliceBounds, HT.sIx]
    | some i =>
      simp only [sliceBounds, HT.sIx, Option.getD_none, show (1 : Int) > 0 by decide, if_true]
      by_cases h : i < 0
      · simp only [h, if_true] <;> omega
      · simp only [h, if_false] <;> omega
  · cases hi with
    | none => simp [sliceBounds, HT.sIx]
    | some i =>
      simp only [sliceBounds, HT.sIx, Option.getD_none, show (1 : Int) > 0 by decide, if_true]
      by_cases h : i < 0
      · simp only [h, if_true] <;> omega
      · simp only [h, if_false] <;> omega
theorem slicePick_cut (its : List Value) (lo hi : Option Int) : slicePick its.toArray lo hi none = ((its.drop (HT.sIx its.length 0 lo)).take (HT.sIx its.length its.length hi - HT.sIx its.length 0 lo)).toArray := by
  obtain ⟨h1, h2, h3⟩ := slice_bounds lo hi its.toArray.size
  unfold slicePick
  rw [h1, h2, h3]
  simp only [sliceRange_one, pick_run, List.size_toArray] <;> rfl
/-- xs[lo:hi] of a list: a new list -/
noncomputable def rSlL (K : PySem.W.Frag) : V → Option Int → Option Int → Hp → VK → Prop := fun x lo hi H Q => ∃ a xs, x = .ref a ∧ SqL K H a xs ∧ ∀ p, H p = none → Q (.ref p) (upd H p (.lst (cutV xs lo hi)))
theorem sl_list : SlR X (rSlL X.K) := by
  intro pins s σ H x v vl vu lo hi sl Q I rx hs pl pu h
  obtain ⟨a, xs, rfl, hx, q⟩ := h
  cases rx
  obtain ⟨its, r, ht, hz⟩ := I.list hx
  have hlen := r.length
  refine ⟨"list", _, slot_list_getitem.lookup, ht.isList.typeIs, ?_⟩
  refine wpAny_getItem_list_slice ht.isList hs pl pu .none (by simp) ?_ (by rw [List.size_toArray] <;> omega)
  rw [slicePick_cut, ← hlen]
  refine ⟨.ref s.heap.objs.size, _, I.laid (t' := s.toks) (o := .lst (cutV xs lo hi)) (fun b ob q => Heap.get?_push_of_some _ q) (Nat.le_refl _) ?_, rfl, q _ (I.hok.fresh (Nat.le_refl _))⟩
  exact ⟨Nat.le_trans (cutV_length xs lo hi) hz, _, 0, (r.drop (HT.sIx xs.length 0 lo)).take (HT.sIx xs.length xs.length hi - HT.sIx xs.length 0 lo), Heap.get?_push_size _ rfl⟩

/-! ### in, not in: flat items -/
noncomputable def flatV : V → Bool
  | .non => true
  | .bl _ => true
  | .int _ => true
  | .str _ => true
  | _ => false
/-- == of flat values -/
noncomputable def eqV : V → V → Bool
  | .non, .non => true
  | .bl a, .bl b => a == b
  | .bl a, .int b => (if a then 1 else 0) == b
  | .int a, .bl b => a == (if b then 1 else 0)
  | .int a, .int b => a == b
  | .str a, .str b => a == b
  | _, _ => false
theorem eqAt_V {A : Around} {s : Shared} {y x : V} {u v : Value} (ry : RelV y u) (rx : RelV x v) (fy : flatV y = true) (fx : flatV x = true) : SeqAt.EqAt A s u v (eqV y x) := by
  cases y with
  | non =>
    cases ry
    cases x with
    | non => cases rx; exact SeqAt.EqAt.same _
    | bl b => cases rx; exact SeqAt.EqAt.none_bool b
    | int b => obtain ⟨t, rfl⟩ := rx; exact SeqAt.EqAt.none_int b t
    | str b => obtain ⟨t, rfl⟩ := rx; exact SeqAt.EqAt.none_str b t
    | _ => exact absurd (show false = true from fx) Bool.false_ne_true
  | bl a =>
    cases ry
    cases x with
    | non => cases rx; exact SeqAt.EqAt.bool_none a
    | bl b => cases rx; exact SeqAt.EqAt.bool_bool a b
    | int b => obtain ⟨t, rfl⟩ := rx; exact SeqAt.EqAt.bool_int a b t
    | str b => obtain ⟨t, rfl⟩ := rx; exact SeqAt.EqAt.bool_str a b t
    | _ => exact absurd (show false = true from fx) Bool.false_ne_true
  | int a =>
    obtain ⟨t', rfl⟩ := ry
    cases x with
    | non => cases rx; exact SeqAt.EqAt.int_none a t'
    | bl b => cases rx; exact SeqAt.EqAt.int_bool a t' b
    | int b => obtain ⟨t, rfl⟩ := rx; exact SeqAt.EqAt.int_int a t' b t
    | str b => obtain ⟨t, rfl⟩ := rx; exact SeqAt.EqAt.int_str a t' b t
    | _ => exact absurd (show false = true from fx) Bool.false_ne_true
  | str a =>
    obtain ⟨t', rfl⟩ := ry
    cases x with
    | non => cases rx; exact SeqAt.EqAt.str_none a t'
    | bl b => cases rx; exact SeqAt.EqAt.str_bool a t' b
    | int b => obtain ⟨t, rfl⟩ := rx; exact SeqAt.EqAt.str_int a t' b t
    | str b => obtain ⟨t, rfl⟩ := rx; exact SeqAt.EqAt.str_str a t' b t
    | _ => exact absurd (show false = true from fx) Bool.false_ne_true
  | _ => exact absurd (show false = true from fy) Bool.false_ne_true
/-- the items' answers, read off the values (a value's own answer does not lean on its token) -/
noncomputable def eqU (x : V) (u : Value) : Bool := match u with
  | .none => eqV .non x
  | .bool b => eqV (.bl b) x
  | .int i _ => eqV (.int i) x
  | .str z _ => eqV (.str z) x
  | _ => false
theorem eqU_of {x y : V} {u : Value} (r : RelV y u) (f : flatV y = true) : eqU x u = eqV y x := by
  cases y with
  | non => cases r; rfl
  | bl b => cases r; rfl
  | int i => obtain ⟨t, rfl⟩ := r; rfl
  | str z => obtain ⟨t, rfl⟩ := r; rfl
  | _ => exact absurd (show false = true from f) Bool.false_ne_true
theorem any_eqU {x : V} : ∀ {xs : List V} {us : List Value}, Vals xs us → xs.all flatV = true → us.any (eqU x) = xs.any fun y => eqV y x
  | _, _, .nil, _ => rfl
  | y :: xs, u :: us, .cons r t, f => by
    rw [List.all_cons, Bool.and_eq_true] at f
    rw [List.any_cons, List.any_cons, eqU_of r f.1, any_eqU t f.2]
theorem mem_eqAt {A : Around} {s : Shared} {x : V} {v : Value} (rx : RelV x v) (fx : flatV x = true) : ∀ {xs : List V} {us : List Value}, Vals xs us → xs.all flatV = true → ∀ u ∈ us, SeqAt.EqAt A s u v (eqU x u)
  | _, _, .nil, _ => fun u hu => by cases hu
  | y :: xs, u :: us, .cons r t, f => fun u' hu => by
    rw [List.all_cons, Bool.and_eq_true] at f
    rcases List.mem_cons.mp hu with rfl | hu
    · rw [eqU_of r f.1]; exact eqAt_V r rx f.1 fx
    · exact mem_eqAt rx fx t f.2 u' hu
noncomputable def inV (x : V) (xs : List V) : Bool := xs.any fun y => eqV y x
/-- x in a list or tuple of flat items -/
noncomputable def rIn (K : PySem.W.Frag) (neg : Bool) : R2 := fun x y H Q => ∃ p xs, y = .ref p ∧ (SqL K H p xs ∨ SqT K H p xs) ∧ flatV x = true ∧ xs.all flatV = true ∧ Q (.bl (if neg then !inV x xs else inV x xs)) H
theorem op_in_seq : OpR X (compareOp .In) (rIn X.K false) := by
  intro pins s σ H x y v u Q I rx ry h
  obtain ⟨p, xs, rfl, hq, fx, fs, q⟩ := h
  cases ry
  rcases hq with hq | hq
  · obtain ⟨its, r, pl, hz⟩ := I.list hq
    refine SeqAt.in_listAt (eqU x) pl.isList (fun w hw => mem_eqAt rx fx r fs w (by simpa using hw)) ⟨.bl _, H, I, rfl, ?_⟩
    rw [show its.toArray.any (eqU x) = its.any (eqU x) by simp, any_eqU r fs]
    exact q
  · obtain ⟨its, r, pl, hz⟩ := I.tuple hq
    refine SeqAt.in_tupleAt (eqU x) pl (fun w hw => mem_eqAt rx fx r fs w (by simpa using hw)) ⟨.bl _, H, I, rfl, ?_⟩
    rw [show its.toArray.any (eqU x) = its.any (eqU x) by simp, any_eqU r fs]
    exact q
/-! ### len, list(x), tuple(x) of any list or tuple that is read -/
theorem call_len_seq : CallR X (.builtin "len") (fun xs H Q => ∃ p ys, xs = [.ref p] ∧ (SqL X.K H p ys ∨ SqT X.K H p ys) ∧ Q (.int ys.length) H) := by
  intro pins s σ H xs us Q I r h
  obtain ⟨p, ys, rfl, hq, q⟩ := h
  obtain ⟨u, rfl, rx⟩ := vals1 r
  cases rx
  have hn := line63
  rcases hq with hq | hq
  · obtain ⟨its, r', pl, hz⟩ := I.list hq
    have hlen := r'.length
    exact Calls.call_len_list pl.isList (by simp only [List.size_toArray] <;> omega) ⟨.int ys.length, H, I.tok _, ⟨s.toks + 1, by rw [List.size_toArray, hlen]⟩, q⟩
  · obtain ⟨its, r', pl, hz⟩ := I.tuple hq
    have hlen := r'.length
    exact len_tuple pl (by simp only [List.size_toArray] <;> omega) ⟨.int ys.length, H, I.tok _, ⟨s.toks + 1, by rw [List.size_toArray, hlen]⟩, q⟩
theorem CallR.or {f : Value} {r r' : List V → Hp → VK → Prop} (h : CallR X f r) (h' : CallR X f r') : CallR X f (fun xs H Q => r xs H Q ∨ r' xs H Q) := by
  intro pins s σ H xs us Q I rs q
  rcases q with q | q
  · exact h pins s σ H xs us Q I rs q
  · exact h' pins s σ H xs us Q I rs q
theorem call_list_of : CallR X (.type "list") (fun xs H Q => ∃ p ys, xs = [.ref p] ∧ (SqL X.K H p ys ∨ SqT X.K H p ys) ∧ ∀ l, H l = none → Q (.ref l) (upd H l (.lst ys))) := by
  intro pins s σ H xs us Q I r h
  obtain ⟨p, ys, rfl, hq, q⟩ := h
  obtain ⟨u, rfl, rx⟩ := vals1 r
  cases rx
  have fin : ∀ (its : List Value), Vals ys its → ys.length ≤ sizeLine → ∀ (h' : Heap) (c' : Nat), (∀ b o', s.heap.get? b = some o' → h'.get? b = some o') →
      h'.get? s.heap.objs.size = some { cls := .type "list", dict := none, data := .seq its.toArray c', slots := #[] } → EP X pins σ Q (.ref s.heap.objs.size) { s with heap := h' } := fun its r' hz h' c' kp e =>
    ⟨.ref s.heap.objs.size, _, I.laid (t' := s.toks) kp (Nat.le_refl _) (show ObjOk X.prog X.w _ h' _ (.lst ys) from ⟨hz, its, c', r', e⟩), rfl, q _ (I.hok.fresh (Nat.le_refl _))⟩
  rcases hq with hq | hq
  · obtain ⟨its, r', pl, hz⟩ := I.list hq
    have hlen := r'.length
    obtain ⟨o, ho, hc, n, hd⟩ := pl.isList
    exact call_list_seq p (.inl rfl) ho hc hd (fun h' c' kp e => fin its r' hz h' c' kp e) (by simp only [List.size_toArray] <;> omega)
  · obtain ⟨its, r', pl, hz⟩ := I.tuple hq
    have hlen := r'.length
    obtain ⟨o, ho, hc, n, hd⟩ := pl
    exact call_list_seq p (.inr rfl) ho hc hd (fun h' c' kp e => fin its r' hz h' c' kp e) (by simp only [List.size_toArray] <;> omega)
theorem call_tuple_of : CallR X (.type "tuple") (fun xs H Q => ∃ p ys, xs = [.ref p] ∧ ((SqL X.K H p ys ∧ ∀ l, H l = none → Q (.ref l) (upd H l (.tup ys))) ∨ (SqT X.K H p ys ∧ Q (.ref p) H))) := by
  intro pins s σ H xs us Q I r h
  obtain ⟨p, ys, rfl, h⟩ := h
  obtain ⟨u, rfl, rx⟩ := vals1 r
  cases rx
  rcases h with ⟨hq, q⟩ | ⟨hq, q⟩
  · obtain ⟨its, r', pl, hz⟩ := I.list hq
    have hlen := r'.length
    refine call_tuple_list pl.isList (fun h' kp => ?_) (by simp only [List.size_toArray] <;> omega)
    have I1 : Inv X pins σ H { s with heap := h' } := I.kept (t' := s.toks) kp
    have I2 : Inv X pins σ (upd H h'.objs.size (.tup ys)) { s with heap := h'.push { cls := .type "tuple", data := .seq its.toArray } } :=
      I1.laid (t' := s.toks) (fun b o e => Heap.get?_push_of_some _ e) (Nat.le_refl _) (show ObjOk X.prog X.w _ _ _ (.tup ys) from ⟨hz, its, r', IsTupD.new _ _⟩)
    exact ⟨.ref h'.objs.size, _, I2, rfl, q _ (I1.hok.fresh (Nat.le_refl _))⟩
  · obtain ⟨its, r', pl, hz⟩ := I.tuple hq
    exact call_tuple_same pl ⟨.ref p, H, I, rfl, q⟩

/-! ### the call of a builtin's method: o.m(..) -/
/-- the value is of that builtin type -/
noncomputable def tyV (K : PySem.W.Frag) (T : String) (x : V) (H : Hp) : Prop := match x with
  | .str _ => T = "str"
  | .int _ => T = "int"
  | .ref p => (T = "list" ∧ ∃ xs, SqL K H p xs) ∨ (T = "tuple" ∧ ∃ o, K.lookup p = some o ∧ o.cls = .type "tuple" ∧ o.dict = none) ∨
      (T = "dict" ∧ ((∃ kvs, H p = some (.dK kvs)) ∨ ∃ kvs, H p = some (.dT kvs))) ∨ (T = "set" ∧ ∃ S n, H p = some (.set S n))
  | _ => False
theorem tyV_is {pins : List (Addr × Obj)} {σ : St} {H : Hp} {s : Shared} {T : String} {x : V} {v : Value} (I : Inv X pins σ H s) (r : RelV x v) (ty : tyV X.K T x H) :
    s.TypeIs v T ∧ ∀ a, v = .ref a → ∃ ob, s.heap.get? a = some ob ∧ ob.dict = none := by
  cases x with
  | str z =>
    obtain ⟨t, rfl⟩ := r
    cases (show T = "str" from ty)
    exact ⟨typeIs_str s z t, fun _ e => nomatch e⟩
  | int i =>
    obtain ⟨t, rfl⟩ := r
    cases (show T = "int" from ty)
    exact ⟨typeIs_int s i t, fun _ e => nomatch e⟩
  | ref p =>
    cases r
    rcases ty with ⟨rfl, xs, hq⟩ | ⟨rfl, o, hk, hc, hd⟩ | ⟨rfl, hk⟩ | ⟨rfl, S, n, hk⟩
    · obtain ⟨its, _, pl, _⟩ := I.list hq
      refine ⟨pl.isList.typeIs, fun a e => ?_⟩
      cases e
      obtain ⟨o, n, e, c, hd, _⟩ := pl
      exact ⟨o, e, hd⟩
    · refine ⟨⟨o, I.kIn p o hk, hc⟩, fun a e => ?_⟩
      cases e
      exact ⟨o, I.kIn _ o hk, hd⟩
    · have z : ∃ o, s.heap.get? p = some o ∧ o.ExactDict := by
        rcases hk with ⟨kvs, hk⟩ | ⟨kvs, hk⟩
        · obtain ⟨_, _, _, _, o, _, _, e, ex, _⟩ := I.hok p _ hk
          exact ⟨o, e, ex⟩
        · obtain ⟨_, _, _, _, o, _, _, e, ex, _⟩ := I.hok p _ hk
          exact ⟨o, e, ex⟩
      obtain ⟨o, e, ex⟩ := z
      refine ⟨⟨o, e, ex.1⟩, fun a e2 => ?_⟩
      cases e2
      exact ⟨o, e, ex.2.1⟩
    · obtain ⟨o, _, _, _, e, ex, _⟩ := I.hok p _ hk
      refine ⟨⟨o, e, ex.1⟩, fun a e2 => ?_⟩
      cases e2
      exact ⟨o, e, ex.2.1⟩
  | _ => exact False.elim ty
noncomputable def tBM (K : PySem.W.Frag) (T : String) (r : V → List V → Hp → VK → Prop) (to : TE) (t : TA) : TE := fun σ H Q => to σ H fun x H1 => tyV K T x H1 ∧ t σ H1 fun xs H2 => r x xs H2 Q
variable {o e : Expr} {es : List Expr} {to : TE} {t : TA} {name : Str} {apos cpos : Pos} {T id : String} {r : V → List V → Hp → VK → Prop}
theorem pe_bm (pa : PlainAttrs T) (slot : Slot T name id) (hty : typeOf (.builtin id) = pure (.type "method_descriptor")) (hm : MtR X id r) (ho : PE X o to) (ha : PA X (e :: es) t)
    (hbase : attributeBase o name X.env (eval o X.env) = eval o X.env := by rfl)
    (hfew : ((backTo cpos (starEach (e :: es) X.env)).all (fun x => !x.1) && (backToKw cpos (keywordEach [] X.env)).all (fun x => x.1.isSome)
      && decide ((e :: es).length + ([] : List Keyword).length + (if ([] : List Keyword).isEmpty then 0 else 1) < 30)) = true := by rfl)
    (hline : (apos.endLine == cpos.line) = true := by rfl) (hs : starEach (e :: es) X.env = (false, eval e X.env) :: starEach es X.env := by rfl) (hplain : (backTo cpos (starEach es X.env)).any (·.1) = false := by rfl) :
    PE X (.Call (.Attribute o name apos) (e :: es) [] cpos) (tBM X.K T r to t) := by
  intro pins s σ H Q I h
  refine wpAny_Call_method_late hbase hfew hline rfl (thn (ho pins s σ H _ I h) fun v s1 ⟨x, H1, I1, r1, ty, q1⟩ => ?_)
  obtain ⟨h1, h2⟩ := tyV_is I1 r1 ty
  refine ⟨T, id, pa, slot, hty, h1, h2, ?_⟩
  have hA := ha cpos pins s1 σ H1 _ I1 q1
  rw [hs] at hA ⊢
  refine Calls.callWith_builtin (by show (false || (backTo cpos (starEach es X.env)).any (·.1)) = false; rw [hplain] <;> rfl) (Calls.evalArgs_plain ?_)
  exact thn hA fun us s2 ⟨vs, H2, I2, r2, q2⟩ => hm pins s2 σ H2 x vs v us Q I2 r1 r2 q2
/- xs.append(e), list.index on a module's tuple .. are MtR facts of 06m -/
end
end L2

namespace L2
open PySem PySem.Spec PyProof.Rows

noncomputable def MtM (X : Cx) (id : String) (r : V → List V → Hp → VK → Prop) : Prop :=
  ∀ (pins : List (Addr × Obj)) (s : Shared) (σ : St) (H : Hp) (x : V) (xs : List V) (v : Value) (us : List Value) (Q : VK), Inv X pins σ H s → RelV x v → Vals xs us → r x xs H Q →
    wpAny (model X.prog X.w) X.A (call (.builtin id) (v :: us)) (EP X pins σ Q) X.xe s

/-! ### lists of values -/
theorem Vals.one : ∀ {x : V} {us : List Value}, Vals [x] us → ∃ u, us = [u] ∧ RelV x u
  | _, _, .cons r .nil => ⟨_, rfl, r⟩
theorem Vals.two : ∀ {x y : V} {us : List Value}, Vals [x, y] us → ∃ u v, us = [u, v] ∧ RelV x u ∧ RelV y v
  | _, _, _, .cons r (.cons q .nil) => ⟨_, _, rfl, r, q⟩
theorem Vals.zero : ∀ {us : List Value}, Vals [] us → us = []
  | _, .nil => rfl
theorem Vals.dropLast {xs : List V} {us : List Value} (h : Vals xs us) : Vals xs.dropLast us.dropLast := by
  induction h with
  | nil => exact .nil
  | cons r t ih =>
    cases t with
    | nil => exact .nil
    | cons q t' => exact .cons r ih
theorem Vals.rep {xs : List V} {us : List Value} (h : Vals xs us) : ∀ k : Nat, Vals (List.replicate k xs).flatten (List.replicate k us).flatten
  | 0 => .nil
  | k + 1 => by
    rw [List.replicate_succ, List.replicate_succ, List.flatten_cons, List.flatten_cons]
    exact Vals.append h (Vals.rep h k)
section
variable {X : Cx} {pins : List (Addr × Obj)} {σ : St} {H : Hp} {s : Shared} {l b : Addr} {xs ys zs : List V}

/-! ### the two steps: a tracked list is rewritten, a new list is laid -/
theorem Inv.lset {its its' : List Value} {n : Nat} {f : Array Value → Array Value} {t' : Nat} (I : Inv X pins σ H s) (hH : H l = some (.lst xs))
    (e : s.heap.get? l = some { cls := .type "list", data := .seq its.toArray n }) (hf : f its.toArray = its'.toArray) (hv : Vals ys its') (hz : ys.length ≤ sizeLine) :
    Inv X pins σ (upd H l (.lst ys)) { s with heap := s.heap.update l (Obj.mapSeq f), toks := t' } := by
  have q := PySem.IsL.update e f
  rw [hf] at q
  refine I.write (x := l) (e := l) (by rw [hH]; exact trivial) (.inl rfl) (fun b' u hb hu => (Heap.get?_update_other s.heap (Obj.mapSeq f) (Ne.symm hb)).trans hu) ⟨_, q⟩ ?_
  exact ⟨hz, its', _, hv, q⟩
theorem Inv.fresh (I : Inv X pins σ H s) : H s.heap.objs.size = none := I.hok.fresh (Nat.le_refl _)
theorem Inv.lstM (I : Inv X pins σ H s) (hH : H l = some (.lst xs)) : xs.length ≤ sizeLine ∧ ∃ (its : List Value) (n : Nat), Vals xs its ∧ xs.length = its.length ∧ s.heap.get? l = some { cls := .type "list", data := .seq its.toArray n } := by
  obtain ⟨z, its, n, r, e⟩ := I.hok l _ hH
  exact ⟨z, its, n, r, r.length, e⟩

theorem notLongL {n : Nat} (h : n ≤ sizeLine) : Builtin.List.listTooLong n = false := by
  unfold Builtin.List.listTooLong
  exact decide_eq_false (by omega)
end

section
variable {X : Cx}

/-! ### methods -/
noncomputable def rAppend : V → List V → Hp → VK → Prop := fun x vs H Q => ∃ l xs y, x = .ref l ∧ vs = [y] ∧ H l = some (.lst xs) ∧ xs.length < sizeLine ∧ Q .non (upd H l (.lst (xs ++ [y])))
theorem mt_append : MtM X "list.append" rAppend := by
  intro pins s σ H x vs v us Q I rx rv h
  obtain ⟨l, xs, y, rfl, rfl, hH, hz, q⟩ := h
  cases rx
  obtain ⟨u, rfl, ru⟩ := rv.one
  obtain ⟨z, its, n, r, hl, e⟩ := I.lstM hH
  refine call_meets F.slot_list_append ⟨_, e, rfl⟩ F.entry_list_append (F.args_list_append_2 _ _) (PySem.list_append l its.toArray n u (by rw [List.size_toArray]; omega)) ⟨e, ?_⟩
  refine ⟨.non, _, I.lset (its' := its ++ [u]) hH e (by simp) (r.append (.cons ru .nil)) ?_, rfl, q⟩
  rw [List.length_append, List.length_singleton]
  omega

noncomputable def rExtend : V → List V → Hp → VK → Prop := fun x vs H Q => ∃ l b xs zs, x = .ref l ∧ vs = [.ref b] ∧ H l = some (.lst xs) ∧ H b = some (.lst zs) ∧ xs.length + zs.length ≤ sizeLine ∧ Q .non (upd H l (.lst (xs ++ zs)))
theorem mt_extend : MtM X "list.extend" rExtend := by
  intro pins s σ H x vs v us Q I rx rv h
  obtain ⟨l, b, xs, zs, rfl, rfl, hH, hB, hz, q⟩ := h
  cases rx
  obtain ⟨u, rfl, ru⟩ := rv.one
  cases ru
  obtain ⟨z, its, n, r, hl, e⟩ := I.lstM hH
  obtain ⟨z2, its2, n2, r2, hl2, e2⟩ := I.lstM hB
  have hsz : its.toArray.size + its2.toArray.size ≤ sizeLine := by rw [List.size_toArray, List.size_toArray]; omega
  have hlong : ¬ (!its.toArray.isEmpty && Builtin.List.listTooLong (its.toArray.size + its2.toArray.size)) = true := by
    rw [notLongL hsz, Bool.and_false]
    exact Bool.false_ne_true
  refine call_meets F.slot_list_extend ⟨_, e, rfl⟩ F.entry_list_extend (F.args_list_extend_2 _ _)
    (AutoSeq1.list_extend_list_list_0 l its.toArray n b its2.toArray n2 hlong (by rw [List.size_toArray]; omega) (by omega)) ⟨e, e2, ?_⟩
  refine ⟨.non, _, I.lset (its' := its ++ its2) hH e (by simp) (r.append r2) ?_, rfl, q⟩
  rw [List.length_append]
  omega

end

/-! ### xs[a:b] = ys -/
section
variable {prog : Program} {w : World} {A : Around} {E : Value → Shared → Prop} {s : Shared}
set_option maxRecDepth 100000 in
end

section
variable {X : Cx}
end
end L2
namespace L2
open PySem PySem.Spec PyProof.Rows

/-! ### lists of pairs as tables -/
section
variable {κ : Type} [DecidableEq κ]
noncomputable def valV (kvs : List (κ × V)) (k : κ) : Option V := (kvs.find? fun kv => decide (kv.1 = k)).map (·.2)
/-- in its place, or at the end -/
noncomputable def putK (kvs : List (κ × V)) (k : κ) (v : V) : List (κ × V) :=
  if (kvs.any fun kv => decide (kv.1 = k)) = true then kvs.map (fun kv => if kv.1 = k then (kv.1, v) else kv) else kvs ++ [(k, v)]
noncomputable def dropK (kvs : List (κ × V)) (k : κ) : List (κ × V) := kvs.filter fun kv => decide (kv.1 ≠ k)

theorem valV_pos {p : κ × V} {r : List (κ × V)} {k : κ} (e : p.1 = k) : valV (p :: r) k = some p.2 := by simp [valV, List.find?_cons, e]
theorem valV_neg {p : κ × V} {r : List (κ × V)} {k : κ} (e : ¬ p.1 = k) : valV (p :: r) k = valV r k := by simp [valV, List.find?_cons, e]
theorem valV_any (k : κ) : ∀ kvs : List (κ × V), (kvs.any fun kv => decide (kv.1 = k)) = (valV kvs k).isSome
  | [] => rfl
  | p :: r => by
    rw [List.any_cons]
    by_cases e : p.1 = k
    · simp only [valV_pos e, decide_eq_true e, Bool.true_or, Option.isSome_some]
    · rw [valV_neg e, decide_eq_false e, Bool.false_or]; exact valV_any k r
theorem putK_new {kvs : List (κ × V)} {k : κ} (v : V) (h : valV kvs k = none) : putK kvs k v = kvs ++ [(k, v)] := by
  unfold putK
  rw [valV_any, h]
  exact if_neg (by decide)

theorem RelO.isSome_eq {o : Option V} {u : Option Value} (r : RelO o u) : o.isSome = u.isSome := by
  cases o with
  | none => cases u with
    | none => rfl
    | some _ => exact (show False from r).elim
  | some _ => cases u with
    | none => exact (show False from r).elim
    | some _ => rfl
theorem RelO.getD {o : Option V} {u : Option Value} {d : V} {d' : Value} (r : RelO o u) (rd : RelV d d') : RelV (o.getD d) (u.getD d') := by
  cases o with
  | none => cases u with
    | none => exact rd
    | some _ => exact (show False from r).elim
  | some _ => cases u with
    | none => exact (show False from r).elim
    | some _ => exact r

/-- raw tables of the same keys -/
theorem KV.val {kvs : List (κ × V)} {vs : List (κ × Value)} (r : KV kvs vs) (k : κ) : RelO (valV kvs k) (valueAt vs k) := by
  unfold KV at r
  induction r with
  | nil => exact True.intro
  | @cons p q ps qs h t ih =>
    obtain ⟨h1, h2⟩ := h
    by_cases e : p.1 = k
    · have e' : q.1 = k := h1.symm.trans e
      have b : valueAt (q :: qs) k = some q.2 := by simp [valueAt, List.find?_cons, e']
      rw [valV_pos e, b]; exact h2
    · have e' : ¬ q.1 = k := fun z => e (h1.trans z)
      have b : valueAt (q :: qs) k = valueAt qs k := by simp [valueAt, List.find?_cons, e']
      rw [valV_neg e, b]; exact ih
theorem KV.any {kvs : List (κ × V)} {vs : List (κ × Value)} (r : KV kvs vs) (k : κ) : (kvs.any fun kv => decide (kv.1 = k)) = vs.any fun kv => decide (kv.1 = k) := by
  unfold KV at r
  induction r with
  | nil => rfl
  | cons h t ih => rw [List.any_cons, List.any_cons, ih, h.1]
theorem KV.repl {kvs : List (κ × V)} {vs : List (κ × Value)} (r : KV kvs vs) (k : κ) {y : V} {u : Value} (ry : RelV y u) :
    KV (kvs.map fun kv => if kv.1 = k then (kv.1, y) else kv) (vs.map fun kv => if kv.1 = k then (kv.1, u) else kv) := by
  unfold KV at r ⊢
  induction r with
  | nil => exact .nil
  | @cons p q ps qs h t ih =>
    rw [List.map_cons, List.map_cons]
    refine .cons ?_ ih
    obtain ⟨h1, h2⟩ := h
    by_cases e : p.1 = k
    · rw [if_pos e, if_pos (h1.symm.trans e)]; exact ⟨h1, ry⟩
    · rw [if_neg e, if_neg (fun z => e (h1.trans z))]; exact ⟨h1, h2⟩
theorem KV.put {kvs : List (κ × V)} {vs : List (κ × Value)} (r : KV kvs vs) (k : κ) {y : V} {u : Value} (ry : RelV y u) : KV (putK kvs k y) (stored vs k u) := by
  unfold putK stored
  rw [r.any k]
  by_cases e : (vs.any fun kv => decide (kv.1 = k)) = true
  · rw [if_pos e, if_pos e]; exact r.repl k ry
  · rw [if_neg e, if_neg e]; exact Paired.snoc r ⟨rfl, ry⟩
theorem KV.drop {kvs : List (κ × V)} {vs : List (κ × Value)} (r : KV kvs vs) (k : κ) : KV (dropK kvs k) (without vs k) := by
  unfold KV at r ⊢
  unfold dropK without
  induction r with
  | nil => exact .nil
  | @cons p q ps qs h t ih =>
    obtain ⟨h1, h2⟩ := h
    rw [List.filter_cons, List.filter_cons]
    by_cases e : p.1 = k
    · have a : ¬ decide (p.1 ≠ k) = true := by simp [e]
      have b : ¬ decide (q.1 ≠ k) = true := by simp [h1.symm.trans e]
      rw [if_neg a, if_neg b]; exact ih
    · have e' : ¬ q.1 = k := fun z => e (h1.trans z)
      have a : decide (p.1 ≠ k) = true := by simp [e]
      have b : decide (q.1 ≠ k) = true := by simp [e']
      rw [if_pos a, if_pos b]; exact .cons ⟨h1, h2⟩ ih
theorem KV.keys {kvs : List (κ × V)} {vs : List (κ × Value)} (r : KV kvs vs) : kvs.map (·.1) = vs.map (·.1) := by
  unfold KV at r
  induction r with
  | nil => rfl
  | cons h t ih => rw [List.map_cons, List.map_cons, ih, h.1]
theorem KV.length {kvs : List (κ × V)} {vs : List (κ × Value)} (r : KV kvs vs) : kvs.length = vs.length := Paired.length r
end


/-! ### a tracked dict, its keys ints and texts or tuples of these -/
theorem kV_is {P : Program} {w : World} {k : Key} {u : Value} (r : RelV (kV k) u) : (mixKind P w).is k u = true := by
  cases k with
  | inl i => obtain ⟨t, e⟩ := (show ∃ t, u = Value.int i t from r); subst e; exact mixKind_int P w i t
  | inr x => obtain ⟨t, e⟩ := (show ∃ t, u = Value.str x t from r); subst e; exact mixKind_str P w x t
theorem items_are {P : Program} {w : World} : ∀ {ks : List Key} {us : List Value}, Vals (ks.map kV) us → ItemsAre (mixKind P w) ks us
  | [], _, r => by rw [List.map_nil] at r; cases r; exact .nil
  | k :: ks, _, r => by
    rw [List.map_cons] at r
    cases r with
    | cons h t => exact .cons (kV_is h) (items_are t)

/-- raw entries of a dict with tuple keys -/
noncomputable abbrev KT (H : Hp) : List (List Key × V) → List (List Key × Addr × Value) → Prop := Paired fun p q => p.1 = q.1 ∧ H q.2.1 = some (.tup (p.1.map kV)) ∧ RelV p.2 q.2.2
theorem KT.val {H : Hp} {kvs : List (List Key × V)} {xs : List (List Key × Addr × Value)} (r : KT H kvs xs) (k : List Key) : RelO (valV kvs k) ((atKey xs k).map (·.2)) := by
  induction r with
  | nil => exact True.intro
  | @cons p q ps qs h t ih =>
    obtain ⟨h1, _, h2⟩ := h
    by_cases e : p.1 = k
    · have e' : q.1 = k := h1.symm.trans e
      have b : atKey (q :: qs) k = some q.2 := by simp [atKey, List.find?_cons, e']
      rw [valV_pos e, b]; exact h2
    · have e' : ¬ q.1 = k := fun z => e (h1.trans z)
      have b : atKey (q :: qs) k = atKey qs k := by simp [atKey, List.find?_cons, e']
      rw [valV_neg e, b]; exact ih
theorem KT.repl {H : Hp} {kvs : List (List Key × V)} {xs : List (List Key × Addr × Value)} (r : KT H kvs xs) (k : List Key) {y : V} {u : Value} (ry : RelV y u) :
    KT H (kvs.map fun kv => if kv.1 = k then (kv.1, y) else kv) (xs.map (putAt k u)) := by
  induction r with
  | nil => exact .nil
  | @cons p q ps qs h t ih =>
    rw [List.map_cons, List.map_cons]
    refine .cons ?_ ih
    obtain ⟨h1, h2, h3⟩ := h
    unfold putAt
    by_cases e : p.1 = k
    · rw [if_pos e, if_pos (h1.symm.trans e)]; exact ⟨h1, h2, ry⟩
    · rw [if_neg e, if_neg (fun z => e (h1.trans z))]; exact ⟨h1, h2, h3⟩
theorem KT.put {H : Hp} {kvs : List (List Key × V)} {xs : List (List Key × Addr × Value)} (r : KT H kvs xs) (k : List Key) {b : Addr} {y : V} {u : Value} (hb : H b = some (.tup (k.map kV))) (ry : RelV y u) :
    KT H (putK kvs k y) (storedH xs k b u) := by
  have e : (kvs.any fun kv => decide (kv.1 = k)) = (atKey xs k).isSome := by
    rw [valV_any, (r.val k).isSome_eq, Option.isSome_map]
  unfold putK storedH
  rw [e]
  by_cases q : (atKey xs k).isSome = true
  · rw [if_pos q, if_pos q]; exact r.repl k ry
  · rw [if_neg q, if_neg q]; exact Paired.snoc r ⟨rfl, hb, ry⟩
theorem KT.keeps {H H' : Hp} {kvs : List (List Key × V)} {xs : List (List Key × Addr × Value)} (r : KT H kvs xs) (ht : ∀ b ys, H b = some (.tup ys) → H' b = some (.tup ys)) : KT H' kvs xs :=
  Paired.mapP r fun _ _ z => ⟨z.1, ht _ _ z.2.1, z.2.2⟩

section
variable {P : Program} {w : World} {H : Hp} {h : Heap} {a : Addr}
/-- a tracked tuple of ints and texts is a key -/
theorem key_of {ks : List Key} (ok : HOk P w H h) (e : H a = some (.tup (ks.map kV))) : (tupleKind (mixKind P w)).is h ks a := by
  obtain ⟨_, its, r, o, h1, h2, ⟨n, h3⟩, _⟩ := (show ObjOk P w H h a (.tup (ks.map kV)) from ok a _ e)
  exact ⟨o, its.toArray, n, h1, h2, h3, by simpa using items_are r⟩
end

/-- what the dict at a holds at the key y -/
noncomputable def DGet (H : Hp) (a : Addr) (y : V) (r : Option V) : Prop :=
  (∃ kvs k, Rd H a (.dK kvs) ∧ y = kV k ∧ r = valV kvs k) ∨ ∃ kvs k b, Rd H a (.dT kvs) ∧ y = .ref b ∧ H b = some (.tup (k.map kV)) ∧ r = valV kvs k
/-- the heap behind a[y] = v -/
noncomputable def DPut (H : Hp) (a : Addr) (y v : V) (H' : Hp) : Prop :=
  (∃ kvs k, H a = some (.dK kvs) ∧ y = kV k ∧ kvs.length < sizeLine ∧ H' = upd H a (.dK (putK kvs k v))) ∨
  ∃ kvs k b, H a = some (.dT kvs) ∧ y = .ref b ∧ H b = some (.tup (k.map kV)) ∧ kvs.length < sizeLine ∧ H' = upd H a (.dT (putK kvs k v))
theorem DGet.k {H : Hp} {a : Addr} {kvs : List (Key × V)} {k : Key} (e : H a = some (.dK kvs)) : DGet H a (kV k) (valV kvs k) := .inl ⟨kvs, k, .inl e, rfl, rfl⟩
theorem DGet.t {H : Hp} {a b : Addr} {kvs : List (List Key × V)} {k : List Key} (e : H a = some (.dT kvs)) (eb : H b = some (.tup (k.map kV))) : DGet H a (.ref b) (valV kvs k) := .inr ⟨kvs, k, b, .inl e, rfl, eb, rfl⟩
theorem DPut.k {H : Hp} {a : Addr} {kvs : List (Key × V)} {k : Key} {v : V} (e : H a = some (.dK kvs)) (hl : kvs.length < sizeLine) : DPut H a (kV k) v (upd H a (.dK (putK kvs k v))) := .inl ⟨kvs, k, e, rfl, hl, rfl⟩
theorem DPut.t {H : Hp} {a b : Addr} {kvs : List (List Key × V)} {k : List Key} {v : V} (e : H a = some (.dT kvs)) (eb : H b = some (.tup (k.map kV))) (hl : kvs.length < sizeLine) :
    DPut H a (.ref b) v (upd H a (.dT (putK kvs k v))) := .inr ⟨kvs, k, b, e, rfl, eb, hl, rfl⟩


section
variable {X : Cx} {pins : List (Addr × Obj)} {σ : St} {H : Hp} {s : Shared} {a : Addr} {y v : V} {u r : Value} {o : Option V} {A : Around} {E : Value → Shared → Prop}

theorem Inv.big (I : Inv X pins σ H s) : sysModules < s.heap.objs.size := by
  have h : mainGlobals < s.heap.objs.size := (I.mod.glob.keeps I.bk).lt
  exact Nat.lt_trans (by decide) h

/-- a dict's object is replaced -/
theorem d_write {h' : Heap} {t' : Nat} {ob : HO} (I : Inv X pins σ H s) (mu : Mut (H a)) (hs : Heap.SameBut a s.heap h') (he : ∃ q, h'.get? a = some q) (new : ObjOk X.prog X.w (upd H a ob) h' a ob) :
    Inv X pins σ (upd H a ob) { s with heap := h', toks := t' } :=
  I.write (x := a) (e := a) mu (.inl rfl) (fun b q hb z => (hs.2 b hb).trans z) he new
end

section
variable {X : Cx} {pins : List (Addr × Obj)} {σ : St} {H : Hp} {s : Shared} {a : Addr} {kvs : List (Key × V)} {k : Key} {u : Value} {A : Around} {E : Value → Shared → Prop}
end


/-! ### readings and rules -/
/-- the element of a subscription, not a slice -/
noncomputable def NoSl (i : Expr) : Prop := ∀ ov iv, subscripted i false ov iv = operate [ov, iv] (getItem ov iv)
theorem subD_of {prog : Program} {w : World} {A : Around} {E : Value → Shared → Prop} {s : Shared} {env : Env} {value slice : Expr} {pos : Pos} {T id : String} {Q : Value → Shared → Prop}
    (hl : typeLookup (.type T) "__getitem__" = pure (some (.builtin id))) (hs : NoSl slice)
    (h : wpAny (model prog w) A (eval value env) (fun o s₁ => wpAny (model prog w) A (eval slice env) (fun i s₂ => s₂.TypeIs o T ∧ wpAny (model prog w) A (getItem o i) Q E s₂) E s₁) E s) :
    wpAny (model prog w) A (eval (.Subscript value slice pos) env) Q E s := by
  refine Subscript_ (wpAny_mono h (fun o s₁ h₁ => wpAny_mono h₁ (fun i s₂ h₂ => ?_) fun _ _ x => x) fun _ _ x => x)
  obtain ⟨hT, h₂⟩ := h₂
  unfold subscriptTail
  refine wpAny_bind ?_
  rw [getitemInPython_of_ne hT.not_modules]
  refine wpAny_bind (wpAny_specialOf hT hl ?_)
  have fin : wpAny (model prog w) A (subscripted slice false o i) (fun r s₃ => wpAny (model prog w) A (letTemporaryGo value o r >>= fun _ => pure r) Q E s₃) E s₂ := by
    rw [hs o i]
    exact wpAny_operating (wpAny_mono h₂ (fun r s₃ h₃ => wpAny_bind (wpAny_letTemporaryGo (wpAny_pure h₃))) fun _ _ x => x)
  first
    | exact wpAny_pure (wpAny_bind fin)
    | exact wpAny_bind (wpAny_pure (wpAny_bind fin))
    | exact wpAny_bind fin

section
variable {X : Cx} {o i e value : Expr} {pos pos' tpos : Pos} {td ty tv : TE}
end


section
variable {X : Cx} {pos : Pos}
end

noncomputable abbrev VV : List (V × V) → List (Value × Value) → Prop := Paired fun p q => RelV p.1 q.1 ∧ RelV p.2 q.2
noncomputable def mergeK (kvs more : List (Key × V)) : List (Key × V) := more.foldl (fun acc kv => putK acc kv.1 kv.2) kvs
theorem KV.merge : ∀ {more : List (Key × V)} {rs : List (Key × Value)} {kvs : List (Key × V)} {vs : List (Key × Value)}, KV more rs → KV kvs vs → KV (mergeK kvs more) (merged vs rs) := by
  intro more rs kvs vs r
  unfold KV at r
  induction r generalizing kvs vs with
  | nil => intro q; exact q
  | @cons p q ps qs h t ih =>
    intro r0
    have e : KV (putK kvs p.1 p.2) (stored vs q.1 q.2) := by
      have := r0.put p.1 h.2
      rw [← h.1]; exact this
    exact ih e
/-! ### methods -/
/-- a method call o.m(e) of a built-in, with one argument: what must be seen of the text -/
structure M1 (X : Cx) (o : Expr) (m : Str) (apos : Pos) (e : Expr) (cpos : Pos) : Prop where
  base : attributeBase o m X.env (eval o X.env) = eval o X.env
  few : ((backTo cpos (starEach [e] X.env)).all (fun x => !x.1) && (backToKw cpos (keywordEach [] X.env)).all (fun x => x.1.isSome)
    && decide (([e] : List Expr).length + ([] : List Keyword).length + (if ([] : List Keyword).isEmpty then 0 else 1) < 30)) = true
  line : (apos.endLine == cpos.line) = true
  trees : backTo cpos (starEach [e] X.env) = [(false, eval e X.env)]
structure M2 (X : Cx) (o : Expr) (m : Str) (apos : Pos) (e f : Expr) (cpos : Pos) : Prop where
  base : attributeBase o m X.env (eval o X.env) = eval o X.env
  few : ((backTo cpos (starEach [e, f] X.env)).all (fun x => !x.1) && (backToKw cpos (keywordEach [] X.env)).all (fun x => x.1.isSome)
    && decide (([e, f] : List Expr).length + ([] : List Keyword).length + (if ([] : List Keyword).isEmpty then 0 else 1) < 30)) = true
  line : (apos.endLine == cpos.line) = true
  trees : backTo cpos (starEach [e, f] X.env) = [(false, eval e X.env), (false, eval f X.env)]

section
variable {X : Cx} {pins : List (Addr × Obj)} {σ : St} {H : Hp} {s : Shared} {a : Addr} {y d : V} {u r : Value} {o : Option V} {A : Around} {E : Value → Shared → Prop}
end

section
variable {X : Cx} {o e f : Expr} {apos cpos : Pos} {td ty tx : TE}
end

/-! ### dict(d): a copy -/
section
variable {X : Cx} {pins : List (Addr × Obj)} {σ : St} {H : Hp} {s : Shared} {a : Addr} {kvs : List (Key × V)} {A : Around} {E : Value → Shared → Prop}
end


section
variable {X : Cx} {pins : List (Addr × Obj)} {σ : St} {H : Hp} {s : Shared} {a : Addr} {y : V} {u : Value} {A : Around} {E : Value → Shared → Prop}
end
end L2
namespace Att
open PySem PySem.W PySem.Calls PyProof.Rows

/-! ### the script -/
theorem ints_of_wellAll {P : Params} {h : Heap} : ∀ (ns : List Int) (vs : List Value), WellAll P h vs (ns.map WData.int) → IntsAre vs ns := by
  intro ns
  induction ns with
  | nil =>
    intro vs w
    rw [List.map_nil] at w
    cases w
    exact .nil
  | cons n ns ih =>
    intro vs w
    rw [List.map_cons] at w
    cases w with
    | cons a b =>
      cases a
      exact .cons _ _ (ih _ b)

theorem script_of {l : OpenLaw} {n : Nat} (hn : l.most = some n) {P : Params} {h : Heap} {args : List WData} {vals : List Value}
    (hpre : l.row.toRowW.claim.pre args = true) (hwl : WellAll P h vals args) :
    ∃ a vs ns, vals = [Value.ref a] ∧ args = [WData.list (ns.map WData.int)] ∧ h.get? a = some { cls := .type "list", data := .seq vs.toArray } ∧ IntsAre vs ns ∧ ns.length ≤ n := by
  have hsh : WShape.hasAll [] args [.list .int] = true := (pre_splitW hpre).1
  have hc : l.pre.holds [] { args := args } = true := (pre_splitW hpre).2
  obtain ⟨d, r, rfl, h1, h2⟩ := hasAllW_cons hsh
  obtain rfl := hasAllW_nil h2
  obtain ⟨xs, rfl, h3⟩ := hasW_list h1
  obtain ⟨ns, rfl⟩ := items_int h3
  have hlen : ns.length ≤ n := by
    unfold OpenLaw.pre at hc
    have h4 : (WTm.not (.lt (.lit (.int (n : Int))) (.len (.arg 0)))).holds [] { args := [.list (ns.map .int)] } = true := by
      have h4 := (holds_andW hc).1
      rw [hn] at h4
      exact h4
    have h5 := condW_of h4 (w_not (w_lt w_lit (w_len_list (w_arg rfl))))
    rw [List.length_map] at h5
    refine Nat.le_of_not_lt fun q => ?_
    have q' : (n : Int) < ((ns.length : Nat) : Int) := by omega
    first
      | (rw [decide_eq_true q'] at h5; exact absurd h5 (by decide))
      | (simp at h5; omega)
  cases hwl with
  | cons w1 w2 =>
    cases w2
    cases w1 with
    | list ho hall => exact ⟨_, _, ns, rfl, rfl, ho, ints_of_wellAll ns _ hall, hlen⟩

theorem post_true (l : OpenLaw) (args : List WData) : l.row.toRowW.claim.post args (.bool true) args = true :=
  postW_of (r := l.row.toRowW) (X := (true == true))
    (show WShape.has [] (.bool true) .bool = true by first | rfl | decide | simp [WShape.has, WShape.arms, WShape.armsAll])
    (show (WTm.eq .res (.lit (.bool true))).value [] { args := args, res := some (.bool true), after := args } = some (.bool (true == true)) from w_eq_bool (w_res rfl) w_lit) rfl

/-! ### rules over ANY heap (no ledger) from facts about the written part K: the library's own take a ledger (News) for what they write -/
section
variable {prog : Program} {w : World} {A : Around} {E : Value → Shared → Prop} {s : Shared} {K : Frag}

noncomputable def ledger (h : Heap) (L d : Addr) : List (Addr × Obj) := (List.range h.objs.size).filterMap fun a => if a = L ∨ a = d then none else (h.get? a).map fun o => (a, o)
end
end Att

namespace L2
open PySem PySem.Spec PyProof.Rows

theorem vals_ints : ∀ {vs : List Value} {ns : List Int}, IntsAre vs ns → Vals (ns.map V.int) vs
  | _, _, .nil => .nil
  | _, _, .cons n t h => .cons ⟨t, rfl⟩ (vals_ints h)

/-- nothing is tracked but the script, known to the object (or it is an object of the module) -/
noncomputable def Only (H : Hp) : Prop := ∀ b, H b = none ∨ ∃ o xs, H b = some (.frz o (.lst xs))

/-- THE HEAD: the law's promise, at the heap behind the top. F, the promise of the law's def, may use that base is part of the heap (so K.In base, base.Ns mainGlobals mg stand in Mod) -/
theorem law_call {P : Program} {w : World} {K : PySem.W.Frag} {mg mb : Str → Option Value} {CX : CXT} {k : Nat} {fa a : Addr} {fd : FuncData} {x : Str} {sp : Sp} {s₁ : Shared} {vs : List Value} {ns : List Int}
    (KX : K.In s₁.heap) (hns : s₁.heap.Ns mainGlobals mg) (hb : s₁.heap.Ns builtinsNs mb) (hbb : ∀ x : Str, x ≠ "__name__" → mb x = bootBuiltins x) (hlim : s₁.heap.NoLimit) (hg : s₁.gens = #[])
    (ha : s₁.heap.get? a = some { cls := .type "list", data := .seq vs.toArray }) (hi : IntsAre vs ns) (hl : ns.length ≤ sizeLine) (hr : Room k callerA)
    (F : ∀ base : Heap, K.In base → base.Ns mainGlobals mg → FnOk P w K mg base CX k fa fd [x] sp) (hbind : ∀ (s : Shared) (u : Value), BindsTo s fd ⟨[u], []⟩ [(x, u)])
    (hsp : ∀ H : Hp, Only H → SqL K H a (ns.map V.int) → sp [.ref a] H (fun v _ => v = .bl true) fun _ _ _ => False)
    (hCX : ∀ H e s', CX [] H s₁ (fun _ _ _ => False) e s' → False) :
    codeAny (model P w) callerA (.call (.ref fa) ⟨[.ref a], []⟩) (fun r s' => r = .ok (.ret (.bool true)) ∧ OldK s₁.heap s'.heap ∧ s'.os = s₁.os ∧ AllBare s'.gens) s₁ := by
  have rv := vals_ints hi
  have lenV := hi.length
  -- from an abstract heap in which nothing but the script may be tracked
  have core : ∀ H : Hp, Only H → SqL K H a (ns.map V.int) → HOk P w H s₁.heap → (∀ b, H b ≠ none → b = a) → (H a ≠ none → K.lookup a = none) →
      codeAny (model P w) callerA (.call (.ref fa) ⟨[.ref a], []⟩) (fun r s' => r = .ok (.ret (.bool true)) ∧ OldK s₁.heap s'.heap ∧ s'.os = s₁.os ∧ AllBare s'.gens) s₁ := by
    intro H hO hS hok hA hK
    have base_of : ∀ {b : Addr} {o : Obj}, s₁.heap.get? b = some o → H b = none → (hidT s₁.heap H).get? b = some o := fun e n => hidT_get e n
    have noA : ∀ {b : Addr} {o : Obj} {es : Array DictEntry} {ep : Nat}, s₁.heap.get? b = some o → o.data = .dict es ep → H b = none := fun {b o es ep} e d => by
      cases q : H b with
      | none => rfl
      | some u =>
        have e' : b = a := hA b (by rw [q]; simp)
        subst e'
        rw [ha] at e; cases e
        have d' : Data.seq vs.toArray _ = Data.dict es ep := d
        cases d'
    have nsK : ∀ {b : Addr} {m : Str → Option Value}, s₁.heap.Ns b m → (hidT s₁.heap H).Ns b m := fun {b m} ⟨o, es, ep, e, d, r⟩ => ⟨o, es, ep, base_of e (noA e d), d, r⟩
    have hKb : K.In (hidT s₁.heap H) := fun b o e => base_of (KX b o e) (by
      cases q : H b with
      | none => rfl
      | some u =>
        have e' : b = a := hA b (by rw [q]; simp)
        subst e'
        rw [hK (by rw [q]; simp)] at e; cases e)
    have hM : Mod K mg (hidT s₁.heap H) := ⟨hKb, nsK hns, ⟨mb, nsK hb, hbb⟩, let ⟨mc, h1, h2⟩ := hlim; ⟨mc, nsK h1, h2⟩⟩
    have e0 : Env0 P w K mg (hidT s₁.heap H) callerA [] s₁ H := ⟨rfl, hM, fun b o e => of_hidT e, Nat.le_of_eq (hidT_size _ _), trivial, fun b hb => absurd (show b ∈ ([] : List Addr) from hb) (by simp), hok, .of_eq hg⟩
    refine codeAny_mono ((F _ hKb (nsK hns)).run callerA [] s₁ H ⟨[.ref a], []⟩ [.ref a] [.ref a] _ _ hr e0 (hbind s₁ (.ref a)) (.cons rfl .nil) (hsp H hO hS)) fun r s' h => ?_
    cases r with
    | error e => exact (hCX H e s' h).elim
    | ok fl =>
      cases fl with
      | next => exact False.elim h
      | brk => exact False.elim h
      | cont => exact False.elim h
      | ret u =>
        obtain ⟨v, H', os, bare, un, hok', r', q⟩ := h
        have q' : v = .bl true := q
        subst q'
        obtain rfl : u = Value.bool true := r'
        refine ⟨rfl, OldK.of_keep fun b o e => ?_, os, bare⟩
        cases q : H b with
        | none => exact un.keep b o e q (by intro z; exact absurd (show b ∈ ([] : List Addr) from z) (by simp)) (by simp)
        | some u =>
          rcases hO b with z | ⟨ob, xs, z⟩
          · rw [q] at z; cases z
          · have z2 := un.frzs b ob _ z
            obtain ⟨e1, _⟩ := hok b _ z
            obtain ⟨e2, _⟩ := hok' b _ z2
            rw [e] at e1; cases e1
            exact e2
  cases hk : K.lookup a with
  | some o =>
    -- the script is one of the module's own objects
    have e := KX a o hk
    rw [ha] at e
    cases e
    refine core (fun _ => none) (fun _ => .inl rfl) (.inr ⟨_, vs.toArray, _, hk, rfl, rfl, rfl, by rw [List.size_toArray, lenV]; exact hl, by simpa using rv⟩) (fun b u z => by have z' : (none : Option HO) = some u := z; cases z') (fun b z => absurd rfl z) fun z => absurd rfl z
  | none =>
    refine core (fun b => if b = a then some (.frz { cls := .type "list", data := .seq vs.toArray } (.lst (ns.map V.int))) else none) (fun b => ?_) (.inl (.inr ⟨{ cls := .type "list", data := .seq vs.toArray }, if_pos rfl⟩)) (fun b u z => ?_) (fun b z => ?_) fun _ => hk
    · by_cases hb : b = a
      · exact .inr ⟨_, _, if_pos hb⟩
      · exact .inl (if_neg hb)
    · by_cases hb : b = a
      · have z' := (if_pos hb).symm.trans z
        cases z'
        subst hb
        exact ⟨ha, by rw [List.length_map]; exact hl, vs, _, rv, ha⟩
      · have z' := (if_neg hb).symm.trans z
        cases z'
    · by_cases hb : b = a
      · exact hb
      · exact absurd (if_neg hb) z
end L2

namespace L2
open PySem PySem.Spec PyProof.Rows

noncomputable abbrev KOf {K : PySem.W.Frag} {h : Heap} (_ : K.In h) : PySem.W.Frag := K

end L2
/-! SHORT WORDS over the layer: a def of the text, its body, what a loop and a test want. -/
namespace L2
open PySem PySem.Spec PyProof.Rows

/-! ### the text by places -/
/-- the j-th statement of a class's body -/
noncomputable def inClass (s : Stmt) (j : Nat) : Stmt := match s with
  | .ClassDef _ _ _ body _ _ _ _ _ _ _ => body.getD j (.Pass ⟨0, 0, 0, 0⟩)
  | _ => .Pass ⟨0, 0, 0, 0⟩
noncomputable def defArgs (s : Stmt) : Arguments := match s with
  | .FunctionDef _ a _ _ _ _ _ _ _ _ => a
  | _ => { posonlyargs := [], args := [], vararg := none, kwonlyargs := [], kw_defaults := [], kwarg := none, defaults := [] }
noncomputable def defBody (s : Stmt) : List Stmt := match s with
  | .FunctionDef _ _ b _ _ _ _ _ _ _ => b
  | _ => []
noncomputable def defScope (s : Stmt) : Scope := match s with
  | .FunctionDef _ _ _ _ _ _ sc _ _ _ => sc
  | _ => { kind := .function, names := [], isGenerator := false, isCoroutine := false }

/-! ### no exception leaves a def -/
noncomputable abbrev CX0 : CXT := fun _ _ _ _ _ _ => False
noncomputable abbrev E0 : XK := fun _ _ _ => False
theorem pass0 {X : Cx} : Passes CX0 X E0 := fun _ _ _ _ _ _ _ h => h.elim

/-! ### a def (or method) of the text as it stands behind the top -/
structure Fun (K : PySem.W.Frag) (x qual : Str) (st : Stmt) (f : Addr) (fd : FuncData) : Prop where
  ex : ∃ (oc : Value) (od : Option Addr) (kV doc pm : Value) (an : Option Addr) (cdv ct : Value) (osl : Array (Option Value)),
    fd = PySem.W.fnOf x qual (defArgs st) (defBody st) (defScope st) .none kV doc pm an cdv ct ∧ K.lookup f = some ⟨oc, od, .func fd, osl⟩ ∧ PySem.W.codeIn K cdv qual = true
  kp : PySem.W.keepIn K (.ref f) = true
section
variable {P : Program} {w : World} {K : PySem.W.Frag} {mg : Str → Option Value} {base : Heap}
/-- THE RULE for a def: its body as a term of rules, and the reading of that term -/
theorem Fun.ok {x qual : Str} {st : Stmt} {f : Addr} {fd : FuncData} {N ps : List Str} {k : Nat} {sp : Sp} (F : Fun K x qual st f fd) (S : FnScope N ps (defScope st)) (len : ∀ vs H Q E, sp vs H Q E → vs.length = ps.length)
    (hbody : ∀ (cdv : Value) (A : Around) (outer : List Env) (s : Shared) (H : Hp) (vs : List V) (Q : VK) (E : XK), Room k (A.deeper (envOfC qual (defScope st) s.heap.objs.size f cdv)) → sp vs H Q E →
      ∃ t, PSs (cxOf CX0 P w K mg base N qual (defScope st) f cdv A outer s H E).nox (defBody st) t ∧ t { nx := fun _ H' => Q .non H', rt := Q } (start N vs) H) : FnOk P w K mg base CX0 (k + 1) f fd ps sp := by
  obtain ⟨oc, od, kV, doc, pm, an, cdv, ct, osl, rfl, lk, hcd⟩ := F.ex
  refine fn_of lk hcd S len fun A outer s H vs Q E hr hsp => ?_
  obtain ⟨t, h, q⟩ := hbody cdv A outer s H vs Q E hr hsp
  exact ⟨t, h.nox, q⟩
/-- how its arguments bind (no defaults): h is «fun _ _ _ _ _ _ us hl => match us, hl with | [_, _], _ => rfl», one _ a parameter -/
theorem Fun.binds {x qual : Str} {st : Stmt} {f : Addr} {fd : FuncData} {ps : List Str} (F : Fun K x qual st f fd)
    (h : ∀ (kV doc pm : Value) (an : Option Addr) (cdv ct : Value) (us : List Value), us.length = ps.length → bindArgs (PySem.W.fnOf x qual (defArgs st) (defBody st) (defScope st) .none kV doc pm an cdv ct) ⟨us, []⟩ = pure (ps.zip us)) : Binds K fd ps [] := by
  obtain ⟨oc, od, kV, doc, pm, an, cdv, ct, osl, rfl, lk, hcd⟩ := F.ex
  exact .all (h kV doc pm an cdv ct)
theorem fun_mk {x qual : Str} {st : Stmt} {f : Addr} {oc : Value} {od an : Option Addr} {osl : Array (Option Value)} {kV doc pm cdv ct : Value} (l : K.lookup f = some ⟨oc, od, .func (PySem.W.fnOf x qual (defArgs st) (defBody st) (defScope st) .none kV doc pm an cdv ct), osl⟩)
    (c : PySem.W.codeIn K cdv qual = true) (k : PySem.W.keepIn K (.ref f) = true) : Fun K x qual st f (PySem.W.fnOf x qual (defArgs st) (defBody st) (defScope st) .none kV doc pm an cdv ct) := ⟨⟨oc, od, kV, doc, pm, an, cdv, ct, osl, rfl, l, c⟩, k⟩
end
theorem small1000 {n : Nat} (h : n ≤ 1000) : n < sizeLine := Nat.lt_of_le_of_lt h (by decide)

/-! ### expressions in short: the name that stands in the i-th slot -/
section
variable {X : Cx}
theorem pv (i : Nat) {x : Str} {pos : Pos} (hN : X.N[i]? = some x := by rfl) (hv : Vis X.env.scope x := by first | exact Or.inl rfl | exact Or.inr (Or.inl rfl) | exact Or.inr (Or.inr rfl)) (hd : (x == ("__debug__" : Str)) = false := by decide)
    (hcd : (x == ("__classdict__" : Str)) = false := by decide) : PE X (.Name x pos) (tVar i) := pe_var hN hv hd hcd
end

/-! ### tests -/
theorem iteF {A B : Prop} (h : B) : if false = true then A else B := by
  rw [if_neg Bool.false_ne_true]
  exact h
theorem iteT {A B : Prop} (h : A) : if true = true then A else B := by
  rw [if_pos rfl]
  exact h
/-! ### heaps -/
/-- all that was tracked is as it was -/
noncomputable def Same (H H' : Hp) : Prop := ∀ b o, H b = some o → H' b = some o
theorem Same.refl (H : Hp) : Same H H := fun _ _ h => h
theorem Same.trans {H H1 H2 : Hp} (a : Same H H1) (b : Same H1 H2) : Same H H2 := fun c o h => b c o (a c o h)
theorem Same.free {H H' : Hp} (e : Same H H') {l : Addr} (h : H' l = Option.none) : H l = Option.none := by
  cases q : H l with
  | none => rfl
  | some o =>
    rw [e l o q] at h
    cases h
theorem Same.seq {K : PySem.W.Frag} {H H' : Hp} {a : Addr} {xs : List V} (e : Same H H') (h : SqL K H a xs) : SqL K H' a xs := by
  rcases h with (h | ⟨o, h⟩) | h
  · exact .inl (.inl (e _ _ h))
  · exact .inl (.inr ⟨o, e _ _ h⟩)
  · exact .inr h

end L2

namespace L2
open PySem PySem.Spec PyProof.Rows

/-! ### the meaning itself as a reading -/
noncomputable def wE (X : Cx) (e : Expr) : TE := fun σ H Q => ∀ (pins : List (Addr × Obj)) (s : Shared), Inv X pins σ H s → wpAny (model X.prog X.w) X.A (eval e X.env) (EP X pins σ Q) X.xe s
noncomputable def wT (X : Cx) (e : Expr) : TT := fun σ H Q => ∀ (pins : List (Addr × Obj)) (s : Shared), Inv X pins σ H s → wpAny (model X.prog X.w) X.A (isTrue e X.env (eval e X.env)) (TP X pins σ Q) X.xe s
noncomputable def wW (X : Cx) (e : Expr) : TT := fun σ H Q => ∀ (whole : Sem Value) (pins : List (Addr × Obj)) (s : Shared), Inv X pins σ H s → wpAny (model X.prog X.w) X.A (isTrue e X.env whole) (TP X pins σ Q) X.xe s
noncomputable def wA (X : Cx) (es : List Expr) : TA := fun σ H Q => ∀ (pos : Pos) (pins : List (Addr × Obj)) (s : Shared), Inv X pins σ H s → wpAny (model X.prog X.w) X.A (spliced (backTo pos (starEach es X.env))) (AP X pins σ Q) X.xe s
noncomputable def wS (X : Cx) (st : Stmt) : TS := fun D σ H => ∀ (pins : List (Addr × Obj)) (s : Shared), Inv X pins σ H s → wpAny (model X.prog X.w) X.A (exec st X.env) (SP X pins D) X.xe s
noncomputable def wSs (X : Cx) (sts : List Stmt) : TS := fun D σ H => ∀ (pins : List (Addr × Obj)) (s : Shared), Inv X pins σ H s → wpAny (model X.prog X.w) X.A (execs sts X.env) (SP X pins D) X.xe s
noncomputable def wG (X : Cx) (tg : Expr) : TG := fun v σ H Q => ∀ (pins : List (Addr × Obj)) (s : Shared) (u : Value), Inv X pins σ H s → RelV v u →
    wpAny (model X.prog X.w) X.A (assign tg X.env u) (fun _ s' => ∃ σ' H', Inv X pins σ' H' s' ∧ Q σ' H') X.xe s
noncomputable def wI (X : Cx) (tg iter : Expr) : TI := fun σ H R => ∀ (pins : List (Addr × Obj)) (s : Shared), Inv X pins σ H s →
    wpAny (model X.prog X.w) X.A (eval iter X.env) (fun v s1 => wpAny (model X.prog X.w) X.A (pyIter v) (PIE X pins σ tg R) X.xe s1) X.xe s
section
variable {X : Cx} {e : Expr} {es : List Expr} {st : Stmt} {sts : List Stmt} {tg iter : Expr} {σ : St} {H : Hp}
theorem pe_w : PE X e (wE X e) := fun pins s _ _ _ I h => h pins s I
theorem pt_w : PT X e (wT X e) := fun pins s _ _ _ I h => h pins s I
theorem pw_w : PW X e (wW X e) := fun w pins s _ _ _ I h => h w pins s I
theorem pa_w : PA X es (wA X es) := fun pos pins s _ _ _ I h => h pos pins s I
theorem ps_w : PS X st (wS X st) := fun pins s _ _ _ I h => h pins s I
theorem pss_w : PSs X sts (wSs X sts) := fun pins s _ _ _ I h => h pins s I
theorem pg_w : PG X tg (wG X tg) := fun pins s _ _ _ u _ I r h => h pins s u I r
theorem pi_w : PI X tg iter (wI X tg iter) := fun pins s _ _ _ I h => h pins s I
theorem PE.to {t : TE} {Q : VK} (h : PE X e t) (q : t σ H Q) : wE X e σ H Q := fun pins s I => h pins s σ H Q I q
theorem PT.to {t : TT} {Q : Bool → Hp → Prop} (h : PT X e t) (q : t σ H Q) : wT X e σ H Q := fun pins s I => h pins s σ H Q I q
theorem PW.to {t : TT} {Q : Bool → Hp → Prop} (h : PW X e t) (q : t σ H Q) : wW X e σ H Q := fun w pins s I => h w pins s σ H Q I q
theorem PA.to {t : TA} {Q : List V → Hp → Prop} (h : PA X es t) (q : t σ H Q) : wA X es σ H Q := fun pos pins s I => h pos pins s σ H Q I q
theorem PS.to {t : TS} {D : Ends} (h : PS X st t) (q : t D σ H) : wS X st D σ H := fun pins s I => h pins s σ H D I q
theorem PSs.to {t : TS} {D : Ends} (h : PSs X sts t) (q : t D σ H) : wSs X sts D σ H := fun pins s I => h pins s σ H D I q
theorem wE.imp {Q Q' : VK} (h : wE X e σ H Q) (k : ∀ v H', Q v H' → Q' v H') : wE X e σ H Q' := fun pins s I => thn (h pins s I) fun u s' ⟨v, H', I', r, q⟩ => ⟨v, H', I', r, k v H' q⟩
theorem wT.imp {Q Q' : Bool → Hp → Prop} (h : wT X e σ H Q) (k : ∀ v H', Q v H' → Q' v H') : wT X e σ H Q' := fun pins s I => thn (h pins s I) fun u s' ⟨H', I', q⟩ => ⟨H', I', k u H' q⟩
theorem wW.imp {Q Q' : Bool → Hp → Prop} (h : wW X e σ H Q) (k : ∀ v H', Q v H' → Q' v H') : wW X e σ H Q' := fun w pins s I => thn (h w pins s I) fun u s' ⟨H', I', q⟩ => ⟨H', I', k u H' q⟩
theorem wA.imp {Q Q' : List V → Hp → Prop} (h : wA X es σ H Q) (k : ∀ v H', Q v H' → Q' v H') : wA X es σ H Q' := fun pos pins s I => thn (h pos pins s I) fun u s' ⟨v, H', I', r, q⟩ => ⟨v, H', I', r, k v H' q⟩
theorem SP.imp {pins : List (Addr × Obj)} {D D' : Ends} {f : Flow} {s : Shared} (h : SP X pins D f s) (k1 : ∀ σ H, D.nx σ H → D'.nx σ H) (k2 : ∀ v H, D.rt v H → D'.rt v H) (k3 : ∀ σ H, D.bk σ H → D'.bk σ H) (k4 : ∀ σ H, D.ct σ H → D'.ct σ H) : SP X pins D' f s := by
  cases f with
  | next => obtain ⟨σ', H', I, q⟩ := h; exact ⟨σ', H', I, k1 _ _ q⟩
  | brk => obtain ⟨σ', H', I, q⟩ := h; exact ⟨σ', H', I, k3 _ _ q⟩
  | cont => obtain ⟨σ', H', I, q⟩ := h; exact ⟨σ', H', I, k4 _ _ q⟩
  | ret u => obtain ⟨v, σ', H', I, r, q⟩ := h; exact ⟨v, σ', H', I, r, k2 _ _ q⟩
theorem wSs.imp {D D' : Ends} (h : wSs X sts D σ H) (k1 : ∀ σ H, D.nx σ H → D'.nx σ H) (k2 : ∀ v H, D.rt v H → D'.rt v H) (k3 : ∀ σ H, D.bk σ H → D'.bk σ H) (k4 : ∀ σ H, D.ct σ H → D'.ct σ H) : wSs X sts D' σ H :=
  fun pins s I => thn (h pins s I) fun f s' q => q.imp k1 k2 k3 k4
theorem wG.imp {v : V} {Q Q' : St → Hp → Prop} (h : wG X tg v σ H Q) (k : ∀ σ' H', Q σ' H' → Q' σ' H') : wG X tg v σ H Q' := fun pins s u I r => thn (h pins s u I r) fun _ s' ⟨σ', H', I', q⟩ => ⟨σ', H', I', k _ _ q⟩
end

/-! ### an untracked object of ours becomes a tracked one; tracked ones are laid aside -/
section
variable {X : Cx} {pins : List (Addr × Obj)} {σ : St} {H F : Hp} {s : Shared}
theorem HOk.track {P : Program} {w : World} {h : Heap} {a : Addr} {o : HO} (ok : HOk P w H h) (hn : H a = none) (new : ObjOk P w (upd H a o) h a o) : HOk P w (upd H a o) h := fun b u e => by
  by_cases hb : b = a
  · subst hb
    rw [upd_same] at e
    cases e
    exact new
  · rw [upd_ne hb] at e
    exact (ok b u e).stay (fun _ _ _ q => q) (fun c q => by rw [upd_ne (ne_of_none q hn)]; exact q) fun c xs q => by rw [upd_ne (ne_of_none q hn)]; exact q
theorem Inv.track {a : Addr} {o : HO} (I : Inv X pins σ H s) (hn : H a = none) (h0 : X.s₀.heap.objs.size ≤ a) (hL : a ≠ X.env.locals) (hc : ∀ x c, X.env.cells.lookup x = some c → c ≠ a)
    (hp : ∀ p ∈ X.pn ++ pins, p.1 ≠ a) (new : ObjOk X.prog X.w (upd H a o) s.heap a o) : Inv X pins σ (upd H a o) s := by
  refine ⟨I.ok, I.os, I.bare, ⟨I.base.keep, I.base.slot, fun b u e n hx => ?_, I.base.there, fun b xs e => ?_, fun b u xs e => ?_, fun b ps e => ?_⟩, I.loc, I.cell, ?_, fun x c e => ?_, fun p hp' => ?_, I.hok.track hn new, I.len⟩
  · rw [upd_ne (Nat.ne_of_lt (Nat.lt_of_lt_of_le (Heap.lt_size e) h0))]
    exact I.base.free b u e n hx
  · have q := I.base.tups b xs e
    rw [upd_ne (ne_of_none q hn)]
    exact q
  · have q := I.base.frzs b u xs e
    rw [upd_ne (ne_of_none q hn)]
    exact q
  · obtain ⟨m, q⟩ := I.base.tbls b ps e
    exact ⟨m, by rw [upd_ne (ne_of_none q hn)]; exact q⟩
  · rw [upd_ne (Ne.symm hL)]
    exact I.free
  · rw [upd_ne (hc x c e)]
    exact I.freeC x c e
  · obtain ⟨e, n, r⟩ := I.pin p hp'
    exact ⟨e, by rw [upd_ne (hp p hp')]; exact n, r⟩

/-- what hangs on no other tracked object -/
noncomputable def SmpO : HO → Prop
  | .lst _ => True
  | .tup _ => True
  | .dK _ => True
  | .frz _ (.lst _) => True
  | .frz _ (.dK _) => True
  | .ext _ => True
  | _ => False
noncomputable def Smp (H : Hp) : Prop := ∀ b o, H b = some o → SmpO o
theorem ObjOk.smp {P : Program} {w : World} {h : Heap} {a : Addr} {o : HO} (z : SmpO o) (x : ObjOk P w H h a o) : ObjOk P w F h a o := by
  cases o with
  | lst xs => exact x
  | tup xs => exact x
  | dK kvs => exact x
  | frz ob u => cases u with
    | lst xs => exact x
    | dK kvs => exact x
    | _ => exact absurd z (fun q => q)
  | ext φ => exact x
  | _ => exact absurd z (fun q => q)
theorem Smp.sub (h : Smp H) (s : Same F H) : Smp F := fun b o e => h b o (s b o e)
/-- a smaller heap, that has all of the entry's -/
theorem Inv.less (I : Inv X pins σ H s) (hF : Same F H) (h0 : Same X.B₀ F) (hs : Smp F) : Inv X pins σ F s := by
  refine ⟨I.ok, I.os, I.bare, ⟨I.base.keep, I.base.slot, fun b u e n hx => hF.free (I.base.free b u e n hx), I.base.there, fun b xs e => h0 _ _ (X.hB _ _ e (fun _ z => by cases z)), fun b u xs e => h0 _ _ (X.hB _ _ e (fun _ z => by cases z)), fun b ps e => ⟨#[], ?_⟩⟩, I.loc, I.cell, hF.free I.free, fun x c e => hF.free (I.freeC x c e), fun p hp => ?_, fun b o e => (I.hok b o (hF b o e)).smp (hs b o e), I.len⟩
  · have q := h0 _ _ (X.hB _ _ e (fun _ z => by cases z))
    rw [q]
    simp
  · obtain ⟨e, n, r⟩ := I.pin p hp
    exact ⟨e, hF.free n, r⟩
end

/-! ### comprehensions -/
noncomputable def clo (cells : List (Str × Addr)) : List (Str × NameKind) → List (Str × Addr) → List (Str × Addr)
  | [], cs => cs
  | (n, k) :: r, cs => clo cells r (if (k == NameKind.free) = true then (n, (cells.lookup n).getD 0) :: cs else cs)
theorem closure_go {env : Env} : ∀ (names : List (Str × NameKind)) (cs : List (Str × Addr)), (∀ y ∈ names, y.2 = .free → ∃ c, env.cells.lookup y.1 = some c) →
    (forIn names cs (fun (x : Str × NameKind) (r : List (Str × Addr)) => if (x.2 == NameKind.free) = true then (do let c ← cellOf env x.1; pure (ForInStep.yield ((x.1, c) :: r))) else pure (ForInStep.yield r)) : Sem (List (Str × Addr))) = pure (clo env.cells names cs)
  | [], cs, _ => rfl
  | (n, k) :: r, cs, h => by
    rw [List.forIn_cons]
    by_cases hk : (k == NameKind.free) = true
    · obtain ⟨c, hc⟩ := h (n, k) List.mem_cons_self (by simpa using hk)
      have e : cellOf env n = pure c := by
        unfold cellOf
        have hc' : env.cells.lookup n = some c := hc
        rw [hc']
      simp only [hk, if_true, e, pure_bind, clo]
      have hc' : env.cells.lookup n = some c := hc
      rw [hc']
      exact closure_go r _ fun y hy => h y (List.mem_cons_of_mem _ hy)
    · simp only [hk, Bool.false_eq_true, if_false, pure_bind, clo]
      exact closure_go r _ fun y hy => h y (List.mem_cons_of_mem _ hy)
theorem closure_eq {env : Env} {scope : Scope} (h : ∀ y ∈ scope.names, y.2 = .free → ∃ c, env.cells.lookup y.1 = some c) : closureFor scope env = pure (clo env.cells scope.names []) := by
  simp only [closureFor]
  have e := closure_go (env := env) scope.names [] h
  simp only [bind_pure] 
  exact e
theorem clo_look (cells : List (Str × Addr)) : ∀ (names : List (Str × NameKind)) (cs : List (Str × Addr)) (x : Str) (c : Addr), (clo cells names cs).lookup x = some c → cs.lookup x = some c ∨ ((x, NameKind.free) ∈ names ∧ c = (cells.lookup x).getD 0)
  | [], cs, x, c, h => .inl h
  | (n, k) :: r, cs, x, c, h => by
    rcases clo_look cells r _ x c h with q | ⟨q1, q2⟩
    · by_cases hk : (k == NameKind.free) = true
      · rw [if_pos hk, List.lookup_cons] at q
        have ek : k = .free := by simpa using hk
        by_cases hx : (x == n) = true
        · simp only [hx] at q
          have e : x = n := by simpa using hx
          subst e
          exact .inr ⟨by rw [ek]; exact List.mem_cons_self, (Option.some.inj q).symm⟩
        · have hx' : (x == n) = false := by simpa using hx
          simp only [hx'] at q
          exact .inl q
      · rw [if_neg hk] at q
        exact .inl q
    · exact .inr ⟨List.mem_cons_of_mem _ q1, q2⟩
theorem clo_has (cells : List (Str × Addr)) : ∀ (names : List (Str × NameKind)) (cs : List (Str × Addr)) (x : Str), (x, NameKind.free) ∈ names ∨ (∃ c, cs.lookup x = some c) → ∃ c, (clo cells names cs).lookup x = some c
  | [], cs, x, h => h.elim (fun z => nomatch z) fun z => z
  | (n, k) :: r, cs, x, h => by
    refine clo_has cells r _ x ?_
    by_cases hk : (k == NameKind.free) = true
    · rw [if_pos hk]
      by_cases hx : (x == n) = true
      · exact .inr ⟨(cells.lookup n).getD 0, by rw [List.lookup_cons]; simp only [hx]⟩
      · have hx' : (x == n) = false := by simpa using hx
        rcases h with q | ⟨c, q⟩
        · rcases List.mem_cons.mp q with z | z
          · cases z
            exact absurd (by simp) hx
          · exact .inl z
        · exact .inr ⟨c, by rw [List.lookup_cons]; simp only [hx']; exact q⟩
    · rw [if_neg hk]
      rcases h with q | q
      · rcases List.mem_cons.mp q with z | z
        · cases z
          exact absurd rfl hk
        · exact .inl z
      · exact .inr q
theorem relabel_kind {env : Env} : ∀ {names : List (Str × NameKind)} {x : Str}, ((names.map fun (n, k) => if (k == NameKind.free && env.scope.kind == .function && env.kindOf n == some .cell) then (n, NameKind.cell) else (n, k)).lookup x = some .cell ∨
      (names.map fun (n, k) => if (k == NameKind.free && env.scope.kind == .function && env.kindOf n == some .cell) then (n, NameKind.cell) else (n, k)).lookup x = some .free) → names.lookup x = some .cell ∨ names.lookup x = some .free
  | [], x, h => by simp at h
  | (n, k) :: r, x, h => by
    have ih := @relabel_kind env r x
    rw [List.map_cons] at h
    rw [List.lookup_cons]
    by_cases hc : (k == NameKind.free && env.scope.kind == .function && env.kindOf n == some .cell) = true
    · simp only [hc, if_true, List.lookup_cons] at h
      cases hx : x == n with
      | true =>
        have hk : k = .free := by
          have := hc
          simp only [Bool.and_eq_true, beq_iff_eq] at this
          exact this.1.1
        exact .inr (by rw [hk])
      | false =>
        simp only [hx] at h ⊢
        exact ih h
    · have hc' : (k == NameKind.free && env.scope.kind == .function && env.kindOf n == some .cell) = false := by simpa using hc
      simp only [hc', Bool.false_eq_true, if_false, List.lookup_cons] at h
      cases hx : x == n with
      | true =>
        simp only [hx] at h ⊢
        exact h
      | false =>
        simp only [hx] at h ⊢
        exact ih h
theorem comp_loop {prog : Program} {w : World} {A : Around} {R : Result → Shared → Prop} {s : Shared} {elt target iter : Expr} {ifs : List Expr} {scope : Scope} {pos : Pos} {it acc : Value} {env : Env} (Ξ : Value → Shared → Prop) (hΞ : ∀ e s, Ξ e s → notedBy (model prog w) A env (fun e s' => R (.error e) s') e s) (J : Nat → Shared → Prop)
    (turn : ∀ n s, J n s → wpAny (model prog w) A (pyNext it) (fun r s₁ => match r with
      | none => R (.ok .next) s₁
      | some v => wpAny (model prog w) A (letOwnedTupleGo target it v) (fun _ s₂ => wpAny (model prog w) A (assign target env v) (fun _ s₃ =>
          wpAny (model prog w) A (forIn ifs true fun c r => if r = true then do let ok ← isTrue c env (eval c env); pure (ForInStep.yield ok) else pure (ForInStep.yield r)) (fun ok s₄ =>
            if ok = true then wpAny (model prog w) A (eval elt env) (fun x s₅ => wpAny (model prog w) A (call (.builtin "list.append") [acc, x]) (fun _ s₆ => ∃ m, m < n ∧ J m s₆) Ξ s₅) Ξ s₄
            else ∃ m, m < n ∧ J m s₄) Ξ s₃) Ξ s₂) Ξ s₁) Ξ s)
    (n : Nat) (h : J n s) : codeAny (model prog w) A (.compLoop (.ListComp elt [⟨target, iter, ifs, 0⟩] scope pos) 0 it acc env) R s := by
  refine codeAny_loop rfl J (fun n s hI => ?_) n h
  show wpAny _ A ((compTurn (.ListComp elt [⟨target, iter, ifs, 0⟩] scope pos) 0 it acc env).onRaise (fun x => do noteFrame x env; theTreesLotGoes x)) _ _ s
  refine wpAny_noted ?_
  rw [compTurn_list]
  refine wpAny_bind (wpAny_standAt (wpAny_bind (wpAny_mono (turn n s hI) (fun r s₁ h₁ => ?_) fun e s z => hΞ e s z)))
  cases r with
  | none => exact wpAny_pure h₁
  | some v =>
    refine wpAny_bind (wpAny_mono h₁ (fun _ s₂ h₂ => ?_) fun e s z => hΞ e s z)
    refine wpAny_bind (wpAny_mono h₂ (fun _ s₃ h₃ => ?_) fun e s z => hΞ e s z)
    refine wpAny_bind (wpAny_mono h₃ (fun ok s₄ h₄ => ?_) fun e s z => hΞ e s z)
    cases ok with
    | false => exact wpAny_pure ⟨rfl, h₄⟩
    | true => exact wpAny_bind (wpAny_bind (wpAny_mono h₄ (fun x s₅ h₅ => wpAny_bind (wpAny_mono h₅ (fun _ s₆ h₆ => wpAny_pure (wpAny_pure ⟨rfl, h₆⟩)) fun e s z => hΞ e s z)) fun e s z => hΞ e s z))

noncomputable def wIfs (X : Cx) (ifs : List Expr) : TT := fun σ H Q => ∀ (pins : List (Addr × Obj)) (s : Shared), Inv X pins σ H s →
  wpAny (model X.prog X.w) X.A (forIn ifs true fun c r => if r = true then do let ok ← isTrue c X.env (eval c X.env); pure (ForInStep.yield ok) else pure (ForInStep.yield r)) (TP X pins σ Q) X.xe s
theorem wIfs_nil {X : Cx} {σ : St} {H : Hp} {Q : Bool → Hp → Prop} (h : Q true H) : wIfs X [] σ H Q := fun _ _ I => wpAny_tests_nil ⟨H, I, h⟩
theorem wIfs_one {X : Cx} {c : Expr} {σ : St} {H : Hp} {Q : Bool → Hp → Prop} (h : wT X c σ H Q) : wIfs X [c] σ H Q := fun pins s I => wpAny_tests_one (h pins s I)
/-- a comprehension's block running -/
noncomputable def cxB (X : Cx) (N : List Str) (scope : Scope) (cl : List (Str × Addr)) (C : Addr) (ex : List Addr) (s : Shared) (H : Hp) : Cx :=
  { prog := X.prog, w := X.w, K := X.K, mg := X.mg, base := X.base, A := X.A, N := N, s₀ := s, H₀ := H, env := compEnvC scope cl C X.env, outer := X.stack, stack := X.stack, ex := ex, fn := fun _ => false, calm := true, pn := [], xe := fun _ _ => False }
/-- the same, where an exception may leave the block -/
noncomputable def cxBx (X : Cx) (N : List Str) (scope : Scope) (cl : List (Str × Addr)) (C : Addr) (ex : List Addr) (s : Shared) (H : Hp) (ξ : Value → Shared → Prop) : Cx := { cxB X N scope cl C ex s H with xe := ξ }
/-- the outer names that the block knows: cap tells for each of the block's names its slot outside -/
noncomputable def capt (cap : List (Option Nat)) (σ : St) : St := cap.map fun o => o.bind fun k => (σ[k]?).join
/-- what is asked of the names, by looking -/
noncomputable def compNames (scope sc : Scope) : Bool := scope.names.all fun y => (!(y.2 == NameKind.free) || sc.names.lookup y.1 == some NameKind.cell) && !(y.2 == NameKind.cell) && (!(y.2 == NameKind.local) || scope.names.lookup y.1 == some NameKind.local)
noncomputable def capNames (N M : List Str) (scope sc : Scope) (cap : List (Option Nat)) : Bool := cap.length == N.length && (cap.zip N).all fun y => match y.1 with
  | none => true
  | some k => M[k]? == some y.2 && sc.names.lookup y.2 == some NameKind.cell && scope.names.lookup y.2 == some NameKind.free
theorem lookup_relabel_free {env : Env} (hf : env.scope.kind = .function) : ∀ {names : List (Str × NameKind)} {x : Str}, names.lookup x = some .free → env.kindOf x = some .cell →
    (names.map fun (n, k) => if (k == NameKind.free && env.scope.kind == .function && env.kindOf n == some .cell) then (n, NameKind.cell) else (n, k)).lookup x = some .cell
  | [], x, h, _ => by simp at h
  | (n, k) :: r, x, h, hc => by
    rw [List.map_cons]
    cases hx : x == n with
    | true =>
      have e : x = n := by simpa using hx
      subst e
      rw [List.lookup_cons] at h
      simp only [beq_self_eq_true] at h
      have ek : k = .free := Option.some.inj h
      subst ek
      have hb : (NameKind.free == NameKind.free && env.scope.kind == .function && env.kindOf x == some .cell) = true := by rw [hf, hc]; rfl
      show List.lookup x ((if (NameKind.free == NameKind.free && env.scope.kind == .function && env.kindOf x == some .cell) = true then (x, NameKind.cell) else (x, NameKind.free)) :: _) = _
      rw [if_pos hb, List.lookup_cons]
      simp only [beq_self_eq_true]
    | false =>
      rw [List.lookup_cons] at h
      simp only [hx] at h
      have ih := lookup_relabel_free hf (names := r) h hc
      by_cases hb : (k == NameKind.free && env.scope.kind == .function && env.kindOf n == some .cell) = true
      · simp only [hb, if_true, List.lookup_cons, hx]
        exact ih
      · have hb' : (k == NameKind.free && env.scope.kind == .function && env.kindOf n == some .cell) = false := by simpa using hb
        simp only [hb', Bool.false_eq_true, if_false, List.lookup_cons, hx]
        exact ih
theorem Inv.low {X : Cx} {pins : List (Addr × Obj)} {σ : St} {H : Hp} {s : Shared} (I : Inv X pins σ H s) : ∀ b ∈ frs X.stack, b < s.heap.objs.size := fun b hb => by
  obtain ⟨_, o, ho, _⟩ := I.stack.mem hb
  exact Heap.lt_size ho
theorem comp_runX {X : Cx} {pins : List (Addr × Obj)} {σ : St} {H : Hp} {s : Shared} {elt tg iter : Expr} {ifs : List Expr} {scope : Scope} {pos : Pos} {N : List Str} {cap : List (Option Nat)} {g : TG} {tt : TT} {te : TE} {J : It} {fp : List Addr} {it : Addr} {tn : Nat → Heap → Prop} {E : Value → Shared → Prop} {sc : Scope} (ξ : List (Str × Addr) → Addr → Value → Shared → Prop) (ξ' : List (Str × Addr) → Addr → Value → Hp → Shared → Prop)
    (hc : X.calm = true) (hsc : X.env.scope = sc) (hcn : compNames scope sc = true) (hcap : capNames N X.N scope sc cap = true) (hk : scope.kind = .function)
    (I : Inv X pins σ H s) (T : Turn X.prog X.w X.K tg J fp it tn) (st : tn 0 s.heap) (hfp : ∀ b ∈ fp, FpOk X pins H b)
    (hg : ∀ cl C, PG (cxBx X N scope cl C fp s H (ξ cl C)) tg g) (ht : ∀ cl C pi s2 σ2 H2 Q, Inv (cxBx X N scope cl C fp s H (ξ cl C)) pi σ2 H2 s2 → tt σ2 H2 Q → wpAny (model X.prog X.w) X.A (forIn ifs true fun c r => if r = true then do let ok ← isTrue c (compEnvC scope cl C X.env) (eval c (compEnvC scope cl C X.env)); pure (ForInStep.yield ok) else pure (ForInStep.yield r)) (TP (cxBx X N scope cl C fp s H (ξ cl C)) pi σ2 Q) (ξ cl C) s2)
    (he : ∀ cl C, PE (cxBx X N scope cl C fp s H (ξ cl C)) elt te) (W : Nat → Nat → List V → St → Hp → Prop) (m0 : Nat) (w0 : W 0 m0 [] (capt cap σ) H)
    (RR : Value → Addr → Result → Shared → Prop)
    (hξ : ∀ cl C e s', ξ cl C e s' → ∃ pi σb H', Inv (cxBx X N scope cl C fp s H (ξ cl C)) pi σb H' s' ∧ ξ' cl C e H' s')
    (hx : ∀ cl D C e H' s', ξ' cl C e H' s' → H' C = none → X.s₀.heap.objs.size ≤ C → C ≠ X.env.locals → (∀ x c, X.env.cells.lookup x = some c → c ≠ C) → (∀ p ∈ X.pn ++ pins, p.1 ≠ C) → C ∉ frs X.stack → (∃ m, s'.heap.Ns C m) → Inv X pins σ H' s' → notedBy (model X.prog X.w) X.A (compEnvC scope cl C X.env) (fun e s'' => RR (.ref D) C (.error e) s'') e s')
    (turn : ∀ i m ys σb H2, W i m ys σb H2 →
      (J.stop i H2 ∧ ∀ D C s', H2 D = none → H2 C = none → D ≠ C → X.s₀.heap.objs.size ≤ C → C ≠ X.env.locals → (∀ x c, X.env.cells.lookup x = some c → c ≠ C) → (∀ p ∈ X.pn ++ pins, p.1 ≠ C) → C ∉ frs X.stack → (∃ m, s'.heap.Ns C m) → Inv X pins σ (upd H2 D (.lst ys)) s' → RR (.ref D) C (.ok .next) s') ∨
      (J.go i H2 ∧ ys.length < sizeLine ∧ ∃ Nx : List V → St → Hp → Prop, (∀ ys' σ' H', Nx ys' σ' H' → ∃ m', m' < m ∧ W (i + 1) m' ys' σ' H') ∧
        ∀ x H', J.yld i H2 x H' → g x σb H' fun σ2 H3 => tt σ2 H3 fun b H4 => if b = true then te σ2 H4 fun v H5 => Nx (ys ++ [v]) σ2 H5 else Nx ys σ2 H4)) :
    wpAny (model X.prog X.w) X.A (newList []) (fun acc s₃ => wpAny (model X.prog X.w) X.A (newFunctionEnv scope X.env.globals (clo X.env.cells scope.names []) [] X.env.qual none .none (some X.env)) (fun cenv s₄ =>
      codeAny (model X.prog X.w) X.A (.compStart (.ListComp elt [⟨tg, iter, ifs, 0⟩] scope pos) 0 (.ref it) acc { cenv with scope := relabel scope X.env }) (RR acc cenv.locals) s₄) E s₃) E s := by
  -- the names
  have nm : ∀ y ∈ scope.names, (y.2 = NameKind.free → sc.names.lookup y.1 = some NameKind.cell) ∧ y.2 ≠ NameKind.cell ∧ (y.2 = NameKind.local → scope.names.lookup y.1 = some NameKind.local) := fun y hy => by
    have q := List.all_eq_true.mp hcn y hy
    simp only [Bool.and_eq_true, Bool.or_eq_true, Bool.not_eq_true', beq_eq_false_iff_ne, ne_eq, beq_iff_eq] at q
    exact ⟨fun e => q.1.1.resolve_left fun z => z e, q.1.2, fun e => q.2.resolve_left fun z => z e⟩
  have fre : ∀ y ∈ scope.names, y.2 = .free → ∃ c, X.env.cells.lookup y.1 = some c := fun y hy e => I.ok.has y.1 (.inl (by show X.env.scope.names.lookup y.1 = _; rw [hsc]; exact (nm y hy).1 e))
  generalize hcl : clo X.env.cells scope.names [] = cl
  have csub : ∀ x c, cl.lookup x = some c → X.env.cells.lookup x = some c := fun x c e => by
    rw [← hcl] at e
    rcases clo_look _ _ _ _ _ e with z | ⟨z1, z2⟩
    · simp at z
    · obtain ⟨c', q⟩ := fre _ z1 rfl
      rw [q] at z2
      rw [q, z2]
      rfl
  have chas : ∀ x, ((relabel scope X.env).names.lookup x = some .cell ∨ (relabel scope X.env).names.lookup x = some .free) → ∃ c, cl.lookup x = some c := fun x e => by
    rcases relabel_kind e with z | z
    · exact absurd rfl (nm _ (PySem.mem_of_lookup z)).2.1
    · rw [← hcl]
      exact clo_has _ _ _ _ (.inl (PySem.mem_of_lookup z))
  have cexi : ∀ x c, cl.lookup x = some c → c < s.heap.objs.size := fun x c e => by
    obtain ⟨v, o, ho, _⟩ := I.cell x c (csub x c e)
    exact Heap.lt_size ho
  have cexX : ∀ x c, X.env.cells.lookup x = some c → c < s.heap.objs.size := fun x c e => by
    obtain ⟨v, o, ho, _⟩ := I.cell x c e
    exact Heap.lt_size ho
  have pexX : ∀ p ∈ X.pn ++ pins, p.1 < s.heap.objs.size := fun p hp => Heap.lt_size (I.pin p hp).1
  have flow : ∀ b ∈ fp, b < s.heap.objs.size := fun b hb => by
    obtain ⟨o, ho, _⟩ := T.obj 0 _ st b hb
    exact Heap.lt_size ho
  have fstk : ∀ b ∈ fp, b ∉ frs X.stack := fun b hb z => by
    obtain ⟨_, f1, f2, _⟩ := hfp b hb
    rcases List.mem_cons.mp (I.stkSub b z) with q | q
    · exact f1 q
    · exact f2 q
  have hkr : (relabel scope X.env).kind = .function := hk
  refine wpAny_newObj_type (wpAny_newFunctionEnv (fun y hy => (nm y hy).2.1) (by intro y hy; simp at hy) (fun h₁ hns₁ hsb₁ => ?_) hk)
  dsimp only at hns₁ hsb₁ ⊢
  generalize hH2 : s.heap.push { cls := .type "list", dict := none, data := .seq ([] : List Value).toArray } = G2 at hns₁ hsb₁ ⊢
  have hC : G2.objs.size = s.heap.objs.size + 1 := by rw [← hH2, Heap.size_push]
  have hDC : s.heap.objs.size ≠ G2.objs.size := by rw [hC]; exact Nat.ne_of_lt (Nat.lt_succ_self _)
  have hCle : s.heap.objs.size ≤ G2.objs.size := by rw [hC]; exact Nat.le_succ _
  have neC : ∀ b, b < s.heap.objs.size → b ≠ G2.objs.size := fun b hb => by rw [hC]; exact Nat.ne_of_lt (Nat.lt_succ_of_lt hb)
  have old : ∀ b o, s.heap.get? b = some o → h₁.get? b = some o := fun b o e => hsb₁.extBut b o (neC b (Heap.lt_size e)) (Heap.get?_push_of_some _ (hH2 ▸ Heap.get?_push_of_some _ e))
  have hacc : h₁.get? s.heap.objs.size = some { cls := .type "list", dict := none, data := .seq ([] : List Value).toArray } := hsb₁.extBut _ _ hDC (Heap.get?_push_of_some _ (hH2 ▸ Heap.get?_push_size _ rfl))
  have env_eq : ({ newEnv scope G2.objs.size X.env.globals cl X.env.qual none .none (some X.env) 0 with scope := relabel scope X.env } : Env) = compEnvC scope cl G2.objs.size X.env := rfl
  generalize hDD : s.heap.objs.size = D at *
  generalize hCC : G2.objs.size = C at *
  have okX : (cxBx X N scope cl C fp s H (ξ cl C)).Ok := by
    refine ⟨I.mod, hkr, I.ok.glob, I.ok.blt, ?_, fun x y c a b => I.ok.inj x y c (csub x c a) (csub y c b), chas, (fun x c z => nomatch z), fun _ => I.ok.hd hc, I.ok.frames, .inl rfl, fun b hb => ⟨neC b (flow b hb), fun x c e => (hfp b hb).2.2.2.2.1 x c (csub x c e)⟩, I.bs, ?_, fun b o e hb => ?_, fstk, I.stack, I.stkFree⟩
    · show s.heap.objs.size ≤ C
      rw [hDD]; exact hCle
    · exact Nat.le_trans I.ok.bsz I.sz
    · rcases (hfp b hb).2.2.2.1 with z | z
      · exact I.ok.noex b o e z
      · exact absurd (Nat.lt_of_lt_of_le (Heap.lt_size e) (Nat.le_trans I.ok.bsz z)) (Nat.lt_irrefl _)
  have capE : ∀ (i : Nat) (x : Str) (v : V), N[i]? = some x → (capt cap σ)[i]? = some (some v) → ∃ k : Nat, X.N[k]? = some x ∧ σ[k]? = some (some v) ∧ sc.names.lookup x = some .cell ∧ scope.names.lookup x = some .free := fun i x v e1 e2 => by
    unfold capNames at hcap
    rw [Bool.and_eq_true] at hcap
    unfold capt at e2
    rw [List.getElem?_map] at e2
    cases q : cap[i]? with
    | none => rw [q] at e2; cases e2
    | some o =>
      rw [q] at e2
      have e2 : (o.bind fun k => (σ[k]?).join) = some v := Option.some.inj e2
      cases o with
      | none => cases e2
      | some k =>
        have e2 : (σ[k]?).join = some v := e2
        have mz : (some k, x) ∈ cap.zip N := by
          refine List.mem_of_getElem? (i := i) ?_
          rw [List.getElem?_zip_eq_some]
          exact ⟨q, e1⟩
        have z := List.all_eq_true.mp hcap.2 _ mz
        simp only [Bool.and_eq_true, beq_iff_eq] at z
        refine ⟨k, z.1.1, ?_, z.1.2, z.2⟩
        cases w : σ[k]? with
        | none => rw [w] at e2; cases e2
        | some o' =>
          rw [w] at e2
          have e2 : o' = some v := e2
          rw [e2]
  have I0 : Inv (cxBx X N scope cl C fp s H (ξ cl C)) [(D, { cls := .type "list", dict := none, data := .seq ([] : List Value).toArray })] (capt cap σ) H { s with heap := h₁, toks := s.toks + ([] : List (Str × Value)).length } := by
    have dfree : H D = none := I.hok.fresh (Nat.le_of_eq hDD)
    refine ⟨okX, rfl, I.bare, Un.kept old, ⟨_, hns₁, fun i x v e1 e2 e3 => ?_⟩, fun x c e => ?_, I.hok.fresh (by rw [hDD]; exact hCle), fun x c e => I.freeC x c (csub x c e), fun p hp => ?_, I.hok.kept old, ?_⟩
    · obtain ⟨k, q1, q2, q3, q4⟩ := capE i x v e1 e2
      have q3' : X.env.scope.names.lookup x = some .cell := by rw [hsc]; exact q3
      obtain ⟨m, _, hl⟩ := I.loc
      obtain ⟨u, ru, lk⟩ := hl k x v q1 q2 (.inr (.inl q3'))
      refine ⟨u, ru, .inr ⟨.inl (lookup_relabel_free I.ok.kind q4 q3'), ?_⟩⟩
      rcases lk with ⟨z, _⟩ | ⟨_, c, z, ic⟩
      · have z' : X.env.scope.names.lookup x = some .local := z
        rw [q3'] at z'; cases z'
      · obtain ⟨c', hc'⟩ := chas x (.inl (lookup_relabel_free I.ok.kind q4 q3'))
        have := csub x c' hc'
        rw [z] at this
        have ec : c = c' := Option.some.inj this
        subst ec
        obtain ⟨o, ho, hd⟩ := ic
        exact ⟨c, hc', o, old c o ho, hd⟩
    · obtain ⟨v, o, ho, hd⟩ := I.cell x c (csub x c e)
      exact ⟨v, o, old c o ho, hd⟩
    · have hp' : p = (D, { cls := .type "list", dict := none, data := .seq ([] : List Value).toArray }) := by simpa [cxBx, cxB] using hp
      subst hp'
      refine ⟨hacc, dfree, hDC, fun z => ?_, fun v z => by cases z⟩
      have := I.low D z
      rw [hDD] at this
      exact Nat.lt_irrefl _ this
    · show (capt cap σ).length = N.length
      unfold capNames at hcap
      rw [Bool.and_eq_true] at hcap
      unfold capt
      rw [List.length_map]
      simpa using hcap.1
  have dlow : ∀ b, b < D → b ≠ D := fun b hb => Nat.ne_of_lt hb
  have loop : ∀ s₃ : Shared, s₃ = { s with heap := h₁, toks := s.toks + ([] : List (Str × Value)).length } →
      codeAny (model X.prog X.w) X.A (.compLoop (.ListComp elt [⟨tg, iter, ifs, 0⟩] scope pos) 0 (.ref it) (.ref D) (compEnvC scope cl C X.env)) (RR (.ref D) C) s₃ := by
    rintro s₃ rfl
    refine comp_loop (ξ cl C) (fun e s' z => ?_) (fun n s' => ∃ (i : Nat) (ys : List V) (σb : St) (H2 : Hp) (its : List Value) (nn : Nat), Inv (cxBx X N scope cl C fp s H (ξ cl C)) [(D, { cls := .type "list", dict := none, data := .seq its.toArray nn })] σb H2 s' ∧ tn i s'.heap ∧ (∀ b ∈ fp, H2 b = none) ∧ Vals ys its ∧ ys.length ≤ sizeLine ∧ W i n ys σb H2) ?_ m0
      ⟨0, [], capt cap σ, H, [], 0, I0, T.keep 0 _ _ st fun b hb o e => old b o e, fun b hb => (hfp b hb).1, .nil, Nat.zero_le _, w0⟩
    · obtain ⟨pi, σb, H', I', z'⟩ := hξ cl C e s' z
      obtain ⟨m4, ns4, _⟩ := id I'.loc
      have J0 : Inv X pins σ H' s' := I.call' (ch := fp) I'.os I'.base I'.hok I'.bare fun b hb => ⟨(hfp b hb).2.2.2.1, (hfp b hb).2.1, (hfp b hb).2.2.2.2.1, (hfp b hb).2.2.2.2.2⟩
      have hLD : X.env.locals < D := by rw [← hDD]; exact I.lt
      exact hx cl D C e H' s' z' I'.free (Nat.le_trans I.sz (by rw [hDD]; exact hCle)) (Nat.ne_of_gt (Nat.lt_of_lt_of_le hLD hCle)) (fun x c e => neC c (cexX x c e)) (fun p hp => neC _ (pexX p hp)) (fun z => absurd (I.low C z) (by rw [hDD]; exact Nat.not_lt.mpr hCle)) ⟨m4, ns4⟩ J0
    rintro n s3 ⟨i, ys, σ3, H3, its, nn, I3, st3, fr3, rv3, hlen, w3⟩
    have fpX : ∀ {H' : Hp} {its' : List Value} {nn' : Nat}, (∀ b ∈ fp, H' b = none) → ∀ b ∈ fp, FpOk (cxBx X N scope cl C fp s H (ξ cl C)) [(D, { cls := .type "list", dict := none, data := .seq its'.toArray nn' })] H' b := fun {H' its' nn'} hn b hb => by
      refine ⟨hn b hb, neC b (flow b hb), fstk b hb, .inl hb, fun x c e => (hfp b hb).2.2.2.2.1 x c (csub x c e), fun p hp => ?_⟩
      have hp' : p.1 = D := by
        have q : p ∈ ([] : List (Addr × Obj)) ++ [(D, { cls := .type "list", dict := none, data := .seq its'.toArray nn' })] := hp
        rw [List.nil_append, List.mem_singleton] at q
        rw [q]
      rw [hp']
      exact Ne.symm (dlow b (flow b hb))
    rcases turn i n ys σ3 H3 w3 with ⟨stop, fin⟩ | ⟨go, hsz, Nx, hN, step⟩
    · refine thn (T.done (cxBx X N scope cl C fp s H (ξ cl C)) rfl rfl rfl rfl i _ s3 σ3 H3 (ξ cl C) I3 (fpX fr3) st3 stop) fun r s4 ⟨hr, I4⟩ => ?_
      subst hr
      obtain ⟨m4, ns4, _⟩ := id I4.loc
      have J0 : Inv X pins σ H3 s4 := I.call' (ch := fp) I4.os I4.base I4.hok I4.bare fun b hb => ⟨(hfp b hb).2.2.2.1, (hfp b hb).2.1, (hfp b hb).2.2.2.2.1, (hfp b hb).2.2.2.2.2⟩
      obtain ⟨pd, pn, _⟩ := I4.pin (D, _) (List.mem_append_right _ List.mem_cons_self)
      have hLD : X.env.locals < D := by rw [← hDD]; exact I.lt
      refine fin D C s4 pn I4.free hDC (Nat.le_trans I.sz (by rw [hDD]; exact hCle)) (Nat.ne_of_gt (Nat.lt_of_lt_of_le hLD hCle)) (fun x c e => neC c (cexX x c e)) (fun p hp => neC _ (pexX p hp)) (fun z => absurd (I.low C z) (by rw [hDD]; exact Nat.not_lt.mpr hCle)) ⟨m4, ns4⟩ ?_
      refine J0.track pn (by rw [← hDD]; exact I.sz) (Nat.ne_of_gt hLD) (fun x c e => dlow c (cexX x c e)) (fun p hp => dlow _ (pexX p hp)) ?_
      exact ⟨hlen, its, nn, rv3, pd⟩
    · refine thn (T.item (cxBx X N scope cl C fp s H (ξ cl C)) rfl rfl rfl rfl i _ s3 σ3 H3 (ξ cl C) I3 (fpX fr3) st3 go) fun r s4 ⟨u, hr, h4⟩ => ?_
      subst hr
      refine thn h4 fun _ s5 ⟨x, H5, I5, r5, y5, st5, fr5⟩ => ?_
      have I5' := I5.pinned (fpX fr5) (T.obj _ _ st5)
      refine thn (hg cl C _ s5 σ3 H5 x u _ I5' r5 (step x H5 y5)) fun _ s6 ⟨σ6, H6, I6, q6⟩ => ?_
      refine thn (ht cl C _ s6 σ6 H6 _ I6 q6) fun b s7 ⟨H7, I7, q7⟩ => ?_
      have tnK : ∀ {σ7 : St} {H7 : Hp} {s7 : Shared}, Inv (cxBx X N scope cl C fp s H (ξ cl C)) ([(D, { cls := .type "list", dict := none, data := .seq its.toArray nn })] ++ pinsAt fp s5.heap) σ7 H7 s7 → tn (i + 1) s7.heap ∧ ∀ b ∈ fp, H7 b = none := fun {σ7 H7 s7} I7 => by
        refine ⟨T.keep _ _ _ st5 fun b hb o e => (I7.pin (b, o) (List.mem_append_right _ (List.mem_append_right _ (mem_pinsAt hb e)))).1, fun b hb => ?_⟩
        obtain ⟨o, e, d⟩ := T.obj _ _ st5 b hb
        exact (I7.pin (b, o) (List.mem_append_right _ (List.mem_append_right _ (mem_pinsAt hb e)))).2.1
      cases b with
      | false =>
        have q7' : Nx ys σ6 H7 := q7
        obtain ⟨m', hm, w7⟩ := hN _ _ _ q7'
        obtain ⟨t7, f7⟩ := tnK I7
        exact ⟨m', hm, i + 1, ys, σ6, H7, its, nn, I7.unpinned, t7, f7, rv3, hlen, w7⟩
      | true =>
        have q7' : te σ6 H7 fun v H5 => Nx (ys ++ [v]) σ6 H5 := q7
        refine thn (he cl C _ s7 σ6 H7 _ I7 q7') fun y s8 ⟨v, H8, I8, r8, q8⟩ => ?_
        obtain ⟨m', hm, w8⟩ := hN _ _ _ q8
        obtain ⟨pd, pn, pL, pf, pc⟩ := I8.pin (D, { cls := .type "list", dict := none, data := .seq its.toArray nn }) (List.mem_append_right _ (List.mem_append_left _ List.mem_cons_self))
        have hits : its.length = ys.length := rv3.length.symm
        refine wpAny_list_append_plain (items := its.toArray) ⟨nn, pd⟩ (fun h9 pl9 sb9 => ?_) (by rw [List.size_toArray, hits]; exact Nat.le_of_lt hsz)
        obtain ⟨n9, e9⟩ := pl9
        have e9' : h9.get? D = some { cls := .type "list", dict := none, data := .seq (its ++ [y]).toArray n9 } := by
          rw [e9]
          simp
        have I8' : Inv (cxBx X N scope cl C fp s H (ξ cl C)) (pinsAt fp s5.heap) σ6 H8 s8 := I8.pins_of fun p hp => I8.pin p (List.mem_append_right _ (List.mem_append_right _ hp))
        have I9 : Inv (cxBx X N scope cl C fp s H (ξ cl C)) (pinsAt fp s5.heap) σ6 H8 { s8 with heap := h9, toks := s8.toks } := I8'.turned (it := D) (fun b o hb e => sb9.extBut b o hb e) pn hDC (.inr (by rw [← hDD]; exact Nat.le_refl _)) (fun x c e => dlow c (cexi x c e)) fun p hp => by
          have hp' : p ∈ pinsAt fp s5.heap := by simpa [cxBx, cxB] using hp
          exact dlow _ (flow _ (of_pinsAt hp').1)
        have tn9 : tn (i + 1) h9 := T.keep _ _ _ st5 fun b hb o e => (I9.pin (b, o) (List.mem_append_right _ (mem_pinsAt hb e))).1
        have fr9 : ∀ b ∈ fp, H8 b = none := fun b hb => by
          obtain ⟨o, e, d⟩ := T.obj _ _ st5 b hb
          exact (I9.pin (b, o) (List.mem_append_right _ (mem_pinsAt hb e))).2.1
        refine ⟨m', hm, i + 1, ys ++ [v], σ6, H8, its ++ [y], n9, I9.pins_of fun p hp => ?_, tn9, fr9, Vals.append rv3 (.cons r8 .nil), by rw [List.length_append]; exact hsz, w8⟩
        have hp' : p = (D, { cls := .type "list", dict := none, data := .seq (its ++ [y]).toArray n9 }) := List.mem_singleton.mp hp
        subst hp'
        exact ⟨e9', pn, pL, pf, fun v z => by cases z⟩
  exact codeAny_compStart_list (loop _ rfl) (T.self _ 0 _ _ _ (T.keep 0 _ _ st fun b hb o e => old b o e) (loop _ rfl))
theorem comp_run {X : Cx} {pins : List (Addr × Obj)} {σ : St} {H : Hp} {s : Shared} {elt tg iter : Expr} {ifs : List Expr} {scope : Scope} {pos : Pos} {N : List Str} {cap : List (Option Nat)} {g : TG} {tt : TT} {te : TE} {J : It} {fp : List Addr} {it : Addr} {tn : Nat → Heap → Prop} {E : Value → Shared → Prop} {sc : Scope}
    (hc : X.calm = true) (hsc : X.env.scope = sc) (hcn : compNames scope sc = true) (hcap : capNames N X.N scope sc cap = true) (hk : scope.kind = .function)
    (I : Inv X pins σ H s) (T : Turn X.prog X.w X.K tg J fp it tn) (st : tn 0 s.heap) (hfp : ∀ b ∈ fp, FpOk X pins H b)
    (hg : ∀ cl C, PG (cxB X N scope cl C fp s H) tg g) (ht : ∀ cl C pi s2 σ2 H2 Q, Inv (cxB X N scope cl C fp s H) pi σ2 H2 s2 → tt σ2 H2 Q → wpAny (model X.prog X.w) X.A (forIn ifs true fun c r => if r = true then do let ok ← isTrue c (compEnvC scope cl C X.env) (eval c (compEnvC scope cl C X.env)); pure (ForInStep.yield ok) else pure (ForInStep.yield r)) (TP (cxB X N scope cl C fp s H) pi σ2 Q) (fun _ _ => False) s2)
    (he : ∀ cl C, PE (cxB X N scope cl C fp s H) elt te) (W : Nat → Nat → List V → St → Hp → Prop) (m0 : Nat) (w0 : W 0 m0 [] (capt cap σ) H)
    (RR : Value → Addr → Result → Shared → Prop)
    (turn : ∀ i m ys σb H2, W i m ys σb H2 →
      (J.stop i H2 ∧ ∀ D C s', H2 D = none → H2 C = none → D ≠ C → X.s₀.heap.objs.size ≤ C → C ≠ X.env.locals → (∀ x c, X.env.cells.lookup x = some c → c ≠ C) → (∀ p ∈ X.pn ++ pins, p.1 ≠ C) → C ∉ frs X.stack → (∃ m, s'.heap.Ns C m) → Inv X pins σ (upd H2 D (.lst ys)) s' → RR (.ref D) C (.ok .next) s') ∨
      (J.go i H2 ∧ ys.length < sizeLine ∧ ∃ Nx : List V → St → Hp → Prop, (∀ ys' σ' H', Nx ys' σ' H' → ∃ m', m' < m ∧ W (i + 1) m' ys' σ' H') ∧
        ∀ x H', J.yld i H2 x H' → g x σb H' fun σ2 H3 => tt σ2 H3 fun b H4 => if b = true then te σ2 H4 fun v H5 => Nx (ys ++ [v]) σ2 H5 else Nx ys σ2 H4)) :
    wpAny (model X.prog X.w) X.A (newList []) (fun acc s₃ => wpAny (model X.prog X.w) X.A (newFunctionEnv scope X.env.globals (clo X.env.cells scope.names []) [] X.env.qual none .none (some X.env)) (fun cenv s₄ =>
      codeAny (model X.prog X.w) X.A (.compStart (.ListComp elt [⟨tg, iter, ifs, 0⟩] scope pos) 0 (.ref it) acc { cenv with scope := relabel scope X.env }) (RR acc cenv.locals) s₄) E s₃) E s :=
  comp_runX (fun _ _ _ _ => False) (fun _ _ _ _ _ => False) hc hsc hcn hcap hk I T st hfp hg ht he W m0 w0 RR (fun _ _ _ _ z => z.elim) (fun _ _ _ _ _ _ z => z.elim) turn
end L2

namespace DL
open PySem PySem.Spec PyProof.Rows L2
noncomputable abbrev St := L2.St

/-! ### data -/
inductive D where
  | non | bl (b : Bool) | int (i : Int) | str (x : Str) | tup (ds : List D) | lst (ds : List D) | dic | scr (ns : List Int) | dki (ks : List Key) (ds : List D) | any (G : V → Hp → Prop)
mutual
noncomputable def Rep (K : PySem.W.Frag) (H : Hp) : D → V → Prop
  | .non, v => v = .non
  | .bl b, v => v = .bl b
  | .int i, v => v = .int i
  | .str x, v => v = .str x
  | .tup ds, v => ∃ a xs, v = .ref a ∧ H a = some (.tup xs) ∧ RepL K H ds xs
  | .lst ds, v => ∃ a xs, v = .ref a ∧ H a = some (.lst xs) ∧ RepL K H ds xs
  | .dic, v => ∃ a, v = .ref a ∧ H a = some (.dK [])
  | .dki ks ds, v => ∃ a xs, v = .ref a ∧ (∃ ob, H a = some (.frz ob (.dK (ks.zip xs)))) ∧ ks.length = ds.length ∧ RepL K H ds xs
  | .scr ns, v => ∃ a, v = .ref a ∧ SqL K H a (ns.map V.int)
  | .any G, v => (∃ a, v = .ref a) ∧ ∀ H', Same H H' → G v H'
noncomputable def RepL (K : PySem.W.Frag) (H : Hp) : List D → List V → Prop
  | [], xs => xs = []
  | d :: ds, xs => ∃ y ys, xs = y :: ys ∧ Rep K H d y ∧ RepL K H ds ys
end
mutual
theorem Rep.mono {K : PySem.W.Frag} {H H' : Hp} (h : Same H H') : ∀ {d : D} {v : V}, Rep K H d v → Rep K H' d v
  | .non, _, r => by simpa only [Rep] using r
  | .bl _, _, r => by simpa only [Rep] using r
  | .int _, _, r => by simpa only [Rep] using r
  | .str _, _, r => by simpa only [Rep] using r
  | .tup ds, v, r => by
    simp only [Rep] at r ⊢
    obtain ⟨a, xs, e, q, rl⟩ := r
    exact ⟨a, xs, e, h _ _ q, RepL.mono h rl⟩
  | .lst ds, v, r => by
    simp only [Rep] at r ⊢
    obtain ⟨a, xs, e, q, rl⟩ := r
    exact ⟨a, xs, e, h _ _ q, RepL.mono h rl⟩
  | .dki ks ds, v, r => by
    simp only [Rep] at r ⊢
    obtain ⟨a, xs, e, ⟨ob, q⟩, l, rl⟩ := r
    exact ⟨a, xs, e, ⟨ob, h _ _ q⟩, l, RepL.mono h rl⟩
  | .dic, v, r => by
    simp only [Rep] at r ⊢
    obtain ⟨a, e, q⟩ := r
    exact ⟨a, e, h _ _ q⟩
  | .any G, v, r => by
    simp only [Rep] at r ⊢
    exact ⟨r.1, fun H2 s => r.2 H2 (h.trans s)⟩
  | .scr ns, v, r => by
    simp only [Rep] at r ⊢
    obtain ⟨a, e, q⟩ := r
    exact ⟨a, e, h.seq q⟩
theorem RepL.mono {K : PySem.W.Frag} {H H' : Hp} (h : Same H H') : ∀ {ds : List D} {xs : List V}, RepL K H ds xs → RepL K H' ds xs
  | [], _, r => by simpa only [RepL] using r
  | d :: ds, xs, r => by
    simp only [RepL] at r ⊢
    obtain ⟨y, ys, e, q, rl⟩ := r
    exact ⟨y, ys, e, Rep.mono h q, RepL.mono h rl⟩
end
theorem RepL.len {K : PySem.W.Frag} {H : Hp} : ∀ {ds : List D} {xs : List V}, RepL K H ds xs → xs.length = ds.length
  | [], _, r => by simp only [RepL] at r; rw [r]; rfl
  | d :: ds, xs, r => by
    simp only [RepL] at r
    obtain ⟨y, ys, rfl, _, q⟩ := r
    simp only [List.length_cons, RepL.len q]
theorem RepL.get {K : PySem.W.Frag} {H : Hp} : ∀ {ds : List D} {xs : List V} {i : Nat} {d : D}, RepL K H ds xs → ds[i]? = some d → ∃ v, xs[i]? = some v ∧ Rep K H d v
  | [], _, i, d, r, e => by simp at e
  | d' :: ds, xs, i, d, r, e => by
    simp only [RepL] at r
    obtain ⟨y, ys, rfl, q, rl⟩ := r
    cases i with
    | zero =>
      simp at e
      subst e
      exact ⟨y, rfl, q⟩
    | succ i =>
      have e' : ds[i]? = some d := by simpa using e
      obtain ⟨v, h1, h2⟩ := RepL.get rl e'
      exact ⟨v, by simpa using h1, h2⟩
theorem RepL.app {K : PySem.W.Frag} {H : Hp} : ∀ {ds es : List D} {xs ys : List V}, RepL K H ds xs → RepL K H es ys → RepL K H (ds ++ es) (xs ++ ys)
  | [], es, xs, ys, r, q => by
    simp only [RepL] at r
    subst r
    exact q
  | d :: ds, es, xs, ys, r, q => by
    simp only [RepL] at r
    obtain ⟨y, zs, rfl, a, rl⟩ := r
    show RepL K H (d :: (ds ++ es)) (y :: (zs ++ ys))
    simp only [RepL]
    exact ⟨y, _, rfl, a, RepL.app rl q⟩
theorem RepL.nil {K : PySem.W.Frag} {H : Hp} : RepL K H [] [] := by simp only [RepL]
theorem RepL.cons {K : PySem.W.Frag} {H : Hp} {d : D} {ds : List D} {x : V} {xs : List V} (a : Rep K H d x) (b : RepL K H ds xs) : RepL K H (d :: ds) (x :: xs) := by
  simp only [RepL]
  exact ⟨x, xs, rfl, a, b⟩
theorem RepL.one {K : PySem.W.Frag} {H : Hp} {d : D} {x : V} (a : Rep K H d x) : RepL K H [d] [x] := .cons a .nil
theorem RepL.uncons {K : PySem.W.Frag} {H : Hp} {d : D} {ds : List D} {xs : List V} (r : RepL K H (d :: ds) xs) : ∃ y ys, xs = y :: ys ∧ Rep K H d y ∧ RepL K H ds ys := by
  simpa only [RepL] using r
theorem RepL.take {K : PySem.W.Frag} {H : Hp} : ∀ {ds : List D} {xs : List V} (n : Nat), RepL K H ds xs → RepL K H (ds.take n) (xs.take n)
  | _, _, 0, _ => by simp only [List.take_zero]; exact .nil
  | [], xs, n + 1, r => by
    simp only [RepL] at r
    subst r
    exact .nil
  | d :: ds, xs, n + 1, r => by
    obtain ⟨y, ys, rfl, a, rl⟩ := r.uncons
    simp only [List.take_succ_cons]
    exact .cons a (RepL.take n rl)
theorem RepL.drop {K : PySem.W.Frag} {H : Hp} : ∀ {ds : List D} {xs : List V} (n : Nat), RepL K H ds xs → RepL K H (ds.drop n) (xs.drop n)
  | _, _, 0, r => by simpa only [List.drop_zero] using r
  | [], xs, n + 1, r => by
    simp only [RepL] at r
    subst r
    exact .nil
  | d :: ds, xs, n + 1, r => by
    obtain ⟨y, ys, rfl, a, rl⟩ := r.uncons
    simp only [List.drop_succ_cons]
    exact RepL.drop n rl
theorem RepL.ints {K : PySem.W.Frag} {H : Hp} : ∀ {ns : List Int} {xs : List V}, RepL K H (ns.map D.int) xs → xs = ns.map V.int
  | [], xs, r => by simpa only [List.map_nil, RepL] using r
  | n :: ns, xs, r => by
    rw [List.map_cons] at r
    obtain ⟨y, ys, rfl, a, rl⟩ := r.uncons
    simp only [Rep] at a
    rw [a, RepL.ints rl]
    rfl
theorem RepL.set {K : PySem.W.Frag} {H : Hp} {d : D} {v : V} (q : Rep K H d v) : ∀ {ds : List D} {xs : List V} (i : Nat), RepL K H ds xs → RepL K H (ds.set i d) (xs.set i v)
  | [], xs, i, r => by
    simp only [RepL] at r
    subst r
    exact .nil
  | d' :: ds, xs, i, r => by
    obtain ⟨y, ys, rfl, a, rl⟩ := r.uncons
    cases i with
    | zero => exact .cons q rl
    | succ i => exact .cons a (RepL.set q i rl)

/-! ### the state of a frame, over data: F is what nobody changes, H all that is tracked -/
inductive Slot where
  | un | val (d : D) | own (l : Addr) (ds : List D) | gh (d : D) (G : V → Hp → Prop) | od (l : Addr) (ks : List Key) (ds : List D) | ox (ls : List Addr) (G : V → Hp → Hp → Prop)
/-- what is ours at l may be written, and is no cell -/
noncomputable def Wr (l : Addr) : HO → Prop
  | .lst _ => True
  | .dK _ => True
  | .ext φ => ∃ o : Obj, φ = (fun h => h.get? l = some o) ∧ ∀ v, o.data ≠ .cell v
  | _ => False
noncomputable def SlotOk (K : PySem.W.Frag) (F H : Hp) : Slot → Option V → Prop
  | .un, _ => True
  | .val d, o => ∃ v, o = some v ∧ Rep K F d v
  | .own l ds, o => o = some (.ref l) ∧ F l = none ∧ ∃ xs, H l = some (.lst xs) ∧ RepL K F ds xs
  | .od l ks ds, o => o = some (.ref l) ∧ F l = none ∧ ∃ xs, H l = some (.dK (ks.zip xs)) ∧ ks.length = ds.length ∧ RepL K F ds xs
  | .gh d G, o => ∃ v, o = some v ∧ Rep K F d v ∧ ∀ F', Same F F' → G v F'
  | .ox ls G, o => ∃ v, o = some v ∧ (∀ l ∈ ls, F l = none ∧ ∃ ob, H l = some ob ∧ Wr l ob) ∧ ∀ F' H', Same F F' → (∀ l ∈ ls, ∀ ob, H l = some ob → H' l = some ob) → G v F' H'
noncomputable def SlotsOk (K : PySem.W.Frag) (F H : Hp) : List Slot → St → Prop
  | [], σ => σ = []
  | z :: zs, σ => ∃ o r, σ = o :: r ∧ SlotOk K F H z o ∧ SlotsOk K F H zs r
noncomputable def ownL : Slot → List Addr
  | .own l _ => [l]
  | .od l _ _ => [l]
  | .ox ls _ => ls
  | _ => []
noncomputable def owned (sd : List Slot) : List Addr := sd.flatMap ownL
theorem owned_cons (z : Slot) (zs : List Slot) : owned (z :: zs) = ownL z ++ owned zs := rfl
structure StF (K : PySem.W.Frag) (H₀ F H : Hp) (σ : St) (sd : List Slot) : Prop where
  base : Same H₀ F
  sub : Same F H
  smp : Smp H
  slots : SlotsOk K F H sd σ
  nd : (owned sd).Nodup
section
variable {K : PySem.W.Frag} {H₀ F F' H H' : Hp} {σ : St} {sd : List Slot}
theorem SlotsOk.get : ∀ {sd : List Slot} {σ : St} {i : Nat} {z : Slot}, SlotsOk K F H sd σ → sd[i]? = some z → ∃ o, σ[i]? = some o ∧ SlotOk K F H z o
  | [], _, _, _, _, e => by simp at e
  | z' :: zs, σ, i, z, h, e => by
    obtain ⟨o, r, rfl, a, b⟩ := h
    cases i with
    | zero =>
      simp at e
      subst e
      exact ⟨o, rfl, a⟩
    | succ i =>
      obtain ⟨o', h1, h2⟩ := SlotsOk.get (i := i) b (by simpa using e)
      exact ⟨o', by simpa using h1, h2⟩
theorem SlotsOk.set {z : Slot} {o : Option V} (q : SlotOk K F H z o) : ∀ {sd : List Slot} {σ : St} (i : Nat), SlotsOk K F H sd σ → SlotsOk K F H (sd.set i z) (σ.set i o)
  | [], _, _, h => by
    have h : _ = _ := h
    subst h
    rfl
  | z' :: zs, σ, i, h => by
    obtain ⟨o', r, rfl, a, b⟩ := h
    cases i with
    | zero => exact ⟨o, r, rfl, q, b⟩
    | succ i => exact ⟨o', _, rfl, a, SlotsOk.set q i b⟩
theorem SlotsOk.mono (hF : Same F F') : ∀ {sd : List Slot} {σ : St}, (∀ l ∈ owned sd, F' l = none ∧ ∀ xs, H l = some xs → H' l = some xs) → SlotsOk K F H sd σ → SlotsOk K F' H' sd σ
  | [], _, _, h => h
  | z :: zs, σ, ho, h => by
    obtain ⟨o, r, rfl, a, b⟩ := h
    refine ⟨o, r, rfl, ?_, SlotsOk.mono hF (fun l hl => ho l ?_) b⟩
    · cases z with
      | un => trivial
      | val d => obtain ⟨v, e, q⟩ := a; exact ⟨v, e, q.mono hF⟩
      | gh d G => obtain ⟨v, e, q, g⟩ := a; exact ⟨v, e, q.mono hF, fun F2 s2 => g F2 (hF.trans s2)⟩
      | own l ds =>
        obtain ⟨e, n, xs, q, rl⟩ := a
        have := ho l (by simp [owned_cons, ownL])
        exact ⟨e, this.1, xs, this.2 _ q, rl.mono hF⟩
      | od l ks ds =>
        obtain ⟨e, n, xs, q, ln, rl⟩ := a
        have := ho l (by simp [owned_cons, ownL])
        exact ⟨e, this.1, xs, this.2 _ q, ln, rl.mono hF⟩
      | ox ls G =>
        obtain ⟨v, e, h, g⟩ := a
        have ho' : ∀ l ∈ ls, F' l = none ∧ ∀ xs, H l = some xs → H' l = some xs := fun l hl => ho l (List.mem_append_left _ hl)
        exact ⟨v, e, fun l hl => ⟨(ho' l hl).1, let ⟨ob, q, w⟩ := (h l hl).2; ⟨ob, (ho' l hl).2 _ q, w⟩⟩, fun F2 H2 s2 k => g F2 H2 (hF.trans s2) fun l hl ob q => k l hl ob ((ho' l hl).2 _ q)⟩
    · exact List.mem_append_right _ hl
theorem SlotsOk.owns : ∀ {sd : List Slot} {σ : St} {l : Addr}, SlotsOk K F H sd σ → l ∈ owned sd → F l = none ∧ ∃ ob, H l = some ob ∧ Wr l ob
  | [], _, _, _, e => by simp [owned] at e
  | z :: zs, σ, l, h, e => by
    obtain ⟨o, r, rfl, a, b⟩ := h
    rcases List.mem_append.mp (show l ∈ ownL z ++ owned zs from e) with e | e
    · cases z with
      | un => cases e
      | val d => cases e
      | gh d G => cases e
      | own l' ds =>
        rw [List.mem_singleton.mp e]
        obtain ⟨_, n, xs, q, _⟩ := a
        exact ⟨n, _, q, trivial⟩
      | od l' ks ds =>
        rw [List.mem_singleton.mp e]
        obtain ⟨_, n, xs, q, _⟩ := a
        exact ⟨n, _, q, trivial⟩
      | ox ls G =>
        obtain ⟨v, _, h, _⟩ := a
        exact h l e
    · exact SlotsOk.owns b e
/-- a new thing is laid, known to all -/
theorem StF.lay {p : Addr} {o : HO} (S : StF K H₀ F H σ sd) (hp : H p = none) (ho : SmpO o) : StF K H₀ (upd F p o) (upd H p o) σ sd ∧ Same F (upd F p o) := by
  have fp : F p = none := S.sub.free hp
  have s1 : Same F (upd F p o) := fun b u e => by rw [upd_ne (ne_of_none e fp)]; exact e
  refine ⟨⟨fun b u e => s1 _ _ (S.base _ _ e), fun b u e => ?_, fun b u e => ?_, S.slots.mono s1 fun l hl => ?_, S.nd⟩, s1⟩
  · by_cases h : b = p
    · subst h
      rw [upd_same] at e ⊢
      exact e
    · rw [upd_ne h] at e ⊢
      exact S.sub _ _ e
  · by_cases h : b = p
    · subst h
      rw [upd_same] at e
      cases e
      exact ho
    · rw [upd_ne h] at e
      exact S.smp _ _ e
  · obtain ⟨n, xs, q, _⟩ := S.slots.owns hl
    have hne : l ≠ p := ne_of_none q hp
    exact ⟨by rw [upd_ne hne]; exact n, fun ys e => by rw [upd_ne hne]; exact e⟩
/-- a new list is laid, ours alone -/
theorem StF.layO {p : Addr} {xs : List V} (S : StF K H₀ F H σ sd) (hp : H p = none) : StF K H₀ F (upd H p (.lst xs)) σ sd ∧ F p = none ∧ p ∉ owned sd := by
  have fp : F p = none := S.sub.free hp
  refine ⟨⟨S.base, fun b u e => ?_, fun b u e => ?_, S.slots.mono (Same.refl _) fun l hl => ?_, S.nd⟩, fp, fun hl => ?_⟩
  · rw [upd_ne (ne_of_none e fp)]
    exact S.sub _ _ e
  · by_cases h : b = p
    · subst h
      rw [upd_same] at e
      cases e
      trivial
    · rw [upd_ne h] at e
      exact S.smp _ _ e
  · obtain ⟨n, ys, q, _⟩ := S.slots.owns hl
    have hne : l ≠ p := ne_of_none q hp
    exact ⟨n, fun ys e => by rw [upd_ne hne]; exact e⟩
  · obtain ⟨n, ys, q, _⟩ := S.slots.owns hl
    rw [hp] at q
    cases q
/-- a list of ours is given to all -/
theorem StF.freeze {p : Addr} {xs : List V} (S : StF K H₀ F H σ sd) (hp : H p = some (.lst xs)) (fp : F p = none) (ho : p ∉ owned sd) : StF K H₀ (upd F p (.lst xs)) H σ sd ∧ Same F (upd F p (.lst xs)) := by
  have s1 : Same F (upd F p (.lst xs)) := fun b u e => by rw [upd_ne (ne_of_none e fp)]; exact e
  refine ⟨⟨fun b u e => s1 _ _ (S.base _ _ e), fun b u e => ?_, S.smp, S.slots.mono s1 fun l hl => ?_, S.nd⟩, s1⟩
  · by_cases h : b = p
    · subst h
      rw [upd_same] at e
      rw [hp]
      exact e
    · rw [upd_ne h] at e
      exact S.sub _ _ e
  · obtain ⟨n, ys, q, _⟩ := S.slots.owns hl
    have hne : l ≠ p := fun z => ho (z ▸ hl)
    exact ⟨by rw [upd_ne hne]; exact n, fun ys e => e⟩
theorem SlotsOk.len : ∀ {sd : List Slot} {σ : St}, SlotsOk K F H sd σ → σ.length = sd.length
  | [], _, h => by
    have h : _ = _ := h
    rw [h]
    rfl
  | z :: zs, σ, h => by
    obtain ⟨o, r, rfl, _, b⟩ := h
    simp [SlotsOk.len b]
end

/-! ### results -/
inductive R where
  | val (d : D) | own (ds : List D) | bor (ds : List D) | pr (d : D) (ls : List D) | ox (G : V → List Addr → Hp → Hp → Prop)
noncomputable def LOk (K : PySem.W.Frag) (F H : Hp) (sd : List Slot) (v : V) (ds : List D) : Prop :=
  ∃ l xs, v = .ref l ∧ H l = some (.lst xs) ∧ RepL K F ds xs ∧ (F l = some (.lst xs) ∨ Slot.own l ds ∈ sd)
noncomputable def ResOk (K : PySem.W.Frag) (F H : Hp) (sd : List Slot) : R → V → Prop
  | .val d, v => Rep K F d v
  | .own ds, v => ∃ l xs, v = .ref l ∧ F l = none ∧ H l = some (.lst xs) ∧ RepL K F ds xs ∧ l ∉ owned sd
  | .bor ds, v => LOk K F H sd v ds
  | .pr d ls, v => ∃ t l xs y, v = .ref t ∧ F t = some (.tup [y, .ref l]) ∧ Rep K F d y ∧ F l = none ∧ H l = some (.lst xs) ∧ RepL K F ls xs ∧ l ∉ owned sd
  | .ox G, v => ∃ ls : List Addr, ls.Nodup ∧ (∀ l ∈ ls, F l = none ∧ (∃ ob, H l = some ob ∧ Wr l ob) ∧ l ∉ owned sd) ∧ ∀ F' H', Same F F' → (∀ l ∈ ls, ∀ ob, H l = some ob → H' l = some ob) → G v ls F' H'
noncomputable def R.keeps : R → Prop
  | .own _ => False
  | .pr _ _ => False
  | .ox _ => False
  | _ => True
section
variable {K : PySem.W.Frag} {H₀ F F' H H' : Hp} {σ : St} {sd : List Slot} {r : R} {v : V}
theorem ResOk.keep (hr : r.keeps) (h : ResOk K F H sd r v) (S' : StF K H₀ F' H' σ sd) (s : Same F F') : ResOk K F' H' sd r v := by
  cases r with
  | val d => exact Rep.mono s h
  | own ds => exact hr.elim
  | pr d ls => exact hr.elim
  | ox G => exact hr.elim
  | bor ds =>
    obtain ⟨l, xs, e, hl, rl, q⟩ := h
    rcases q with q | q
    · exact ⟨l, xs, e, S'.sub _ _ (s _ _ q), rl.mono s, .inl (s _ _ q)⟩
    · obtain ⟨i, hi⟩ := List.getElem?_of_mem q
      obtain ⟨o, _, e2, _, ys, h1, h2⟩ := S'.slots.get hi
      exact ⟨l, ys, e, h1, h2, .inr q⟩
end

/-! ### judgements over data -/
structure PEd (X : Cx) (sd : List Slot) (e : Expr) (r : R) : Prop where
  run : ∀ (σ : St) (F H : Hp), StF X.K X.B₀ F H σ sd →
  wE X e σ H fun v H' => ∃ F', StF X.K X.B₀ F' H' σ sd ∧ Same F F' ∧ ResOk X.K F' H' sd r v
instance {X : Cx} {sd : List Slot} {e : Expr} {r : R} : CoeFun (PEd X sd e r) (fun _ => ∀ (σ : St) (F H : Hp), StF X.K X.B₀ F H σ sd →
  wE X e σ H fun v H' => ∃ F', StF X.K X.B₀ F' H' σ sd ∧ Same F F' ∧ ResOk X.K F' H' sd r v) := ⟨PEd.run⟩
structure PTd (X : Cx) (sd : List Slot) (e : Expr) (b : Bool) : Prop where
  run : ∀ (σ : St) (F H : Hp), StF X.K X.B₀ F H σ sd →
  wT X e σ H fun c H' => c = b ∧ ∃ F', StF X.K X.B₀ F' H' σ sd ∧ Same F F'
instance {X : Cx} {sd : List Slot} {e : Expr} {b : Bool} : CoeFun (PTd X sd e b) (fun _ => ∀ (σ : St) (F H : Hp), StF X.K X.B₀ F H σ sd →
  wT X e σ H fun c H' => c = b ∧ ∃ F', StF X.K X.B₀ F' H' σ sd ∧ Same F F') := ⟨PTd.run⟩
structure PWd (X : Cx) (sd : List Slot) (e : Expr) (b : Bool) : Prop where
  run : ∀ (σ : St) (F H : Hp), StF X.K X.B₀ F H σ sd →
  wW X e σ H fun c H' => c = b ∧ ∃ F', StF X.K X.B₀ F' H' σ sd ∧ Same F F'
instance {X : Cx} {sd : List Slot} {e : Expr} {b : Bool} : CoeFun (PWd X sd e b) (fun _ => ∀ (σ : St) (F H : Hp), StF X.K X.B₀ F H σ sd →
  wW X e σ H fun c H' => c = b ∧ ∃ F', StF X.K X.B₀ F' H' σ sd ∧ Same F F') := ⟨PWd.run⟩
inductive RsOk (K : PySem.W.Frag) (F H : Hp) (sd : List Slot) : List R → List V → Prop
  | nil : RsOk K F H sd [] []
  | cons {r v rs vs} : ResOk K F H sd r v → RsOk K F H sd rs vs → RsOk K F H sd (r :: rs) (v :: vs)
structure PAd (X : Cx) (sd : List Slot) (es : List Expr) (rs : List R) : Prop where
  run : ∀ (σ : St) (F H : Hp), StF X.K X.B₀ F H σ sd →
  wA X es σ H fun vs H' => ∃ F', StF X.K X.B₀ F' H' σ sd ∧ Same F F' ∧ RsOk X.K F' H' sd rs vs
instance {X : Cx} {sd : List Slot} {es : List Expr} {rs : List R} : CoeFun (PAd X sd es rs) (fun _ => ∀ (σ : St) (F H : Hp), StF X.K X.B₀ F H σ sd →
  wA X es σ H fun vs H' => ∃ F', StF X.K X.B₀ F' H' σ sd ∧ Same F F' ∧ RsOk X.K F' H' sd rs vs) := ⟨PAd.run⟩
structure EndD where
  nx : List Slot → Prop
  rt : R → Prop
  bk : List Slot → Prop := fun _ => False
  ct : List Slot → Prop := fun _ => False
/-- what is handed back: r as it lies in F and H -/
noncomputable def RetOk (K : PySem.W.Frag) (H₀ H : Hp) (r : R) (v : V) : Prop := ∃ F, Same H₀ F ∧ Same F H ∧ Smp H ∧ ResOk K F H [] r v
noncomputable def lft (X : Cx) (F₀ : Hp) (E : EndD) : Ends where
  nx := fun σ H => ∃ sd F, StF X.K X.B₀ F H σ sd ∧ Same F₀ F ∧ E.nx sd
  rt := fun v H => ∃ r, RetOk X.K X.B₀ H r v ∧ E.rt r
  bk := fun σ H => ∃ sd F, StF X.K X.B₀ F H σ sd ∧ Same F₀ F ∧ E.bk sd
  ct := fun σ H => ∃ sd F, StF X.K X.B₀ F H σ sd ∧ Same F₀ F ∧ E.ct sd
structure PSd (X : Cx) (sd : List Slot) (sts : List Stmt) (E : EndD) : Prop where
  run : ∀ (σ : St) (F H : Hp), StF X.K X.B₀ F H σ sd → wSs X sts (lft X F E) σ H
instance {X : Cx} {sd : List Slot} {sts : List Stmt} {E : EndD} : CoeFun (PSd X sd sts E) (fun _ => ∀ (σ : St) (F H : Hp), StF X.K X.B₀ F H σ sd → wSs X sts (lft X F E) σ H) := ⟨PSd.run⟩
structure PSd1 (X : Cx) (sd : List Slot) (st : Stmt) (E : EndD) : Prop where
  run : ∀ (σ : St) (F H : Hp), StF X.K X.B₀ F H σ sd → wS X st (lft X F E) σ H
instance {X : Cx} {sd : List Slot} {st : Stmt} {E : EndD} : CoeFun (PSd1 X sd st E) (fun _ => ∀ (σ : St) (F H : Hp), StF X.K X.B₀ F H σ sd → wS X st (lft X F E) σ H) := ⟨PSd1.run⟩

section
variable {X : Cx} {sd : List Slot} {e a b c : Expr} {es : List Expr} {pos : Pos} {r ra rb : R} {d : D} {ds : List D}
/-- own things may be looked at as values -/
theorem PEd.val (h : PEd X sd e (.own ds)) : PEd X sd e (.val (.lst ds)) := .mk fun σ F H S => (h σ F H S).imp fun v H' ⟨F', S', s, l, xs, e, n, q, rl, no⟩ => by
  obtain ⟨S2, s2⟩ := S'.freeze q n no
  refine ⟨_, S2, s.trans s2, ?_⟩
  show Rep _ _ _ _
  simp only [Rep]
  exact ⟨l, xs, e, upd_same, rl.mono s2⟩
theorem PEd.bor (h : PEd X sd e (.val (.lst ds))) : PEd X sd e (.bor ds) := .mk fun σ F H S => (h σ F H S).imp fun v H' ⟨F', S', s, q⟩ => by
  have q : Rep _ _ _ _ := q
  simp only [Rep] at q
  obtain ⟨l, xs, e, q, rl⟩ := q
  exact ⟨F', S', s, l, xs, e, S'.sub _ _ q, rl, .inl q⟩

theorem pd_var (i : Nat) {x : Str} (hs : sd[i]? = some (.val d)) (h : PE X (.Name x pos) (tVar i)) : PEd X sd (.Name x pos) (.val d) := .mk fun σ F H S => h.to (by
  obtain ⟨o, h1, v, h2, q⟩ := S.slots.get hs
  exact ⟨v, by rw [h1, h2], F, S, Same.refl _, q⟩)
theorem pd_varB (i : Nat) {x : Str} {l : Addr} (hs : sd[i]? = some (.own l ds)) (h : PE X (.Name x pos) (tVar i)) : PEd X sd (.Name x pos) (.bor ds) := .mk fun σ F H S => h.to (by
  obtain ⟨o, h1, h2, n, xs, q, rl⟩ := S.slots.get hs
  exact ⟨.ref l, by rw [h1, h2], F, S, Same.refl _, l, xs, rfl, q, rl, .inr (List.mem_of_getElem? hs)⟩)
theorem pd_int {i j} : PEd X sd (.Constant (.int i) j pos) (.val (.int i)) := .mk fun σ F H S => pe_int.to ⟨F, S, Same.refl _, by simp only [ResOk, Rep]⟩
theorem pd_bl {i j} : PEd X sd (.Constant (.bool i) j pos) (.val (.bl i)) := .mk fun σ F H S => pe_bl.to ⟨F, S, Same.refl _, by simp only [ResOk, Rep]⟩
theorem pd_non {j} : PEd X sd (.Constant .none j pos) (.val .non) := .mk fun σ F H S => pe_non.to ⟨F, S, Same.refl _, by simp only [ResOk, Rep]⟩
theorem pd_str {i j} : PEd X sd (.Constant (.str i) j pos) (.val (.str i)) := .mk fun σ F H S => pe_str.to ⟨F, S, Same.refl _, by simp only [ResOk, Rep]⟩
/-! argument lists -/
theorem RsOk.keep {K : PySem.W.Frag} {H₀ F F' H H' : Hp} {σ : St} : ∀ {rs : List R} {vs : List V}, (∀ r ∈ rs, r.keeps) → RsOk K F H sd rs vs → StF K H₀ F' H' σ sd → Same F F' → RsOk K F' H' sd rs vs
  | _, _, _, .nil, _, _ => .nil
  | _, _, hk, .cons q t, S, s => .cons (q.keep (hk _ List.mem_cons_self) S s) (RsOk.keep (fun r hr => hk r (List.mem_cons_of_mem _ hr)) t S s)
theorem pad_nil : PAd X sd [] [] := .mk fun σ F H S => pa_nil.to ⟨F, S, Same.refl _, .nil⟩
theorem pad_cons {rs : List R} (h1 : PEd X sd e r) (h2 : PAd X sd es rs) (hk : r.keeps := by trivial) (hs : starEach (e :: es) X.env = (false, eval e X.env) :: starEach es X.env := by rfl) : PAd X sd (e :: es) (r :: rs) := .mk fun σ F H S =>
  (pa_cons pe_w pa_w hs).to ((h1 σ F H S).imp fun v H1 ⟨F1, S1, s1, q1⟩ => (h2 σ F1 H1 S1).imp fun vs H2 ⟨F2, S2, s2, q2⟩ => ⟨F2, S2, s1.trans s2, .cons (q1.keep hk S2 s2) q2⟩)
theorem RsOk.vals {K : PySem.W.Frag} {F H : Hp} : ∀ {ds : List D} {vs : List V}, RsOk K F H sd (ds.map R.val) vs → RepL K F ds vs
  | [], _, .nil => .nil
  | _ :: _, _, .cons q t => .cons q (RsOk.vals t)
/-- a tuple, a list -/
theorem pd_tup {x1} (h : PAd X sd es (ds.map R.val)) (hl : ds.length ≤ 1000) : PEd X sd (.Tuple es x1 pos) (.val (.tup ds)) := .mk fun σ F H S =>
  (pe_tup pa_w).to ((h σ F H S).imp fun vs H1 ⟨F1, S1, s1, q1⟩ => by
    have rl := q1.vals
    refine ⟨by rw [rl.len]; exact Nat.le_of_lt (small1000 hl), fun p hp => ?_⟩
    obtain ⟨S2, s2⟩ := S1.lay (o := .tup vs) hp trivial
    refine ⟨_, S2, s1.trans s2, ?_⟩
    simp only [ResOk, Rep]
    exact ⟨p, vs, rfl, upd_same, rl.mono s2⟩)
theorem pd_lst (h : PAd X sd es (ds.map R.val)) (hl : ds.length ≤ 1000) : PEd X sd (.List es pos) (.own ds) := .mk fun σ F H S =>
  (pe_lst pa_w).to ((h σ F H S).imp fun vs H1 ⟨F1, S1, s1, q1⟩ => by
    have rl := q1.vals
    refine ⟨by rw [rl.len]; exact Nat.le_of_lt (small1000 hl), fun p hp => ?_⟩
    obtain ⟨S2, fp, no⟩ := S1.layO (xs := vs) hp
    exact ⟨_, S2, s1, p, vs, rfl, fp, upd_same, rl, no⟩)
/-! two-place operations -/
theorem pd_op2 {op : Operator} {r2 : R2} (ho : OpR X (binaryOp op) r2) (ha : PEd X sd a ra) (hb : PEd X sd b rb) (hk : ra.keeps)
    (h : ∀ (σ : St) (F H : Hp) (v u : V) (Q : VK), StF X.K X.B₀ F H σ sd → ResOk X.K F H sd ra v → ResOk X.K F H sd rb u → (∀ w F' H', StF X.K X.B₀ F' H' σ sd → Same F F' → ResOk X.K F' H' sd r w → Q w H') → r2 v u H Q) :
    PEd X sd (.BinOp a op b pos) r := .mk fun σ F H S =>
  (pe_op ho pe_w pe_w).to ((ha σ F H S).imp fun v H1 ⟨F1, S1, s1, q1⟩ => (hb σ F1 H1 S1).imp fun u H2 ⟨F2, S2, s2, q2⟩ =>
    h σ F2 H2 v u _ S2 (q1.keep hk S2 s2) q2 fun w F' H' S' s' q' => ⟨F', S', (s1.trans s2).trans s', q'⟩)
theorem pd_cmp2 {op : CmpOp} {r2 : R2} (ho : OpR X (compareOp op) r2) (ha : PEd X sd a ra) (hb : PEd X sd b rb) (hk : ra.keeps) (hm : behindInMarks op b = false) {k : Bool}
    (h : ∀ (σ : St) (F H : Hp) (v u : V) (Q : VK), StF X.K X.B₀ F H σ sd → ResOk X.K F H sd ra v → ResOk X.K F H sd rb u → (∀ F' H', StF X.K X.B₀ F' H' σ sd → Same F F' → Q (.bl k) H') → r2 v u H Q) :
    PEd X sd (.Compare a [op] [b] pos) (.val (.bl k)) := .mk fun σ F H S =>
  (pe_cmpR ho pe_w pe_w hm).to ((ha σ F H S).imp fun v H1 ⟨F1, S1, s1, q1⟩ => (hb σ F1 H1 S1).imp fun u H2 ⟨F2, S2, s2, q2⟩ =>
    h σ F2 H2 v u _ S2 (q1.keep hk S2 s2) q2 fun F' H' S' s' => ⟨F', S', (s1.trans s2).trans s', by simp only [ResOk, Rep]⟩)
/-- a value that is a bool, as a test -/
theorem ptd_val {k : Bool} (h : PEd X sd e (.val (.bl k))) (he : ∀ whole, isTrue e X.env whole = (do let v ← whole; standAt e.pos; holding [v] (truthy v)) := by intro _; rfl) : PTd X sd e k := .mk fun σ F H S =>
  (pt_val pe_w he).to ((h σ F H S).imp fun v H1 ⟨F1, S1, s1, q1⟩ => by
    simp only [ResOk, Rep] at q1
    exact ⟨k, q1, rfl, F1, S1, s1⟩)
theorem ptd_cmp2 {op : CmpOp} {r2 : R2} (ho : OpR X (compareOp op) r2) (ha : PEd X sd a ra) (hb : PEd X sd b rb) (hk : ra.keeps) (hm : behindInMarks op b = false) {k : Bool}
    (h : ∀ (σ : St) (F H : Hp) (v u : V) (Q : VK), StF X.K X.B₀ F H σ sd → ResOk X.K F H sd ra v → ResOk X.K F H sd rb u → (∀ F' H', StF X.K X.B₀ F' H' σ sd → Same F F' → Q (.bl k) H') → r2 v u H Q) :
    PTd X sd (.Compare a [op] [b] pos) k := .mk fun σ F H S =>
  (pt_cmpR ho pe_w pe_w hm).to ((ha σ F H S).imp fun v H1 ⟨F1, S1, s1, q1⟩ => (hb σ F1 H1 S1).imp fun u H2 ⟨F2, S2, s2, q2⟩ =>
    h σ F2 H2 v u _ S2 (q1.keep hk S2 s2) q2 fun F' H' S' s' => ⟨k, rfl, rfl, F', S', (s1.trans s2).trans s'⟩)
end
end DL

namespace DL
open PySem PySem.Spec PyProof.Rows L2
section
variable {X : Cx} {sd : List Slot} {e a b c : Expr} {es : List Expr} {pos : Pos} {r ra rb : R} {d : D} {ds : List D} {st : Stmt} {rest : List Stmt} {E : EndD}

theorem wS.imp {D D' : Ends} {σ : St} {H : Hp} (h : wS X st D σ H) (k1 : ∀ σ H, D.nx σ H → D'.nx σ H) (k2 : ∀ v H, D.rt v H → D'.rt v H) (k3 : ∀ σ H, D.bk σ H → D'.bk σ H) (k4 : ∀ σ H, D.ct σ H → D'.ct σ H) : wS X st D' σ H :=
  fun pins s I => thn (h pins s I) fun f s' q => q.imp k1 k2 k3 k4

/-! ### tests -/
theorem ptd_not {k : Bool} (h : PTd X sd e k) : PTd X sd (.UnaryOp .Not e pos) (!k) := .mk fun σ F H S => (pt_not pt_w).to ((h σ F H S).imp fun c H' ⟨e, q⟩ => ⟨by rw [e], q⟩)
theorem pwd_and1 {k : Bool} (h : PTd X sd a k) : PWd X sd (.BoolOp .And [a] pos) k := .mk fun σ F H S => (pw_and1 pt_w).to (h σ F H S)
theorem pwd_or1 {k : Bool} (h : PTd X sd a k) : PWd X sd (.BoolOp .Or [a] pos) k := .mk fun σ F H S => (pw_or1 pt_w).to (h σ F H S)
theorem pwd_and {k j : Bool} (h : PTd X sd a k) (h2 : k = true → PWd X sd (.BoolOp .And (b :: es) pos) j) : PWd X sd (.BoolOp .And (a :: b :: es) pos) (k && j) := .mk fun σ F H S =>
  (pw_and pt_w pw_w).to ((h σ F H S).imp fun c H' ⟨e, F', S', s'⟩ => by
    subst e
    cases c with
    | false => exact iteF ⟨rfl, F', S', s'⟩
    | true => exact iteT ((h2 rfl σ F' H' S').imp fun c2 H2 ⟨e2, F2, S2, s2⟩ => ⟨by rw [e2]; rfl, F2, S2, s'.trans s2⟩))
theorem pwd_or {k j : Bool} (h : PTd X sd a k) (h2 : k = false → PWd X sd (.BoolOp .Or (b :: es) pos) j) : PWd X sd (.BoolOp .Or (a :: b :: es) pos) (k || j) := .mk fun σ F H S =>
  (pw_or pt_w pw_w).to ((h σ F H S).imp fun c H' ⟨e, F', S', s'⟩ => by
    subst e
    cases c with
    | true => exact iteT ⟨rfl, F', S', s'⟩
    | false => exact iteF ((h2 rfl σ F' H' S').imp fun c2 H2 ⟨e2, F2, S2, s2⟩ => ⟨by rw [e2]; rfl, F2, S2, s'.trans s2⟩))
theorem PWd.pt {k : Bool} (h : PWd X sd e k) : PTd X sd e k := .mk fun σ F H S => (pw_w).pt.to (h σ F H S)
/-! values: and, or, not of bools -/
theorem pd_one {op} {r : R} (h : PEd X sd a r) : PEd X sd (.BoolOp op [a] pos) r := .mk fun σ F H S => (pe_one pe_w).to (h σ F H S)
theorem pd_and {k j : Bool} (h : PEd X sd a (.val (.bl k))) (h2 : k = true → PEd X sd (.BoolOp .And (b :: es) pos) (.val (.bl j))) : PEd X sd (.BoolOp .And (a :: b :: es) pos) (.val (.bl (k && j))) := .mk fun σ F H S =>
  (pe_and pe_w pe_w).to ((h σ F H S).imp fun v H' ⟨F', S', s', q⟩ => by
    simp only [ResOk, Rep] at q
    subst q
    refine ⟨k, rfl, ?_⟩
    cases k with
    | false => exact iteF ⟨F', S', s', by simp only [ResOk, Rep, Bool.false_and]⟩
    | true => exact iteT ((h2 rfl σ F' H' S').imp fun v2 H2 ⟨F2, S2, s2, q2⟩ => ⟨F2, S2, s'.trans s2, by simpa only [Bool.true_and] using q2⟩))
theorem pd_ite {k : Bool} {r : R} (h : PTd X sd c k) (h1 : k = true → PEd X sd a r) (h2 : k = false → PEd X sd b r) : PEd X sd (.IfExp c a b pos) r := .mk fun σ F H S =>
  (pe_ifExp pt_w pe_w pe_w).to ((h σ F H S).imp fun k' H' ⟨e, F', S', s'⟩ => by
    subst e
    cases k' with
    | true => exact iteT ((h1 rfl σ F' H' S').imp fun v2 H2 ⟨F2, S2, s2, q2⟩ => ⟨F2, S2, s'.trans s2, q2⟩)
    | false => exact iteF ((h2 rfl σ F' H' S').imp fun v2 H2 ⟨F2, S2, s2, q2⟩ => ⟨F2, S2, s'.trans s2, q2⟩))

/-! ### ints -/
theorem pd_ii {op : Operator} {g : Int → Int → Int} {i j : Int} (ho : OpR X (binaryOp op) (rI0 fun i j => .int (g i j))) (ha : PEd X sd a (.val (.int i))) (hb : PEd X sd b (.val (.int j))) : PEd X sd (.BinOp a op b pos) (.val (.int (g i j))) :=
  pd_op2 ho ha hb trivial fun σ F H v u Q S q1 q2 k => by
    simp only [ResOk, Rep] at q1 q2
    exact ⟨i, j, q1, q2, k _ F H S (Same.refl _) (by simp only [ResOk, Rep])⟩
theorem pd_iiC {op : Operator} {g : Int → Int → Int} {C : Int → Int → Prop} {i j : Int} (ho : OpR X (binaryOp op) (rI C fun i j => .int (g i j))) (ha : PEd X sd a (.val (.int i))) (hb : PEd X sd b (.val (.int j))) (hc : C i j) : PEd X sd (.BinOp a op b pos) (.val (.int (g i j))) :=
  pd_op2 ho ha hb trivial fun σ F H v u Q S q1 q2 k => by
    simp only [ResOk, Rep] at q1 q2
    exact ⟨i, j, q1, q2, hc, k _ F H S (Same.refl _) (by simp only [ResOk, Rep])⟩
theorem op_mulG : OpR X (binaryOp .Mult) (rI IntMulOk fun i j => .int (i * j)) := opI fun _ _ _ _ _ _ _ hc q => mul_int q hc
theorem op_fdivG : OpR X (binaryOp .FloorDiv) (rI (fun _ j => 0 < j ∧ j.natAbs.log2 < 9000) fun i j => .int (i / j)) := opI fun i j _ _ _ _ _ hc q => by
  have h1 : (0 : Int) < j := hc.1
  exact floordiv_int (by omega) (by rw [Int.fdiv_eq_ediv_of_nonneg i (by omega)]; exact q) (.inl (PyProof.noPylong_of_log2 hc.2))
theorem pd_cI {op : CmpOp} {g : Int → Int → Bool} {i j : Int} (ho : OpR X (compareOp op) (rI0 fun i j => .bl (g i j))) (ha : PEd X sd a (.val (.int i))) (hb : PEd X sd b (.val (.int j))) (hm : behindInMarks op b = false) : PEd X sd (.Compare a [op] [b] pos) (.val (.bl (g i j))) :=
  pd_cmp2 ho ha hb trivial hm fun σ F H v u Q S q1 q2 k => by
    simp only [ResOk, Rep] at q1 q2
    exact ⟨i, j, q1, q2, k F H S (Same.refl _)⟩
theorem ptd_cI {op : CmpOp} {g : Int → Int → Bool} {i j : Int} (ho : OpR X (compareOp op) (rI0 fun i j => .bl (g i j))) (ha : PEd X sd a (.val (.int i))) (hb : PEd X sd b (.val (.int j))) (hm : behindInMarks op b = false) : PTd X sd (.Compare a [op] [b] pos) (g i j) :=
  ptd_cmp2 ho ha hb trivial hm fun σ F H v u Q S q1 q2 k => by
    simp only [ResOk, Rep] at q1 q2
    exact ⟨i, j, q1, q2, k F H S (Same.refl _)⟩
/-- == and != of scalars -/
noncomputable def flt : D → Option V
  | .non => some .non
  | .bl b => some (.bl b)
  | .int i => some (.int i)
  | .str x => some (.str x)
  | _ => none
theorem flt_rep {K : PySem.W.Frag} {H : Hp} {d : D} {x v : V} (h : flt d = some x) (q : Rep K H d v) : v = x := by
  cases d with
  | non => simp only [Rep] at q; simp only [flt] at h; rw [q]; exact Option.some.inj h
  | bl => simp only [Rep] at q; simp only [flt] at h; rw [q]; exact Option.some.inj h
  | int => simp only [Rep] at q; simp only [flt] at h; rw [q]; exact Option.some.inj h
  | str => simp only [Rep] at q; simp only [flt] at h; rw [q]; exact Option.some.inj h
  | tup => simp only [flt] at h; cases h
  | lst => simp only [flt] at h; cases h
  | dic => simp only [flt] at h; cases h
  | dki => simp only [flt] at h; cases h
  | any => simp only [flt] at h; cases h
  | scr => simp only [flt] at h; cases h
theorem ptd_eqS {d1 d2 : D} {x y : V} {k : Bool} (ha : PEd X sd a (.val d1)) (hb : PEd X sd b (.val d2)) (h1 : flt d1 = some x) (h2 : flt d2 = some y) (hs : scal x y = true) (hk : decide (x = y) = k) : PTd X sd (.Compare a [.Eq] [b] pos) k :=
  ptd_cmp2 op_eq ha hb trivial (nomark _) fun σ F H v u Q S q1 q2 kk => by
    have e1 := flt_rep h1 q1
    have e2 := flt_rep h2 q2
    subst e1 e2
    exact ⟨hs, by rw [hk]; exact kk F H S (Same.refl _)⟩
theorem ptd_neS {d1 d2 : D} {x y : V} {k : Bool} (ha : PEd X sd a (.val d1)) (hb : PEd X sd b (.val d2)) (h1 : flt d1 = some x) (h2 : flt d2 = some y) (hs : scal x y = true) (hk : (!decide (x = y)) = k) : PTd X sd (.Compare a [.NotEq] [b] pos) k :=
  ptd_cmp2 op_ne ha hb trivial (nomark _) fun σ F H v u Q S q1 q2 kk => by
    have e1 := flt_rep h1 q1
    have e2 := flt_rep h2 q2
    subst e1 e2
    exact ⟨hs, by rw [hk]; exact kk F H S (Same.refl _)⟩
theorem ptd_eqI {i j : Int} (ha : PEd X sd a (.val (.int i))) (hb : PEd X sd b (.val (.int j))) : PTd X sd (.Compare a [.Eq] [b] pos) (decide (i = j)) := ptd_eqS ha hb rfl rfl rfl (by rw [dec_int, Bool.beq_eq_decide_eq])
theorem ptd_neI {i j : Int} (ha : PEd X sd a (.val (.int i))) (hb : PEd X sd b (.val (.int j))) : PTd X sd (.Compare a [.NotEq] [b] pos) (!decide (i = j)) := ptd_neS ha hb rfl rfl rfl (by rw [dec_int, Bool.beq_eq_decide_eq])
/-! ### items -/
theorem pd_ixT {n : Nat} (ha : PEd X sd a (.val (.tup ds))) (hb : PEd X sd b (.val (.int (n : Int)))) (hd : ds[n]? = some d) (hs : PlainIx b) : PEd X sd (.Subscript a b pos) (.val d) := .mk fun σ F H S =>
  (pe_ix ix_tup pe_w pe_w hs).to ((ha σ F H S).imp fun v H1 ⟨F1, S1, s1, q1⟩ => (hb σ F1 H1 S1).imp fun u H2 ⟨F2, S2, s2, q2⟩ => by
    have q1 := Rep.mono s2 q1
    simp only [ResOk, Rep] at q1 q2
    obtain ⟨p, xs, e1, hp, rl⟩ := q1
    obtain ⟨w, hw, rw'⟩ := rl.get hd
    exact ⟨p, xs, (n : Int), w, e1, q2, .of (S2.sub _ _ hp), atI_nat hw, F2, S2, s1.trans s2, rw'⟩)
theorem pd_ixL {n : Nat} (ha : PEd X sd a (.bor ds)) (hb : PEd X sd b (.val (.int (n : Int)))) (hd : ds[n]? = some d) (hs : PlainIx b) : PEd X sd (.Subscript a b pos) (.val d) := .mk fun σ F H S =>
  (pe_ix ix_list pe_w pe_w hs).to ((ha σ F H S).imp fun v H1 ⟨F1, S1, s1, q1⟩ => (hb σ F1 H1 S1).imp fun u H2 ⟨F2, S2, s2, q2⟩ => by
    obtain ⟨p, xs, e1, hp, rl, _⟩ := ResOk.keep (r := .bor ds) trivial q1 S2 s2
    simp only [ResOk, Rep] at q2
    obtain ⟨w, hw, rw'⟩ := rl.get hd
    exact ⟨p, xs, (n : Int), w, e1, q2, .of hp, atI_nat hw, F2, S2, s1.trans s2, rw'⟩)
/-- the script -/
theorem pd_ixS {ns : List Int} {n : Nat} {z : Int} (ha : PEd X sd a (.val (.scr ns))) (hb : PEd X sd b (.val (.int (n : Int)))) (hd : ns[n]? = some z) (hs : PlainIx b) : PEd X sd (.Subscript a b pos) (.val (.int z)) := .mk fun σ F H S =>
  (pe_ix ix_list pe_w pe_w hs).to ((ha σ F H S).imp fun v H1 ⟨F1, S1, s1, q1⟩ => (hb σ F1 H1 S1).imp fun u H2 ⟨F2, S2, s2, q2⟩ => by
    have q1 := Rep.mono (s2.trans S2.sub) q1
    simp only [ResOk, Rep] at q1 q2
    obtain ⟨p, e1, hp⟩ := q1
    exact ⟨p, _, (n : Int), .int z, e1, q2, hp, atI_nat (by rw [List.getElem?_map, hd]; rfl), F2, S2, s1.trans s2, by simp only [ResOk, Rep]⟩)

/-! ### built-in functions -/
theorem pd_callB {x : Str} {p : Pos} {id : String} {rr : List V → Hp → VK → Prop} {rs : List R} (hc : CallR X (.builtin id) rr) (hg : Gl X x) (hm : X.mg x = none) (hv : bootBuiltins x = some (.builtin id)) (ha : PAd X sd (e :: es) rs)
    (h : ∀ (σ : St) (F H : Hp) (vs : List V) (Q : VK), StF X.K X.B₀ F H σ sd → RsOk X.K F H sd rs vs → (∀ w F' H', StF X.K X.B₀ F' H' σ sd → Same F F' → ResOk X.K F' H' sd r w → Q w H') → rr vs H Q)
    (hn : x ≠ "__name__" := by decide) (hdb : (x == ("__debug__" : Str)) = false := by decide) (he : starEach (e :: es) X.env = (false, eval e X.env) :: starEach es X.env := by rfl) (hpl : (backTo pos (starEach es X.env)).any (·.1) = false := by rfl) :
    PEd X sd (.Call (.Name x p) (e :: es) [] pos) r := .mk fun σ F H S =>
  (pe_callB hc hg hm hv pa_w hn hdb he hpl).to ((ha σ F H S).imp fun vs H1 ⟨F1, S1, s1, q1⟩ => h σ F1 H1 vs _ S1 q1 fun w F' H' S' s' q' => ⟨F', S', s1.trans s', q'⟩)
theorem pd_callTy {x : Str} {p : Pos} {T : String} {rr : List V → Hp → VK → Prop} {rs : List R} (hc : CallR X (.type T) rr) (hg : Gl X x) (hm : X.mg x = none) (hv : bootBuiltins x = some (.type T)) (ha : PAd X sd (e :: es) rs)
    (h : ∀ (σ : St) (F H : Hp) (vs : List V) (Q : VK), StF X.K X.B₀ F H σ sd → RsOk X.K F H sd rs vs → (∀ w F' H', StF X.K X.B₀ F' H' σ sd → Same F F' → ResOk X.K F' H' sd r w → Q w H') → rr vs H Q)
    (hn : x ≠ "__name__" := by decide) (hdb : (x == ("__debug__" : Str)) = false := by decide) (he : starEach (e :: es) X.env = (false, eval e X.env) :: starEach es X.env := by rfl) (hpl : (backTo pos (starEach es X.env)).any (·.1) = false := by rfl) :
    PEd X sd (.Call (.Name x p) (e :: es) [] pos) r := .mk fun σ F H S =>
  (pe_callTy hc hg hm hv pa_w hn hdb he hpl).to ((ha σ F H S).imp fun vs H1 ⟨F1, S1, s1, q1⟩ => h σ F1 H1 vs _ S1 q1 fun w F' H' S' s' q' => ⟨F', S', s1.trans s', q'⟩)
/-- len -/
theorem pd_lenT {p : Pos} (hg : Gl X "len") (hm : X.mg "len" = none) (ha : PEd X sd e (.val (.tup ds))) (hst : starEach [e] X.env = (false, eval e X.env) :: starEach [] X.env := by rfl) : PEd X sd (.Call (.Name "len" p) [e] [] pos) (.val (.int ds.length)) :=
  pd_callB (he := hst) call_len_seq hg hm PySem.boot_len (pad_cons ha pad_nil trivial hst) fun σ F H vs Q S q k => by
    cases q with
    | cons q1 q2 =>
      cases q2
      simp only [ResOk, Rep] at q1
      obtain ⟨p, xs, rfl, hp, rl⟩ := q1
      refine ⟨p, xs, rfl, .inr (.of (S.sub _ _ hp)), k _ F H S (Same.refl _) ?_⟩
      simp only [ResOk, Rep, rl.len]
theorem pd_lenL {p : Pos} (hg : Gl X "len") (hm : X.mg "len" = none) (ha : PEd X sd e (.bor ds)) (hst : starEach [e] X.env = (false, eval e X.env) :: starEach [] X.env := by rfl) : PEd X sd (.Call (.Name "len" p) [e] [] pos) (.val (.int ds.length)) :=
  pd_callB (he := hst) call_len_seq hg hm PySem.boot_len (pad_cons ha pad_nil trivial hst) fun σ F H vs Q S q k => by
    cases q with
    | cons q1 q2 =>
      cases q2
      obtain ⟨p, xs, rfl, hp, rl, _⟩ := q1
      refine ⟨p, xs, rfl, .inl (.of hp), k _ F H S (Same.refl _) ?_⟩
      simp only [ResOk, Rep, rl.len]
theorem pd_lenS {p : Pos} {ns : List Int} (hg : Gl X "len") (hm : X.mg "len" = none) (ha : PEd X sd e (.val (.scr ns))) (hst : starEach [e] X.env = (false, eval e X.env) :: starEach [] X.env := by rfl) : PEd X sd (.Call (.Name "len" p) [e] [] pos) (.val (.int ns.length)) :=
  pd_callB (he := hst) call_len_seq hg hm PySem.boot_len (pad_cons ha pad_nil trivial hst) fun σ F H vs Q S q k => by
    cases q with
    | cons q1 q2 =>
      cases q2
      have q1 := Rep.mono S.sub q1
      simp only [Rep] at q1
      obtain ⟨p, rfl, hp⟩ := q1
      refine ⟨p, _, rfl, .inl hp, k _ F H S (Same.refl _) ?_⟩
      simp only [ResOk, Rep, List.length_map]
/-- isinstance -/
noncomputable def tyD : D → Value
  | .non => .type "NoneType"
  | .bl _ => .type "bool"
  | .int _ => .type "int"
  | .str _ => .type "str"
  | .tup _ => .type "tuple"
  | .lst _ => .type "list"
  | .dic => .type "dict"
  | .dki _ _ => .type "dict"
  | .any _ => .type "dict"
  | .scr _ => .type "list"
theorem ty_of {K : PySem.W.Frag} {H : Hp} {d : D} {v : V} (h : ∀ ns, d ≠ .scr ns) (hA : ∀ G, d ≠ .any G) (q : Rep K H d v) : TyOf K H v (tyD d) := by
  cases d with
  | non => simp only [Rep] at q; subst q; exact .non
  | bl b => simp only [Rep] at q; subst q; exact .bl b
  | int b => simp only [Rep] at q; subst q; exact .int b
  | str b => simp only [Rep] at q; subst q; exact .str b
  | tup ds => simp only [Rep] at q; obtain ⟨a, xs, rfl, h, _⟩ := q; exact .tup h
  | lst ds => simp only [Rep] at q; obtain ⟨a, xs, rfl, h, _⟩ := q; exact .lst h
  | dic => simp only [Rep] at q; obtain ⟨a, rfl, h⟩ := q; exact .dK (.of h)
  | dki ks ds => simp only [Rep] at q; obtain ⟨a, xs, rfl, h, _⟩ := q; exact .dK (.inr h)
  | scr ns => exact absurd rfl (h ns)
  | any G => exact absurd rfl (hA G)
theorem call_isin : CallR X (.builtin "isinstance") (fun xs H Q => ∃ x t n k, xs = [x, .ty n] ∧ TyOf X.K H x t ∧ PySem.W.kitOne X.K t (.type n) = some k ∧ Q (.bl k) H) := by
  intro pins s σ H xs us Q I r h
  obtain ⟨x, t, n, k, rfl, ty, e, q⟩ := h
  obtain ⟨u, u', rfl, ru, ru'⟩ := vals2 r
  cases (show u' = Value.type n from ru')
  exact isinst_ok I ru ty e fun tk => ⟨.bl k, H, I.tok tk, rfl, q⟩
theorem pe_type {x : Str} {n : String} {pos : Pos} (hg : Gl X x) (hm : X.mg x = none) (hv : bootBuiltins x = some (.type n)) (hn : x ≠ "__name__" := by decide) (hd : (x == ("__debug__" : Str)) = false := by decide) : PE X (.Name x pos) (tC (.ty n)) := pe_bltn hg hm hv rfl hn hd
theorem pd_isin {x : Str} {n : String} {p p2 : Pos} {k : Bool} (hg : Gl X "isinstance") (hm : X.mg "isinstance" = none) (hgx : Gl X x) (hmx : X.mg x = none) (hv : bootBuiltins x = some (.type n)) (ha : PEd X sd e (.val d)) (hd : ∀ ns, d ≠ .scr ns)
    (hk : PySem.W.kitOne X.K (tyD d) (.type n) = some k) (hA : ∀ G, d ≠ .any G := by (intro _ h; cases h)) (hn : x ≠ "__name__" := by decide) (hdb : (x == ("__debug__" : Str)) = false := by decide)
    (he : starEach (e :: [.Name x p2]) X.env = (false, eval e X.env) :: starEach [.Name x p2] X.env := by rfl) (hpl : (backTo pos (starEach [.Name x p2] X.env)).any (·.1) = false := by rfl) (hs2 : starEach [.Name x p2] X.env = (false, eval (.Name x p2) X.env) :: starEach [] X.env := by rfl) :
    PEd X sd (.Call (.Name "isinstance" p) [e, .Name x p2] [] pos) (.val (.bl k)) := .mk fun σ F H S =>
  (pe_callB call_isin hg hm boot_isinstance (pa_cons pe_w (pa_cons (pe_type hgx hmx hv hn hdb) pa_nil hs2) he) (by decide) (by decide) he hpl).to ((ha σ F H S).imp fun v H1 ⟨F1, S1, s1, q1⟩ => by
    exact ⟨v, tyD d, n, k, rfl, ty_of hd hA (Rep.mono S1.sub q1), hk, F1, S1, s1, by simp only [ResOk, Rep]⟩)

/-! ### statements -/
theorem psd_nil (h : E.nx sd) : PSd X sd [] E := .mk fun σ F H S => pss_nil.to ⟨sd, F, S, Same.refl _, h⟩
theorem psd_cons (h : PSd1 X sd st { E with nx := fun sd' => PSd X sd' rest E }) : PSd X sd (st :: rest) E := .mk fun σ F H S =>
  (pss_cons ps_w pss_w).to (wS.imp (h σ F H S) (fun σ' H' ⟨sd', F', S', s', q⟩ => (q σ' F' H' S').imp (fun σ2 H2 ⟨sd2, F2, S2, s2, q2⟩ => ⟨sd2, F2, S2, s'.trans s2, q2⟩) (fun v H2 q2 => q2)
    (fun σ2 H2 ⟨sd2, F2, S2, s2, q2⟩ => ⟨sd2, F2, S2, s'.trans s2, q2⟩) fun σ2 H2 ⟨sd2, F2, S2, s2, q2⟩ => ⟨sd2, F2, S2, s'.trans s2, q2⟩) (fun v H q => q) (fun σ H q => q) fun σ H q => q)
theorem psd_one (h : PSd1 X sd st E) : PSd X sd [st] E := .mk fun σ F H S => (pss_one ps_w).to (h σ F H S)
theorem psd_ret (h : PEd X sd e r) (hr : match r with | .bor _ => False | _ => True) (hE : E.rt r) : PSd1 X sd (.Return (some e) pos) E := .mk fun σ F H S =>
  (ps_ret pe_w).to ((h σ F H S).imp fun v H' ⟨F', S', s', q⟩ => ⟨r, ⟨F', S'.base, S'.sub, S'.smp, by
    cases r with
    | val d => exact q
    | own ds => obtain ⟨l, xs, a, b, c, d, _⟩ := q; exact ⟨l, xs, a, b, c, d, by simp [owned]⟩
    | pr d ls => obtain ⟨t, l, xs, y, a, b, c, d, e, f, _⟩ := q; exact ⟨t, l, xs, y, a, b, c, d, e, f, by simp [owned]⟩
    | ox G => obtain ⟨ls, nd, h, g⟩ := q; exact ⟨ls, nd, fun l hl => ⟨(h l hl).1, (h l hl).2.1, by simp [owned]⟩, g⟩
    | bor ds => exact hr.elim⟩, hE⟩)
theorem psd_retO (i : Nat) {x : Str} {p : Pos} {l : Addr} (hs : sd[i]? = some (.own l ds)) (h : PE X (.Name x p) (tVar i)) (hE : E.rt (.own ds)) : PSd1 X sd (.Return (some (.Name x p)) pos) E := .mk fun σ F H S =>
  (ps_ret h).to (by
    obtain ⟨o, h1, h2, n, xs, q, rl⟩ := S.slots.get hs
    exact ⟨.ref l, by rw [h1, h2], .own ds, ⟨F, S.base, S.sub, S.smp, l, xs, rfl, n, q, rl, by simp [owned]⟩, hE⟩)
theorem psd_if {k : Bool} {a o : List Stmt} (h : PTd X sd c k) (h1 : k = true → PSd X sd a E) (h2 : k = false → PSd X sd o E) : PSd1 X sd (.If c a o pos) E := .mk fun σ F H S =>
  (ps_if pt_w pss_w pss_w).to ((h σ F H S).imp fun k' H' ⟨e, F', S', s'⟩ => by
    have up : ∀ {sts : List Stmt}, PSd X sd sts E → wSs X sts (lft X F E) σ H' := fun h => (h σ F' H' S').imp (fun σ2 H2 ⟨sd2, F2, S2, s2, q2⟩ => ⟨sd2, F2, S2, s'.trans s2, q2⟩) (fun v H2 q2 => q2)
      (fun σ2 H2 ⟨sd2, F2, S2, s2, q2⟩ => ⟨sd2, F2, S2, s'.trans s2, q2⟩) fun σ2 H2 ⟨sd2, F2, S2, s2, q2⟩ => ⟨sd2, F2, S2, s'.trans s2, q2⟩
    subst e
    cases k' with
    | true => exact iteT (up (h1 rfl))
    | false => exact iteF (up (h2 rfl)))
theorem owned_set : ∀ {sd : List Slot} {z : Slot} (i : Nat), (owned sd).Nodup → (∀ l, l ∈ ownL z → l ∉ owned sd ∨ (∃ z', sd[i]? = some z' ∧ l ∈ ownL z')) → (hz : (ownL z).Nodup := by simp [ownL]) → (owned (sd.set i z)).Nodup ∧ ∀ l, l ∈ owned (sd.set i z) → l ∈ owned sd ∨ l ∈ ownL z
  | [], z, i, h, _, _ => ⟨h, fun l hl => .inl hl⟩
  | z' :: zs, z, 0, h, hz, nz => by
    show (ownL z ++ owned zs).Nodup ∧ ∀ l, l ∈ ownL z ++ owned zs → _
    obtain ⟨n1, n2, n3⟩ := List.nodup_append.mp (show (ownL z' ++ owned zs).Nodup from h)
    refine ⟨List.nodup_append.mpr ⟨nz, n2, fun a ha b hb e => ?_⟩, fun l hl => ?_⟩
    · subst e
      rcases hz a ha with y | ⟨z2, e2, y⟩
      · exact y (List.mem_append_right _ hb)
      · have : z' = z2 := by simpa using e2
        subst this
        exact n3 a y a hb rfl
    · rcases List.mem_append.mp hl with y | y
      · exact .inr y
      · exact .inl (List.mem_append_right _ y)
  | z' :: zs, z, i + 1, h, hz, nz => by
    show (ownL z' ++ owned (zs.set i z)).Nodup ∧ ∀ l, l ∈ ownL z' ++ owned (zs.set i z) → _
    obtain ⟨n1, n2, n3⟩ := List.nodup_append.mp (show (ownL z' ++ owned zs).Nodup from h)
    obtain ⟨i1, i2⟩ := owned_set (sd := zs) (z := z) i n2 (fun l hl => by
      rcases hz l hl with y | ⟨z2, e2, y⟩
      · exact .inl fun q => y (List.mem_append_right _ q)
      · exact .inr ⟨z2, by simpa using e2, y⟩) nz
    refine ⟨List.nodup_append.mpr ⟨n1, i1, fun a ha b hb e => ?_⟩, fun l hl => ?_⟩
    · subst e
      rcases i2 a hb with y | y
      · exact n3 a ha a y rfl
      · rcases hz a y with y | ⟨z2, e2, y⟩
        · exact y (List.mem_append_left _ ha)
        · have m : a ∈ owned zs := List.mem_flatMap.mpr ⟨z2, List.mem_of_getElem? (by simpa using e2), y⟩
          exact n3 a ha a m rfl
    · rcases List.mem_append.mp hl with y | y
      · exact .inl (List.mem_append_left _ y)
      · rcases i2 l y with y | y
        · exact .inl (List.mem_append_right _ y)
        · exact .inr y
theorem StF.set {K : PySem.W.Frag} {H₀ F H : Hp} {σ : St} {v : V} (S : StF K H₀ F H σ sd) (i : Nat) (q : Rep K F d v) : StF K H₀ F H (σ.set i (some v)) (sd.set i (.val d)) :=
  ⟨S.base, S.sub, S.smp, S.slots.set (z := .val d) ⟨v, rfl, q⟩ i, (owned_set i S.nd fun l e => by simp [ownL] at e).1⟩
theorem StF.setO {K : PySem.W.Frag} {H₀ F H : Hp} {σ : St} {l : Addr} {xs : List V} (S : StF K H₀ F H σ sd) (i : Nat) (n : F l = none) (h : H l = some (.lst xs)) (q : RepL K F ds xs) (no : l ∉ owned sd) : StF K H₀ F H (σ.set i (some (.ref l))) (sd.set i (.own l ds)) :=
  ⟨S.base, S.sub, S.smp, S.slots.set (z := .own l ds) ⟨rfl, n, xs, h, q⟩ i, (owned_set i S.nd fun l' e => by rw [List.mem_singleton.mp e]; exact .inl no).1⟩
theorem psd_set (i : Nat) {x : Str} {p : Pos} (hN : X.N.Nodup) (hi : X.N[i]? = some x) (hx : Loc X.env.scope x) (h : PEd X sd e (.val d)) (hE : E.nx (sd.set i (.val d))) (hs : swapsWith e (some (.Name x p)) pos.line X.env = pure false := by rfl)
    (hf : X.fn x = true ∨ X.env.scope.names.lookup x = some .local := by first | exact .inl rfl | exact .inr rfl | assumption) : PSd1 X sd (.Assign [.Name x p] e pos) E := .mk fun σ F H S =>
  (ps_set hN hi hx pe_w hs hf).to ((h σ F H S).imp fun v H' ⟨F', S', s', q⟩ => ⟨_, F', S'.set i q, s', hE⟩)
theorem psd_setO (i : Nat) {x : Str} {p : Pos} (hN : X.N.Nodup) (hi : X.N[i]? = some x) (hx : Loc X.env.scope x) (h : PEd X sd e (.own ds)) (hE : ∀ l, E.nx (sd.set i (.own l ds))) (hs : swapsWith e (some (.Name x p)) pos.line X.env = pure false := by rfl)
    (hf : X.fn x = true ∨ X.env.scope.names.lookup x = some .local := by first | exact .inl rfl | exact .inr rfl | assumption) : PSd1 X sd (.Assign [.Name x p] e pos) E := .mk fun σ F H S =>
  (ps_set hN hi hx pe_w hs hf).to ((h σ F H S).imp fun v H' ⟨F', S', s', l, xs, e, n, q, rl, no⟩ => ⟨_, F', by subst e; exact S'.setO i n q rl no, s', hE l⟩)
end
end DL

namespace DL
open PySem PySem.Spec PyProof.Rows L2
section
variable {X : Cx} {sd : List Slot} {e a b c : Expr} {es : List Expr} {pos : Pos} {r ra rb : R} {d : D} {ds : List D} {st : Stmt} {rest : List Stmt} {E : EndD}

/-! ### knowing less -/
noncomputable def Le : List Slot → List Slot → Prop
  | [], [] => True
  | x :: xs, y :: ys => (y = .un ∨ x = y) ∧ Le xs ys
  | _, _ => False
theorem Le.refl : ∀ (sd : List Slot), Le sd sd
  | [] => trivial
  | _ :: xs => ⟨.inr rfl, Le.refl xs⟩
theorem Le.own : ∀ {sd sd' : List Slot}, Le sd sd' → (owned sd').Sublist (owned sd)
  | [], [], _ => List.Sublist.refl _
  | [], _ :: _, h => h.elim
  | _ :: _, [], h => h.elim
  | x :: xs, y :: ys, h => by
    obtain ⟨h1, h2⟩ := h
    have ih := Le.own h2
    rcases h1 with rfl | rfl
    · exact ih.trans (List.sublist_append_right _ _)
    · exact List.Sublist.append (List.Sublist.refl _) ih
theorem Le.slots {K : PySem.W.Frag} {F H : Hp} : ∀ {sd sd' : List Slot} {σ : St}, Le sd sd' → SlotsOk K F H sd σ → SlotsOk K F H sd' σ
  | [], [], _, _, h => h
  | [], _ :: _, _, h, _ => h.elim
  | _ :: _, [], _, h, _ => h.elim
  | x :: xs, y :: ys, σ, h, q => by
    obtain ⟨h1, h2⟩ := h
    obtain ⟨o, r, rfl, a, b⟩ := q
    refine ⟨o, r, rfl, ?_, Le.slots h2 b⟩
    rcases h1 with rfl | rfl
    · trivial
    · exact a
theorem StF.le {K : PySem.W.Frag} {H₀ F H : Hp} {σ : St} {sd' : List Slot} (S : StF K H₀ F H σ sd) (h : Le sd sd') : StF K H₀ F H σ sd' := ⟨S.base, S.sub, S.smp, h.slots S.slots, S.nd.sublist h.own⟩
theorem psd_le {sd' : List Slot} {sts : List Stmt} (h : Le sd sd') (q : PSd X sd' sts E) : PSd X sd sts E := .mk fun σ F H S => q σ F H (S.le h)
theorem lft_up {F₀ F : Hp} {E : EndD} {σ : St} {H : Hp} {sts : List Stmt} (s : Same F₀ F) (h : wSs X sts (lft X F E) σ H) : wSs X sts (lft X F₀ E) σ H :=
  h.imp (fun σ2 H2 ⟨sd2, F2, S2, s2, q2⟩ => ⟨sd2, F2, S2, s.trans s2, q2⟩) (fun v H2 q2 => q2) (fun σ2 H2 ⟨sd2, F2, S2, s2, q2⟩ => ⟨sd2, F2, S2, s.trans s2, q2⟩) fun σ2 H2 ⟨sd2, F2, S2, s2, q2⟩ => ⟨sd2, F2, S2, s.trans s2, q2⟩
theorem PSd.imp {sts : List Stmt} {E' : EndD} (h : PSd X sd sts E) (k1 : ∀ sd, E.nx sd → E'.nx sd) (k2 : ∀ r, E.rt r → E'.rt r) (k3 : ∀ sd, E.bk sd → E'.bk sd) (k4 : ∀ sd, E.ct sd → E'.ct sd) : PSd X sd sts E' := .mk fun σ F H S =>
  (h σ F H S).imp (fun _ _ ⟨sd2, F2, S2, s2, q2⟩ => ⟨sd2, F2, S2, s2, k1 _ q2⟩) (fun _ _ ⟨r, q, q2⟩ => ⟨r, q, k2 _ q2⟩) (fun _ _ ⟨sd2, F2, S2, s2, q2⟩ => ⟨sd2, F2, S2, s2, k3 _ q2⟩) fun _ _ ⟨sd2, F2, S2, s2, q2⟩ => ⟨sd2, F2, S2, s2, k4 _ q2⟩
theorem le_set_un : ∀ (sd : List Slot) (i : Nat), Le sd (sd.set i .un)
  | [], _ => trivial
  | _ :: xs, 0 => ⟨.inl rfl, Le.refl xs⟩
  | _ :: xs, i + 1 => ⟨.inr rfl, le_set_un xs i⟩
theorem not_ownedZ : ∀ {sd : List Slot} {i : Nat} {l : Addr} {z : Slot}, (owned sd).Nodup → sd[i]? = some z → l ∈ ownL z → l ∉ owned (sd.set i .un)
  | [], _, _, _, _, e, _ => by simp at e
  | y :: zs, 0, l, z, h, e, hl => by
    have : y = z := by simpa using e
    subst this
    obtain ⟨n1, n2, n3⟩ := List.nodup_append.mp (show (ownL y ++ owned zs).Nodup from h)
    exact fun hm => n3 l hl l hm rfl
  | y :: zs, i + 1, l, z, h, e, hl => by
    have e' : zs[i]? = some z := by simpa using e
    obtain ⟨n1, n2, n3⟩ := List.nodup_append.mp (show (ownL y ++ owned zs).Nodup from h)
    have ml : l ∈ owned zs := List.mem_flatMap.mpr ⟨_, List.mem_of_getElem? e', hl⟩
    intro hm
    rcases List.mem_append.mp (show l ∈ ownL y ++ owned (zs.set i .un) from hm) with q | q
    · exact n3 l q l ml rfl
    · exact not_ownedZ n2 e' hl q
theorem not_owned {sd : List Slot} {i : Nat} {l : Addr} {ds : List D} (h : (owned sd).Nodup) (e : sd[i]? = some (.own l ds)) : l ∉ owned (sd.set i .un) := not_ownedZ h e (List.mem_singleton_self l)
theorem set_same {σ : St} {i : Nat} {o : Option V} (h : σ[i]? = some o) : σ.set i o = σ := by
  obtain ⟨hi, e⟩ := List.getElem?_eq_some_iff.mp h
  rw [← e]
  exact List.set_getElem_self hi
theorem set_set (sd : List Slot) (i : Nat) (x y : Slot) : (sd.set i x).set i y = sd.set i y := by simp
/-- a list of ours is written -/
theorem StF.wr {K : PySem.W.Frag} {H₀ F H : Hp} {σ : St} {i : Nat} {l : Addr} {ds' : List D} {xs' : List V} (S : StF K H₀ F H σ sd) (hs : sd[i]? = some (.own l ds)) (rl : RepL K F ds' xs') : StF K H₀ F (upd H l (.lst xs')) σ (sd.set i (.own l ds')) := by
  obtain ⟨o, h1, h2, n, xs, q, _⟩ := S.slots.get hs
  have no := not_owned S.nd hs
  have S0 := S.le (le_set_un sd i)
  refine ⟨S.base, fun b u e => ?_, fun b u e => ?_, ?_, ?_⟩
  · rw [upd_ne (ne_of_none e n)]
    exact S.sub _ _ e
  · by_cases h : b = l
    · subst h
      rw [upd_same] at e
      cases e
      trivial
    · rw [upd_ne h] at e
      exact S.smp _ _ e
  · have q1 : SlotsOk K F (upd H l (.lst xs')) (sd.set i .un) σ := S0.slots.mono (Same.refl _) fun l' hl => by
      obtain ⟨n', ys, q', _⟩ := S0.slots.owns hl
      have hne : l' ≠ l := fun z => no (z ▸ hl)
      exact ⟨n', fun ys e => by rw [upd_ne hne]; exact e⟩
    have q2 := q1.set (z := .own l ds') (o := some (.ref l)) ⟨rfl, n, xs', upd_same, rl⟩ i
    rw [set_set, set_same (by rw [h1, h2])] at q2
    exact q2
  · have := owned_set (z := Slot.own l ds') i S0.nd fun l' e => by rw [List.mem_singleton.mp e]; exact .inl no
    rw [set_set] at this
    exact this.1
theorem psd_frz (i : Nat) {l : Addr} {sts : List Stmt} (hs : sd[i]? = some (.own l ds)) (h : PSd X (sd.set i (.val (.lst ds))) sts E) : PSd X sd sts E := .mk fun σ F H S => by
  obtain ⟨o, h1, h2, n, xs, q, rl⟩ := S.slots.get hs
  have S0 := S.le (le_set_un sd i)
  obtain ⟨S1, s1⟩ := S0.freeze q n (not_owned S.nd hs)
  have S2 := S1.set (d := .lst ds) (v := .ref l) i (by simp only [Rep]; exact ⟨l, xs, rfl, upd_same, rl.mono s1⟩)
  rw [set_set, set_same (by rw [h1, h2])] at S2
  exact lft_up s1 (h σ _ H S2)
theorem psd_append (i : Nat) {x : Str} {p ap cp : Pos} {l : Addr} (hs : sd[i]? = some (.own l ds)) (hx : PE X (.Name x p) (tVar i)) (h : PEd X sd e (.val d)) (hl : ds.length ≤ 1000) (hE : E.nx (sd.set i (.own l (ds ++ [d]))))
    (hst : starEach (e :: []) X.env = (false, eval e X.env) :: starEach [] X.env := by rfl)
    (hm : PE X (.Call (.Attribute (.Name x p) "append" ap) [e] [] cp) (tBM X.K "list" rAppend (tVar i) (tCons (wE X e) tNil)) := by exact pe_bm PySem.F.plainAttrs_list PySem.F.slot_list_append PySem.F.type_list_append mt_append (pv _) (pa_cons pe_w pa_nil))
    (hsw : swapsWith (.Call (.Attribute (.Name x p) "append" ap) [e] [] cp) none pos.line X.env = pure false := by rfl) :
    PSd1 X sd (.Expr (.Call (.Attribute (.Name x p) "append" ap) [e] [] cp) pos) E := .mk fun σ F H S =>
  (ps_expr hm hsw).to (by
    obtain ⟨o, h1, h2, n, xs, q, rl⟩ := S.slots.get hs
    refine ⟨.ref l, by rw [h1, h2], .inl ⟨rfl, xs, .of q⟩, (h σ F H S).imp fun v H1 ⟨F1, S1, s1, q1⟩ => ?_⟩
    obtain ⟨o', h1', h2', n', xs', q', rl'⟩ := S1.slots.get hs
    exact ⟨l, xs', v, rfl, rfl, q', by rw [rl'.len]; exact small1000 hl, _, F1, S1.wr hs (rl'.app (.one q1)), s1, hE⟩)
theorem psd_extend (i : Nat) {x : Str} {p ap cp : Pos} {l : Addr} {ds2 : List D} (hs : sd[i]? = some (.own l ds)) (hx : PE X (.Name x p) (tVar i)) (h : PEd X sd e (.val (.lst ds2))) (hl : ds.length + ds2.length ≤ 1000) (hE : E.nx (sd.set i (.own l (ds ++ ds2))))
    (hst : starEach (e :: []) X.env = (false, eval e X.env) :: starEach [] X.env := by rfl)
    (hm : PE X (.Call (.Attribute (.Name x p) "extend" ap) [e] [] cp) (tBM X.K "list" rExtend (tVar i) (tCons (wE X e) tNil)) := by exact pe_bm PySem.F.plainAttrs_list PySem.F.slot_list_extend PySem.F.type_list_extend mt_extend (pv _) (pa_cons pe_w pa_nil))
    (hsw : swapsWith (.Call (.Attribute (.Name x p) "extend" ap) [e] [] cp) none pos.line X.env = pure false := by rfl) :
    PSd1 X sd (.Expr (.Call (.Attribute (.Name x p) "extend" ap) [e] [] cp) pos) E := .mk fun σ F H S =>
  (ps_expr hm hsw).to (by
    obtain ⟨o, h1, h2, n, xs, q, rl⟩ := S.slots.get hs
    refine ⟨.ref l, by rw [h1, h2], .inl ⟨rfl, xs, .of q⟩, (h σ F H S).imp fun v H1 ⟨F1, S1, s1, q1⟩ => ?_⟩
    obtain ⟨o', h1', h2', n', xs', q', rl'⟩ := S1.slots.get hs
    simp only [ResOk, Rep] at q1
    obtain ⟨b, zs, rfl, hb, rb⟩ := q1
    exact ⟨l, b, xs', zs, rfl, rfl, q', S1.sub _ _ hb, by rw [rl'.len, rb.len]; exact Nat.le_of_lt (small1000 hl), _, F1, S1.wr hs (rl'.app rb), s1, hE⟩)

/-! ### calls -/
noncomputable def spC (K : PySem.W.Frag) (n : Nat) (C : List D → R → Prop) : Sp := fun vs H Q _ => vs.length = n ∧ Smp H ∧ ∃ ds r, RepL K H ds vs ∧ C ds r ∧ ∀ v H', RetOk K H H' r v → Q v H'
/-- the same, where the caller's lists lie aside -/
noncomputable def spF (K : PySem.W.Frag) (n : Nat) (C : List D → R → Prop) : Sp := fun vs H Q _ => vs.length = n ∧ Smp H ∧ ∃ F ds r, Same F H ∧ RepL K F ds vs ∧ C ds r ∧ ∀ v F2 F3 H', Same F F2 → Same F2 F3 → Same F3 H' → Same H H' → Smp H' → (∀ b o, H b = some o → F b = none → F3 b = none) → ResOk K F2 F3 [] r v → Q v H'
noncomputable def merge (F H : Hp) : Hp := fun b => match F b with
  | some o => some o
  | none => H b
theorem merge_l {F H : Hp} : Same F (merge F H) := fun b o e => by unfold merge; rw [e]
theorem merge_n {F H : Hp} {b : Addr} (h : F b = none) : merge F H b = H b := by unfold merge; rw [h]
theorem FnOk.framed {P : Program} {w : World} {K : PySem.W.Frag} {mg : Str → Option Value} {base : Heap} {k n : Nat} {f : Addr} {fd : FuncData} {ps : List Str} {C : List D → R → Prop} (G : FnOk P w K mg base CX0 k f fd ps (spC K n C)) : FnOk P w K mg base CX0 k f fd ps (spF K n C) := by
  refine ⟨fun vs H Q E h => ?_, fun A outer s H args us vs Q E hr e0 hb rv h => ?_⟩
  · obtain ⟨hl, sm, F, ds, r, sF, rl, c, _⟩ := h
    exact G.len vs F (fun _ _ => True) E ⟨hl, sm.sub sF, ds, r, rl, c, fun _ _ _ => trivial⟩
  · obtain ⟨hl, sm, F, ds, r, sF, rl, c, q⟩ := h
    have e1 : Env0 P w K mg base A outer s F := ⟨e0.frames, e0.mod, fun b o e => ⟨(e0.bs b o e).1, sF.free (e0.bs b o e).2⟩, e0.bsz, e0.funs, fun b hb => sF.free (e0.frf b hb), fun b o e => (e0.hok b o (sF b o e)).smp (sm b o (sF b o e)), e0.bare⟩
    refine codeAny_mono (G.run A outer s F args us vs (fun v F3 => RetOk K F F3 r v) E hr e1 hb rv ⟨hl, sm.sub sF, ds, r, rl, c, fun v H' z => z⟩) fun rr s' hrr => ?_
    cases rr with
    | error e => exact hrr
    | ok fl =>
      cases fl with
      | ret u =>
        obtain ⟨v, F3, ho, ha, un, hk, ru, F2, s1, s2, sm3, res⟩ := hrr
        have keepF : ∀ b o, H b = some o → F b = none → F3 b = none := fun b o e n => by
          have lt := e0.hok.lt e
          cases g : s.heap.get? b with
          | none =>
            exfalso
            have ob := e0.hok b o e
            have z := sm b o e
            cases o with
            | lst xs => obtain ⟨_, _, _, _, g'⟩ := ob; rw [g] at g'; cases g'
            | tup xs => obtain ⟨_, _, _, oo, g', _⟩ := ob; rw [g] at g'; cases g'
            | dK kvs => obtain ⟨_, _, _, _, oo, _, _, g', _⟩ := ob; rw [g] at g'; cases g'
            | frz o2 u2 => obtain ⟨g', _⟩ := ob; rw [g] at g'; cases g'
            | ext φ => obtain ⟨_, ⟨oo, g'⟩, _⟩ := ob; rw [g] at g'; cases g'
            | _ => exact z
          | some ob => exact un.free b ob g n (by simp)
        have keepO : ∀ b o, H b = some o → F b = none → ∀ ob, s.heap.get? b = some ob → s'.heap.get? b = some ob := fun b o e n ob g => un.keep b ob g n (fun hb => by have := e0.frf b hb; rw [e] at this; cases this) (by simp)
        have sH : Same H (merge F3 H) := fun b o e => by
          cases g : F b with
          | none => rw [merge_n (keepF b o e g)]; exact e
          | some o' =>
            have := sF b o' g
            rw [e] at this
            cases this
            exact merge_l _ _ (s2 _ _ (s1 _ _ g))
        have smM : Smp (merge F3 H) := fun b o e => by
          cases g : F3 b with
          | some o' => have := merge_l (H := H) b o' g; rw [e] at this; cases this; exact sm3 b o g
          | none => rw [merge_n g] at e; exact sm b o e
        refine ⟨v, merge F3 H, ho, ha, ⟨fun b o g n hb hx => un.keep b o g (sF.free n) hb hx, fun b o g n hb hx => un.slot b o g (sF.free n) hb hx, fun b o g n hx => ?_, un.there, fun b xs e => sH _ _ e, fun b o u e => sH _ _ e, fun b ps e => ⟨#[], by rw [sH _ _ e]; simp⟩⟩, fun b o e => ?_, ru, ?_⟩
        · rw [merge_n (un.free b o g (sF.free n) hx)]
          exact n
        · have z := smM b o e
          cases g : F3 b with
          | some o' =>
            have := merge_l (H := H) b o' g
            rw [e] at this
            cases this
            exact (hk b o g).smp z
          | none =>
            rw [merge_n g] at e
            have n : F b = none := by
              cases g2 : F b with
              | none => rfl
              | some o2 => rw [s2 _ _ (s1 _ _ g2)] at g; cases g
            have st := (e0.hok b o e).smp (F := fun _ => none) z
            have : ObjOk P w (fun _ => none) s'.heap b o := st.stay (fun b2 u hb2 gg => by
              rcases hb2 with rfl | hb2
              · exact keepO _ o e n u gg
              · cases hb2) (fun b2 hb2 => nomatch hb2) fun b2 xs hb2 => nomatch hb2
            exact this.smp z
        · exact q v F2 F3 (merge F3 H) s1 s2 merge_l sH smM keepF res
      | _ => exact hrr
structure Callee (P : Program) (w : World) (K : PySem.W.Frag) (mg : Str → Option Value) (base : Heap) (x : Str) (k n : Nat) (C : List D → R → Prop) : Prop where
  ex : ∃ (f : Addr) (fd : FuncData) (ps : List Str), mg x = some (.ref f) ∧ PySem.W.keepIn K (.ref f) = true ∧ Binds K fd ps [] ∧ FnOk P w K mg base CX0 k f fd ps (spC K n C)
theorem pd_call {x : Str} {p : Pos} {k n : Nat} {C : List D → R → Prop} (G : Callee X.prog X.w X.K X.mg X.base x k n C) (hr : Room k X.A) (hg : Gl X x) (ha : PAd X sd (e :: es) (ds.map R.val)) (hc : C ds r) (hb : match r with | .bor _ => False | _ => True) (hn : ds.length = n)
    (hdb : (x == ("__debug__" : Str)) = false := by decide) (he : starEach (e :: es) X.env = (false, eval e X.env) :: starEach es X.env := by rfl) (hpl : (backTo pos (starEach es X.env)).any (·.1) = false := by rfl) :
    PEd X sd (.Call (.Name x p) (e :: es) [] pos) r := .mk fun σ F H S => by
  obtain ⟨f, fd, ps, hm, hk, bd, G⟩ := G.ex
  refine (pe_call (FnOk.framed G) hr hg hm hk bd .nil pass0 pa_w hdb he hpl).to ((ha σ F H S).imp fun vs H1 ⟨F1, S1, s1, q1⟩ => ?_)
  have rl := q1.vals
  refine ⟨by rw [List.append_nil, rl.len]; exact hn, S1.smp, F1, ds, r, S1.sub, by rw [List.append_nil]; exact rl, hc, fun v F2 F3 H' s2 s3 s4 sH sm kp res => ?_⟩
  have no : ∀ l, l ∈ owned sd → F2 l = none ∧ F3 l = none := fun l hl => by
    obtain ⟨n1, xs, q, _⟩ := S1.slots.owns hl
    have n3 := kp l _ q n1
    exact ⟨s3.free n3, n3⟩
  refine ⟨F2, ⟨fun b o e => s2 _ _ (S1.base _ _ e), s3.trans s4, sm, S1.slots.mono s2 fun l hl => ⟨(no l hl).1, fun ys e => sH _ _ e⟩, S1.nd⟩, s1.trans s2, ?_⟩
  cases r with
  | val d => exact res
  | own ds' =>
    obtain ⟨l, xs, e, n, q, rl', _⟩ := res
    exact ⟨l, xs, e, n, s4 _ _ q, rl', fun hl => by rw [(no l hl).2] at q; cases q⟩
  | pr d ls =>
    obtain ⟨t, l, xs, y, e, f, g, n, q, rl', _⟩ := res
    exact ⟨t, l, xs, y, e, f, g, n, s4 _ _ q, rl', fun hl => by rw [(no l hl).2] at q; cases q⟩
  | ox G =>
    obtain ⟨ls, nd, h, g⟩ := res
    refine ⟨ls, nd, fun l hl => ?_, fun F' H'' sF k => g F' H'' sF fun l hl ob q => k l hl ob (s4 _ _ q)⟩
    obtain ⟨n, ⟨ob, q, w⟩, _⟩ := h l hl
    exact ⟨n, ⟨ob, s4 _ _ q, w⟩, fun hm => by rw [(no l hm).2] at q; cases q⟩
  | bor ds' => exact hb.elim
/-- what an argument is to the callee -/
noncomputable def R.toD : R → D
  | .val d => d
  | .own ds => .lst ds
  | .bor ds => .lst ds
  | .pr d ls => .tup [d, .lst ls]
  | .ox _ => .non
theorem RsOk.toD {K : PySem.W.Frag} {H₀ F H : Hp} {σ : St} (S : StF K H₀ F H σ sd) {rs : List R} {vs : List V} (hk : ∀ r ∈ rs, r.keeps) (q : RsOk K F H sd rs vs) : RepL K H (rs.map R.toD) vs := by
  induction q with
  | nil => exact .nil
  | @cons r v rs vs q t ih =>
    refine .cons ?_ (ih fun r hr => hk r (List.mem_cons_of_mem _ hr))
    cases r with
    | val d => exact Rep.mono S.sub q
    | own ds => exact (hk _ List.mem_cons_self).elim
    | pr d ls => exact (hk _ List.mem_cons_self).elim
    | ox G => exact (hk _ List.mem_cons_self).elim
    | bor ds =>
      obtain ⟨l, xs, e, hl, rl, _⟩ := q
      simp only [R.toD, Rep]
      exact ⟨l, xs, e, hl, rl.mono S.sub⟩
/-! ### a def -/
noncomputable def init (n : Nat) (ds : List D) : List Slot := ds.map Slot.val ++ List.replicate (n - ds.length) .un
theorem slots_un {K : PySem.W.Frag} {F H : Hp} : ∀ n : Nat, SlotsOk K F H (List.replicate n .un) (List.replicate n none)
  | 0 => rfl
  | n + 1 => ⟨none, List.replicate n none, rfl, trivial, slots_un n⟩
theorem slots_init {K : PySem.W.Frag} {F H : Hp} {m n : Nat} : ∀ {ds : List D} {vs : List V}, RepL K F ds vs → SlotsOk K F H (ds.map Slot.val ++ List.replicate n .un) (vs.map some ++ List.replicate n none)
  | [], vs, r => by
    simp only [RepL] at r
    subst r
    exact slots_un n
  | d :: ds, vs, r => by
    obtain ⟨y, ys, rfl, a, rl⟩ := r.uncons
    exact ⟨some y, _, rfl, ⟨y, rfl, a⟩, slots_init (m := m) rl⟩
theorem owned_init (n : Nat) : ∀ ds : List D, owned (ds.map Slot.val ++ List.replicate n .un) = []
  | [] => by
    induction n with
    | zero => rfl
    | succ n ih => exact ih
  | _ :: ds => owned_init n ds
theorem def_fn {P : Program} {w : World} {K : PySem.W.Frag} {mg : Str → Option Value} {base : Heap} {x qual : Str} {st : Stmt} {f : Addr} {fd : FuncData} {N ps : List Str} {k : Nat} {C : List D → R → Prop} (F : Fun K x qual st f fd) (S : FnScope N ps (defScope st))
    (body : ∀ (cdv : Value) (A : Around) (outer : List Env) (s : Shared) (H : Hp) (E : XK), Room k (A.deeper (envOfC qual (defScope st) s.heap.objs.size f cdv)) → ∀ ds r, ds.length = ps.length → C ds r →
      PSd (cxOf CX0 P w K mg base N qual (defScope st) f cdv A outer s H E).nox (init N.length ds) (defBody st) { nx := fun _ => r = .val .non, rt := fun r' => r' = r }) : FnOk P w K mg base CX0 (k + 1) f fd ps (spC K ps.length C) := by
  refine F.ok S (fun vs H Q E h => h.1) fun cdv A outer s H vs Q E hr h => ?_
  obtain ⟨hl, sm, ds, r, rl, c, q⟩ := h
  have hds : ds.length = ps.length := by rw [← rl.len]; exact hl
  refine ⟨_, pss_w, ?_⟩
  have hlen : N.length - vs.length = N.length - ds.length := by rw [rl.len]
  have S0 : StF K H H H (L2.start N vs) (init N.length ds) := by
    refine ⟨Same.refl _, Same.refl _, sm, ?_, ?_⟩
    · unfold L2.start init
      rw [hlen]
      exact slots_init (m := 0) rl
    · unfold init
      rw [owned_init]
      exact List.nodup_nil
  refine (body cdv A outer s H E hr ds r hds c (L2.start N vs) H H S0).imp ?_ ?_ (fun _ _ ⟨_, _, _, _, z⟩ => z) fun _ _ ⟨_, _, _, _, z⟩ => z
  · rintro σ' H' ⟨sd', F', S', s', e⟩
    have e : r = .val .non := e
    subst e
    exact q .non H' ⟨F', S'.base, S'.sub, S'.smp, by simp only [ResOk, Rep]⟩
  · rintro v H' ⟨r', ro, e⟩
    have e : r' = r := e
    subst e
    exact q v H' ro
theorem def_ok {P : Program} {w : World} {K : PySem.W.Frag} {mg : Str → Option Value} {base : Heap} {x qual : Str} {st : Stmt} {f : Addr} {fd : FuncData} {N ps : List Str} {k : Nat} {C : List D → R → Prop} (F : Fun K x qual st f fd) (S : FnScope N ps (defScope st))
    (hm : mg x = some (.ref f)) (hb : ∀ (kV doc pm : Value) (an : Option Addr) (cdv ct : Value) (us : List Value), us.length = ps.length → bindArgs (PySem.W.fnOf x qual (defArgs st) (defBody st) (defScope st) .none kV doc pm an cdv ct) ⟨us, []⟩ = pure (ps.zip us))
    (body : ∀ (cdv : Value) (A : Around) (outer : List Env) (s : Shared) (H : Hp) (E : XK), Room k (A.deeper (envOfC qual (defScope st) s.heap.objs.size f cdv)) → ∀ ds r, ds.length = ps.length → C ds r →
      PSd (cxOf CX0 P w K mg base N qual (defScope st) f cdv A outer s H E).nox (init N.length ds) (defBody st) { nx := fun _ => r = .val .non, rt := fun r' => r' = r }) : Callee P w K mg base x (k + 1) ps.length C :=
  ⟨f, fd, ps, hm, F.kp, F.binds hb, def_fn F S body⟩
end
end DL

namespace DL
open PySem PySem.Spec PyProof.Rows L2
section
variable {X : Cx} {sd : List Slot} {e a b c tg iter : Expr} {es : List Expr} {pos : Pos} {r ra rb : R} {d : D} {ds : List D} {st : Stmt} {rest : List Stmt} {E : EndD}

/-! ### what is walked -/
noncomputable def ItD (K : PySem.W.Frag) (F₁ : Hp) (P : Hp → Hp → Prop) (J : It) (ds : List D) : Prop := ∀ (F H : Hp), Same F₁ F → Same F H → Smp H → P F H → ∀ i, (i < ds.length → J.go i H) ∧ (ds.length ≤ i → J.stop i H) ∧
  ∀ x H' d, ds[i]? = some d → J.yld i H x H' → ∃ F', Same F F' ∧ Rep K F' d x ∧ ∀ H₀ σ sd, StF K H₀ F H σ sd → StF K H₀ F' H' σ sd
noncomputable abbrev PT0 : Hp → Hp → Prop := fun _ _ => True
structure PId (X : Cx) (sd : List Slot) (P : Hp → Hp → Prop) (tg iter : Expr) (ds : List D) : Prop where
  run : ∀ (σ : St) (F H : Hp), StF X.K X.B₀ F H σ sd →
  wI X tg iter σ H fun J H1 => ∃ F1, StF X.K X.B₀ F1 H1 σ sd ∧ Same F F1 ∧ ItD X.K F1 P J ds
instance {X : Cx} {sd : List Slot} {P : Hp → Hp → Prop} {tg iter : Expr} {ds : List D} : CoeFun (PId X sd P tg iter ds) (fun _ => ∀ (σ : St) (F H : Hp), StF X.K X.B₀ F H σ sd →
  wI X tg iter σ H fun J H1 => ∃ F1, StF X.K X.B₀ F1 H1 σ sd ∧ Same F F1 ∧ ItD X.K F1 P J ds) := ⟨PId.run⟩
theorem _root_.L2.PI.to {wi : TI} {σ : St} {H : Hp} {R : It → Hp → Prop} (h : PI X tg iter wi) (q : wi σ H R) : wI X tg iter σ H R := fun pins s I => h pins s σ H R I q
theorem pid_list (h : PEd X sd iter (.val (.lst ds))) : PId X sd PT0 tg iter ds := .mk fun σ F H S =>
  (pi_list pe_w).to ((h σ F H S).imp fun v H1 ⟨F1, S1, s1, q1⟩ => by
    simp only [ResOk, Rep] at q1
    obtain ⟨l, xs, rfl, hl, rl⟩ := q1
    refine ⟨l, rfl, ⟨xs, .of (S1.sub _ _ hl)⟩, F1, S1, s1, fun F' H' sF sH sm _ i => ?_⟩
    have hl' := sH _ _ (sF _ _ hl)
    refine ⟨fun hi => ⟨xs, xs[i]'(by rw [rl.len]; exact hi), .of hl', by simp [rl.len, hi]⟩, fun hi => ⟨xs, .of hl', by rw [rl.len]; exact hi⟩, fun x H2 d hd y => ?_⟩
    obtain ⟨rfl, y⟩ := y
    obtain ⟨v, hv, rv⟩ := rl.get hd
    have := y xs (.of hl')
    rw [hv] at this
    cases this
    exact ⟨F', Same.refl _, rv.mono sF, fun _ _ _ S => S⟩)
theorem pid_tup (h : PEd X sd iter (.val (.tup ds))) : PId X sd PT0 tg iter ds := .mk fun σ F H S =>
  (pi_tup pe_w).to ((h σ F H S).imp fun v H1 ⟨F1, S1, s1, q1⟩ => by
    simp only [ResOk, Rep] at q1
    obtain ⟨l, xs, rfl, hl, rl⟩ := q1
    refine ⟨l, rfl, ⟨xs, .of (S1.sub _ _ hl)⟩, F1, S1, s1, fun F' H' sF sH sm _ i => ?_⟩
    have hl' := sH _ _ (sF _ _ hl)
    refine ⟨fun hi => ⟨xs, xs[i]'(by rw [rl.len]; exact hi), .of hl', by simp [rl.len, hi]⟩, fun hi => ⟨xs, .of hl', by rw [rl.len]; exact hi⟩, fun x H2 d hd y => ?_⟩
    obtain ⟨rfl, y⟩ := y
    obtain ⟨v, hv, rv⟩ := rl.get hd
    have := y xs (.of hl')
    rw [hv] at this
    cases this
    exact ⟨F', Same.refl _, rv.mono sF, fun _ _ _ S => S⟩)
noncomputable def rangeD (lo : Int) (n : Nat) : List D := (List.range n).map fun (k : Nat) => D.int (lo + (k : Int))
theorem rangeD_len (lo : Int) (n : Nat) : (rangeD lo n).length = n := by simp [rangeD]
theorem rangeD_get {lo : Int} {n i : Nat} {d : D} (h : (rangeD lo n)[i]? = some d) : i < n ∧ d = .int (lo + (i : Int)) := by
  unfold rangeD at h
  rw [List.getElem?_map] at h
  by_cases hi : i < n
  · rw [List.getElem?_range hi] at h
    exact ⟨hi, (Option.some.inj h).symm⟩
  · rw [List.getElem?_eq_none (by simpa using hi)] at h
    cases h
theorem itd_range {K : PySem.W.Frag} {F₁ : Hp} {lo : Int} {n : Nat} : ItD K F₁ PT0 (Itr lo n) (rangeD lo n) := fun F H _ _ _ _ i => by
  refine ⟨fun hi => by rw [rangeD_len] at hi; exact hi, fun hi => by rw [rangeD_len] at hi; exact hi, fun x H' d hd y => ?_⟩
  obtain ⟨rfl, rfl⟩ := y
  obtain ⟨_, rfl⟩ := rangeD_get hd
  exact ⟨F, Same.refl _, by simp only [Rep], fun _ _ _ S => S⟩
theorem pid_range {p : Pos} {n : Nat} (hg : Gl X "range") (hm : X.mg "range" = none) (h : PEd X sd a (.val (.int (n : Int)))) (hn : (n : Int) < 2 ^ 62) (hs : starEach [a] X.env = [(false, eval a X.env)] := by rfl) : PId X sd PT0 tg (.Call (.Name "range" p) [a] [] pos) (rangeD 0 n) := .mk fun σ F H S =>
  (pi_range1 hg hm pa_w hs).to ((pad_cons h pad_nil trivial hs σ F H S).imp fun vs H1 ⟨F1, S1, s1, q1⟩ => by
    cases q1 with
    | cons q1 q2 =>
      cases q2
      simp only [ResOk, Rep] at q1
      subst q1
      exact ⟨(n : Int), rfl, by omega, hn, F1, S1, s1, by rw [Int.toNat_natCast]; exact itd_range⟩)
/-! ### targets -/
structure PGd (X : Cx) (sd : List Slot) (tg : Expr) (d : D) (sd' : List Slot) : Prop where
  run : ∀ (σ : St) (F H : Hp) (v : V), StF X.K X.B₀ F H σ sd → Rep X.K F d v → wG X tg v σ H fun σ' H' => ∃ F', StF X.K X.B₀ F' H' σ' sd' ∧ Same F F'
instance {X : Cx} {sd : List Slot} {tg : Expr} {d : D} {sd' : List Slot} : CoeFun (PGd X sd tg d sd') (fun _ => ∀ (σ : St) (F H : Hp) (v : V), StF X.K X.B₀ F H σ sd → Rep X.K F d v → wG X tg v σ H fun σ' H' => ∃ F', StF X.K X.B₀ F' H' σ' sd' ∧ Same F F') := ⟨PGd.run⟩
theorem _root_.L2.PG.to {t : TG} {v : V} {σ : St} {H : Hp} {Q : St → Hp → Prop} (h : PG X tg t) (q : t v σ H Q) : wG X tg v σ H Q := fun pins s u I r => h pins s σ H v u Q I r q
theorem pgd_name (j : Nat) (h : PG X tg (gName j)) : PGd X sd tg d (sd.set j (.val d)) := .mk fun σ F H v S q => h.to ⟨F, S.set j q, Same.refl _⟩
noncomputable def gNs : List Nat → TGs
  | [] => gNil
  | j :: js => gCons (gName j) (gNs js)
noncomputable def setAll : List Slot → List Nat → List D → List Slot
  | sd, j :: js, d :: ds => setAll (sd.set j (.val d)) js ds
  | sd, _, _ => sd
theorem gNs_ok {K : PySem.W.Frag} {H₀ F H : Hp} {Q : St → Hp → Prop} : ∀ {js : List Nat} {ds : List D} {vs : List V} {σ : St} {sd : List Slot}, js.length = ds.length → RepL K F ds vs → StF K H₀ F H σ sd → (∀ σ', StF K H₀ F H σ' (setAll sd js ds) → Q σ' H) → gNs js vs σ H Q
  | [], [], vs, σ, sd, _, r, S, k => by
    simp only [RepL] at r
    exact ⟨r, k σ S⟩
  | j :: js, d :: ds, vs, σ, sd, hl, r, S, k => by
    obtain ⟨y, ys, rfl, q, rl⟩ := r.uncons
    exact ⟨y, ys, rfl, gNs_ok (by simpa using hl) rl (S.set j q) k⟩
  | [], _ :: _, _, _, _, hl, _, _, _ => by simp at hl
  | _ :: _, [], _, _, _, hl, _, _, _ => by simp at hl
theorem pgd_tup {k : Nat} {js : List Nat} (hc : X.calm = true) (h : PGs X es (gNs js)) (hl : js.length = ds.length) (hn : (assignEach es X.env).length = ds.length) (hst : (assignEach es X.env).findIdx? (·.1) = none := by rfl) : PGd X sd (.Tuple es k pos) (.tup ds) (setAll sd js ds) := .mk fun σ F H v S q =>
  (pg_tup hc h hn hst).to (by
    simp only [Rep] at q
    obtain ⟨a, xs, rfl, ha, rl⟩ := q
    exact ⟨a, xs, rfl, .of (S.sub _ _ ha), rl.len, gNs_ok hl rl S fun σ' S' => ⟨F, S', Same.refl _⟩⟩)
/-- targets = value -/
theorem psd_asg {sd' : List Slot} (h : PEd X sd e (.val d)) (hg : PGd X sd tg d sd') (hE : E.nx sd') (hs : swapsWithSole [tg] e pos.line X.env = pure false := by rfl) (hw : swappedStores [tg] e X.env = pure none := by rfl)
    (h1 : (assignEach [tg] X.env).map (·.2) = [assign tg X.env] := by rfl) : PSd1 X sd (.Assign [tg] e pos) E := .mk fun σ F H S =>
  (ps_asg pe_w pg_w hs hw h1).to ((h σ F H S).imp fun v H1 ⟨F1, S1, s1, q1⟩ => (hg σ F1 H1 v S1 q1).imp fun σ' H' ⟨F', S', s'⟩ => ⟨sd', F', S', s1.trans s', hE⟩)

/-! ### for -/
theorem psd_for {body : List Stmt} {P : Hp → Hp → Prop} (Sd Td : Nat → List Slot) (hi : PId X sd P tg iter ds) (h0 : Le sd (Sd 0)) (hg : ∀ k d, ds[k]? = some d → PGd X (Sd k) tg d (Td k))
    (hb : ∀ k d, ds[k]? = some d → PSd X (Td k) body { E with nx := fun sd' => Le sd' (Sd (k + 1)), ct := fun sd' => Le sd' (Sd (k + 1)), bk := E.nx }) (hE : E.nx (Sd ds.length)) (hP : ∀ k σ F H, StF X.K X.B₀ F H σ (Sd k) → P F H := by intros; trivial)
    (hc : X.calm = true := by rfl) (hp : PassesOwn (model X.prog X.w) X.A X.env X.xe := by exact PassesOwn.never) (hs : ∀ x, foldedSetIterable iter X.env x = pure x := by intro _; rfl) : PSd1 X sd (.For tg iter body [] pos) E := .mk fun σ F H S =>
  (ps_for hp hc pi_w pg_w pss_w hs).to (by
    intro pins s I
    refine thn (hi σ F H S pins s I) fun v s1 h1 => thn h1 fun itv s2 h2 => ?_
    obtain ⟨it, fp, tn, J, H2, e, I2, T, st2, f2, F1, S1, s1', itd⟩ := h2
    refine ⟨it, fp, tn, J, H2, e, I2, T, st2, f2, ?_⟩
    refine ⟨fun i m σ' H' => m = ds.length - i ∧ i ≤ ds.length ∧ ∃ F', StF X.K X.B₀ F' H' σ' (Sd i) ∧ Same F1 F', ⟨ds.length, by simp, Nat.zero_le _, F1, S1.le h0, Same.refl _⟩, ?_⟩
    rintro i m σ' H' ⟨rfl, hil, F', S', s'⟩
    obtain ⟨g1, g2, g3⟩ := itd F' H' s' S'.sub S'.smp (hP _ _ _ _ S') i
    by_cases hlt : i < ds.length
    · refine .inr ⟨g1 hlt, fun σ2 H2 => ∃ F2, StF X.K X.B₀ F2 H2 σ2 (Sd (i + 1)) ∧ Same F1 F2, fun σ2 H2 ⟨F2, S2, s2⟩ => ⟨ds.length - (i + 1), by omega, rfl, hlt, F2, S2, s2⟩, fun x H2 y => ?_⟩
      have hd : ds[i]? = some ds[i] := by simp [hlt]
      obtain ⟨F2, s2, rp, up⟩ := g3 x H2 ds[i] hd y
      refine (hg i _ hd σ' F2 H2 x (up _ _ _ S') rp).imp fun σ3 H3 ⟨F3, S3, s3⟩ => ?_
      have base : Same F1 F3 := (s'.trans s2).trans s3
      refine (hb i _ hd σ3 F3 H3 S3).imp ?_ ?_ ?_ ?_
      · rintro σ4 H4 ⟨sd4, F4, S4, s4, le⟩
        exact ⟨F4, S4.le le, base.trans s4⟩
      · exact fun v H4 q => q
      · rintro σ4 H4 ⟨sd4, F4, S4, s4, q⟩
        exact ⟨sd4, F4, S4, (s1'.trans base).trans s4, q⟩
      · rintro σ4 H4 ⟨sd4, F4, S4, s4, le⟩
        exact ⟨F4, S4.le le, base.trans s4⟩
    · have e : i = ds.length := by omega
      subst e
      exact .inl ⟨g2 (Nat.le_refl _), Sd ds.length, F', S', s1'.trans s', hE⟩)

/-! ### looking aside: what our own lists hold is not touched -/
theorem Inv.retrack {pins : List (Addr × Obj)} {σ : St} {H F : Hp} {s s' : Shared} (I0 : Inv X pins σ H s) : ∀ (ls : List Addr), ls.Nodup → (∀ l ∈ ls, F l = none ∧ (∃ xs, H l = some xs ∧ Wr l xs) ∧ ∀ o, s.heap.get? l = some o → s'.heap.get? l = some o) → Inv X pins σ F s' → Inv X pins σ (fun b => if b ∈ ls then H b else F b) s'
  | [], _, _, I => by simpa using I
  | l :: ls, nd, h, I => by
    obtain ⟨nl, nd'⟩ := List.nodup_cons.mp nd
    have J := Inv.retrack I0 ls nd' (fun l' hl => h l' (List.mem_cons_of_mem _ hl)) I
    obtain ⟨n, ⟨xs, hx, wx⟩, kp⟩ := h l List.mem_cons_self
    have e : (fun b => if b ∈ l :: ls then H b else F b) = upd (fun b => if b ∈ ls then H b else F b) l xs := by
      funext b
      unfold upd
      by_cases hb : b = l
      · subst hb
        simp [hx]
      · simp [hb]
    rw [e]
    have n' : (fun b => if b ∈ ls then H b else F b) l = none := by simp [nl, n]
    have ob := I0.hok l _ hx
    clear e
    generalize (fun b => if b ∈ ls then H b else F b) = G at J n' ⊢
    refine ⟨J.ok, J.os, J.bare, ⟨J.base.keep, J.base.slot, fun b u g n0 hx0 => ?_, J.base.there, fun b ys g => ?_, fun b u ys g => ?_, fun b ps g => ?_⟩, J.loc, J.cell, ?_, fun x c g => ?_, fun p hp => ?_, J.hok.track n' ?_, J.len⟩
    · have hb : b ≠ l := fun q => by
        subst q
        have := I0.base.free b u g n0 hx0
        rw [hx] at this
        cases this
      rw [upd_ne hb]
      exact J.base.free b u g n0 hx0
    · have q := J.base.tups b ys g
      rw [upd_ne (ne_of_none q n')]
      exact q
    · have q := J.base.frzs b u ys g
      rw [upd_ne (ne_of_none q n')]
      exact q
    · obtain ⟨m, q⟩ := J.base.tbls b ps g
      exact ⟨m, by rw [upd_ne (ne_of_none q n')]; exact q⟩
    · rw [upd_ne (fun q => by have := I0.free; rw [q, hx] at this; cases this)]
      exact J.free
    · rw [upd_ne (fun q => by have := I0.freeC x c g; rw [q, hx] at this; cases this)]
      exact J.freeC x c g
    · obtain ⟨g, n0, rr⟩ := J.pin p hp
      refine ⟨g, ?_, rr⟩
      rw [upd_ne (fun q => by have := (I0.pin p hp).2.1; rw [q, hx] at this; cases this)]
      exact n0
    · cases xs with
      | lst xs =>
        obtain ⟨z, its, nn, rv, ho⟩ := ob
        exact ⟨z, its, nn, rv, kp _ ho⟩
      | dK kvs =>
        obtain ⟨z, y, vs, r, o, es, ep, e, c⟩ := ob
        exact ⟨z, y, vs, r, o, es, ep, kp _ e, c⟩
      | ext φ =>
        obtain ⟨h1, ⟨o1, h2⟩, h3⟩ := ob
        exact ⟨h3 _ _ h1 kp, ⟨o1, kp _ h2⟩, h3⟩
      | _ => exact wx.elim
theorem wr_obj {P : Program} {w : World} {H : Hp} {h : Heap} {l : Addr} {xs : HO} (wx : Wr l xs) (q : H l = some xs) (ok : ObjOk P w H h l xs) : ∃ ys o, H l = some ys ∧ Wr l ys ∧ h.get? l = some o ∧ ∀ v, o.data ≠ .cell v := by
  cases xs with
  | lst xs =>
    obtain ⟨_, its, nn, _, ho⟩ := ok
    exact ⟨_, _, q, trivial, ho, fun v z => by cases z⟩
  | dK kvs =>
    obtain ⟨_, _, _, _, o, es, ep, e, _, d, _⟩ := ok
    exact ⟨_, _, q, trivial, e, fun v z => by rw [d] at z; cases z⟩
  | ext φ =>
    obtain ⟨o, e, n⟩ := id wx
    subst e
    exact ⟨_, o, q, wx, ok.1, n⟩
  | _ => exact wx.elim
theorem wE_frame {σ : St} {F H : Hp} (S : StF X.K X.B₀ F H σ sd) (hr : match r with | .bor _ => False | _ => True) (h : wE X e σ F fun v F3 => RetOk X.K F F3 r v) : wE X e σ H fun v H' => ∃ F', StF X.K X.B₀ F' H' σ sd ∧ Same F F' ∧ ResOk X.K F' H' sd r v := fun pins s I => by
  have I1 : Inv X pins σ F s := I.less S.sub S.base (S.smp.sub S.sub)
  have ob : ∀ l ∈ owned sd, ∃ xs o, H l = some xs ∧ Wr l xs ∧ s.heap.get? l = some o ∧ ∀ v, o.data ≠ .cell v := fun l hl => by
    obtain ⟨n, xs, q, wx⟩ := S.slots.owns hl
    exact wr_obj wx q (I.hok l _ q)
  have I2 : Inv X (pins ++ pinsAt (owned sd) s.heap) σ F s := I1.pins_of fun p hp => (List.mem_append.mp hp).elim (fun z => I1.pin p (List.mem_append_right _ z)) fun z => by
    obtain ⟨hb, g⟩ := of_pinsAt z
    obtain ⟨xs, o, q, _, ho, hc⟩ := ob p.1 hb
    rw [g] at ho
    cases ho
    refine ⟨g, (S.slots.owns hb).1, fun y => ?_, fun y => ?_, hc⟩
    · have := I.free
      rw [← y, q] at this
      cases this
    · obtain ⟨_, o', ho', _⟩ := I.ok.funs.mem y
      have := I.base.free p.1 o' ho' (I.ok.frf p.1 y) fun z => I.ok.exfs p.1 z y
      rw [q] at this
      cases this
  refine thn (h _ s I2) fun u s' ⟨v, F3, I3, rv, F2, s1, s2, sm3, res⟩ => ?_
  have kp : ∀ l ∈ owned sd, F3 l = none ∧ (∃ xs, H l = some xs ∧ Wr l xs) ∧ ∀ o, s.heap.get? l = some o → s'.heap.get? l = some o := fun l hl => by
    obtain ⟨xs, o, q, wx, ho, _⟩ := ob l hl
    have := I3.pin (l, o) (List.mem_append_right _ (List.mem_append_right _ (mem_pinsAt hl ho)))
    exact ⟨this.2.1, ⟨xs, q, wx⟩, fun o' g => by rw [ho] at g; cases g; exact this.1⟩
  have I4 := Inv.retrack I (owned sd) S.nd kp I3.unpinned
  refine ⟨v, _, I4, rv, F2, ⟨fun b o g => s1 _ _ (S.base _ _ g), fun b o g => ?_, fun b o g => ?_, S.slots.mono s1 fun l hl => ⟨s2.free (kp l hl).1, fun xs g => by simpa [hl] using g⟩, S.nd⟩, s1, ?_⟩
  · have g3 := s2 _ _ g
    have : b ∉ owned sd := fun hb => by rw [(kp b hb).1] at g3; cases g3
    simp [this, g3]
  · by_cases hb : b ∈ owned sd
    · simp [hb] at g
      exact S.smp _ _ g
    · simp [hb] at g
      exact sm3 _ _ g
  · cases r with
    | val d => exact res
    | own ds' =>
      obtain ⟨l, xs, e, n, q, rl', _⟩ := res
      have : l ∉ owned sd := fun hl => by rw [(kp l hl).1] at q; cases q
      exact ⟨l, xs, e, n, by simp [this, q], rl', this⟩
    | pr d ls =>
      obtain ⟨t, l, xs, y, e, f, g, n, q, rl', _⟩ := res
      have : l ∉ owned sd := fun hl => by rw [(kp l hl).1] at q; cases q
      exact ⟨t, l, xs, y, e, f, g, n, by simp [this, q], rl', this⟩
    | ox G =>
      obtain ⟨ls, nd, h, g⟩ := res
      have no : ∀ l ∈ ls, l ∉ owned sd := fun l hl hm => by
        obtain ⟨n, ⟨ob, q, w⟩, _⟩ := h l hl
        rw [(kp l hm).1] at q
        cases q
      refine ⟨ls, nd, fun l hl => ?_, fun F' H' sF k => g F' H' sF fun l hl ob q => k l hl ob (by simp [no l hl, q])⟩
      obtain ⟨n, ⟨ob, q, w⟩, _⟩ := h l hl
      exact ⟨n, ⟨ob, by simp [no l hl, q], w⟩, no l hl⟩
    | bor ds' => exact hr.elim
/-- what the block of a comprehension knows of our names -/
noncomputable def capS : Option Slot → Slot
  | some (.val d) => .val d
  | some (.ox [] G) => .ox [] G
  | _ => .un
noncomputable def capD (cap : List (Option Nat)) (sd : List Slot) : List Slot := cap.map fun o => match o with
  | none => .un
  | some k => capS sd[k]?
theorem capD_ok {K : PySem.W.Frag} {F H F' H' : Hp} {σ : St} (h : SlotsOk K F H sd σ) (s : Same F F') : ∀ cap : List (Option Nat), SlotsOk K F' H' (capD cap sd) (capt cap σ)
  | [] => rfl
  | o :: cap => by
    refine ⟨_, _, rfl, ?_, capD_ok h s cap⟩
    cases o with
    | none => trivial
    | some k =>
      show SlotOk K F' H' (capS sd[k]?) _
      cases q : sd[k]? with
      | none => trivial
      | some z =>
        cases z with
        | un => trivial
        | own l ds => trivial
        | od l ks ds => trivial
        | ox ls G =>
          cases ls with
          | cons a ls => trivial
          | nil =>
            obtain ⟨o, h1, v, h2, h3, h4⟩ := h.get q
            subst h2
            exact ⟨v, by simp [h1], fun l hl => (nomatch hl), fun F2 H2 s2 _ => h4 F2 H2 (s.trans s2) fun l hl => (nomatch hl)⟩
        | gh d G => trivial
        | val d =>
          obtain ⟨o, h1, v, h2, rv⟩ := h.get q
          subst h2
          exact ⟨v, by simp [h1], rv.mono s⟩
theorem owned_capD : ∀ (cap : List (Option Nat)) (sd : List Slot), owned (capD cap sd) = []
  | [], _ => rfl
  | o :: cap, sd => by
    have ih := owned_capD cap sd
    cases o with
    | none => exact ih
    | some k =>
      show owned (capS sd[k]? :: capD cap sd) = []
      cases q : sd[k]? with
      | none => exact ih
      | some z =>
        cases z with
        | ox ls G => cases ls <;> exact ih
        | _ => exact ih
noncomputable def unS : Slot → Slot
  | .own _ _ => .un
  | .od _ _ _ => .un
  | .ox [] G => .ox [] G
  | .ox _ _ => .un
  | z => z
noncomputable def unO (sd : List Slot) : List Slot := sd.map unS
theorem owned_unO : ∀ sd : List Slot, owned (unO sd) = []
  | [] => rfl
  | .un :: r => owned_unO r
  | .val _ :: r => owned_unO r
  | .gh _ _ :: r => owned_unO r
  | .own _ _ :: r => owned_unO r
  | .od _ _ _ :: r => owned_unO r
  | .ox [] _ :: r => owned_unO r
  | .ox (_ :: _) _ :: r => owned_unO r
theorem capD_unO (cap : List (Option Nat)) (sd : List Slot) : capD cap (unO sd) = capD cap sd := by
  unfold capD
  refine List.map_congr_left fun o _ => ?_
  cases o with
  | none => rfl
  | some k =>
    show capS (unO sd)[k]? = capS sd[k]?
    unfold unO
    rw [List.getElem?_map]
    cases q : sd[k]? with
    | none => rfl
    | some z =>
      cases z with
      | ox ls G => cases ls <;> rfl
      | _ => rfl
theorem slots_unO {K : PySem.W.Frag} {F H H' : Hp} : ∀ {sd : List Slot} {σ : St}, SlotsOk K F H sd σ → SlotsOk K F H' (unO sd) σ
  | [], _, h => h
  | z :: zs, σ, h => by
    obtain ⟨o, r, rfl, a, b⟩ := h
    refine ⟨o, r, rfl, ?_, slots_unO b⟩
    cases z with
    | un => trivial
    | val d => exact a
    | gh d G => exact a
    | od l ks ds => trivial
    | ox ls G =>
      cases ls with
      | cons a ls => trivial
      | nil =>
        obtain ⟨v, h2, h3, h4⟩ := a
        exact ⟨v, h2, fun l hl => (nomatch hl), fun F2 H2 s2 _ => h4 F2 H2 s2 fun l hl => (nomatch hl)⟩
    | own l ds => trivial
theorem filter_take_succ {ds : List D} {i : Nat} {d : D} (p : D → Bool) (h : ds[i]? = some d) : (ds.take (i + 1)).filter p = (ds.take i).filter p ++ (if p d then [d] else []) := by
  rw [List.take_add_one, h, List.filter_append]
  cases hp : p d <;> simp [hp]
theorem pd_comp {elt : Expr} {ifs : List Expr} {scope : Scope} {N M : List Str} {cap : List (Option Nat)} {sc : Scope} {Tb : D → List Slot} (p : D → Bool) (f : D → D)
    (hi : PId X (unO sd) PT0 tg iter ds) (hl : ds.length ≤ 1000)
    (hsc : X.env.scope = sc) (hcn : compNames scope sc = true) (hM : X.N = M) (hcap : capNames N M scope sc cap = true) (hk : scope.kind = .function)
    (hg : ∀ cl C fp s H d, d ∈ ds → PGd (cxB X N scope cl C fp s H) (capD cap sd) tg d (Tb d))
    (hle : ∀ d, d ∈ ds → Le (Tb d) (capD cap sd))
    (ht : ∀ cl C fp s H d, d ∈ ds → (ifs = [] ∧ p d = true) ∨ ∃ c, ifs = [c] ∧ PTd (cxB X N scope cl C fp s H) (Tb d) c (p d))
    (he : ∀ cl C fp s H d, d ∈ ds → p d = true → PEd (cxB X N scope cl C fp s H) (Tb d) elt (.val (f d)))
    (hc : X.calm = true := by rfl) (hs : ∀ x, foldedSetIterable iter X.env x = pure x := by intro _; rfl) :
    PEd X sd (.ListComp elt [⟨tg, iter, ifs, 0⟩] scope pos) (.own ((ds.filter p).map f)) := .mk fun σ F H S => by
  refine wE_frame S trivial ?_
  have S0 : StF X.K X.B₀ F F σ (unO sd) := ⟨S.base, Same.refl _, S.smp.sub S.sub, slots_unO S.slots, by rw [owned_unO]; exact List.nodup_nil⟩
  intro pins s I
  have nm : ∀ y ∈ scope.names, (y.2 = NameKind.free → sc.names.lookup y.1 = some NameKind.cell) ∧ (y.2 = NameKind.local → scope.names.lookup y.1 = some NameKind.local) := fun y hy => by
    have q := List.all_eq_true.mp hcn y hy
    simp only [Bool.and_eq_true, Bool.or_eq_true, Bool.not_eq_true', beq_eq_false_iff_ne, ne_eq, beq_iff_eq] at q
    exact ⟨fun e => q.1.1.resolve_left fun z => z e, fun e => q.2.resolve_left fun z => z e⟩
  have fre : ∀ y ∈ scope.names, y.2 = .free → ∃ c, X.env.cells.lookup y.1 = some c := fun y hy e => I.ok.has y.1 (.inl (by show X.env.scope.names.lookup y.1 = _; rw [hsc]; exact (nm y hy).1 e))
  rw [eval_ListComp]
  refine wpAny_comprehension_free (use := none) rfl hs (closure_eq fre) hk (fun y hy => (nm y hy).2) ?_
  refine thn (hi σ F F S0 pins s I) fun v s1 h1 => thn h1 fun itv s2 h2 => ?_
  obtain ⟨it, fp, tn, J, H2, e, I2, T, st2, f2, F1, S1, s1', itd⟩ := h2
  subst e
  have S1b : StF X.K H2 H2 H2 (capt cap σ) (capD cap sd) := ⟨Same.refl _, Same.refl _, S1.smp, by
    have q := capD_ok (sd := unO sd) (H' := H2) S1.slots S1.sub cap
    rw [capD_unO] at q
    exact q, by rw [owned_capD]; exact List.nodup_nil⟩
  refine comp_run (N := N) (cap := cap) (g := fun v σ2 H3 Q => ∀ cl C, wG (cxB X N scope cl C fp s2 H2) tg v σ2 H3 Q) (tt := fun σ2 H3 Q => ∀ cl C, wIfs (cxB X N scope cl C fp s2 H2) ifs σ2 H3 Q) (te := fun σ2 H3 Q => ∀ cl C, wE (cxB X N scope cl C fp s2 H2) elt σ2 H3 Q)
    hc hsc hcn (by rw [hM]; exact hcap) hk I2 T st2 f2 (fun cl C pi s3 σ3 H3 v u Q I3 ru q => q cl C pi s3 u I3 ru) (fun cl C pi s3 σ3 H3 Q I3 q => q cl C pi s3 I3) (fun cl C pi s3 σ3 H3 Q I3 q => q cl C pi s3 I3)
    (fun i m ys σb H3 => m = ds.length - i ∧ i ≤ ds.length ∧ ∃ Fb, StF X.K H2 Fb H3 σb (capD cap sd) ∧ RepL X.K Fb (((ds.take i).filter p).map f) ys) ds.length
    ⟨by simp, Nat.zero_le _, H2, S1b, by simpa using RepL.nil⟩ _ ?_
  rintro i m ys σb H3 ⟨rfl, hil, Fb, Sb, rl⟩
  have sF1 : Same F1 Fb := fun b o g => Sb.base _ _ (S1.sub _ _ g)
  obtain ⟨g1, g2, g3⟩ := itd Fb H3 sF1 Sb.sub Sb.smp trivial i
  by_cases hlt : i < ds.length
  · have hd : ds[i]? = some ds[i] := by simp [hlt]
    have hm : ds[i] ∈ ds := List.getElem_mem hlt
    have ylen : ys.length ≤ i := by
      rw [rl.len, List.length_map]
      exact Nat.le_trans (List.length_filter_le _ _) (by simp; omega)
    refine .inr ⟨g1 hlt, small1000 (by omega), fun ys' σ' H' => ∃ Fb', StF X.K H2 Fb' H' σ' (capD cap sd) ∧ RepL X.K Fb' (((ds.take (i + 1)).filter p).map f) ys', fun ys' σ' H' ⟨Fb', Sb', rl'⟩ => ⟨ds.length - (i + 1), by omega, rfl, hlt, Fb', Sb', rl'⟩, fun x H4 y cl C => ?_⟩
    obtain ⟨F4, s4, rp, up⟩ := g3 x H4 ds[i] hd y
    refine (hg cl C fp s2 H2 _ hm σb F4 H4 x (up _ _ _ Sb) rp).imp fun σ5 H5 ⟨F5, S5, s5⟩ cl2 C2 => ?_
    have rl5 := rl.mono (s4.trans s5)
    have fin : ∀ (b : Bool) (H6 : Hp) (F6 : Hp), b = p ds[i] → StF X.K H2 F6 H6 σ5 (Tb ds[i]) → Same F5 F6 → if b = true then (∀ cl C, wE (cxB X N scope cl C fp s2 H2) elt σ5 H6 fun v H5 => ∃ Fb', StF X.K H2 Fb' H5 σ5 (capD cap sd) ∧ RepL X.K Fb' (((ds.take (i + 1)).filter p).map f) (ys ++ [v])) else ∃ Fb', StF X.K H2 Fb' H6 σ5 (capD cap sd) ∧ RepL X.K Fb' (((ds.take (i + 1)).filter p).map f) ys := fun b H6 F6 eb S6 s6 => by
      rw [filter_take_succ p hd, ← eb]
      cases b with
      | false => exact iteF ⟨F6, S6.le (hle _ hm), by simpa using rl5.mono s6⟩
      | true =>
        refine iteT fun cl3 C3 => (he cl3 C3 fp s2 H2 _ hm eb.symm σ5 F6 H6 S6).imp fun v H7 ⟨F7, S7, s7, q7⟩ => ⟨F7, S7.le (hle _ hm), ?_⟩
        simp only [if_true, List.map_append, List.map_cons, List.map_nil]
        exact ((rl5.mono s6).mono s7).app (.one q7)
    rcases ht cl2 C2 fp s2 H2 _ hm with ⟨e1, e2⟩ | ⟨c, e1, q⟩
    · subst e1
      exact wIfs_nil (fin true H5 F5 e2.symm S5 (Same.refl _))
    · subst e1
      exact wIfs_one ((q σ5 F5 H5 S5).imp fun b H6 ⟨eb, F6, S6, s6⟩ => fin b H6 F6 eb S6 s6)
  · have e : i = ds.length := by omega
    subst e
    refine .inl ⟨g2 (Nat.le_refl _), fun D C s' hD hC hDC h0 hL hcc hpp hst ⟨m', ns'⟩ J' => ⟨m', ns', fun h' sb => ?_⟩⟩
    have J2 : Inv X pins σ (upd H3 D (.lst ys)) { s' with heap := h', toks := s'.toks } := J'.turned (it := C) (fun b o hb g => sb.extBut b o hb g) (by rw [upd_ne (Ne.symm hDC)]; exact hC) hL (.inr h0) hcc hpp
    refine ⟨.ref D, _, J2, rfl, Fb, fun b o g => Sb.base _ _ (S1.sub _ _ (s1' _ _ g)), fun b o g => ?_, fun b o g => ?_, D, ys, rfl, Sb.sub.free hD, upd_same, ?_, by simp [owned]⟩
    · have g3 := Sb.sub _ _ g
      rw [upd_ne (ne_of_none g3 hD)]
      exact g3
    · by_cases hb : b = D
      · subst hb
        rw [upd_same] at g
        cases g
        trivial
      · rw [upd_ne hb] at g
        exact Sb.smp _ _ g
    · simpa using rl
end
end DL

namespace DL
open PySem PySem.Spec PyProof.Rows L2
noncomputable def isT : D → Bool
  | .tup _ => true
  | _ => false
noncomputable def isL : D → Bool
  | .lst _ => true
  | .scr _ => true
  | _ => false
theorem kit_list (K : PySem.W.Frag) (d : D) : PySem.W.kitOne K (tyD d) (.type "list") = some (isL d) := by
  cases d <;> with_unfolding_all rfl

section
variable {X : Cx} {sd : List Slot} {e a b c : Expr} {es : List Expr} {pos : Pos} {r ra rb : R} {d : D} {ds : List D} {st : Stmt} {rest : List Stmt} {E : EndD}
theorem PEd.cast {r' : R} (h : PEd X sd e r) (q : r = r') : PEd X sd e r' := q ▸ h
theorem psd_ifF {k : Bool} {x o : List Stmt} (h : PTd X sd c k) (hk : k = false) (h2 : PSd X sd o E) : PSd1 X sd (.If c x o pos) E := psd_if h (fun e => by rw [hk] at e; cases e) fun _ => h2
theorem psd_ifT {k : Bool} {x o : List Stmt} (h : PTd X sd c k) (hk : k = true) (h2 : PSd X sd x E) : PSd1 X sd (.If c x o pos) E := psd_if h (fun _ => h2) fun e => by rw [hk] at e; cases e
theorem pd_ixLi {i : Int} (ha : PEd X sd a (.bor ds)) (hb : PEd X sd b (.val (.int i))) (h0 : 0 ≤ i) (hd : ds[i.toNat]? = some d) (hs : PlainIx b) : PEd X sd (.Subscript a b pos) (.val d) := by
  have e : i = (i.toNat : Int) := by omega
  rw [e] at hb
  exact pd_ixL ha hb hd hs
theorem pd_ixTi {i : Int} (ha : PEd X sd a (.val (.tup ds))) (hb : PEd X sd b (.val (.int i))) (h0 : 0 ≤ i) (hd : ds[i.toNat]? = some d) (hs : PlainIx b) : PEd X sd (.Subscript a b pos) (.val d) := by
  have e : i = (i.toNat : Int) := by omega
  rw [e] at hb
  exact pd_ixT ha hb hd hs
end
theorem bits_small {i : Int} (h : i.natAbs < 2 ^ 250) : Builtin.Int.intBits i ≤ 2 ^ 20 := by
  unfold Builtin.Int.intBits
  split
  · exact Nat.zero_le _
  · rename_i hz
    have hne : i.natAbs ≠ 0 := by
      intro z
      apply hz
      have : i = 0 := by omega
      subst this
      rfl
    have := (Nat.log2_lt hne).mpr h
    have e : (250 : Nat) + 1 ≤ 2 ^ 20 := by decide
    omega
theorem mul_small {i j : Int} (h1 : i.natAbs < 2 ^ 250) (h2 : j.natAbs < 2 ^ 250) : IntMulOk i j := .of_bits (bits_small h1) (bits_small h2)

/-! ### the law's own draws -/
noncomputable def most : Int := 1000 * 10 ^ 64
noncomputable def sizes14 : List (Int × Int) := [(2, 2), (1, 1), (1, 2), (2, 1), (1, 3), (3, 1), (2, 3), (3, 2), (1, 4), (4, 1), (1, 5), (5, 1), (1, 6), (6, 1)]
noncomputable def sizD (p : Int × Int) : D := .tup [.int p.1, .int p.2]
theorem pd_two {X : Cx} {sd : List Slot} {i j : Int} {a1 a2 b1 : Nat} {p1 p2 p3 : Pos} (h1 : starEach [Expr.Constant (.int i) a1 p1, Expr.Constant (.int j) a2 p2] X.env = (false, eval (Expr.Constant (.int i) a1 p1) X.env) :: starEach [Expr.Constant (.int j) a2 p2] X.env)
    (h2 : starEach [Expr.Constant (.int j) a2 p2] X.env = (false, eval (Expr.Constant (.int j) a2 p2) X.env) :: starEach [] X.env) : PEd X sd (.Tuple [.Constant (.int i) a1 p1, .Constant (.int j) a2 p2] b1 p3) (.val (sizD (i, j))) :=
  pd_tup (ds := [.int i, .int j]) (pad_cons pd_int (pad_cons pd_int pad_nil trivial h2) trivial h1) (Nat.le_of_ble_eq_true rfl)
theorem getD_mem {α : Type} {l : List α} {i : Nat} {d : α} (h : i < l.length) : l.getD i d ∈ l := by
  have e : l.getD i d = l[i] := by simp [List.getD, h]
  rw [e]
  exact List.getElem_mem h
theorem smp_only {H : Hp} (h : Only H) : Smp H := fun b o e => by
  rcases h b with z | ⟨o', xs, z⟩
  · rw [z] at e
    cases e
  · rw [z] at e
    cases e
    trivial
end DL

namespace DL
open PySem PySem.Spec PyProof.Rows L2
/-! ### == of data -/
mutual
noncomputable def deq : D → D → Bool
  | .non, .non => true
  | .bl a, .bl b => a == b
  | .bl a, .int b => (if a then 1 else 0) == b
  | .int a, .bl b => a == (if b then 1 else 0)
  | .int a, .int b => a == b
  | .str a, .str b => a == b
  | .tup a, .tup b => deqL a b
  | .lst a, .lst b => deqL a b
  | _, _ => false
noncomputable def deqL : List D → List D → Bool
  | [], [] => true
  | x :: xs, y :: ys => deq x y && deqL xs ys
  | _, _ => false
end
mutual
/-- no dict, not the script -/
noncomputable def pl : D → Bool
  | .dic => false
  | .dki _ _ => false
  | .any _ => false
  | .scr _ => false
  | .tup ds => plL ds
  | .lst ds => plL ds
  | _ => true
noncomputable def plL : List D → Bool
  | [] => true
  | d :: ds => pl d && plL ds
end
mutual
noncomputable def dep : D → Nat
  | .tup ds => depL ds + 1
  | .lst ds => depL ds + 1
  | _ => 0
noncomputable def depL : List D → Nat
  | [] => 0
  | d :: ds => max (dep d) (depL ds)
end
theorem plL_get : ∀ {ds : List D} {i : Nat} {d : D}, plL ds = true → ds[i]? = some d → pl d = true
  | [], i, d, _, e => by simp at e
  | d' :: ds, i, d, h, e => by
    simp only [plL, Bool.and_eq_true] at h
    cases i with
    | zero =>
      simp at e
      subst e
      exact h.1
    | succ i => exact plL_get h.2 (by simpa using e)
theorem depL_get : ∀ {ds : List D} {i : Nat} {d : D}, ds[i]? = some d → dep d ≤ depL ds
  | [], i, d, e => by simp at e
  | d' :: ds, i, d, e => by
    simp only [depL]
    cases i with
    | zero =>
      simp at e
      subst e
      exact Nat.le_max_left _ _
    | succ i => exact Nat.le_trans (depL_get (i := i) (by simpa using e)) (Nat.le_max_right _ _)
theorem deqL_iff : ∀ {xs ys : List D}, deqL xs ys = true ↔ xs.length = ys.length ∧ ∀ (j : Nat) (x y : D), xs[j]? = some x → ys[j]? = some y → deq x y = true
  | [], [] => by simp [deqL]
  | [], y :: ys => by simp [deqL]
  | x :: xs, [] => by simp [deqL]
  | x :: xs, y :: ys => by
    simp only [deqL, Bool.and_eq_true, List.length_cons, deqL_iff (xs := xs) (ys := ys)]
    constructor
    · rintro ⟨h1, h2, h3⟩
      refine ⟨by omega, fun j a b ea eb => ?_⟩
      cases j with
      | zero =>
        simp at ea eb
        subst ea eb
        exact h1
      | succ j => exact h3 j a b (by simpa using ea) (by simpa using eb)
    · rintro ⟨h1, h2⟩
      exact ⟨h2 0 x y rfl rfl, by omega, fun j a b ea eb => h2 (j + 1) a b (by simpa using ea) (by simpa using eb)⟩
mutual
theorem deq_same {K : PySem.W.Frag} {H : Hp} : ∀ {d1 d2 : D} {v : V}, pl d1 = true → Rep K H d1 v → Rep K H d2 v → pl d2 = true → deq d1 d2 = true
  | .non, d2, v, _, r1, r2, _ => by
    simp only [Rep] at r1
    subst r1
    cases d2 <;> simp_all [Rep, deq]
  | .bl b, d2, v, _, r1, r2, _ => by
    simp only [Rep] at r1
    subst r1
    cases d2 <;> simp_all [Rep, deq]
  | .int b, d2, v, _, r1, r2, _ => by
    simp only [Rep] at r1
    subst r1
    cases d2 <;> simp_all [Rep, deq]
  | .str b, d2, v, _, r1, r2, _ => by
    simp only [Rep] at r1
    subst r1
    cases d2 <;> simp_all [Rep, deq]
  | .dic, _, _, h, _, _, _ => by simp [pl] at h
  | .dki _ _, _, _, h, _, _, _ => by simp [pl] at h
  | .any _, _, _, h, _, _, _ => by simp [pl] at h
  | .scr _, _, _, h, _, _, _ => by simp [pl] at h
  | .tup ds, d2, v, p1, r1, r2, p2 => by
    simp only [Rep] at r1
    obtain ⟨a, xs, rfl, ha, rl⟩ := r1
    cases d2 with
    | tup es =>
      simp only [Rep] at r2
      obtain ⟨a', xs', e, ha', rl'⟩ := r2
      cases e
      rw [ha] at ha'
      cases ha'
      simp only [deq]
      exact deqL_same (by simpa [pl] using p1) rl rl' (by simpa [pl] using p2)
    | lst es =>
      simp only [Rep] at r2
      obtain ⟨a', xs', e, ha', rl'⟩ := r2
      cases e
      rw [ha] at ha'
      cases ha'
    | dic => simp [pl] at p2
    | dki => simp [pl] at p2
    | any => simp [pl] at p2
    | scr => simp [pl] at p2
    | _ => simp [Rep] at r2
  | .lst ds, d2, v, p1, r1, r2, p2 => by
    simp only [Rep] at r1
    obtain ⟨a, xs, rfl, ha, rl⟩ := r1
    cases d2 with
    | lst es =>
      simp only [Rep] at r2
      obtain ⟨a', xs', e, ha', rl'⟩ := r2
      cases e
      rw [ha] at ha'
      cases ha'
      simp only [deq]
      exact deqL_same (by simpa [pl] using p1) rl rl' (by simpa [pl] using p2)
    | tup es =>
      simp only [Rep] at r2
      obtain ⟨a', xs', e, ha', rl'⟩ := r2
      cases e
      rw [ha] at ha'
      cases ha'
    | dic => simp [pl] at p2
    | dki => simp [pl] at p2
    | any => simp [pl] at p2
    | scr => simp [pl] at p2
    | _ => simp [Rep] at r2
theorem deqL_same {K : PySem.W.Frag} {H : Hp} : ∀ {ds es : List D} {xs : List V}, plL ds = true → RepL K H ds xs → RepL K H es xs → plL es = true → deqL ds es = true
  | [], es, xs, _, r1, r2, _ => by
    simp only [RepL] at r1
    subst r1
    cases es with
    | nil => rfl
    | cons e es =>
      obtain ⟨y, ys, z, _⟩ := r2.uncons
      cases z
  | d :: ds, es, xs, p1, r1, r2, p2 => by
    obtain ⟨y, ys, rfl, a, rl⟩ := r1.uncons
    cases es with
    | nil =>
      simp only [RepL] at r2
      cases r2
    | cons e es =>
      obtain ⟨y', ys', z, a', rl'⟩ := r2.uncons
      cases z
      simp only [plL, Bool.and_eq_true] at p1 p2
      simp only [deqL, Bool.and_eq_true]
      exact ⟨deq_same p1.1 a a' p2.1, deqL_same p1.2 rl rl' p2.2⟩
end
noncomputable def isFl : D → Bool
  | .non => true
  | .bl _ => true
  | .int _ => true
  | .str _ => true
  | _ => false
theorem fl_flat {K : PySem.W.Frag} {H : Hp} {d : D} {v : V} (h : isFl d = true) (r : Rep K H d v) : flatV v = true ∧ flt d = some v := by
  cases d <;> simp_all [isFl, Rep, flatV, flt]
section
variable {P : Program} {w : World} {K : PySem.W.Frag} {H : Hp} {s : Shared}
theorem tup_at (hok : HOk P w H s.heap) {ds : List D} {v : V} {u : Value} (r : Rep K H (.tup ds) v) (ru : RelV v u) : ∃ a xs its, u = .ref a ∧ v = .ref a ∧ RepL K H ds xs ∧ Vals xs its ∧ s.heap.IsTuple a its.toArray := by
  simp only [Rep] at r
  obtain ⟨a, xs, rfl, ha, rl⟩ := r
  cases ru
  obtain ⟨_, its, rv, p⟩ := (show ObjOk P w H s.heap a (.tup xs) from hok a _ ha)
  exact ⟨a, xs, its, rfl, rfl, rl, rv, p.tup⟩
theorem lst_at (hok : HOk P w H s.heap) {ds : List D} {v : V} {u : Value} (r : Rep K H (.lst ds) v) (ru : RelV v u) : ∃ a xs its, u = .ref a ∧ v = .ref a ∧ RepL K H ds xs ∧ Vals xs its ∧ s.heap.IsList a its.toArray := by
  simp only [Rep] at r
  obtain ⟨a, xs, rfl, ha, rl⟩ := r
  cases ru
  obtain ⟨_, its, n, rv, p⟩ := (show ObjOk P w H s.heap a (.lst xs) from hok a _ ha)
  exact ⟨a, xs, its, rfl, rfl, rl, rv, _, p, rfl, n, rfl⟩
/-- the items' answers by place -/
noncomputable def dAt (ds es : List D) (j : Nat) : Bool := match ds[j]?, es[j]? with
  | some x, some y => deq x y
  | _, _ => false
theorem deqL_all (ds es : List D) : ((List.range (min ds.length es.length)).all (dAt ds es) && ds.length == es.length) = deqL ds es := by
  rw [Bool.eq_iff_iff, deqL_iff, Bool.and_eq_true, List.all_eq_true, beq_iff_eq]
  constructor
  · rintro ⟨h1, h2⟩
    refine ⟨h2, fun j x y ex ey => ?_⟩
    have hj : j < ds.length := (List.getElem?_eq_some_iff.mp ex).1
    have := h1 j (List.mem_range.mpr (by omega))
    unfold dAt at this
    rw [ex, ey] at this
    exact this
  · rintro ⟨h1, h2⟩
    refine ⟨fun j hj => ?_, h1⟩
    have hj' := List.mem_range.mp hj
    have e1 : ds[j]? = some (ds[j]'(by omega)) := by simp
    have e2 : es[j]? = some (es[j]'(by omega)) := by simp
    unfold dAt
    rw [e1, e2]
    exact h2 j _ _ e1 e2
theorem deqL_all' {ds es : List D} (h : ds.length = es.length) : (List.range ds.length).all (dAt ds es) = deqL ds es := by
  have := deqL_all ds es
  rw [h] at this ⊢
  simpa using this
theorem deqL_len {ds es : List D} (h : ds.length ≠ es.length) : deqL ds es = false := by
  cases e : deqL ds es with
  | false => rfl
  | true => exact absurd (deqL_iff.mp e).1 h
mutual
theorem eqAt_D (hok : HOk P w H s.heap) : ∀ (d1 : D) {d2 : D} {v1 v2 : V} {u1 u2 : Value} {A : Around}, pl d1 = true → pl d2 = true → Rep K H d1 v1 → Rep K H d2 v2 → RelV v1 u1 → RelV v2 u2 → A.units + dep d1 < cLine → SeqAt.EqAt A s u1 u2 (deq d1 d2)
  | .tup ds, d2, v1, v2, u1, u2, A, p1, p2, r1, r2, ru1, ru2, hu => by
    have hu' : A.units < cLine := by omega
    obtain ⟨a, xs, its, rfl, rfl, rl, rv, ht⟩ := tup_at hok r1 ru1
    cases d2 with
    | non => simp only [Rep] at r2; subst r2; cases ru2; exact SeqAt.EqAt.tuple_none ht hu'
    | bl b => simp only [Rep] at r2; subst r2; cases ru2; exact SeqAt.EqAt.tuple_bool b ht hu'
    | int b => simp only [Rep] at r2; subst r2; obtain ⟨t, rfl⟩ := ru2; exact SeqAt.EqAt.tuple_int b t ht hu'
    | str b => simp only [Rep] at r2; subst r2; obtain ⟨t, rfl⟩ := ru2; exact SeqAt.EqAt.tuple_str b t ht hu'
    | dic => simp [pl] at p2
    | dki => simp [pl] at p2
    | any => simp [pl] at p2
    | scr => simp [pl] at p2
    | lst es =>
      obtain ⟨b, ys, jts, rfl, rfl, rl2, rv2, hl2⟩ := lst_at hok r2 ru2
      exact SeqAt.EqAt.tuple_list ht hl2 hu'
    | tup es =>
      obtain ⟨b, ys, jts, rfl, e2, rl2, rv2, ht2⟩ := tup_at hok r2 ru2
      by_cases hab : a = b
      · subst hab
        have := deq_same p1 r1 (e2 ▸ r2) p2
        rw [this]
        exact SeqAt.EqAt.same _
      · simp only [deq]
        rw [← deqL_all]
        have l1 : its.toArray.size = ds.length := by rw [List.size_toArray, ← rv.length, rl.len]
        have l2 : jts.toArray.size = es.length := by rw [List.size_toArray, ← rv2.length, rl2.len]
        rw [← l1, ← l2]
        simp only [pl] at p1 p2
        simp only [dep] at hu
        refine .of_refs hab (.tuples ht ht2 hu' fun j h1 h2 => ?_)
        exact eqAt_L hok ds p1 p2 rl rl2 rv rv2 (A := A.in1) (by show A.units + 1 + _ < cLine; omega) (by simp) (by simp)
  | .lst ds, d2, v1, v2, u1, u2, A, p1, p2, r1, r2, ru1, ru2, hu => by
    have hu' : A.units < cLine := by omega
    obtain ⟨a, xs, its, rfl, rfl, rl, rv, ht⟩ := lst_at hok r1 ru1
    cases d2 with
    | non => simp only [Rep] at r2; subst r2; cases ru2; exact SeqAt.EqAt.list_none ht hu'
    | bl b => simp only [Rep] at r2; subst r2; cases ru2; exact SeqAt.EqAt.list_bool b ht hu'
    | int b => simp only [Rep] at r2; subst r2; obtain ⟨t, rfl⟩ := ru2; exact SeqAt.EqAt.list_int b t ht hu'
    | str b => simp only [Rep] at r2; subst r2; obtain ⟨t, rfl⟩ := ru2; exact SeqAt.EqAt.list_str b t ht hu'
    | dic => simp [pl] at p2
    | dki => simp [pl] at p2
    | any => simp [pl] at p2
    | scr => simp [pl] at p2
    | tup es =>
      obtain ⟨b, ys, jts, rfl, rfl, rl2, rv2, hl2⟩ := tup_at hok r2 ru2
      exact SeqAt.EqAt.list_tuple ht hl2 hu'
    | lst es =>
      obtain ⟨b, ys, jts, rfl, e2, rl2, rv2, ht2⟩ := lst_at hok r2 ru2
      by_cases hab : a = b
      · subst hab
        have := deq_same p1 r1 (e2 ▸ r2) p2
        rw [this]
        exact SeqAt.EqAt.same _
      · simp only [deq]
        have l1 : its.toArray.size = ds.length := by rw [List.size_toArray, ← rv.length, rl.len]
        have l2 : jts.toArray.size = es.length := by rw [List.size_toArray, ← rv2.length, rl2.len]
        simp only [pl] at p1 p2
        simp only [dep] at hu
        by_cases hl : ds.length = es.length
        · rw [← deqL_all' hl, ← l1]
          refine .of_refs hab (.lists ht ht2 (by rw [l1, l2, hl]) hu' fun j h1 h2 => ?_)
          exact eqAt_L hok ds p1 p2 rl rl2 rv rv2 (A := A.in1) (by show A.units + 1 + _ < cLine; omega) (by simp) (by simp)
        · rw [deqL_len hl]
          exact .of_refs hab (.lists_lengths ht ht2 (by rw [l1, l2]; simpa using hl) hu')
  | .dic, _, _, _, _, _, _, p1, _, _, _, _, _, _ => by simp [pl] at p1
  | .dki _ _, _, _, _, _, _, _, p1, _, _, _, _, _, _ => by simp [pl] at p1
  | .any _, _, _, _, _, _, _, p1, _, _, _, _, _, _ => by simp [pl] at p1
  | .scr _, _, _, _, _, _, _, p1, _, _, _, _, _, _ => by simp [pl] at p1
  | .non, d2, v1, v2, u1, u2, A, p1, p2, r1, r2, ru1, ru2, hu => by
    have hu' : A.units < cLine := by omega
    simp only [Rep] at r1
    subst r1
    cases hf : isFl d2 with
    | true =>
      obtain ⟨h1, h2⟩ := fl_flat hf r2
      have := eqAt_V (A := A) (s := s) ru1 ru2 rfl h1
      cases d2 <;> simp_all [isFl, flt, Rep, deq, eqV]
    | false =>
      cases ru1
      cases d2 with
      | tup es => obtain ⟨b, ys, jts, rfl, e2, rl2, rv2, ht2⟩ := tup_at hok r2 ru2; exact SeqAt.EqAt.none_tuple ht2 hu'
      | lst es => obtain ⟨b, ys, jts, rfl, e2, rl2, rv2, ht2⟩ := lst_at hok r2 ru2; exact SeqAt.EqAt.none_list ht2 hu'
      | dic => simp [pl] at p2
      | dki => simp [pl] at p2
      | any => simp [pl] at p2
      | scr => simp [pl] at p2
      | _ => simp [isFl] at hf
  | .bl q, d2, v1, v2, u1, u2, A, p1, p2, r1, r2, ru1, ru2, hu => by
    have hu' : A.units < cLine := by omega
    simp only [Rep] at r1
    subst r1
    cases hf : isFl d2 with
    | true =>
      obtain ⟨h1, h2⟩ := fl_flat hf r2
      have := eqAt_V (A := A) (s := s) ru1 ru2 rfl h1
      cases d2 <;> simp_all [isFl, flt, Rep, deq, eqV]
    | false =>
      cases ru1
      cases d2 with
      | tup es => obtain ⟨b, ys, jts, rfl, e2, rl2, rv2, ht2⟩ := tup_at hok r2 ru2; exact SeqAt.EqAt.bool_tuple q ht2 hu'
      | lst es => obtain ⟨b, ys, jts, rfl, e2, rl2, rv2, ht2⟩ := lst_at hok r2 ru2; exact SeqAt.EqAt.bool_list q ht2 hu'
      | dic => simp [pl] at p2
      | dki => simp [pl] at p2
      | any => simp [pl] at p2
      | scr => simp [pl] at p2
      | _ => simp [isFl] at hf
  | .int q, d2, v1, v2, u1, u2, A, p1, p2, r1, r2, ru1, ru2, hu => by
    have hu' : A.units < cLine := by omega
    simp only [Rep] at r1
    subst r1
    cases hf : isFl d2 with
    | true =>
      obtain ⟨h1, h2⟩ := fl_flat hf r2
      have := eqAt_V (A := A) (s := s) ru1 ru2 rfl h1
      cases d2 <;> simp_all [isFl, flt, Rep, deq, eqV]
    | false =>
      obtain ⟨t, rfl⟩ := ru1
      cases d2 with
      | tup es => obtain ⟨b, ys, jts, rfl, e2, rl2, rv2, ht2⟩ := tup_at hok r2 ru2; exact SeqAt.EqAt.int_tuple q t ht2 hu'
      | lst es => obtain ⟨b, ys, jts, rfl, e2, rl2, rv2, ht2⟩ := lst_at hok r2 ru2; exact SeqAt.EqAt.int_list q t ht2 hu'
      | dic => simp [pl] at p2
      | dki => simp [pl] at p2
      | any => simp [pl] at p2
      | scr => simp [pl] at p2
      | _ => simp [isFl] at hf
  | .str q, d2, v1, v2, u1, u2, A, p1, p2, r1, r2, ru1, ru2, hu => by
    have hu' : A.units < cLine := by omega
    simp only [Rep] at r1
    subst r1
    cases hf : isFl d2 with
    | true =>
      obtain ⟨h1, h2⟩ := fl_flat hf r2
      have := eqAt_V (A := A) (s := s) ru1 ru2 rfl h1
      cases d2 <;> simp_all [isFl, flt, Rep, deq, eqV]
    | false =>
      obtain ⟨t, rfl⟩ := ru1
      cases d2 with
      | tup es => obtain ⟨b, ys, jts, rfl, e2, rl2, rv2, ht2⟩ := tup_at hok r2 ru2; exact SeqAt.EqAt.str_tuple q t ht2 hu'
      | lst es => obtain ⟨b, ys, jts, rfl, e2, rl2, rv2, ht2⟩ := lst_at hok r2 ru2; exact SeqAt.EqAt.str_list q t ht2 hu'
      | dic => simp [pl] at p2
      | dki => simp [pl] at p2
      | any => simp [pl] at p2
      | scr => simp [pl] at p2
      | _ => simp [isFl] at hf
theorem eqAt_L (hok : HOk P w H s.heap) : ∀ (ds : List D) {es : List D} {xs ys : List V} {its jts : List Value} {j : Nat} {x y : Value} {A : Around}, plL ds = true → plL es = true → RepL K H ds xs → RepL K H es ys → Vals xs its → Vals ys jts → A.units + depL ds < cLine → its[j]? = some x → jts[j]? = some y → SeqAt.EqAt A s x y (dAt ds es j)
  | [], es, xs, ys, its, jts, j, x, y, A, _, _, r1, _, v1, _, _, e1, _ => by
    simp only [RepL] at r1
    subst r1
    cases v1
    simp at e1
  | d :: ds, es, xs, ys, its, jts, j, x, y, A, p1, p2, r1, r2, v1, v2, hu, e1, e2 => by
    obtain ⟨a, as, rfl, ra, rl⟩ := r1.uncons
    cases v1 with
    | cons va vas =>
      cases es with
      | nil =>
        simp only [RepL] at r2
        subst r2
        cases v2
        simp at e2
      | cons e es =>
        obtain ⟨b, bs, rfl, rb, rl2⟩ := r2.uncons
        cases v2 with
        | cons vb vbs =>
          simp only [plL, Bool.and_eq_true] at p1 p2
          simp only [depL] at hu
          cases j with
          | zero =>
            simp at e1 e2
            subst e1 e2
            exact eqAt_D hok d p1.1 p2.1 ra rb va vb (by omega)
          | succ j => exact eqAt_L hok ds p1.2 p2.2 rl rl2 vas vbs (by omega) (by simpa using e1) (by simpa using e2)
end
end

section
variable {X : Cx} {sd : List Slot} {e a b c : Expr} {es : List Expr} {pos : Pos} {r ra rb : R} {d : D} {ds : List D} {st : Stmt} {rest : List Stmt} {E : EndD}
/-- == of two refs: tuples or lists -/
theorem rc_D {pins : List (Addr × Obj)} {σ : St} {H : Hp} {s : Shared} {K : PySem.W.Frag} {d1 d2 : D} {v u : V} {x y : Value} {Q : Value → Shared → Prop} (I : Inv X pins σ H s) (hs : (isT d1 = true ∧ isT d2 = true) ∨ (isL d1 = true ∧ isL d2 = true)) (p1 : pl d1 = true) (p2 : pl d2 = true) (r1 : Rep K H d1 v) (r2 : Rep K H d2 u) (rx : RelV v x) (ry : RelV u y)
    (hu : X.A.units + dep d1 + 1 < cLine) (q : Q (.bool (deq d1 d2)) s) : wpAny (model X.prog X.w) X.A (compareOp .Eq x y) Q X.xe s := by
  have hu' : X.A.units < cLine := by omega
  rcases hs with ⟨t1, t2⟩ | ⟨t1, t2⟩
  · cases d1 <;> first | (simp [isT] at t1; done) | skip
    cases d2 <;> first | (simp [isT] at t2; done) | skip
    rename_i ds es
    obtain ⟨a, xs, its, rfl, rfl, rl, rv, ht⟩ := tup_at I.hok r1 rx
    obtain ⟨b, ys, jts, rfl, rfl, rl2, rv2, ht2⟩ := tup_at I.hok r2 ry
    have l1 : its.toArray.size = ds.length := by rw [List.size_toArray, ← rv.length, rl.len]
    have l2 : jts.toArray.size = es.length := by rw [List.size_toArray, ← rv2.length, rl2.len]
    simp only [pl] at p1 p2
    simp only [dep] at hu
    simp only [deq] at q
    rw [← deqL_all, ← l1, ← l2] at q
    exact SeqAt.eq_tupleAt ht ht2 hu' (fun j h1 h2 => eqAt_L I.hok ds p1 p2 rl rl2 rv rv2 (A := X.A.in1) (by show X.A.units + 1 + _ < cLine; omega) (by simp) (by simp)) q
  · cases d1 <;> first | (simp [isL] at t1; done) | (simp [pl] at p1; done) | skip
    cases d2 <;> first | (simp [isL] at t2; done) | (simp [pl] at p2; done) | skip
    rename_i ds es
    obtain ⟨a, xs, its, rfl, rfl, rl, rv, ht⟩ := lst_at I.hok r1 rx
    obtain ⟨b, ys, jts, rfl, rfl, rl2, rv2, ht2⟩ := lst_at I.hok r2 ry
    have l1 : its.toArray.size = ds.length := by rw [List.size_toArray, ← rv.length, rl.len]
    have l2 : jts.toArray.size = es.length := by rw [List.size_toArray, ← rv2.length, rl2.len]
    simp only [pl] at p1 p2
    simp only [dep] at hu
    simp only [deq] at q
    by_cases hl : ds.length = es.length
    · rw [← deqL_all' hl, ← l1] at q
      exact SeqAt.eq_listAt ht ht2 (by rw [l1, l2, hl]) hu' (fun j h1 h2 => eqAt_L I.hok ds p1 p2 rl rl2 rv rv2 (A := X.A.in1) (by show X.A.units + 1 + _ < cLine; omega) (by simp) (by simp)) q
    · rw [deqL_len hl] at q
      exact SeqAt.eq_list_lengthsAt ht ht2 (by rw [l1, l2]; simpa using hl) hu' q
/-- what a result is as a datum in H -/
theorem ResOk.rep {K : PySem.W.Frag} {H₀ F H : Hp} {σ : St} {v : V} (S : StF K H₀ F H σ sd) (hk : r.keeps) (q : ResOk K F H sd r v) : Rep K H r.toD v := by
  cases r with
  | val d => exact Rep.mono S.sub q
  | own ds => exact hk.elim
  | pr d ls => exact hk.elim
  | ox G => exact hk.elim
  | bor ds =>
    obtain ⟨l, xs, e, hl, rl, _⟩ := q
    simp only [R.toD, Rep]
    exact ⟨l, xs, e, hl, rl.mono S.sub⟩
theorem op_eqD (K : PySem.W.Frag) (d1 d2 : D) (hs : (isT d1 = true ∧ isT d2 = true) ∨ (isL d1 = true ∧ isL d2 = true)) (p1 : pl d1 = true) (p2 : pl d2 = true) (hu : X.A.units + dep d1 + 1 < cLine) : OpR X (compareOp .Eq) (fun x y H Q => Rep K H d1 x ∧ Rep K H d2 y ∧ Q (.bl (deq d1 d2)) H) := by
  intro pins s σ H x y v u Q I rx ry h
  obtain ⟨h1, h2, q⟩ := h
  exact rc_D I hs p1 p2 h1 h2 rx ry hu ⟨.bl (deq d1 d2), H, I, rfl, q⟩
theorem pd_eqD (ha : PEd X sd a ra) (hb : PEd X sd b rb) (ka : ra.keeps) (kb : rb.keeps) (hs : (isT ra.toD = true ∧ isT rb.toD = true) ∨ (isL ra.toD = true ∧ isL rb.toD = true)) (p1 : pl ra.toD = true) (p2 : pl rb.toD = true) (hu : X.A.units + dep ra.toD + 1 < cLine) : PEd X sd (.Compare a [.Eq] [b] pos) (.val (.bl (deq ra.toD rb.toD))) :=
  pd_cmp2 (op_eqD X.K _ _ hs p1 p2 hu) ha hb ka (nomark _) fun σ F H v u Q S q1 q2 k => ⟨q1.rep S ka, q2.rep S kb, k F H S (Same.refl _)⟩
/-- t + u -/
noncomputable def rCatT0 (K : PySem.W.Frag) : R2 := fun x y H Q => ∃ a b ys, x = .ref a ∧ y = .ref b ∧ SqT K H a [] ∧ SqT K H b ys ∧ Q (.ref b) H
theorem op_catT0 : OpR X (binaryOp .Add) (rCatT0 X.K) := by
  intro pins s σ H x y v u Q I rx ry h
  obtain ⟨a, b, ys, rfl, rfl, ha, hb, q⟩ := h
  cases rx
  cases ry
  obtain ⟨its, r1, p1, _⟩ := I.tuple ha
  obtain ⟨its2, r2, p2, _⟩ := I.tuple hb
  cases r1
  obtain ⟨⟨cls, dd, data, sl⟩, ho, hc, n, hd⟩ := id p1
  obtain ⟨⟨cls2, dd2, data2, sl2⟩, ho2, hc2, n2, hd2⟩ := id p2
  simp only at hc hd hc2 hd2
  subst hc hd hc2 hd2
  exact concat_meets ⟨_, ho, rfl⟩ ⟨_, ho2, rfl⟩ noFill_tuple_add seq_tuple_add PySem.F.slot_tuple_add PySem.F.entry_tuple_add (PySem.F.args_tuple_add_2 _ _)
    (tuple_addW0 a b ([] : List Value).toArray its2.toArray n n2 dd dd2 sl sl2 (by simp)) ⟨ho, ho2, ⟨.ref b, H, I, rfl, q⟩⟩
theorem pd_catT {d1 d2 : List D} (ha : PEd X sd a (.val (.tup d1))) (hb : PEd X sd b (.val (.tup d2))) (hl : d1.length + d2.length ≤ 1000) : PEd X sd (.BinOp a .Add b pos) (.val (.tup (d1 ++ d2))) :=
  pd_op2 (op_catT0.or op_catT) ha hb trivial fun σ F H v u Q S q1 q2 k => by
    simp only [ResOk, Rep] at q1 q2
    obtain ⟨p, xs, e1, hp, rl⟩ := q1
    obtain ⟨q, ys, e2, hq, rl2⟩ := q2
    cases d1 with
    | nil =>
      simp only [RepL] at rl
      subst rl
      refine .inl ⟨p, q, ys, e1, e2, .of (S.sub _ _ hp), .of (S.sub _ _ hq), k _ F H S (Same.refl _) ?_⟩
      simp only [ResOk, Rep, List.nil_append]
      exact ⟨q, ys, rfl, hq, rl2⟩
    | cons z zs =>
      refine .inr ⟨p, q, xs, ys, e1, e2, .of (S.sub _ _ hp), .of (S.sub _ _ hq), ?_, by rw [rl.len, rl2.len]; exact Nat.le_of_lt (small1000 hl), fun hy => ?_, fun hy p2 hp2 => ?_⟩
      · intro hx
        subst hx
        obtain ⟨_, _, w, _⟩ := rl.uncons
        cases w
      · subst hy
        have : d2 = [] := by
          cases d2 with
          | nil => rfl
          | cons w ws => obtain ⟨_, _, w, _⟩ := rl2.uncons; cases w
        subst this
        refine k _ F H S (Same.refl _) ?_
        simp only [ResOk, Rep, List.append_nil]
        exact ⟨p, xs, rfl, hp, rl⟩
      · obtain ⟨S2, s2⟩ := S.lay (o := .tup (xs ++ ys)) hp2 trivial
        refine k _ _ _ S2 s2 ?_
        simp only [ResOk, Rep]
        exact ⟨p2, _, rfl, upd_same, (rl.app rl2).mono s2⟩
/-- tuple(l) -/
theorem pd_tupleL {p : Pos} (hg : Gl X "tuple") (hm : X.mg "tuple" = none) (ha : PEd X sd e (.bor ds)) (hst : starEach [e] X.env = (false, eval e X.env) :: starEach [] X.env := by rfl) : PEd X sd (.Call (.Name "tuple" p) [e] [] pos) (.val (.tup ds)) :=
  pd_callTy (he := hst) call_tuple_of hg hm PyProof.Rows.boot_tuple (pad_cons ha pad_nil trivial hst) fun σ F H vs Q S q k => by
    cases q with
    | cons q1 q2 =>
      cases q2
      obtain ⟨p, xs, rfl, hp, rl, _⟩ := q1
      refine ⟨p, xs, rfl, .inl ⟨.of hp, fun l hl => ?_⟩⟩
      obtain ⟨S2, s2⟩ := S.lay (o := .tup xs) hl trivial
      refine k _ _ _ S2 s2 ?_
      simp only [ResOk, Rep]
      exact ⟨l, xs, rfl, upd_same, rl.mono s2⟩
end
end DL

namespace DL
open PySem PySem.Spec PyProof.Rows L2
/-! ### enumerate -/
noncomputable def Ite (K : PySem.W.Frag) (a : Addr) : It :=
  ⟨fun i H => ∃ xs x, SqL K H a xs ∧ xs[i]? = some x, fun i H x H' => ∃ p v, x = .ref p ∧ H p = none ∧ H' = upd H p (.tup [.int i, v]) ∧ ∀ xs, SqL K H a xs → xs[i]? = some v, fun i H => ∃ xs, SqL K H a xs ∧ xs.length ≤ i⟩
theorem inv_two {X : Cx} {pins : List (Addr × Obj)} {σ : St} {H : Hp} {s : Shared} {h' : Heap} {t' : Nat} {e it : Addr} (I : Inv X pins σ H s) (k : ∀ b o, b ≠ e → b ≠ it → s.heap.get? b = some o → h'.get? b = some o) (f1 : FpOk X pins H e) (f2 : FpOk X pins H it) : Inv X pins σ H { s with heap := h', toks := t' } := by
  have nit : ∀ b u, H b = some u → b ≠ e ∧ b ≠ it := fun b u q => ⟨fun z => (by rw [z, f1.1] at q; cases q), fun z => (by rw [z, f2.1] at q; cases q)⟩
  have ne : ∀ b, b ∉ [e, it] → b ≠ e ∧ b ≠ it := fun b hc => ⟨fun z => hc (by simp [z]), fun z => hc (by simp [z])⟩
  refine I.step (g' := s.gens) (d' := s.drawn) (ch := [e, it]) (fun b hb => ?_) (fun b o _ _ hc q _ => k b o (ne b hc).1 (ne b hc).2 q) (fun b o _ _ hc q _ => ⟨o.slots, k b o (ne b hc).1 (ne b hc).2 q⟩) (fun _ _ _ _ n => n)
    (fun b o hc q => ⟨o, k b o (ne b hc).1 (ne b hc).2 q⟩) (fun _ _ q => q) (fun _ _ _ q => q) (fun b ps q => ⟨#[], by rw [q]; simp⟩) (fun m hm => ?_) (fun b u q => ?_) I.bare
  · rcases List.mem_cons.mp hb with z | hb
    · subst z
      exact ⟨f1.2.2.2.1, f1.2.1, f1.2.2.2.2.1, f1.2.2.2.2.2⟩
    · have z : b = it := by simpa using hb
      subst z
      exact ⟨f2.2.2.2.1, f2.2.1, f2.2.2.2.2.1, f2.2.2.2.2.2⟩
  · obtain ⟨o, es, ep, ho, r⟩ := hm
    exact ⟨o, es, ep, k _ o (Ne.symm f1.2.1) (Ne.symm f2.2.1) ho, r⟩
  · refine (I.hok b u q).stay (fun c v hc g => ?_) (fun _ g => g) fun _ _ g => g
    rcases hc with z | z
    · rw [z] at g ⊢
      exact k b v (nit b u q).1 (nit b u q).2 g
    · exact k c v (nit c _ z).1 (nit c _ z).2 g
theorem turn_enum {P : Program} {w : World} {K : PySem.W.Frag} {elts : List Expr} {kk : Nat} {pos : Pos} (a e it : Addr) (hei : e ≠ it) : Turn P w K (.Tuple elts kk pos) (Ite K a) [e, it] e (fun i h => (∃ old, IsEnum h e it i old) ∧ h.IsListIter it a i) where
  mem := by simp
  obj := fun i h st b hb => by
    obtain ⟨⟨old, he⟩, hit⟩ := st
    rcases List.mem_cons.mp hb with z | hb
    · subst z
      exact ⟨_, he, fun v z => by cases z⟩
    · have z : b = it := by simpa using hb
      subst z
      obtain ⟨o, q, c, d⟩ := hit
      exact ⟨o, q, fun v z => by rw [d] at z; cases z⟩
  keep := fun i h h' st k => by
    obtain ⟨⟨old, he⟩, hit⟩ := st
    exact ⟨⟨old, k e (by simp) _ he⟩, hit.at fun o q => k it (by simp) o q⟩
  item := by
    intro X hP hw hK hc i pins s σ H E I hf st hg
    subst hP hw hK
    obtain ⟨⟨old, he⟩, hit⟩ := st
    obtain ⟨xs, x, hq, hx⟩ := hg
    obtain ⟨its, rv, p, hz⟩ := I.list hq
    obtain ⟨u, hu, ru⟩ := rv.get hx
    have f1 := hf e (by simp)
    have f2 := hf it (by simp)
    refine wpAny_pyNext_enum_item he hit p.isList (x := u) (by simpa using hu) hei fun h1 heo hit1 ht1 hz1 hk1 => ?_
    refine ⟨_, rfl, wpAny_letOwnedTupleGo_enum heo fun h2 he2 hs2 => ?_⟩
    have hs2 : Heap.SameBut e h1 h2 := hs2
    have esz : e < s.heap.objs.size := Heap.lt_size he
    have isz : it < s.heap.objs.size := by obtain ⟨_, q, _⟩ := hit; exact Heap.lt_size q
    have I1 : Inv X pins σ H { s with heap := h2, toks := s.toks + 1 } := inv_two I (fun b o h1' h2' q => (hs2.2 b h1').trans (hk1 b o h1' h2' q)) f1 f2
    have hn : H s.heap.objs.size = none := I.hok.fresh (Nat.le_refl _)
    have g2 : h2.get? s.heap.objs.size = some { cls := .type "tuple", data := .seq #[.int i s.toks, u] } := (hs2.2 _ (Nat.ne_of_gt esz)).trans ht1
    have I2 : Inv X pins σ (upd H s.heap.objs.size (.tup [.int i, x])) { s with heap := h2, toks := s.toks + 1 } := by
      refine I1.track hn I.sz (Nat.ne_of_gt I.lt) (fun y c q => ?_) (fun y hy => ?_) ⟨by show 2 ≤ sizeLine; decide, [.int i s.toks, u], .cons ⟨_, rfl⟩ (.cons ru .nil), ⟨_, g2, rfl, ⟨_, rfl⟩, rfl⟩⟩
      · obtain ⟨v, o, ho, _⟩ := I.cell y c q
        exact Nat.ne_of_lt (Heap.lt_size ho)
      · exact Nat.ne_of_lt (Heap.lt_size (I.pin y hy).1)
    refine ⟨.ref s.heap.objs.size, _, I2, rfl, ⟨_, x, rfl, hn, rfl, fun ys hy => by rw [I.list_inj hy hq]; exact hx⟩, ⟨⟨u, ?_⟩, ?_⟩, fun b hb => ?_⟩
    · have : ((i + 1 : Nat) : Int) = (i : Int) + 1 := by push_cast; rfl
      rw [this]
      exact he2
    · exact hit1.at fun o q => (hs2.2 it (Ne.symm hei)).trans q
    · rcases List.mem_cons.mp hb with z | hb
      · subst z
        rw [upd_ne (Nat.ne_of_lt esz)]
        exact f1.1
      · have z : b = it := by simpa using hb
        subst z
        rw [upd_ne (Nat.ne_of_lt isz)]
        exact f2.1
  done := by
    intro X hP hw hK hc i pins s σ H E I hf st hg
    subst hP hw hK
    obtain ⟨⟨old, he⟩, hit⟩ := st
    obtain ⟨xs, hq, hx⟩ := hg
    obtain ⟨its, rv, p, hz⟩ := I.list hq
    obtain ⟨f0, f1, f2, f3, f4, f5⟩ := hf it (by simp)
    have hl := rv.length
    exact wpAny_pyNext_enum_end (I.ok.hd hc) he hit p.isList (by simp; omega) fun h' eb => ⟨rfl, I.turned (t' := s.toks) (fun b o hb q => eb b o hb q) f0 f1 f3 f4 f5⟩
  self := fun _ _ _ _ _ st h => by
    obtain ⟨⟨old, he⟩, _⟩ := st
    exact wpAny_pyIter_enum he h
section
variable {X : Cx} {sd : List Slot} {e a b c tg iter : Expr} {es : List Expr} {pos : Pos} {r ra rb : R} {d : D} {ds : List D} {st : Stmt} {rest : List Stmt} {E : EndD}
noncomputable def iEnum (K : PySem.W.Frag) (ta : TA) : TI := fun σ H R => ta σ H fun vs H1 => ∃ l, vs = [.ref l] ∧ (∃ xs, SqL K H1 l xs) ∧ R (Ite K l) H1
theorem pi_enum {elts : List Expr} {kk : Nat} {tp : Pos} {ta : TA} {p : Pos} (hg : Gl X "enumerate") (hm : X.mg "enumerate" = none) (ha : PA X [a] ta) (hs : starEach [a] X.env = [(false, eval a X.env)] := by rfl) : PI X (.Tuple elts kk tp) (.Call (.Name "enumerate" p) [a] [] pos) (iEnum X.K ta) := by
  intro pins s σ H R I h
  refine Call_ (ld_blt I hg hm boot_enumerate (PyProof.Rows.callWith_type1 (thn (ha pos pins s σ H _ I h) fun us s1 ⟨vs, H1, I1, r1, q1⟩ => ?_) hs rfl))
  obtain ⟨l, rfl, ⟨xs, hq⟩, q⟩ := q1
  cases r1 with
  | cons r rr =>
    cases rr
    cases r
    obtain ⟨its, rv, p, hz⟩ := I1.list hq
    refine call_enumerate_list p.isList fun h' he hit hsz hk => ?_
    refine wpAny_pyIter_enum he ?_
    have I2 : Inv X pins σ H1 { s1 with heap := h' } := I1.kept (t' := s1.toks) hk
    refine ⟨s1.heap.objs.size + 1, [s1.heap.objs.size + 1, s1.heap.objs.size], _, Ite X.K l, H1, rfl, I2, turn_enum l _ _ (Nat.succ_ne_self _), ⟨⟨_, he⟩, hit⟩, fun b hb => ?_, q⟩
    rcases List.mem_cons.mp hb with z | hb
    · subst z
      exact I1.fpOk (Nat.le_succ _) (I1.hok.fresh (Nat.le_succ _))
    · have z : b = s1.heap.objs.size := by simpa using hb
      subst z
      exact I1.fpOk (Nat.le_refl _) (I1.hok.fresh (Nat.le_refl _))
noncomputable def enumD (ds : List D) : List D := (List.range ds.length).map fun (i : Nat) => D.tup [.int (i : Int), ds.getD i .non]
theorem enumD_len (ds : List D) : (enumD ds).length = ds.length := by simp [enumD]
theorem enumD_get {ds : List D} {i : Nat} {d : D} (h : (enumD ds)[i]? = some d) : ∃ x, ds[i]? = some x ∧ d = .tup [.int (i : Int), x] := by
  unfold enumD at h
  rw [List.getElem?_map] at h
  by_cases hi : i < ds.length
  · rw [List.getElem?_range hi] at h
    refine ⟨ds[i], by simp [hi], ?_⟩
    rw [← Option.some.inj h]
    simp [List.getD, hi]
  · rw [List.getElem?_eq_none (by simpa using hi)] at h
    cases h
/-- the list stands, ours or anybody's -/
noncomputable def LP (K : PySem.W.Frag) (l : Addr) (ds : List D) : Hp → Hp → Prop := fun F H => ∃ xs, H l = some (.lst xs) ∧ RepL K F ds xs
theorem itd_enum {F₁ : Hp} {l : Addr} : ItD X.K F₁ (LP X.K l ds) (Ite X.K l) (enumD ds) := fun F H _ sH sm hP i => by
  obtain ⟨xs, hl, rl⟩ := hP
  refine ⟨fun hi => ?_, fun hi => ?_, fun x H' d hd y => ?_⟩
  · rw [enumD_len] at hi
    exact ⟨xs, xs[i]'(by rw [rl.len]; exact hi), .of hl, by simp [rl.len, hi]⟩
  · rw [enumD_len] at hi
    exact ⟨xs, .of hl, by rw [rl.len]; exact hi⟩
  · obtain ⟨p, v, rfl, hp, rfl, hv⟩ := y
    obtain ⟨z, hz, rfl⟩ := enumD_get hd
    have hv := hv xs (.of hl)
    obtain ⟨v', h1, rz⟩ := rl.get hz
    rw [hv] at h1
    cases h1
    have fp : F p = none := sH.free hp
    have s1 : Same F (upd F p (.tup [.int i, v])) := fun b u q => by rw [upd_ne (ne_of_none q fp)]; exact q
    refine ⟨upd F p (.tup [.int i, v]), s1, ?_, fun H₀ σ sd S => (S.lay (o := .tup [.int i, v]) hp trivial).1⟩
    simp only [Rep]
    exact ⟨p, _, rfl, upd_same, .cons (by simp only [Rep]) (.one (rz.mono s1))⟩
/-- enumerate(xs), xs a list that nobody changes -/
theorem pid_enum {elts : List Expr} {kk : Nat} {tp p : Pos} (hg : Gl X "enumerate") (hm : X.mg "enumerate" = none) (ha : PEd X sd a (.val (.lst ds))) (hst : starEach [a] X.env = [(false, eval a X.env)] := by rfl) :
    PId X sd PT0 (.Tuple elts kk tp) (.Call (.Name "enumerate" p) [a] [] pos) (enumD ds) := .mk fun σ F H S =>
  (pi_enum hg hm pa_w hst).to ((pad_cons ha pad_nil trivial (by rw [hst]; rfl) σ F H S).imp fun vs H1 ⟨F1, S1, s1, q1⟩ => by
    cases q1 with
    | cons q1 q2 =>
      cases q2
      simp only [ResOk, Rep] at q1
      obtain ⟨l, xs, rfl, hl, rl⟩ := q1
      refine ⟨l, rfl, ⟨xs, .of (S1.sub _ _ hl)⟩, F1, S1, s1, fun F' H' sF sH sm _ i => ?_⟩
      exact itd_enum (X := X) (F₁ := F1) F' H' sF sH sm ⟨xs, sH _ _ (sF _ _ hl), rl.mono sF⟩ i)
/-! ### slices -/
noncomputable def cutD (ds : List D) (lo hi : Option Int) : List D := (ds.drop (HT.sIx ds.length 0 lo)).take (HT.sIx ds.length ds.length hi - HT.sIx ds.length 0 lo)
theorem RepL.cut {K : PySem.W.Frag} {H : Hp} {xs : List V} (r : RepL K H ds xs) (lo hi : Option Int) : RepL K H (cutD ds lo hi) (cutV xs lo hi) := by
  unfold cutD cutV
  rw [r.len]
  exact (r.drop _).take _
noncomputable def POd (X : Cx) (sd : List Slot) (e : Option Expr) (o : Option Int) : Prop := match e, o with
  | none, none => True
  | some e, some i => PEd X sd e (.val (.int i))
  | _, _ => False
theorem pod_run {eo : Option Expr} {o : Option Int} (h : POd X sd eo o) : ∃ t : TO, PO X eo t ∧ ∀ (σ : St) (F H : Hp), StF X.K X.B₀ F H σ sd → ∀ Q : Option Int → Hp → Prop, (∀ F' H', StF X.K X.B₀ F' H' σ sd → Same F F' → Q o H') → t σ H Q := by
  cases eo with
  | none =>
    cases o with
    | none => exact ⟨_, po_none, fun σ F H S Q k => k F H S (Same.refl _)⟩
    | some i => exact h.elim
  | some e =>
    cases o with
    | none => exact h.elim
    | some i =>
      have h : PEd X sd e (.val (.int i)) := h
      refine ⟨_, po_some pe_w, fun σ F H S Q k => (h σ F H S).imp fun v H1 ⟨F1, S1, s1, q1⟩ => ?_⟩
      simp only [ResOk, Rep] at q1
      exact ⟨i, q1, k F1 H1 S1 s1⟩
theorem pd_slT {lo hi : Option Expr} {ol oh : Option Int} {p2 : Pos} (ha : PEd X sd a (.val (.tup ds))) (hl : POd X sd lo ol) (hh : POd X sd hi oh) (hn : ¬ (HT.sIx ds.length 0 ol = 0 ∧ HT.sIx ds.length ds.length oh = ds.length)) : PEd X sd (.Subscript a (.Slice lo hi none p2) pos) (.val (.tup (cutD ds ol oh))) := .mk fun σ F H S => by
  obtain ⟨tl, pl, kl⟩ := pod_run hl
  obtain ⟨th, ph, kh⟩ := pod_run hh
  refine (pe_slice sl_tup pe_w pl ph).to ((ha σ F H S).imp fun v H1 ⟨F1, S1, s1, q1⟩ => kl σ F1 H1 S1 _ fun F2 H2 S2 s2 => kh σ F2 H2 S2 _ fun F3 H3 S3 s3 => ?_)
  have q1 := Rep.mono (s2.trans s3) q1
  simp only [Rep] at q1
  obtain ⟨l, xs, rfl, hl', rl⟩ := q1
  refine ⟨l, xs, rfl, .of (S3.sub _ _ hl'), by rw [rl.len]; exact hn, fun p hp => ?_⟩
  obtain ⟨S4, s4⟩ := S3.lay (o := .tup (cutV xs ol oh)) hp trivial
  refine ⟨_, S4, ((s1.trans s2).trans s3).trans s4, ?_⟩
  simp only [ResOk, Rep]
  exact ⟨p, _, rfl, upd_same, (rl.cut ol oh).mono s4⟩
theorem pd_neg {i : Int} (ha : PEd X sd a (.val (.int i))) : PEd X sd (.UnaryOp .USub a pos) (.val (.int (-i))) := .mk fun σ F H S =>
  (pe_un un_neg pe_w).to ((ha σ F H S).imp fun v H1 ⟨F1, S1, s1, q1⟩ => by
    simp only [ResOk, Rep] at q1
    exact ⟨i, q1, F1, S1, s1, by simp only [ResOk, Rep]⟩)
end
end DL

namespace DL
open PySem PySem.Spec PyProof.Rows L2
section
variable {X : Cx} {sd : List Slot} {e a b c tg iter : Expr} {es : List Expr} {pos : Pos} {r ra rb : R} {d : D} {ds : List D} {st : Stmt} {rest : List Stmt} {E : EndD}
/-- for, its states by what holds of them -/
theorem psd_forG {body : List Stmt} {P : Hp → Hp → Prop} (Sd : Nat → List Slot → Prop) (hi : PId X sd P tg iter ds) (h0 : ∃ sd0, Le sd sd0 ∧ Sd 0 sd0)
    (hb : ∀ k d sdk, ds[k]? = some d → Sd k sdk → ∃ sdt, PGd X sdk tg d sdt ∧ PSd X sdt body { E with nx := fun sd' => ∃ sd2, Le sd' sd2 ∧ Sd (k + 1) sd2, ct := fun sd' => ∃ sd2, Le sd' sd2 ∧ Sd (k + 1) sd2, bk := E.nx }) (hE : ∀ sdn, Sd ds.length sdn → E.nx sdn) (hP : ∀ k sdk σ F H, Sd k sdk → StF X.K X.B₀ F H σ sdk → P F H := by intros; trivial)
    (hc : X.calm = true := by rfl) (hp : PassesOwn (model X.prog X.w) X.A X.env X.xe := by exact PassesOwn.never) (hs : ∀ x, foldedSetIterable iter X.env x = pure x := by intro _; rfl) : PSd1 X sd (.For tg iter body [] pos) E := .mk fun σ F H S =>
  (ps_for hp hc pi_w pg_w pss_w hs).to (by
    intro pins s I
    refine thn (hi σ F H S pins s I) fun v s1 h1 => thn h1 fun itv s2 h2 => ?_
    obtain ⟨it, fp, tn, J, H2, e, I2, T, st2, f2, F1, S1, s1', itd⟩ := h2
    refine ⟨it, fp, tn, J, H2, e, I2, T, st2, f2, ?_⟩
    obtain ⟨sd0, le0, q0⟩ := h0
    refine ⟨fun i m σ' H' => m = ds.length - i ∧ i ≤ ds.length ∧ ∃ sdi F', StF X.K X.B₀ F' H' σ' sdi ∧ Same F1 F' ∧ Sd i sdi, ⟨ds.length, by simp, Nat.zero_le _, sd0, F1, S1.le le0, Same.refl _, q0⟩, ?_⟩
    rintro i m σ' H' ⟨rfl, hil, sdi, F', S', s', qi⟩
    obtain ⟨g1, g2, g3⟩ := itd F' H' s' S'.sub S'.smp (hP _ _ _ _ _ qi S') i
    by_cases hlt : i < ds.length
    · refine .inr ⟨g1 hlt, fun σ2 H2 => ∃ sd2 F2, StF X.K X.B₀ F2 H2 σ2 sd2 ∧ Same F1 F2 ∧ Sd (i + 1) sd2, fun σ2 H2 ⟨sd2, F2, S2, s2, q2⟩ => ⟨ds.length - (i + 1), by omega, rfl, hlt, sd2, F2, S2, s2, q2⟩, fun x H2 y => ?_⟩
      have hd : ds[i]? = some ds[i] := by simp [hlt]
      obtain ⟨F2, s2, rp, up⟩ := g3 x H2 ds[i] hd y
      obtain ⟨sdt, hg, hbb⟩ := hb i _ sdi hd qi
      refine (hg σ' F2 H2 x (up _ _ _ S') rp).imp fun σ3 H3 ⟨F3, S3, s3⟩ => ?_
      have base : Same F1 F3 := (s'.trans s2).trans s3
      refine (hbb σ3 F3 H3 S3).imp ?_ ?_ ?_ ?_
      · rintro σ4 H4 ⟨sd4, F4, S4, s4, sd5, le, q5⟩
        exact ⟨sd5, F4, S4.le le, base.trans s4, q5⟩
      · exact fun v H4 q => q
      · rintro σ4 H4 ⟨sd4, F4, S4, s4, q⟩
        exact ⟨sd4, F4, S4, (s1'.trans base).trans s4, q⟩
      · rintro σ4 H4 ⟨sd4, F4, S4, s4, sd5, le, q5⟩
        exact ⟨sd5, F4, S4.le le, base.trans s4, q5⟩
    · have e : i = ds.length := by omega
      subst e
      exact .inl ⟨g2 (Nat.le_refl _), sdi, F', S', s1'.trans s', hE sdi qi⟩)
end
/-! ### fillings -/
noncomputable def filI (m : Nat) : Nat → List (List Int)
  | 0 => [[]]
  | k + 1 => (filI m k).flatMap fun s => (List.range m).map fun (w : Nat) => s ++ [(w : Int)]
noncomputable def tupI (s : List Int) : D := .tup (s.map D.int)
noncomputable def numI (m : Int) (ws : List Int) : Int := ws.foldl (fun n w => n * m + w) 0
theorem sz14 : ∀ p ∈ sizes14, 1 ≤ p.1 ∧ p.1 ≤ 6 ∧ 1 ≤ p.2 ∧ p.2 ≤ 6 ∧ p.1 * p.2 ≤ 6 := by decide +kernel
theorem fil_mem {m : Nat} : ∀ {k : Nat} {ws : List Int}, ws.length = k → (∀ w ∈ ws, 0 ≤ w ∧ w < m) → ws ∈ filI m k
  | 0, ws, h, _ => by
    have : ws = [] := List.length_eq_zero_iff.mp h
    subst this
    simp [filI]
  | k + 1, ws, h, hw => by
    have hne : ws ≠ [] := by
      intro z
      subst z
      simp at h
    have e : ws = ws.dropLast ++ [ws.getLast hne] := (List.dropLast_concat_getLast hne).symm
    have hl := hw (ws.getLast hne) (List.getLast_mem hne)
    have ih : ws.dropLast ∈ filI m k := fil_mem (by rw [List.length_dropLast, h]; rfl) fun w hm => hw w (List.dropLast_subset _ hm)
    show ws ∈ (filI m k).flatMap fun s => (List.range m).map fun (w : Nat) => s ++ [(w : Int)]
    refine List.mem_flatMap.mpr ⟨_, ih, List.mem_map.mpr ⟨(ws.getLast hne).toNat, List.mem_range.mpr (by omega), ?_⟩⟩
    have : (((ws.getLast hne).toNat : Nat) : Int) = ws.getLast hne := by omega
    rw [this]
    exact e.symm
structure FilOk (b k : Nat) : Prop where
  len : (filI (2 ^ b) k).length = 2 ^ (b * k)
  at_ : ∀ i, i < 2 ^ (b * k) → ((filI (2 ^ b) k).getD i []).length = k ∧ (∀ w ∈ (filI (2 ^ b) k).getD i [], 0 ≤ w ∧ w < 2 ^ b) ∧ numI (2 ^ b) ((filI (2 ^ b) k).getD i []) = i ∧ (i = 0 ∨ HT.lexLt ((filI (2 ^ b) k).getD (i - 1) []) ((filI (2 ^ b) k).getD i []) = true)
theorem deq_ints : ∀ (ws vs : List Int), deqL (ws.map D.int) (vs.map D.int) = decide (ws = vs)
  | [], [] => by simp [deqL]
  | [], _ :: _ => by simp [deqL]
  | _ :: _, [] => by simp [deqL]
  | w :: ws, v :: vs => by
    simp only [List.map_cons, deqL, deq, deq_ints ws vs]
    by_cases h1 : w = v <;> by_cases h2 : ws = vs <;> simp [h1, h2]
theorem deq_tupI (ws vs : List Int) : deq (tupI ws) (tupI vs) = decide (ws = vs) := by
  unfold tupI
  simp only [deq, deq_ints]
theorem plL_ints : ∀ ws : List Int, plL (ws.map D.int) = true
  | [] => rfl
  | w :: ws => by simp [plL, pl, plL_ints ws]
theorem depL_ints : ∀ ws : List Int, depL (ws.map D.int) = 0
  | [] => rfl
  | w :: ws => by simp [depL, dep, depL_ints ws]
theorem pl_tupI (ws : List Int) : pl (tupI ws) = true := by simp [tupI, pl, plL_ints]
theorem dep_tupI (ws : List Int) : dep (tupI ws) = 1 := by simp [tupI, dep, depL_ints]
theorem plL_tups : ∀ L : List (List Int), plL (L.map tupI) = true
  | [] => rfl
  | w :: ws => by simp [plL, pl_tupI, plL_tups ws]
theorem depL_tups : ∀ L : List (List Int), depL (L.map tupI) ≤ 1
  | [] => by simp [depL]
  | w :: ws => by
    have := depL_tups ws
    simp only [List.map_cons, depL, dep_tupI]
    omega
theorem mul64 {i j : Int} (h1 : -(2 ^ 64) < j) (h2 : j < 2 ^ 64) : IntMulOk i j := .of_right (intBits_le_64 h1 h2)
theorem tups_get {L : List (List Int)} {k : Nat} {d : D} (h : (L.map tupI)[k]? = some d) : k < L.length ∧ d = tupI (L.getD k []) := by
  rw [List.getElem?_map] at h
  cases e : L[k]? with
  | none =>
    rw [e] at h
    cases h
  | some z =>
    rw [e] at h
    refine ⟨(List.getElem?_eq_some_iff.mp e).1, ?_⟩
    rw [← Option.some.inj h, List.getD, e]
    rfl
end DL

namespace DL
open PySem PySem.Spec PyProof.Rows L2
section
variable {X : Cx} {sd : List Slot} {e a b c tg iter : Expr} {es : List Expr} {pos : Pos} {r ra rb : R} {d : D} {ds : List D} {st : Stmt} {rest : List Stmt} {E : EndD}
/-- x in a tuple of the module -/
theorem ptd_inM {g : Str} {ad : Addr} {xs : List V} {v : V} {p : Pos} (hg : Gl X g) (hm : X.mg g = some (.ref ad)) (hq : ∀ H, SqT X.K H ad xs) (ha : PEd X sd a (.val d)) (hd : flt d = some v) (fv : flatV v = true) (fx : xs.all flatV = true)
    (hk : behindInMarks .In (.Name g p) = false := by with_unfolding_all rfl) (hdb : (g == ("__debug__" : Str)) = false := by decide) : PTd X sd (.Compare a [.In] [.Name g p] pos) (inV v xs) := .mk fun σ F H S =>
  (pt_cmpR op_in_seq pe_w (pe_glob (v := .ref ad) hg hm rfl hdb) hk).to ((ha σ F H S).imp fun x H1 ⟨F1, S1, s1, q1⟩ => by
    have e := flt_rep hd q1
    subst e
    exact ⟨ad, xs, rfl, .inr (hq H1), fv, fx, _, rfl, rfl, F1, S1, s1⟩)
end
end DL

namespace DL
open PySem PySem.Spec PyProof.Rows L2
/-! ### steps -/
noncomputable def stepNames : List Str := ["and", "or", "xor", "add", "take", "copy", "put", "not", "up", "down"]
noncomputable def nm (k : Nat) : Str := stepNames.getD k "down"
noncomputable def stpD (k : Nat) (i j n : Int) : D := if k < 6 then .tup [.str (nm k), .int i, .int j] else if k = 6 then .tup [.str (nm k), .int i, .int n] else .tup [.str (nm k), .int i]
noncomputable def selfW (k : Nat) (m a : Int) : Int := match k with
  | 7 => m - 1 - a
  | 8 => a * 2 % m
  | _ => a / 2
noncomputable def anoW (k : Nat) (m a c : Int) : Int := match k with
  | 0 => Builtin.bitAnd a c
  | 1 => Builtin.bitOr a c
  | 2 => Builtin.bitXor a c
  | 3 => (a + c) % m
  | 4 => (a - c) % m
  | _ => c
noncomputable def newW (k : Nat) (m a c n : Int) : Int := if k = 6 then n else if 7 ≤ k then selfW k m a else anoW k m a c
theorem nm_and : ∀ k, k < 10 → decide (V.str (nm k) = V.str "and") = decide (k = 0) := by decide +kernel
theorem nm_or : ∀ k, k < 10 → decide (V.str (nm k) = V.str "or") = decide (k = 1) := by decide +kernel
theorem nm_xor : ∀ k, k < 10 → decide (V.str (nm k) = V.str "xor") = decide (k = 2) := by decide +kernel
theorem nm_add : ∀ k, k < 10 → decide (V.str (nm k) = V.str "add") = decide (k = 3) := by decide +kernel
theorem nm_take : ∀ k, k < 10 → decide (V.str (nm k) = V.str "take") = decide (k = 4) := by decide +kernel
theorem nm_put : ∀ k, k < 10 → decide (V.str (nm k) = V.str "put") = decide (k = 6) := by decide +kernel
theorem nm_not : ∀ k, k < 10 → decide (V.str (nm k) = V.str "not") = decide (k = 7) := by decide +kernel
theorem nm_up : ∀ k, k < 10 → decide (V.str (nm k) = V.str "up") = decide (k = 8) := by decide +kernel
theorem nm_self : ∀ k, k < 10 → inV (V.str (nm k)) [V.str "not", V.str "up", V.str "down"] = decide (7 ≤ k) := by decide +kernel
theorem bits_rng : ∀ b, b < 7 → ∀ a, a < 2 ^ b → ∀ c, c < 2 ^ b → ∀ k, k < 3 → 0 ≤ anoW k 0 ((a : Nat) : Int) ((c : Nat) : Int) ∧ anoW k 0 ((a : Nat) : Int) ((c : Nat) : Int) < ((2 ^ b : Nat) : Int) := by decide +kernel
theorem anoW0 {k : Nat} (h : k < 3) (m a c : Int) : anoW k m a c = anoW k 0 a c := by
  match k, h with
  | 0, _ => rfl
  | 1, _ => rfl
  | 2, _ => rfl
theorem newW_rng {b k : Nat} {a c n : Int} (hb : b < 7) (hk : k < 10) (ha : 0 ≤ a ∧ a < ((2 ^ b : Nat) : Int)) (hc : 0 ≤ c ∧ c < ((2 ^ b : Nat) : Int)) (hn : 0 ≤ n ∧ n < ((2 ^ b : Nat) : Int)) : 0 ≤ newW k ((2 ^ b : Nat) : Int) a c n ∧ newW k ((2 ^ b : Nat) : Int) a c n < ((2 ^ b : Nat) : Int) := by
  have ea : a = ((a.toNat : Nat) : Int) := by omega
  have ec : c = ((c.toNat : Nat) : Int) := by omega
  have la : a.toNat < 2 ^ b := by have := ha.2; generalize 2 ^ b = q at *; omega
  have lc : c.toNat < 2 ^ b := by have := hc.2; generalize 2 ^ b = q at *; omega
  have tab : ∀ k, k < 3 → 0 ≤ anoW k ((2 ^ b : Nat) : Int) a c ∧ anoW k ((2 ^ b : Nat) : Int) a c < ((2 ^ b : Nat) : Int) := fun k hk => by
    rw [anoW0 hk, ea, ec]
    exact bits_rng b hb _ la _ lc k hk
  have mpos : (0 : Int) < ((2 ^ b : Nat) : Int) := by omega
  match k, hk with
  | 0, _ => exact tab 0 (by decide)
  | 1, _ => exact tab 1 (by decide)
  | 2, _ => exact tab 2 (by decide)
  | 3, _ => exact ⟨Int.emod_nonneg _ (Int.ne_of_gt mpos), Int.emod_lt_of_pos _ mpos⟩
  | 4, _ => exact ⟨Int.emod_nonneg _ (Int.ne_of_gt mpos), Int.emod_lt_of_pos _ mpos⟩
  | 5, _ => exact hc
  | 6, _ => exact hn
  | 7, _ =>
    show 0 ≤ ((2 ^ b : Nat) : Int) - 1 - a ∧ ((2 ^ b : Nat) : Int) - 1 - a < ((2 ^ b : Nat) : Int)
    generalize ((2 ^ b : Nat) : Int) = q at *
    omega
  | 8, _ => exact ⟨Int.emod_nonneg _ (Int.ne_of_gt mpos), Int.emod_lt_of_pos _ mpos⟩
  | 9, _ =>
    show 0 ≤ a / 2 ∧ a / 2 < ((2 ^ b : Nat) : Int)
    generalize ((2 ^ b : Nat) : Int) = q at *
    omega
section
variable {X : Cx} {sd : List Slot} {e a b c tg iter : Expr} {es : List Expr} {pos : Pos} {d : D}
theorem RepL.strs {K : PySem.W.Frag} {H : Hp} : ∀ {ss : List Str} {xs : List V}, RepL K H (ss.map D.str) xs → xs = ss.map V.str
  | [], xs, r => by simpa only [List.map_nil, RepL] using r
  | n :: ns, xs, r => by
    rw [List.map_cons] at r
    obtain ⟨y, ys, rfl, a, rl⟩ := r.uncons
    simp only [Rep] at a
    rw [a, RepL.strs rl]
    rfl
end
end DL

namespace DL
open PySem PySem.Spec PyProof.Rows L2
section
variable {X : Cx} {sd : List Slot} {e a b c tg iter : Expr} {es : List Expr} {pos : Pos} {d : D}
end
end DL

namespace DL
open PySem PySem.Spec PyProof.Rows L2
section
variable {X : Cx} {sd : List Slot} {e a b c tg iter o : Expr} {es : List Expr} {pos : Pos} {r ra rb : R} {d : D} {ds : List D} {st : Stmt} {rest : List Stmt} {E : EndD}
theorem PEd.ic {i j : Int} (h : PEd X sd e (.val (.int i))) (q : i = j) : PEd X sd e (.val (.int j)) := q ▸ h
theorem PWd.cast {k k' : Bool} (h : PWd X sd e k) (q : k = k') : PWd X sd e k' := q ▸ h
theorem getItem_whole {prog : Program} {w : World} {A : Around} {E : Value → Shared → Prop} {s : Shared} {t sl : Addr} {items : Array Value} {vl vu : Value} {lo hi : Option Int} {Q : Value → Shared → Prop} (ht : IsTup s.heap t items) (hs : s.heap.IsSliceOf sl vl vu .none) (pl : IsPart vl lo) (pu : IsPart vu hi)
    (hw : HT.sIx items.size 0 lo = 0 ∧ HT.sIx items.size items.size hi = items.size) (h : Q (.ref t) s) : wpAny (model prog w) A (getItem (.ref t) (.ref sl)) Q E s := by
  obtain ⟨os, hos, hcs, hds⟩ := id hs
  have hTs : s.TypeIs (.ref sl) "slice" := ⟨os, hos, hcs⟩
  unfold getItem
  try with_reducible refine wpAny_holding ?_
  first | refine wpAny_bind (wpAny_pure ?_) | skip
  refine wpAny_bind (wpAny_sequenceKey ht.typeIs (by decide) ?_)
  refine wpAny_bind (wpAny_callSpecial?_slot (name := Str.ofString "__getitem__") ht.typeIs PyProof.Rows.slot_tuple_getitem
    (wpAny_call_entry PyProof.Rows.slot_tuple_getitem ht.typeIs entry_tuple_getitem ?_ (args_tuple_getitem _ _)))
  show wpAny _ _ (Builtin.Tuple.tupleItemsOf (.ref t) >>= _) _ _ s
  refine wpAny_bind (tupleItemsOf_ ht ?_)
  refine wpAny_bind (wpAny_typeOf hTs ?_)
  rw [if_pos (by decide)]
  refine wpAny_bind (HT.sliceApplied_gen hs pl pu ?_)
  have yes : (((HT.sIx items.size 0 lo : Nat) : Int) == 0 && (1 : Int) == 1 && (HT.sIx items.size items.size hi - HT.sIx items.size 0 lo) == items.size) = true := by
    rw [hw.1, hw.2]
    simp
  show wpAny _ _ (if (((HT.sIx items.size 0 lo : Nat) : Int) == 0 && (1 : Int) == 1 && (HT.sIx items.size items.size hi - HT.sIx items.size 0 lo) == items.size) = true then _ else _) _ _ s
  rw [if_pos yes]
  refine wpAny_bind ?_
  unfold Builtin.Tuple.tupleIsExact
  refine wpAny_bind (wpAny_typeOf ht.typeIs (wpAny_pure ?_))
  rw [if_pos (by decide)]
  exact wpAny_bind (wpAny_rule (wpAny_pure ⟨_, rfl, wpAny_pure h⟩))
theorem sl_tupW : SlR X (fun x lo hi H Q => ∃ a xs, x = .ref a ∧ SqT X.K H a xs ∧ (HT.sIx xs.length 0 lo = 0 ∧ HT.sIx xs.length xs.length hi = xs.length) ∧ Q (.ref a) H) := by
  intro pins s σ H x v vl vu lo hi sl Q I rx hs pl pu h
  obtain ⟨a, xs, rfl, hx, hw, q⟩ := h
  cases rx
  obtain ⟨its, r, ht, hz⟩ := I.tuple hx
  have hlen : its.toArray.size = xs.length := by rw [List.size_toArray]; exact r.length.symm
  refine ⟨"tuple", _, PyProof.Rows.slot_tuple_getitem.lookup, ht.typeIs, getItem_whole ht hs pl pu (by rw [hlen]; exact hw) ⟨.ref a, H, I, rfl, q⟩⟩
theorem pd_slTW {lo hi : Option Expr} {ol oh : Option Int} {p2 : Pos} (ha : PEd X sd a (.val (.tup ds))) (hl : POd X sd lo ol) (hh : POd X sd hi oh) (hw : HT.sIx ds.length 0 ol = 0 ∧ HT.sIx ds.length ds.length oh = ds.length) : PEd X sd (.Subscript a (.Slice lo hi none p2) pos) (.val (.tup ds)) := .mk fun σ F H S => by
  obtain ⟨tl, pl, kl⟩ := pod_run hl
  obtain ⟨th, ph, kh⟩ := pod_run hh
  refine (pe_slice sl_tupW pe_w pl ph).to ((ha σ F H S).imp fun v H1 ⟨F1, S1, s1, q1⟩ => kl σ F1 H1 S1 _ fun F2 H2 S2 s2 => kh σ F2 H2 S2 _ fun F3 H3 S3 s3 => ?_)
  have q1 := Rep.mono (s2.trans s3) q1
  simp only [Rep] at q1
  obtain ⟨l, xs, rfl, hl', rl⟩ := q1
  refine ⟨l, xs, rfl, .of (S3.sub _ _ hl'), by rw [rl.len]; exact hw, F3, S3, (s1.trans s2).trans s3, ?_⟩
  simp only [ResOk, Rep]
  exact ⟨l, xs, rfl, hl', rl⟩
/-- t[:k] -/
theorem pd_takeT {k : Nat} {p2 : Pos} (ha : PEd X sd a (.val (.tup ds))) (hb : PEd X sd b (.val (.int (k : Int)))) : PEd X sd (.Subscript a (.Slice none (some b) none p2) pos) (.val (.tup (ds.take k))) := by
  by_cases h : k < ds.length
  · have e : DL.cutD ds none (some (k : Int)) = ds.take k := by
      unfold DL.cutD
      rw [HT.sIx_nat, HT.sIx_none, Nat.min_eq_left (Nat.le_of_lt h)]
      simp
    exact PEd.cast (pd_slT (ol := none) (oh := some (k : Int)) ha trivial hb (by rw [HT.sIx_nat, HT.sIx_none]; omega)) (by rw [e])
  · rw [List.take_of_length_le (by omega)]
    exact pd_slTW (ol := none) (oh := some (k : Int)) ha trivial hb (by rw [HT.sIx_nat, HT.sIx_none]; omega)
/-- t[k:] -/
theorem pd_dropT {k : Nat} {p2 : Pos} (ha : PEd X sd a (.val (.tup ds))) (hb : PEd X sd b (.val (.int (k : Int)))) : PEd X sd (.Subscript a (.Slice (some b) none none p2) pos) (.val (.tup (ds.drop k))) := by
  by_cases h : 0 < k ∧ 0 < ds.length
  · have e : DL.cutD ds (some (k : Int)) none = ds.drop k := by
      unfold DL.cutD
      rw [HT.sIx_nat, HT.sIx_none]
      by_cases q : k ≤ ds.length
      · rw [Nat.min_eq_left q]
        exact List.take_of_length_le (by simp)
      · rw [Nat.min_eq_right (by omega), List.drop_of_length_le (Nat.le_refl _), List.drop_of_length_le (by omega)]
        simp
    exact PEd.cast (pd_slT (ol := some (k : Int)) (oh := none) ha hb trivial (by rw [HT.sIx_nat, HT.sIx_none]; omega)) (by rw [e])
  · have e : ds.drop k = ds := by
      by_cases q : k = 0
      · rw [q]
        rfl
      · have : ds = [] := List.length_eq_zero_iff.mp (by omega)
        rw [this]
        simp
    rw [e]
    exact pd_slTW (ol := some (k : Int)) (oh := none) ha hb trivial (by rw [HT.sIx_nat, HT.sIx_none]; omega)
end
end DL

namespace DL
open PySem PySem.Spec PyProof.Rows L2
/-! ### a list of ours, lent for one look -/
mutual
noncomputable def noL : D → Bool
  | .tup ds => noLs ds
  | .lst _ => false
  | .scr _ => false
  | .dic => false
  | .dki _ _ => false
  | .any _ => false
  | _ => true
noncomputable def noLs : List D → Bool
  | [] => true
  | d :: ds => noL d && noLs ds
end
noncomputable def del (F : Hp) (l : Addr) : Hp := fun b => if b = l then none else F b
theorem del_ne {F : Hp} {l b : Addr} (h : b ≠ l) : del F l b = F b := by unfold del; rw [if_neg h]
theorem del_same {F : Hp} {l : Addr} : del F l l = none := by unfold del; rw [if_pos rfl]
mutual
theorem Rep.del {K : PySem.W.Frag} {F : Hp} {l : Addr} {xs : List V} (hl : F l = some (.lst xs)) : ∀ {d : D} {v : V}, noL d = true → Rep K F d v → Rep K (del F l) d v
  | .non, _, _, r => by simpa only [Rep] using r
  | .bl _, _, _, r => by simpa only [Rep] using r
  | .int _, _, _, r => by simpa only [Rep] using r
  | .str _, _, _, r => by simpa only [Rep] using r
  | .tup ds, v, h, r => by
    simp only [Rep] at r ⊢
    obtain ⟨a, ys, e, q, rl⟩ := r
    have ne : a ≠ l := fun z => by
      rw [z, hl] at q
      cases q
    exact ⟨a, ys, e, by rw [del_ne ne]; exact q, RepL.del hl (by simpa only [noL] using h) rl⟩
  | .lst _, _, h, _ => by simp [noL] at h
  | .dic, _, h, _ => by simp [noL] at h
  | .dki _ _, _, h, _ => by simp [noL] at h
  | .any _, _, h, _ => by simp [noL] at h
  | .scr _, _, h, _ => by simp [noL] at h
theorem RepL.del {K : PySem.W.Frag} {F : Hp} {l : Addr} {xs : List V} (hl : F l = some (.lst xs)) : ∀ {ds : List D} {ys : List V}, noLs ds = true → RepL K F ds ys → RepL K (del F l) ds ys
  | [], _, _, r => by simpa only [RepL] using r
  | d :: ds, ys, h, r => by
    simp only [noLs, Bool.and_eq_true] at h
    obtain ⟨y, zs, rfl, a, rl⟩ := r.uncons
    exact .cons (Rep.del hl h.1 a) (RepL.del hl h.2 rl)
end
theorem slots_of {K : PySem.W.Frag} {F H : Hp} : ∀ {sd : List Slot} {σ : St}, σ.length = sd.length → (∀ (k : Nat) (z : Slot), sd[k]? = some z → ∃ o, σ[k]? = some o ∧ SlotOk K F H z o) → SlotsOk K F H sd σ
  | [], [], _, _ => rfl
  | z :: zs, o :: r, hl, h => by
    obtain ⟨o', e, q⟩ := h 0 z rfl
    have : o = o' := by simpa using e
    subst this
    exact ⟨o, r, rfl, q, slots_of (by simpa using hl) fun k z hz => by
      obtain ⟨o', e, q⟩ := h (k + 1) z (by simpa using hz)
      exact ⟨o', by simpa using e, q⟩⟩
  | [], _ :: _, hl, _ => by simp at hl
  | _ :: _, [], hl, _ => by simp at hl
noncomputable def FlatR : R → Bool
  | .val d => noL d
  | .own ds => noLs ds
  | .bor _ => false
  | .pr _ _ => false
  | .ox _ => false
/-- the other lists of ours hold no lists -/
noncomputable def okS : Slot → Bool
  | .own _ ds => noLs ds
  | .od _ _ ds => noLs ds
  | .ox _ _ => false
  | _ => true
noncomputable def Oth (sd : List Slot) (i : Nat) : Prop := ∀ (k : Nat) (z : Slot), k ≠ i → sd[k]? = some z → okS z = true
section
variable {K : PySem.W.Frag} {H₀ F F' H H' : Hp} {σ : St} {sd : List Slot} {i : Nat} {l : Addr} {ds : List D} {xs : List V}
theorem StF.lend (S : StF K H₀ F H σ sd) (hs : sd[i]? = some (.own l ds)) (hx : H l = some (.lst xs)) : StF K H₀ (upd F l (.lst xs)) H σ (sd.set i (.val (.lst ds))) := by
  obtain ⟨o, h1, h2, n, ys, q, rl⟩ := S.slots.get hs
  rw [hx] at q
  cases q
  have S0 := S.le (le_set_un sd i)
  obtain ⟨S1, s1⟩ := S0.freeze hx n (not_owned S.nd hs)
  have S2 := S1.set (d := .lst ds) (v := .ref l) i (by simp only [Rep]; exact ⟨l, xs, rfl, upd_same, rl.mono s1⟩)
  rw [set_set, set_same (by rw [h1, h2])] at S2
  exact S2
theorem StF.back (S : StF K H₀ F H σ sd) (hs : sd[i]? = some (.own l ds)) (hx : H l = some (.lst xs)) (ho : Oth sd i) (S' : StF K H₀ F' H' σ (sd.set i (.val (.lst ds)))) (s : Same (upd F l (.lst xs)) F') : StF K H₀ (del F' l) H' σ sd ∧ Same F (del F' l) ∧ F' l = some (.lst xs) := by
  obtain ⟨o, h1, h2, n, ys, q, rl⟩ := S.slots.get hs
  rw [hx] at q
  cases q
  have fl : F' l = some (.lst xs) := s _ _ upd_same
  have sF : Same F (del F' l) := fun b u e => by
    have ne : b ≠ l := ne_of_none e n
    rw [del_ne ne]
    exact s _ _ (by rw [upd_ne ne]; exact e)
  refine ⟨⟨fun b u e => sF _ _ (S.base _ _ e), fun b u e => ?_, S'.smp, ?_, S.nd⟩, sF, fl⟩
  · by_cases h : b = l
    · subst h
      rw [del_same] at e
      cases e
    · rw [del_ne h] at e
      exact S'.sub _ _ e
  · refine slots_of S.slots.len fun k z hz => ?_
    by_cases hk : k = i
    · subst hk
      rw [hs] at hz
      cases hz
      exact ⟨o, h1, h2, del_same, xs, S'.sub _ _ fl, rl.mono sF⟩
    · obtain ⟨o1, g1, g2⟩ := S.slots.get hz
      obtain ⟨o2, g3, g4⟩ := S'.slots.get (i := k) (z := z) (by rw [List.getElem?_set_ne (Ne.symm hk)]; exact hz)
      rw [g1] at g3
      cases g3
      refine ⟨o1, g1, ?_⟩
      cases z with
      | un => trivial
      | val d =>
        obtain ⟨v, e, r⟩ := g2
        exact ⟨v, e, r.mono sF⟩
      | gh d G =>
        obtain ⟨v, e, r, g⟩ := g2
        exact ⟨v, e, r.mono sF, fun F2 s2 => g F2 (sF.trans s2)⟩
      | own l' ds' =>
        obtain ⟨e, n', ys, q', rl'⟩ := g4
        have ne : l' ≠ l := fun e2 => by
          rw [e2, fl] at n'
          cases n'
        exact ⟨e, by rw [del_ne ne]; exact n', ys, q', RepL.del fl (ho k _ hk hz) rl'⟩
      | od l' ks ds' =>
        obtain ⟨e, n', ys, q', ln, rl'⟩ := g4
        have ne : l' ≠ l := fun e2 => by
          rw [e2, fl] at n'
          cases n'
        exact ⟨e, by rw [del_ne ne]; exact n', ys, q', ln, RepL.del fl (ho k _ hk hz) rl'⟩
      | ox ls G => exact absurd (ho k _ hk hz) (by simp [okS])
end
section
variable {X : Cx} {sd : List Slot} {e a b c tg iter o : Expr} {es : List Expr} {pos : Pos} {r ra rb : R} {d : D} {ds : List D} {st : Stmt} {rest : List Stmt} {E : EndD}
theorem PEd.lend (i : Nat) {l : Addr} (hs : sd[i]? = some (.own l ds)) (ho : Oth sd i) (hf : FlatR r = true) (h : PEd X (sd.set i (.val (.lst ds))) e r) : PEd X sd e r := .mk fun σ F H S => by
  obtain ⟨o, h1, h2, n, xs, q, rl⟩ := S.slots.get hs
  refine (h σ _ H (S.lend hs q)).imp fun v H' ⟨F', S', s', res⟩ => ?_
  obtain ⟨S2, s2, fl⟩ := S.back hs q ho S' s'
  refine ⟨del F' l, S2, s2, ?_⟩
  cases r with
  | val d => exact Rep.del fl hf res
  | own ds' =>
    obtain ⟨l', xs', e, n', q', rl', no⟩ := res
    have ne : l' ≠ l := fun e2 => by
      rw [e2, fl] at n'
      cases n'
    refine ⟨l', xs', e, by rw [del_ne ne]; exact n', q', RepL.del fl hf rl', fun hm => no ?_⟩
    obtain ⟨z, hz, ez⟩ := List.mem_flatMap.mp hm
    obtain ⟨k, hk⟩ := List.getElem?_of_mem hz
    have ki : k ≠ i := fun y => by
      subst y
      rw [hs] at hk
      cases hk
      have : l = l' := (List.mem_singleton.mp ez).symm
      exact ne this.symm
    exact List.mem_flatMap.mpr ⟨_, List.mem_of_getElem? (by rw [List.getElem?_set_ne (Ne.symm ki)]; exact hk), ez⟩
  | bor _ => cases hf
  | pr _ _ => cases hf
  | ox _ => cases hf
theorem PTd.lend (i : Nat) {l : Addr} {k : Bool} (hs : sd[i]? = some (.own l ds)) (ho : Oth sd i) (h : PTd X (sd.set i (.val (.lst ds))) e k) : PTd X sd e k := .mk fun σ F H S => by
  obtain ⟨o, h1, h2, n, xs, q, rl⟩ := S.slots.get hs
  refine (h σ _ H (S.lend hs q)).imp fun v H' ⟨e, F', S', s'⟩ => ?_
  obtain ⟨S2, s2, fl⟩ := S.back hs q ho S' s'
  exact ⟨e, del F' l, S2, s2⟩
theorem PTd.cast {k k' : Bool} (h : PTd X sd e k) (q : k = k') : PTd X sd e k' := q ▸ h
noncomputable def othB : List Slot → Nat → Bool
  | [], _ => true
  | _ :: zs, 0 => zs.all okS
  | z :: zs, i + 1 => okS z && othB zs i
theorem oth_b : ∀ {sd : List Slot} {i : Nat}, othB sd i = true → Oth sd i
  | [], _, _, k, y, _, hz => by simp at hz
  | z :: zs, 0, h, k, y, hk, hz => by
    cases k with
    | zero => exact absurd rfl hk
    | succ k => exact List.all_eq_true.mp (show zs.all okS = true from h) _ (List.mem_of_getElem? (by simpa using hz))
  | z :: zs, i + 1, h, k, y, hk, hz => by
    have h' : (okS z && othB zs i) = true := h
    rw [Bool.and_eq_true] at h'
    cases k with
    | zero =>
      have : z = y := by simpa using hz
      subst this
      exact h'.1
    | succ k => exact oth_b h'.2 k y (fun q => hk (by rw [q])) (by simpa using hz)
end
end DL

namespace DL
open PySem PySem.Spec PyProof.Rows L2
section
variable {X : Cx} {sd : List Slot} {e a b c tg iter o : Expr} {es : List Expr} {pos : Pos} {r ra rb : R} {d : D} {ds : List D} {st : Stmt} {rest : List Stmt} {E : EndD}
/-- script[lo:hi] -/
theorem pd_slS {ns : List Int} {lo hi : Option Expr} {ol oh : Option Int} {p2 : Pos} (ha : PEd X sd a (.val (.scr ns))) (hl : POd X sd lo ol) (hh : POd X sd hi oh) : PEd X sd (.Subscript a (.Slice lo hi none p2) pos) (.own (DL.cutD (ns.map D.int) ol oh)) := .mk fun σ F H S => by
  obtain ⟨tl, pl, kl⟩ := pod_run hl
  obtain ⟨th, ph, kh⟩ := pod_run hh
  refine (pe_slice sl_list pe_w pl ph).to ((ha σ F H S).imp fun v H1 ⟨F1, S1, s1, q1⟩ => kl σ F1 H1 S1 _ fun F2 H2 S2 s2 => kh σ F2 H2 S2 _ fun F3 H3 S3 s3 => ?_)
  have q1 := Rep.mono (s2.trans (s3.trans S3.sub)) q1
  simp only [Rep] at q1
  obtain ⟨l, rfl, hl'⟩ := q1
  refine ⟨l, _, rfl, hl', fun p hp => ?_⟩
  obtain ⟨S4, fp, no⟩ := S3.layO (xs := cutV (ns.map V.int) ol oh) hp
  have rl : RepL X.K F3 (ns.map D.int) (ns.map V.int) := by
    have g : ∀ l : List Int, RepL X.K F3 (l.map D.int) (l.map V.int) := fun l => by
      induction l with
      | nil => exact .nil
      | cons k l ih => exact .cons (by simp only [Rep]) ih
    exact g ns
  exact ⟨F3, S4, (s1.trans s2).trans s3, p, _, rfl, fp, upd_same, rl.cut ol oh, no⟩
end
end DL

namespace DL
open PySem PySem.Spec PyProof.Rows L2
noncomputable def CCell : List D → R → Prop := fun ds r => ∃ (ns : List Int) (k : Nat), ds = [.scr ns, .int (k : Int)] ∧ k ≤ 1000 ∧ r = .val (.int (ns.getD k 0))
noncomputable abbrev SQ := Nat × Int × Int × Int
noncomputable def sqD (q : SQ) : D := stpD q.1 q.2.1 q.2.2.1 q.2.2.2
noncomputable def stpQ (p : Int × Int) (x : Int) : SQ := ((x % 10).toNat, x / 10 % p.2, x / 60 % p.2, x / 360 % ((2 ^ p.1.toNat : Nat) : Int))
structure SqOk (p : Int × Int) (q : SQ) : Prop where
  sz : p ∈ sizes14
  k10 : q.1 < 10
  i0 : 0 ≤ q.2.1 ∧ q.2.1 < p.2
  j0 : 0 ≤ q.2.2.1 ∧ q.2.2.1 < p.2
  n0 : 0 ≤ q.2.2.2 ∧ q.2.2.2 < ((2 ^ p.1.toNat : Nat) : Int)
theorem pw0 (n : Nat) : (0 : Int) < ((2 ^ n : Nat) : Int) := by
  have : 0 < 2 ^ n := Nat.pow_pos (by decide)
  generalize 2 ^ n = q at this ⊢
  omega
theorem stpQ_ok {p : Int × Int} (hp : p ∈ sizes14) (x : Int) : SqOk p (stpQ p x) := by
  obtain ⟨h1, h2, h3, h4, h5⟩ := sz14 p hp
  have p20 : (0 : Int) < p.2 := by omega
  have m0 := pw0 p.1.toNat
  have d1 := Int.emod_lt_of_pos x (show (0 : Int) < 10 by decide)
  exact ⟨hp, by show (x % 10).toNat < 10; omega, ⟨Int.emod_nonneg _ (Int.ne_of_gt p20), Int.emod_lt_of_pos _ p20⟩, ⟨Int.emod_nonneg _ (Int.ne_of_gt p20), Int.emod_lt_of_pos _ p20⟩, ⟨Int.emod_nonneg _ (Int.ne_of_gt m0), Int.emod_lt_of_pos _ m0⟩⟩
noncomputable def CStepB : List D → R → Prop := fun ds r => ∃ x p, p ∈ sizes14 ∧ ds = [.int x, sizD p] ∧ r = .val (sqD (stpQ p x))
noncomputable abbrev SK := SQ × Int
noncomputable def skD (s : SK) : D := .tup [sqD s.1, .int s.2]
structure StkOk (p : Int × Int) (L : List SK) : Prop where
  pos : 0 < L.length
  le : L.length ≤ 8
  st : ∀ s ∈ L, SqOk p s.1 ∧ 1 ≤ s.2 ∧ s.2 ≤ 9
/-! ### words, fillings -/
structure Fil (p : Int × Int) (ws : List Int) : Prop where
  len : ws.length = p.2.toNat
  wd : ∀ w ∈ ws, 0 ≤ w ∧ w < ((2 ^ p.1.toNat : Nat) : Int)
noncomputable def nwQ (p : Int × Int) (q : SQ) (ws : List Int) : Int := newW q.1 ((2 ^ p.1.toNat : Nat) : Int) (ws.getD q.2.1.toNat 0) (ws.getD q.2.2.1.toNat 0) q.2.2.2
noncomputable def onQ (p : Int × Int) (q : SQ) (ws : List Int) : List Int := ws.set q.2.1.toNat (nwQ p q ws)
noncomputable def rowQ (p : Int × Int) (L : List SK) (row : List Nat) (ws : List Int) : List Int := row.foldl (fun f t => onQ p (L.getD t default).1 f) ws
theorem nwQ_rng {p : Int × Int} {q : SQ} {ws : List Int} (O : SqOk p q) (G : Fil p ws) : 0 ≤ nwQ p q ws ∧ nwQ p q ws < ((2 ^ p.1.toNat : Nat) : Int) := by
  obtain ⟨h1, h2, h3, h4, h5⟩ := sz14 p O.sz
  exact newW_rng (by omega) O.k10 (G.wd _ (getD_mem (by have := O.i0; rw [G.len]; omega))) (G.wd _ (getD_mem (by have := O.j0; rw [G.len]; omega))) O.n0
theorem onQ_fil {p : Int × Int} {q : SQ} {ws : List Int} (O : SqOk p q) (G : Fil p ws) : Fil p (onQ p q ws) := by
  refine ⟨by unfold onQ; rw [List.length_set]; exact G.len, fun w hw => ?_⟩
  rcases List.mem_or_eq_of_mem_set hw with hw | rfl
  · exact G.wd w hw
  · exact nwQ_rng O G
theorem rowQ_fil {p : Int × Int} {L : List SK} (S : StkOk p L) : ∀ (row : List Nat) (ws : List Int), (∀ t ∈ row, t < L.length) → Fil p ws → Fil p (rowQ p L row ws)
  | [], ws, _, G => G
  | t :: row, ws, h, G => by
    have ht := h t List.mem_cons_self
    exact rowQ_fil S row _ (fun u hu => h u (List.mem_cons_of_mem _ hu)) (onQ_fil (S.st _ (getD_mem ht)).1 G)
theorem rowQ_snoc (p : Int × Int) (L : List SK) (row : List Nat) (t : Nat) (ws : List Int) : rowQ p L (row ++ [t]) ws = onQ p (L.getD t default).1 (rowQ p L row ws) := by
  unfold rowQ
  rw [List.foldl_append]
  rfl
theorem fil_Fil {p : Int × Int} (hp : p ∈ sizes14) {ws : List Int} (h : ws ∈ filI (2 ^ p.1.toNat) p.2.toNat) : Fil p ws := by
  have g : ∀ (m k : Nat), ∀ s ∈ filI m k, s.length = k ∧ ∀ x ∈ s, 0 ≤ x ∧ x < (m : Int) := fun m k => by
    induction k with
    | zero =>
      intro s h
      have : s = [] := by simpa [filI] using h
      subst this
      exact ⟨rfl, fun x hx => by cases hx⟩
    | succ k ih =>
      intro s h
      obtain ⟨t, ht, hs⟩ := List.mem_flatMap.mp h
      obtain ⟨w, hw, rfl⟩ := List.mem_map.mp hs
      obtain ⟨a, b⟩ := ih t ht
      refine ⟨by rw [List.length_append, a]; rfl, fun x hx => ?_⟩
      rcases List.mem_append.mp hx with hx | hx
      · exact b x hx
      · have e : x = (w : Int) := by simpa using hx
        have := List.mem_range.mp hw
        omega
  obtain ⟨a, b⟩ := g _ _ ws h
  exact ⟨a, b⟩
noncomputable def natD (row : List Nat) : List D := row.map fun (t : Nat) => D.int (t : Int)
end DL

namespace DL
open PySem PySem.Spec PyProof.Rows L2
section
variable {X : Cx} {sd : List Slot} {e a b c tg iter o : Expr} {es : List Expr} {pos : Pos} {r ra rb : R} {d : D} {ds : List D} {st : Stmt} {rest : List Stmt} {E : EndD}
/-- list(xs) -/
theorem pd_listL {p : Pos} (hg : Gl X "list") (hm : X.mg "list" = none) (ha : PEd X sd e (.bor ds)) (hst : starEach [e] X.env = (false, eval e X.env) :: starEach [] X.env := by rfl) : PEd X sd (.Call (.Name "list" p) [e] [] pos) (.own ds) :=
  pd_callTy (he := hst) call_list_of hg hm PyProof.Rows.boot_list (pad_cons ha pad_nil trivial hst) fun σ F H vs Q S q k => by
    cases q with
    | cons q1 q2 =>
      cases q2
      obtain ⟨p, xs, rfl, hp, rl, _⟩ := q1
      refine ⟨p, xs, rfl, .inl (.of hp), fun l hl => ?_⟩
      obtain ⟨S2, fp, no⟩ := S.layO (xs := xs) hl
      exact k _ F _ S2 (Same.refl _) ⟨l, xs, rfl, fp, upd_same, rl, no⟩
end
mutual
theorem deq_refl : ∀ d : D, pl d = true → deq d d = true
  | .non, _ => rfl
  | .bl b, _ => by simp [deq]
  | .int i, _ => by simp [deq]
  | .str x, _ => by simp [deq]
  | .tup ds, h => by
    simp only [deq]
    exact deqL_refl ds (by simpa only [pl] using h)
  | .lst ds, h => by
    simp only [deq]
    exact deqL_refl ds (by simpa only [pl] using h)
  | .dic, h => by simp [pl] at h
  | .dki _ _, h => by simp [pl] at h
  | .any _, h => by simp [pl] at h
  | .scr _, h => by simp [pl] at h
theorem deqL_refl : ∀ ds : List D, plL ds = true → deqL ds ds = true
  | [], _ => rfl
  | d :: ds, h => by
    simp only [plL, Bool.and_eq_true] at h
    simp only [deqL, Bool.and_eq_true]
    exact ⟨deq_refl d h.1, deqL_refl ds h.2⟩
end
theorem nat_get {row : List Nat} {k : Nat} {d : D} (h : (natD row)[k]? = some d) : k < row.length ∧ d = .int ((row.getD k 0 : Nat) : Int) := by
  unfold natD at h
  rw [List.getElem?_map] at h
  cases e : row[k]? with
  | none =>
    rw [e] at h
    cases h
  | some z =>
    rw [e] at h
    refine ⟨(List.getElem?_eq_some_iff.mp e).1, ?_⟩
    rw [← Option.some.inj h, List.getD, e]
    rfl
theorem sk_get {L : List SK} {t : Nat} (h : t < L.length) : (L.map skD)[t]? = some (skD (L.getD t default)) := by
  rw [List.getElem?_map]
  simp [List.getD, h]
theorem row_take {row : List Nat} {k : Nat} (h : k < row.length) : row.take (k + 1) = row.take k ++ [row.getD k 0] := by
  rw [List.take_add_one]
  simp [List.getD, h]
end DL

namespace DL
open PySem PySem.Spec PyProof.Rows L2
/-! ### zip of two, each a list or a tuple -/
noncomputable def ItAt (tp : Bool) (h : Heap) (it src : Addr) (i : Nat) : Prop := match tp with
  | true => h.IsTupleIter it src i
  | false => h.IsListIter it src i
noncomputable def SqAt (tp : Bool) (h : Heap) (src : Addr) (xs : Array Value) : Prop := match tp with
  | true => h.IsTuple src xs
  | false => h.IsList src xs
theorem ItAt.ex {tp : Bool} {h : Heap} {it src : Addr} {i : Nat} (x : ItAt tp h it src i) : ∃ o, h.get? it = some o ∧ ∀ v, o.data ≠ .cell v := by
  cases tp with
  | true =>
    obtain ⟨o, e, _, d⟩ := (show h.IsTupleIter it src i from x)
    exact ⟨o, e, fun v z => by rw [d] at z; cases z⟩
  | false =>
    obtain ⟨o, e, _, d⟩ := (show h.IsListIter it src i from x)
    exact ⟨o, e, fun v z => by rw [d] at z; cases z⟩
theorem ItAt.keep {tp : Bool} {h h' : Heap} {it src : Addr} {i : Nat} (x : ItAt tp h it src i) (k : ∀ o, h.get? it = some o → h'.get? it = some o) : ItAt tp h' it src i := by
  cases tp with
  | true => exact Heap.IsTupleIter.at (show h.IsTupleIter it src i from x) k
  | false => exact Heap.IsListIter.at (show h.IsListIter it src i from x) k
theorem SqAt.keep {tp : Bool} {h h' : Heap} {src : Addr} {xs : Array Value} (x : SqAt tp h src xs) (k : ∀ o, h.get? src = some o → h'.get? src = some o) : SqAt tp h' src xs := by
  cases tp with
  | true => exact Heap.IsTuple.at (show h.IsTuple src xs from x) k
  | false => exact Heap.IsList.at (show h.IsList src xs from x) k
theorem SqAt.lt {tp : Bool} {h : Heap} {src : Addr} {xs : Array Value} (x : SqAt tp h src xs) : src < h.objs.size := by
  cases tp with
  | true =>
    obtain ⟨o, e, _⟩ := (show h.IsTuple src xs from x)
    exact Heap.lt_size e
  | false =>
    obtain ⟨o, e, _⟩ := (show h.IsList src xs from x)
    exact Heap.lt_size e
section
variable {prog : Program} {w : World} {A : Around} {E : Value → Shared → Prop} {s : Shared}
end
end DL

namespace DL
open PySem PySem.Spec PyProof.Rows L2
end DL

namespace DL
open PySem PySem.Spec PyProof.Rows L2
noncomputable def itO (tp : Bool) (l : Addr) : Obj := match tp with
  | true => { cls := .type "tuple_iterator", data := .fields #[.ref l, .int 0 0] }
  | false => { cls := .type "list_iterator", data := .fields #[.ref l, .int 0 0] }
section
variable {prog : Program} {w : World} {A : Around} {E : Value → Shared → Prop} {s : Shared}
end
noncomputable abbrev zA (p : Bool) (h : Heap) (l : Addr) : Heap := h.push (itO p l)
noncomputable abbrev zB (p q : Bool) (h : Heap) (l m : Addr) : Heap := (zA p h l).push (itO q m)
noncomputable abbrev zC (p q : Bool) (h : Heap) (l m : Addr) : Heap := (zB p q h l m).push { cls := .type "tuple", data := .seq #[.ref h.objs.size, .ref (zA p h l).objs.size] }
noncomputable abbrev zD (p q : Bool) (h : Heap) (l m : Addr) : Heap := (zC p q h l m).push { cls := .type "tuple", data := .seq #[.none, .none] }
noncomputable abbrev zE (p q : Bool) (h : Heap) (l m : Addr) : Heap := (zD p q h l m).push { cls := .type "zip", data := .fields #[.none, .bool false, .bool false, .ref (zB p q h l m).objs.size, .ref (zC p q h l m).objs.size] }
section
variable {prog : Program} {w : World} {A : Around} {E : Value → Shared → Prop} {s : Shared}
end
section
variable {X : Cx} {sd : List Slot} {e a b c tg iter : Expr} {es : List Expr} {pos : Pos} {r ra rb : R} {d : D} {ds : List D} {st : Stmt} {rest : List Stmt} {E : EndD}
end
end DL

namespace DL
open PySem PySem.Spec PyProof.Rows L2
theorem flatMap_len (L : List (List Int)) (m : Nat) : (L.flatMap fun s => (List.range m).map fun (w : Nat) => s ++ [(w : Int)]).length = L.length * m := by
  induction L with
  | nil => simp
  | cons s L ih =>
    rw [List.flatMap_cons, List.length_append, ih, List.length_map, List.length_range, List.length_cons, Nat.succ_mul, Nat.add_comm]
theorem fil_len : ∀ (m k : Nat), (filI m k).length = m ^ k
  | _, 0 => rfl
  | m, k + 1 => by
    show ((filI m k).flatMap _).length = _
    rw [flatMap_len, fil_len m k, Nat.pow_succ]
theorem fil_lens : ∀ (m k : Nat), ∀ s ∈ filI m k, s.length = k
  | _, 0, s, h => by
    have : s = [] := by simpa [filI] using h
    subst this
    rfl
  | m, k + 1, s, h => by
    obtain ⟨t, ht, hs⟩ := List.mem_flatMap.mp h
    obtain ⟨w, _, rfl⟩ := List.mem_map.mp hs
    rw [List.length_append, fil_lens m k t ht]
    rfl
theorem pow_small : ∀ p ∈ sizes14, ∀ k, k < p.2.toNat → ((2 ^ p.1.toNat) ^ k) * 2 ^ p.1.toNat ≤ 900 := by decide +kernel
noncomputable def tabQ (p : Int × Int) (L : List SK) (row : List Nat) : List (List Int) := (filI (2 ^ p.1.toNat) p.2.toNat).map fun ws => rowQ p L row ws
noncomputable def CTable : List D → R → Prop := fun ds r => ∃ p L row, p ∈ sizes14 ∧ StkOk p L ∧ (∀ t ∈ row, t < L.length) ∧ ds = [sizD p, .lst (L.map skD), .tup (natD row)] ∧ r = .val (.tup ((tabQ p L row).map tupI))
theorem tabQ_len (p : Int × Int) (L : List SK) (row : List Nat) : (tabQ p L row).length = (filI (2 ^ p.1.toNat) p.2.toNat).length := List.length_map _
theorem fil_900 {p : Int × Int} (hp : p ∈ sizes14) : (filI (2 ^ p.1.toNat) p.2.toNat).length ≤ 64 := by
  have : ∀ p ∈ sizes14, (2 ^ p.1.toNat) ^ p.2.toNat ≤ 64 := by decide +kernel
  rw [fil_len]
  exact this p hp
theorem mem_tups {L : List (List Int)} {d : D} (h : d ∈ L.map tupI) : ∃ ws ∈ L, d = tupI ws := by
  obtain ⟨ws, hw, rfl⟩ := List.mem_map.mp h
  exact ⟨ws, hw, rfl⟩
theorem tabQ_fil {p : Int × Int} (hp : p ∈ sizes14) {L : List SK} (S : StkOk p L) {row : List Nat} (h : ∀ t ∈ row, t < L.length) : ∀ ws ∈ tabQ p L row, Fil p ws := fun ws hw => by
  obtain ⟨v, hv, rfl⟩ := List.mem_map.mp hw
  exact rowQ_fil S row v h (fil_Fil hp hv)
noncomputable def intsOf : D → List Int
  | .tup ds => ds.map fun d => match d with | .int i => i | _ => 0
  | _ => []
theorem intsOf_tup (ws : List Int) : intsOf (tupI ws) = ws := by
  show (ws.map D.int).map _ = ws
  rw [List.map_map]
  induction ws with
  | nil => rfl
  | cons w ws ih =>
    rw [List.map_cons, ih]
    rfl
end DL

namespace DL
open PySem PySem.Spec PyProof.Rows L2
section
variable {X : Cx} {sd : List Slot} {e a b c tg iter o : Expr} {es : List Expr} {pos : Pos} {r ra rb : R} {d : D} {ds : List D} {st : Stmt} {rest : List Stmt} {E : EndD}
/-- is None -/
noncomputable def isN : D → Bool
  | .non => true
  | _ => false
theorem rep_isN {K : PySem.W.Frag} {H : Hp} {d : D} {v : V} (h : Rep K H d v) : decide (v = .non) = isN d := by
  cases d with
  | non => simp only [Rep] at h; subst h; rfl
  | bl => simp only [Rep] at h; subst h; rfl
  | int => simp only [Rep] at h; subst h; rfl
  | str => simp only [Rep] at h; subst h; rfl
  | tup => simp only [Rep] at h; obtain ⟨a, xs, rfl, _⟩ := h; rfl
  | lst => simp only [Rep] at h; obtain ⟨a, xs, rfl, _⟩ := h; rfl
  | dic => simp only [Rep] at h; obtain ⟨a, rfl, _⟩ := h; rfl
  | dki => simp only [Rep] at h; obtain ⟨a, xs, rfl, _⟩ := h; rfl
  | any => simp only [Rep] at h; obtain ⟨⟨a, rfl⟩, _⟩ := h; rfl
  | scr => simp only [Rep] at h; obtain ⟨a, rfl, _⟩ := h; rfl
theorem ptd_isN (ha : PEd X sd a (.val d)) (hb : PEd X sd b (.val .non)) : PTd X sd (.Compare a [.Is] [b] pos) (isN d) :=
  ptd_cmp2 op_isN ha hb trivial (nomark _) fun σ F H v u Q S q1 q2 k => by
    simp only [ResOk, Rep] at q2
    have q1 : Rep _ _ _ _ := q1
    exact ⟨q2, by rw [rep_isN q1]; exact k F H S (Same.refl _)⟩
/-! ### a def whose last parameter is None where it is left out -/
structure FunD (K : PySem.W.Frag) (x qual : Str) (st : Stmt) (f : Addr) (fd : FuncData) : Prop where
  ex : ∃ (oc : Value) (od : Option Addr) (T : Addr) (kV doc pm : Value) (an : Option Addr) (cdv ct : Value) (osl : Array (Option Value)) (tc : Value) (td : Option Addr) (n : Nat) (tsl : Array (Option Value)),
    fd = PySem.W.fnOf x qual (defArgs st) (defBody st) (defScope st) (.ref T) kV doc pm an cdv ct ∧ K.lookup f = some ⟨oc, od, .func fd, osl⟩ ∧ PySem.W.codeIn K cdv qual = true ∧ K.lookup T = some ⟨tc, td, .seq #[.none] n, tsl⟩
  kp : PySem.W.keepIn K (.ref f) = true
structure CalleeD (P : Program) (w : World) (K : PySem.W.Frag) (mg : Str → Option Value) (base : Heap) (x : Str) (k n : Nat) (C : List D → R → Prop) : Prop where
  ex : ∃ (f : Addr) (fd : FuncData) (ps : List Str), mg x = some (.ref f) ∧ PySem.W.keepIn K (.ref f) = true ∧ Binds K fd ps [] ∧ Binds K fd ps [.none] ∧ FnOk P w K mg base CX0 k f fd ps (spC K n C)
theorem def_okD {P : Program} {w : World} {K : PySem.W.Frag} {mg : Str → Option Value} {base : Heap} {x qual : Str} {st : Stmt} {f : Addr} {fd : FuncData} {N ps : List Str} {k : Nat} {C : List D → R → Prop} (F : FunD K x qual st f fd) (S : FnScope N ps (defScope st))
    (hm : mg x = some (.ref f)) (hb : ∀ (s : Shared) (T : Addr) (o : Obj) (nn : Nat) (kV doc pm : Value) (an : Option Addr) (cdv ct : Value) (us : List Value), s.heap.get? T = some o → o.data = .seq #[.none] nn → us.length = ps.length → BindsTo s (PySem.W.fnOf x qual (defArgs st) (defBody st) (defScope st) (.ref T) kV doc pm an cdv ct) ⟨us, []⟩ (ps.zip us))
    (hb2 : ∀ (s : Shared) (T : Addr) (o : Obj) (nn : Nat) (kV doc pm : Value) (an : Option Addr) (cdv ct : Value) (us : List Value), s.heap.get? T = some o → o.data = .seq #[.none] nn → us.length + 1 = ps.length → BindsTo s (PySem.W.fnOf x qual (defArgs st) (defBody st) (defScope st) (.ref T) kV doc pm an cdv ct) ⟨us, []⟩ (ps.zip (us ++ [.none])))
    (body : ∀ (cdv : Value) (A : Around) (outer : List Env) (s : Shared) (H : Hp) (E : XK), Room k (A.deeper (envOfC qual (defScope st) s.heap.objs.size f cdv)) → ∀ ds r, ds.length = ps.length → C ds r →
      PSd (cxOf CX0 P w K mg base N qual (defScope st) f cdv A outer s H E).nox (init N.length ds) (defBody st) { nx := fun _ => r = .val .non, rt := fun r' => r' = r }) : CalleeD P w K mg base x (k + 1) ps.length C := by
  obtain ⟨oc, od, T, kV, doc, pm, an, cdv, ct, osl, tc, td, n, tsl, rfl, lk, hcd, lT⟩ := F.ex
  refine ⟨f, PySem.W.fnOf x qual (defArgs st) (defBody st) (defScope st) (.ref T) kV doc pm an cdv ct, ps, hm, F.kp, fun s us KX hl => ?_, fun s us KX hl => ?_, ?_⟩
  · rw [List.append_nil] at hl ⊢
    exact hb s T _ n kV doc pm an cdv ct us (KX T _ lT) rfl hl
  · exact hb2 s T _ n kV doc pm an cdv ct us (KX T _ lT) rfl (by simpa using hl)
  · refine fn_of lk hcd S (fun vs H Q E h => h.1) fun A outer s H vs Q E hr h => ?_
    obtain ⟨hl, sm, ds, r, rl, c, q⟩ := h
    have hds : ds.length = ps.length := by rw [← rl.len]; exact hl
    refine ⟨_, pss_w.nox, ?_⟩
    have hlen : N.length - vs.length = N.length - ds.length := by rw [rl.len]
    have S0 : StF K H H H (L2.start N vs) (init N.length ds) := by
      refine ⟨Same.refl _, Same.refl _, sm, ?_, ?_⟩
      · unfold L2.start init
        rw [hlen]
        exact slots_init (m := 0) rl
      · unfold init
        rw [owned_init]
        exact List.nodup_nil
    refine (body cdv A outer s H E hr ds r hds c (L2.start N vs) H H S0).imp ?_ ?_ (fun _ _ ⟨_, _, _, _, z⟩ => z) fun _ _ ⟨_, _, _, _, z⟩ => z
    · rintro σ' H' ⟨sd', F', S', s', e⟩
      have e : r = .val .non := e
      subst e
      exact q .non H' ⟨F', S'.base, S'.sub, S'.smp, by simp only [ResOk, Rep]⟩
    · rintro v H' ⟨r', ro, e⟩
      have e : r' = r := e
      subst e
      exact q v H' ro
/-- the call that leaves the last one out -/
theorem pd_callD {x : Str} {p : Pos} {k n : Nat} {C : List D → R → Prop} (G : CalleeD X.prog X.w X.K X.mg X.base x k n C) (hr : Room k X.A) (hg : Gl X x) (ha : PAd X sd (e :: es) (ds.map R.val)) (hc : C (ds ++ [.non]) r) (hb : match r with | .bor _ => False | _ => True) (hn : ds.length + 1 = n)
    (hdb : (x == ("__debug__" : Str)) = false := by decide) (he : starEach (e :: es) X.env = (false, eval e X.env) :: starEach es X.env := by rfl) (hpl : (backTo pos (starEach es X.env)).any (·.1) = false := by rfl) :
    PEd X sd (.Call (.Name x p) (e :: es) [] pos) r := .mk fun σ F H S => by
  obtain ⟨f, fd, ps, hm, hk, _, bd, G⟩ := G.ex
  refine (pe_call (FnOk.framed G) hr hg hm hk bd (show Vals [V.non] [Value.none] from .cons rfl .nil) pass0 pa_w hdb he hpl).to ((ha σ F H S).imp fun vs H1 ⟨F1, S1, s1, q1⟩ => ?_)
  have rl : RepL X.K F1 (ds ++ [.non]) (vs ++ [.non]) := q1.vals.app (.one (by simp only [Rep]))
  refine ⟨by rw [rl.len, List.length_append]; exact hn, S1.smp, F1, _, r, S1.sub, rl, hc, fun v F2 F3 H' s2 s3 s4 sH sm kp res => ?_⟩
  have no : ∀ l, l ∈ owned sd → F2 l = none ∧ F3 l = none := fun l hl => by
    obtain ⟨n1, xs, q, _⟩ := S1.slots.owns hl
    have n3 := kp l _ q n1
    exact ⟨s3.free n3, n3⟩
  refine ⟨F2, ⟨fun b o e => s2 _ _ (S1.base _ _ e), s3.trans s4, sm, S1.slots.mono s2 fun l hl => ⟨(no l hl).1, fun ys e => sH _ _ e⟩, S1.nd⟩, s1.trans s2, ?_⟩
  cases r with
  | val d => exact res
  | own ds' =>
    obtain ⟨l, xs, e, n, q, rl', _⟩ := res
    exact ⟨l, xs, e, n, s4 _ _ q, rl', fun hl => by rw [(no l hl).2] at q; cases q⟩
  | pr d ls =>
    obtain ⟨t, l, xs, y, e, f, g, n, q, rl', _⟩ := res
    exact ⟨t, l, xs, y, e, f, g, n, s4 _ _ q, rl', fun hl => by rw [(no l hl).2] at q; cases q⟩
  | ox G =>
    obtain ⟨ls, nd, h, g⟩ := res
    refine ⟨ls, nd, fun l hl => ?_, fun F' H'' sF k => g F' H'' sF fun l hl ob q => k l hl ob (s4 _ _ q)⟩
    obtain ⟨n, ⟨ob, q, w⟩, _⟩ := h l hl
    exact ⟨n, ⟨ob, s4 _ _ q, w⟩, fun hm => by rw [(no l hm).2] at q; cases q⟩
  | bor ds' => exact hb.elim
/-- list(range(n)) -/
theorem pd_listRange {p p2 q2 : Pos} {n : Nat} (hg : Gl X "list") (hm : X.mg "list" = none) (hg2 : Gl X "range") (hm2 : X.mg "range" = none) (ha : PEd X sd e (.val (.int (n : Int)))) (h1 : n ≤ 1000)
    (hc : X.calm = true := by rfl) (hst : starEach [e] X.env = (false, eval e X.env) :: starEach [] X.env := by rfl) (hst2 : starEach [.Call (.Name "range" p2) [e] [] q2] X.env = (false, eval (.Call (.Name "range" p2) [e] [] q2) X.env) :: starEach [] X.env := by rfl) :
    PEd X sd (.Call (.Name "list" p) [.Call (.Name "range" p2) [e] [] q2] [] pos) (.own (rangeD 0 n)) := .mk fun σ F H S pins s I => by
  refine wpAny_Call_Name_kw (ld_blt I hg hm PyProof.Rows.boot_list ?_)
  refine PyProof.Rows.callWith_type1 ?_ hst2 rfl
  rw [hst2]
  refine Calls.spliced_cons (wpAny_Call_Name_kw (ld_blt I hg2 hm2 boot_range ?_))
  refine PyProof.Rows.callWith_type1 (thn ((pa_cons (te := wE X e) pe_w pa_nil hst) q2 pins s σ H (fun us H1 => ∃ v F1, us = [v] ∧ StF X.K X.B₀ F1 H1 σ sd ∧ Same F F1 ∧ ResOk X.K F1 H1 sd (.val (.int (n : Int))) v) I ((ha σ F H S).imp fun v H1 ⟨F1, S1, s1, q1⟩ => ⟨v, F1, rfl, S1, s1, q1⟩)) fun us s1 hus => ?_) hst rfl
  obtain ⟨ws, H1, I1, rv, v, F1, rfl, S1, sF, q1⟩ := hus
  obtain ⟨u, rfl, ru⟩ := vals1 rv
  simp only [ResOk, Rep] at q1
  subst q1
  obtain ⟨t, rfl⟩ := ru
  refine call_range_1 (Calls.spliced_nil ?_)
  have hr : IsRange (s1.heap.push { cls := .type "range", data := .fields #[.int 0 s1.toks, .int (n : Int) t, .int 1 (s1.toks + 1)] }) s1.heap.objs.size 0 (n : Int) 1 s1.toks t (s1.toks + 1) := IsRange.new ..
  have sz : Builtin.Range.rangeSize 0 (n : Int) 1 = (n : Int) := by
    rw [rangeSize_one]
    split <;> omega
  refine call_list_range (I1.ok.hd hc) hr (small_one (by omega) (by omega) (by omega) (by omega)) sz (by omega) fun h' tk acc c' kp g it => ?_
  have kp2 : ∀ b o, s1.heap.get? b = some o → h'.get? b = some o := fun b o g => kp b o (Heap.get?_push_of_some _ g)
  have le : s1.heap.objs.size ≤ (s1.heap.push { cls := .type "range", data := .fields #[.int 0 s1.toks, .int (n : Int) t, .int 1 (s1.toks + 1)] }).objs.size := by
    rw [size_push']
    exact Nat.le_succ _
  generalize (s1.heap.push { cls := .type "range", data := .fields #[.int 0 s1.toks, .int (n : Int) t, .int 1 (s1.toks + 1)] }).objs.size = dd at g le
  have hD : H1 dd = none := I1.hok.fresh le
  have ln : acc.toList.length = n := by rw [Array.length_toList]; exact it.1
  have vl : Vals ((List.range n).map fun (k : Nat) => V.int (0 + (k : Int))) acc.toList := by
    have g : ∀ (l : List Value) (f : Nat → Int), (∀ (j : Nat) (v : Value), l[j]? = some v → ∃ t, v = .int (f j) t) → Vals ((List.range l.length).map fun (k : Nat) => V.int (f k)) l := fun l => by
      induction l with
      | nil => intro f _; exact .nil
      | cons x l ih =>
        intro f h
        obtain ⟨t, e⟩ := h 0 x rfl
        rw [List.length_cons, List.range_succ_eq_map, List.map_cons, List.map_map]
        exact .cons ⟨t, e⟩ (ih (fun k => f (k + 1)) fun j v hv => h (j + 1) v (by simpa using hv))
    have := g acc.toList (fun k => 0 + (k : Int)) fun j v hv => by
      obtain ⟨t, e⟩ := it.2 j v (by rw [← Array.getElem?_toList]; exact hv)
      exact ⟨t, by rw [e]; congr 1; omega⟩
    rw [ln] at this
    exact this
  have I3 : Inv X pins σ (upd H1 dd (.lst ((List.range n).map fun (k : Nat) => V.int (0 + (k : Int))))) { s1 with heap := h', toks := tk } :=
    I1.laid kp2 le ⟨by rw [List.length_map, List.length_range]; exact Nat.le_of_lt (small1000 h1), acc.toList, c', vl, by simpa using g⟩
  obtain ⟨S4, fp, no⟩ := S1.layO (xs := (List.range n).map fun (k : Nat) => V.int (0 + (k : Int))) hD
  refine ⟨.ref dd, _, I3, rfl, F1, S4, sF, dd, _, rfl, fp, upd_same, ?_, no⟩
  have gg : ∀ ks : List Nat, RepL X.K F1 (ks.map fun (k : Nat) => D.int (0 + (k : Int))) (ks.map fun (k : Nat) => V.int (0 + (k : Int))) := fun ks => by
    induction ks with
    | nil => exact .nil
    | cons k ks ih => exact .cons (by simp only [Rep]) ih
  exact gg _
end
end DL

namespace DL
open PySem PySem.Spec PyProof.Rows L2
noncomputable def filA (p : Int × Int) : List (List Int) := filI (2 ^ p.1.toNat) p.2.toNat
noncomputable def lkD : Option (List Nat) → D
  | none => .non
  | some l => .lst (natD l)
noncomputable def bxQ (n : Nat) : Option (List Nat) → List Nat
  | none => List.range n
  | some l => l
structure TabOk (p : Int × Int) (T : List (List Int)) : Prop where
  len : T.length = (filA p).length
  fil : ∀ ws ∈ T, Fil p ws
noncomputable def LkOk (p : Int × Int) (o : Option (List Nat)) : Prop := ∀ l, o = some l → l.length ≤ 100 ∧ ∀ b ∈ l, b < p.2.toNat
theorem bx_ok {p : Int × Int} (hp : p ∈ sizes14) {o : Option (List Nat)} (h : LkOk p o) : (bxQ p.2.toNat o).length ≤ 100 ∧ ∀ b ∈ bxQ p.2.toNat o, b < p.2.toNat := by
  cases o with
  | none =>
    obtain ⟨h1, h2, h3, h4, h5⟩ := sz14 p hp
    exact ⟨by show (List.range _).length ≤ 100; rw [List.length_range]; omega, fun b hb => List.mem_range.mp hb⟩
  | some l => exact h l rfl
noncomputable def CBoxes : List D → R → Prop := fun ds r => ∃ p o, p ∈ sizes14 ∧ ds = [sizD p, lkD o] ∧ r = .own (natD (bxQ p.2.toNat o))
noncomputable def CWordsIn : List D → R → Prop := fun ds r => ∃ (bs : List Nat) (ws : List Int), bs.length ≤ 100 ∧ (∀ b ∈ bs, b < ws.length) ∧ ds = [.lst (natD bs), tupI ws] ∧ r = .own ((bs.map fun j => ws.getD j 0).map D.int)
theorem range_nat (n : Nat) : rangeD 0 n = natD (List.range n) := by
  unfold rangeD natD
  refine List.map_congr_left fun k _ => ?_
  rw [Int.zero_add]
theorem take_snoc {α : Type} {L : List α} {k : Nat} (d : α) (h : k < L.length) : L.take (k + 1) = L.take k ++ [L.getD k d] := by
  rw [List.take_add_one]
  simp [List.getD, h]
theorem funD_mk {K : PySem.W.Frag} {x qual : Str} {st : Stmt} {f T : Addr} {oc kV doc pm cdv ct tc : Value} {od an td : Option Addr} {osl tsl : Array (Option Value)} {n : Nat}
    (l : K.lookup f = some ⟨oc, od, .func (PySem.W.fnOf x qual (defArgs st) (defBody st) (defScope st) (.ref T) kV doc pm an cdv ct), osl⟩) (c : PySem.W.codeIn K cdv qual = true) (k : PySem.W.keepIn K (.ref f) = true) (t : K.lookup T = some ⟨tc, td, .seq #[.none] n, tsl⟩) :
    FunD K x qual st f (PySem.W.fnOf x qual (defArgs st) (defBody st) (defScope st) (.ref T) kV doc pm an cdv ct) := ⟨⟨_, _, _, _, _, _, _, _, _, _, _, _, _, _, rfl, l, c, t⟩, k⟩
end DL

namespace DL
open PySem PySem.Spec PyProof.Rows L2
section
variable {X : Cx} {sd : List Slot} {e a b c tg iter o : Expr} {es : List Expr} {pos : Pos} {r ra rb : R} {d : D} {ds : List D} {st : Stmt} {rest : List Stmt} {E : EndD}
/-! ### a datum not in a list of data -/
theorem op_notInD (d : D) (ds : List D) (p1 : pl d = true) (p2 : plL ds = true) (hu : X.A.units + 1 + depL ds < cLine) : OpR X (compareOp .NotIn) (fun x y H Q => Rep X.K H (.lst ds) y ∧ Rep X.K H d x ∧ Q (.bl (!ds.any fun z => deq z d)) H) := by
  intro pins s σ H x y v u Q I rx ry h
  obtain ⟨hl, hd, k⟩ := h
  obtain ⟨a, xs, its, rfl, rfl, rl, rv, ht⟩ := lst_at I.hok hl ry
  have hat : ∀ (j : Nat) (w : Value), its[j]? = some w → ∃ z v, ds[j]? = some z ∧ xs[j]? = some v ∧ Rep X.K H z v ∧ RelV v w := fun j w hw => by
    have hj : j < its.length := (List.getElem?_eq_some_iff.mp hw).1
    have hx : j < xs.length := by rw [Vals.length rv]; exact hj
    have hd : j < ds.length := by rw [← rl.len]; exact hx
    obtain ⟨v, hv, rz⟩ := rl.get (i := j) (d := ds[j]) (by simp [hd])
    exact ⟨ds[j], v, by simp [hd], hv, rz, by
      have := rv.get hv
      obtain ⟨w', hw', r⟩ := this
      rw [hw] at hw'
      cases hw'
      exact r⟩
  have dc := fun w : Value => Classical.propDecidable (∃ (j : Nat) (z : D), its[j]? = some w ∧ ds[j]? = some z ∧ deq z d = true)
  refine SeqAt.notIn_listAt (fun w => @decide _ (dc w)) ht (fun w hw => ?_) ⟨.bl _, H, I, rfl, ?_⟩
  · by_cases q : ∃ (j : Nat) (z : D), its[j]? = some w ∧ ds[j]? = some z ∧ deq z d = true
    · obtain ⟨j, z, e1, e2, e3⟩ := q
      obtain ⟨z', v, f1, f2, f3, f4⟩ := hat j w e1
      rw [e2] at f1
      cases f1
      have : @decide _ (dc w) = true := by rw [decide_eq_true_eq]; exact ⟨j, z, e1, e2, e3⟩
      rw [this, ← e3]
      exact eqAt_D I.hok z (plL_get p2 e2) p1 f3 hd f4 rx (by have := depL_get e2; show X.A.units + 1 + dep z < cLine; omega)
    · have hw' : w ∈ its := by simpa using hw
      obtain ⟨j, hj, rfl⟩ := List.getElem_of_mem hw'
      obtain ⟨z, v, f1, f2, f3, f4⟩ := hat j its[j] (by simp [hj])
      have e3 : deq z d = false := by
        cases h : deq z d with
        | false => rfl
        | true => exact (q ⟨j, z, by simp [hj], f1, h⟩).elim
      have : @decide _ (dc its[j]) = false := by rw [decide_eq_false_iff_not]; exact q
      rw [this, ← e3]
      exact eqAt_D I.hok z (plL_get p2 f1) p1 f3 hd f4 rx (by have := depL_get f1; show X.A.units + 1 + dep z < cLine; omega)
  · have e : its.toArray.any (fun w => @decide _ (dc w)) = ds.any fun z => deq z d := by
      rw [Bool.eq_iff_iff, List.any_toArray, List.any_eq_true, List.any_eq_true]
      constructor
      · rintro ⟨w, hw, q⟩
        rw [decide_eq_true_eq] at q
        obtain ⟨j, z, e1, e2, e3⟩ := q
        exact ⟨z, List.mem_of_getElem? e2, e3⟩
      · rintro ⟨z, hz, e3⟩
        obtain ⟨j, hj, rfl⟩ := List.getElem_of_mem hz
        have hi : j < its.length := by rw [← Vals.length rv, rl.len]; exact hj
        exact ⟨its[j], List.getElem_mem hi, by rw [decide_eq_true_eq]; exact ⟨j, ds[j], by simp [hi], by simp [hj], e3⟩⟩
    rw [e]
    exact k
theorem ptd_ninD (ha : PEd X sd a (.val d)) (hb : PEd X sd b (.val (.lst ds))) (p1 : pl d = true) (p2 : plL ds = true) (hu : X.A.units + 1 + depL ds < cLine) (hk : behindInMarks .NotIn b = false := by with_unfolding_all rfl) : PTd X sd (.Compare a [.NotIn] [b] pos) (!ds.any fun z => deq z d) :=
  ptd_cmp2 (op_notInD d ds p1 p2 hu) ha hb trivial hk fun σ F H x u Q S q1 q2 k => ⟨Rep.mono S.sub q2, Rep.mono S.sub q1, k F H S (Same.refl _)⟩
end
end DL

namespace DL
open PySem PySem.Spec PyProof.Rows L2
section
variable {X : Cx} {sd : List Slot} {E : EndD} {e a b o : Expr} {ds es : List D} {d : D} {pos : Pos}
theorem RepL.atI {K : PySem.W.Frag} {H : Hp} {ds : List D} {xs : List V} {i : Int} {d : D} (r : RepL K H ds xs) (h : L2.atI ds i = some d) : ∃ v, L2.atI xs i = some v ∧ Rep K H d v := by
  unfold L2.atI at h ⊢
  rw [r.len]
  cases e : ixN ds.length i with
  | none => rw [e] at h; cases h
  | some j =>
    rw [e] at h
    exact r.get h
end
end DL

namespace DL
open PySem PySem.Spec PyProof.Rows L2
/-! ### cells mixed, sizes, steps, fillings drawn -/
noncomputable def mix1 (c : Int) (k : Nat) : Int := (c % 2147483647 * 48271 + (k : Int) * (k : Int) * 69621 + 7919) % 2147483647
noncomputable def mixQ (c : Int) (k : Nat) : Int := if c % 2 = 1 then c / 2 else (mix1 c k * mix1 c k + 16807 * mix1 c k + (k : Int)) % 2147483629
noncomputable def CMixed : List D → R → Prop := fun ds r => ∃ (c : Int) (k : Nat), ds = [.int c, .int (k : Int)] ∧ k ≤ 1000 ∧ r = .val (.int (mixQ c k))
theorem mix1_rng (c : Int) (k : Nat) : 0 ≤ mix1 c k ∧ mix1 c k < 2147483647 := ⟨Int.emod_nonneg _ (by decide), Int.emod_lt_of_pos _ (by decide)⟩
section
variable {X : Cx} {sd : List Slot} {b : Expr} {pos : Pos}
/-- 1 << k -/
theorem pd_shl1 {k : Nat} {q : Nat} {p : Pos} (hb : PEd X sd b (.val (.int (k : Int)))) (hk : k ≤ 1000) : PEd X sd (.BinOp (.Constant (.int 1) q p) .LShift b pos) (.val (.int ((2 ^ k : Nat) : Int))) :=
  PEd.ic (pd_iiC op_shl pd_int hb ⟨by omega, by omega, by decide⟩) (by rw [Int.one_mul, Int.toNat_natCast]; push_cast; rfl)
end
end DL

namespace DL
open PySem PySem.Spec PyProof.Rows L2
/-! ### sets of whole numbers below 6 -/
noncomputable def byT (w : World) : Bool := w.params.followText "set-order"
noncomputable def tabR (led : Bool) (m mv : Nat) (ks : List Nat) : SetTable := { mask := m, place := ks.toArray, dummies := #[], finger := 0, led := led, moves := mv, plain := true }
noncomputable def tabK (led : Bool) (ks : List Nat) : SetTable := if ks.length < 5 then tabR led 7 0 ks else tabR led 31 1 ks
/-- the set object with the members ks -/
structure SmS (w : World) (o : Obj) (ks : List Nat) : Prop where
  ex : ∃ (es : List (Int × Value)) (ep : Nat), o = { cls := .type "set", dict := none, data := .set es.toArray ep (tabK (!byT w) ks) } ∧ es.map (·.1) = ks.map Int.ofNat ∧ ∀ e ∈ es, ∃ t, e.2 = .int e.1 t
section
variable {prog : Program} {w : World} {A : Around} {E : Value → Shared → Prop} {s : Shared}
end
end DL

namespace DL
open PySem PySem.Spec PyProof.Rows L2
section
variable {prog : Program} {w : World} {A : Around} {s : Shared}
noncomputable abbrev set0 (w : World) : Obj := { cls := .type "set", dict := none, data := .set #[] 0 (tabK (!byT w) []) }
end
end DL

namespace DL
open PySem PySem.Spec PyProof.Rows L2
section
variable {prog : Program} {w : World} {A : Around} {E : Value → Shared → Prop} {s : Shared}
end
end DL

namespace DL
open PySem PySem.Spec PyProof.Rows L2
section
variable {prog : Program} {w : World} {A : Around} {E : Value → Shared → Prop} {s : Shared}
end
end DL

namespace DL
open PySem PySem.Spec PyProof.Rows L2
section
variable {prog : Program} {w : World} {A : Around} {E : Value → Shared → Prop} {s : Shared}
end
section
variable {X : Cx} {sd : List Slot} {e : Expr} {pos : Pos}
end
end DL

namespace DL
open PySem PySem.Spec PyProof.Rows L2
section
variable {prog : Program} {w : World} {A : Around} {E : Value → Shared → Prop} {s : Shared}
end
section
variable {prog : Program} {w : World} {A : Around} {E : Value → Shared → Prop} {s : Shared}
end
section
variable {X : Cx} {sd : List Slot} {e a b c tg iter : Expr} {es : List Expr} {pos : Pos} {r ra rb : R} {d : D} {ds : List D} {st : Stmt} {rest : List Stmt} {E : EndD}
end

section
variable {prog : Program} {w : World} {A : Around} {E : Value → Shared → Prop} {s : Shared}
end
section
variable {X : Cx} {sd : List Slot} {e a b c tg iter : Expr} {es : List Expr} {pos : Pos} {r ra rb : R} {d : D} {ds : List D} {st : Stmt} {rest : List Stmt} {E : EndD}
end
end DL

namespace DL
open PySem PySem.Spec PyProof.Rows L2
section
variable {prog : Program} {w : World} {A : Around} {E : Value → Shared → Prop} {s : Shared}
end
section
variable {X : Cx} {sd : List Slot} {e a b c tg iter : Expr} {es : List Expr} {pos : Pos} {r ra rb : R} {d : D} {ds : List D} {st : Stmt} {rest : List Stmt} {E : EndD}
end
end DL

namespace DL
open PySem PySem.Spec PyProof.Rows L2
noncomputable def agree (bs : List Nat) (ws vs : List Int) : Prop := ∀ b ∈ bs, ws.getD b 0 = vs.getD b 0
theorem agree.trans {bs : List Nat} {ws vs us : List Int} (a : agree bs ws vs) (b : agree bs vs us) : agree bs ws us := fun x hx => (a x hx).trans (b x hx)
section
variable {p : Int × Int} {L : List SK} {look : List Nat}
end
section
variable (L : List SK) (look row : List Nat)
end
noncomputable def celQ (ns : List Int) (st m : Nat) : List Int := (List.range m).map fun k => ns.getD (st + k) 0
noncomputable def CCelQ : List D → R → Prop := fun ds r => ∃ (ns : List Int) (st m : Nat), st ≤ 100 ∧ m ≤ 100 ∧ ds = [.scr ns, .int (st : Int), .int (m : Int)] ∧ r = .own ((celQ ns st m).map D.int)
/-- a stock drawn -/
noncomputable def ktN (p : Int × Int) (ns : List Int) (st : Nat) (d : Int) : Nat → List SK
  | 0 => []
  | t + 1 => if ((ktN p ns st d t).map skD |>.map fstQ).any (fun z => deq z (sqD (stpQ p (mixQ (ns.getD (st + t) 0) (t + 1))))) then ktN p ns st d t else ktN p ns st d t ++ [(stpQ p (mixQ (ns.getD (st + t) 0) (t + 1)), 1 + mixQ (ns.getD (st + t) 0) (t + 1) / 10 ^ 6 % d)]
where
  fstQ : D → D
    | .tup (x :: _) => x
    | _ => .non
theorem ktN_ok {p : Int × Int} (hp : p ∈ sizes14) (ns : List Int) (st : Nat) {d : Int} (h1 : 1 ≤ d) (h9 : d ≤ 9) : ∀ t, (ktN p ns st d t).length ≤ t ∧ (0 < t → 0 < (ktN p ns st d t).length) ∧ ∀ s ∈ ktN p ns st d t, SqOk p s.1 ∧ 1 ≤ s.2 ∧ s.2 ≤ 9
  | 0 => ⟨Nat.le_refl _, fun h => by omega, fun s hs => by cases hs⟩
  | t + 1 => by
    obtain ⟨a, b, c⟩ := ktN_ok hp ns st h1 h9 t
    unfold ktN
    split
    · rename_i h
      refine ⟨by omega, fun _ => ?_, c⟩
      cases e : ktN p ns st d t with
      | nil =>
        rw [e] at h
        simp at h
      | cons _ _ => simp
    · refine ⟨by rw [List.length_append]; simp; omega, fun _ => by rw [List.length_append]; simp, fun s hs => ?_⟩
      rcases List.mem_append.mp hs with hs | hs
      · exact c s hs
      · have e := List.mem_singleton.mp hs
        subst e
        have r1 := Int.emod_nonneg (mixQ (ns.getD (st + t) 0) (t + 1) / 10 ^ 6) (show d ≠ 0 by omega)
        have r2 := Int.emod_lt_of_pos (mixQ (ns.getD (st + t) 0) (t + 1) / 10 ^ 6) (show 0 < d by omega)
        refine ⟨stpQ_ok hp _, ?_, ?_⟩
        · show (1 : Int) ≤ 1 + _
          omega
        · show 1 + _ ≤ (9 : Int)
          omega
theorem kt_ok {p : Int × Int} (hp : p ∈ sizes14) (ns : List Int) (st : Nat) {d : Int} (h1 : 1 ≤ d) (h9 : d ≤ 9) {m : Nat} (m1 : 0 < m) (m8 : m ≤ 8) : StkOk p (ktN p ns st d m) := by
  obtain ⟨a, b, c⟩ := ktN_ok hp ns st h1 h9 m
  exact ⟨b m1, by omega, c⟩
noncomputable def CKit : List D → R → Prop := fun ds r => ∃ (ns : List Int) (st m : Nat) (p : Int × Int) (d : Int), p ∈ sizes14 ∧ st ≤ 100 ∧ 0 < m ∧ m ≤ 8 ∧ 1 ≤ d ∧ d ≤ 9 ∧ ds = [.scr ns, .int (st : Int), sizD p, .int (m : Int), .int d] ∧ r = .own ((ktN p ns st d m).map skD)
noncomputable def rwQ (cs : List Int) (n : Nat) : List Nat := (List.range cs.length).map fun k => (mixQ (cs.getD k 0) k % (n : Int)).toNat
theorem rwQ_lt (cs : List Int) {n : Nat} (h : 0 < n) : ∀ t ∈ rwQ cs n, t < n := fun t ht => by
  obtain ⟨k, _, rfl⟩ := List.mem_map.mp ht
  have r1 := Int.emod_nonneg (mixQ (cs.getD k 0) k) (show (n : Int) ≠ 0 by omega)
  have r2 := Int.emod_lt_of_pos (mixQ (cs.getD k 0) k) (show (0 : Int) < n by omega)
  omega
theorem rwQ_len (cs : List Int) (n : Nat) : (rwQ cs n).length = cs.length := by simp [rwQ]
noncomputable def CRwQ : List D → R → Prop := fun ds r => ∃ (cs : List Int) (L : List SK), 0 < L.length ∧ cs.length ≤ 100 ∧ ds = [.lst (cs.map D.int), .lst (L.map skD)] ∧ r = .val (.tup (natD (rwQ cs L.length)))
end DL

namespace DL
open PySem PySem.Spec PyProof.Rows L2
/-- what a slot was before: told in the older heap -/
noncomputable def gV (K : PySem.W.Frag) (F0 : Hp) (d : D) : V → Hp → Prop := fun v F => Rep K F0 d v ∧ Same F0 F
noncomputable def GLe (K : PySem.W.Frag) (F0 : Hp) : List Slot → List Slot → Prop
  | [], [] => True
  | z :: zs, u :: us => (u = .un ∨ ∃ d, z = .gh d (gV K F0 d) ∧ u = .val d) ∧ GLe K F0 zs us
  | _, _ => False
theorem GLe.slots {K : PySem.W.Frag} {F0 F H H' : Hp} : ∀ {sd sd' : List Slot} {σ : St}, GLe K F0 sd sd' → SlotsOk K F H sd σ → SlotsOk K F0 H' sd' σ ∧ owned sd' = []
  | [], [], _, _, h => ⟨h, rfl⟩
  | [], _ :: _, _, h, _ => h.elim
  | _ :: _, [], _, h, _ => h.elim
  | x :: xs, y :: ys, σ, h, q => by
    obtain ⟨h1, h2⟩ := h
    obtain ⟨o, r, rfl, a, b⟩ := q
    obtain ⟨c1, c2⟩ := GLe.slots (H' := H') h2 b
    rcases h1 with rfl | ⟨d, rfl, rfl⟩
    · exact ⟨⟨o, r, rfl, trivial, c1⟩, c2⟩
    · obtain ⟨v, e, _, g⟩ := a
      exact ⟨⟨o, r, rfl, ⟨v, e, (g F (Same.refl _)).1⟩, c1⟩, c2⟩
section
variable {X : Cx} {sd : List Slot} {e a b c tg iter o : Expr} {es : List Expr} {pos : Pos} {r ra rb : R} {d d' : D} {ds ls : List D} {st : Stmt} {rest : List Stmt} {E : EndD}
end
end DL

namespace DL
open PySem PySem.Spec PyProof.Rows L2
section
variable {X : Cx} {sd : List Slot} {e a b c tg iter o : Expr} {es : List Expr} {pos : Pos} {r ra rb : R} {d : D} {ds : List D} {st : Stmt} {rest : List Stmt} {E : EndD}
end
end DL

namespace DL
open PySem PySem.Spec PyProof.Rows L2
section
variable {X : Cx} {sd : List Slot} {e a b c tg iter o : Expr} {es : List Expr} {pos : Pos} {r ra rb : R} {d d' : D} {ds ls : List D} {st : Stmt} {rest : List Stmt} {E : EndD}
end
end DL

namespace DL
open PySem PySem.Spec PyProof.Rows L2
/-! ### a list of lists, all of them ours -/
noncomputable def InL (H : Hp) : List Addr → List (List Int) → Prop
  | [], [] => True
  | a :: as, ns :: nss => H a = some (.lst (ns.map V.int)) ∧ InL H as nss
  | _, _ => False
theorem InL.len {H : Hp} : ∀ {as : List Addr} {nss : List (List Int)}, InL H as nss → as.length = nss.length
  | [], [], _ => rfl
  | [], _ :: _, h => h.elim
  | _ :: _, [], h => h.elim
  | _ :: as, _ :: nss, h => by rw [List.length_cons, List.length_cons, InL.len h.2]
theorem InL.mono {H H' : Hp} : ∀ {as : List Addr} {nss : List (List Int)}, InL H as nss → (∀ a ∈ as, ∀ ob, H a = some ob → H' a = some ob) → InL H' as nss
  | [], [], _, _ => trivial
  | [], _ :: _, h, _ => h.elim
  | _ :: _, [], h, _ => h.elim
  | a :: as, _ :: nss, h, k => ⟨k a List.mem_cons_self _ h.1, InL.mono h.2 fun b hb => k b (List.mem_cons_of_mem _ hb)⟩
theorem InL.app {H : Hp} : ∀ {as bs : List Addr} {nss mss : List (List Int)}, InL H as nss → InL H bs mss → InL H (as ++ bs) (nss ++ mss)
  | [], bs, [], mss, _, h => h
  | [], _, _ :: _, _, h, _ => h.elim
  | _ :: _, _, [], _, h, _ => h.elim
  | a :: as, bs, _ :: nss, mss, h, g => ⟨h.1, InL.app h.2 g⟩
theorem InL.get {H : Hp} : ∀ {as : List Addr} {nss : List (List Int)} {t : Nat} {a : Addr}, InL H as nss → as[t]? = some a → ∃ ns, nss[t]? = some ns ∧ H a = some (.lst (ns.map V.int))
  | [], [], t, a, _, e => by simp at e
  | [], _ :: _, _, _, h, _ => h.elim
  | _ :: _, [], _, _, h, _ => h.elim
  | b :: as, ns :: nss, 0, a, h, e => by
    have : b = a := by simpa using e
    subst this
    exact ⟨ns, rfl, h.1⟩
  | b :: as, ns :: nss, t + 1, a, h, e => by
    obtain ⟨ms, e1, e2⟩ := InL.get (t := t) h.2 (by simpa using e)
    exact ⟨ms, by simpa using e1, e2⟩
theorem InL.of {H : Hp} {as : List Addr} {nss : List (List Int)} (h : InL H as nss) : ∀ a ∈ as, ∃ ns : List Int, H a = some (.lst (ns.map V.int)) := fun a ha => by
  obtain ⟨t, ht⟩ := List.getElem?_of_mem ha
  obtain ⟨ns, _, e⟩ := h.get ht
  exact ⟨ns, e⟩
theorem InL.set {H : Hp} : ∀ {as : List Addr} {nss : List (List Int)} {t : Nat} {a : Addr} (ms : List Int), as.Nodup → InL H as nss → as[t]? = some a → InL (upd H a (.lst (ms.map V.int))) as (nss.set t ms)
  | [], [], t, a, _, _, _, e => by simp at e
  | [], _ :: _, _, _, _, _, h, _ => h.elim
  | _ :: _, [], _, _, _, _, h, _ => h.elim
  | b :: as, ns :: nss, 0, a, ms, nd, h, e => by
    have : b = a := by simpa using e
    subst this
    refine ⟨upd_same, h.2.mono fun c hc ob q => ?_⟩
    rw [upd_ne (show c ≠ b from fun z => (List.nodup_cons.mp nd).1 (z ▸ hc))]
    exact q
  | b :: as, ns :: nss, t + 1, a, ms, nd, h, e => by
    have e' : as[t]? = some a := by simpa using e
    refine ⟨?_, InL.set ms (List.nodup_cons.mp nd).2 h.2 e'⟩
    rw [upd_ne (show b ≠ a from fun z => (List.nodup_cons.mp nd).1 (z ▸ List.mem_of_getElem? e'))]
    exact h.1
noncomputable def lI (ns : List Int) : D := .lst (ns.map D.int)
theorem ownL_nodup : ∀ {sd : List Slot} {i : Nat} {z : Slot}, (owned sd).Nodup → sd[i]? = some z → (ownL z).Nodup
  | [], _, _, _, e => by simp at e
  | y :: zs, 0, z, h, e => by
    have : y = z := by simpa using e
    subst this
    exact (List.nodup_append.mp (show (ownL y ++ owned zs).Nodup from h)).1
  | y :: zs, i + 1, z, h, e => ownL_nodup (sd := zs) (i := i) (List.nodup_append.mp (show (ownL y ++ owned zs).Nodup from h)).2.1 (by simpa using e)
section
variable {K : PySem.W.Frag} {H₀ F F' H H' : Hp} {σ : St} {sd : List Slot} {i : Nat} {l : Addr} {ls : List Addr} {nss : List (List Int)}
theorem StF.setX {as : List Addr} {G : V → Hp → Hp → Prop} {v : V} (S : StF K H₀ F H σ sd) (i : Nat) (q : SlotOk K F H (.ox as G) (some v)) (nd : as.Nodup) (no : ∀ a ∈ as, a ∉ owned sd) : StF K H₀ F H (σ.set i (some v)) (sd.set i (.ox as G)) :=
  ⟨S.base, S.sub, S.smp, S.slots.set (z := .ox as G) q i, (owned_set (z := .ox as G) i S.nd (fun l e => .inl (no l e)) nd).1⟩
/-- what a slot owns is written -/
theorem StF.reX {z z' : Slot} {o : Option V} (S : StF K H₀ F H σ sd) (hs : sd[i]? = some z) (ho : σ[i]? = some o) (keep : ∀ b ob, b ∉ ownL z → H b = some ob → H' b = some ob) (sm : Smp H') (q : SlotOk K F H' z' o) (nd : (ownL z').Nodup) (no : ∀ a ∈ ownL z', a ∈ ownL z ∨ a ∉ owned sd) : StF K H₀ F H' σ (sd.set i z') := by
  have S0 := S.le (le_set_un sd i)
  have mz : ∀ a ∈ ownL z, a ∈ owned sd := fun a ha => List.mem_flatMap.mpr ⟨z, List.mem_of_getElem? hs, ha⟩
  refine ⟨S.base, fun b u e => ?_, sm, ?_, ?_⟩
  · refine keep b u (fun hb => ?_) (S.sub _ _ e)
    have := (S.slots.owns (mz b hb)).1
    rw [e] at this
    cases this
  · have q1 : SlotsOk K F H' (sd.set i .un) σ := S0.slots.mono (Same.refl _) fun a ha => ⟨(S0.slots.owns ha).1, fun ob e => keep a ob (fun hb => not_ownedZ S.nd hs hb ha) e⟩
    have q2 := q1.set (z := z') (o := o) q i
    rw [set_set, set_same ho] at q2
    exact q2
  · have := owned_set (z := z') i S0.nd (fun a ha => by
      rcases no a ha with h | h
      · exact .inl (not_ownedZ S.nd hs h)
      · exact .inl fun hm => h ((le_set_un sd i).own.subset hm)) nd
    rw [set_set] at this
    exact this.1
/-- frozen for a while -/
noncomputable def inF (F H : Hp) (as : List Addr) : Hp := fun b => if b ∈ as then H b else F b
theorem inF_in {as : List Addr} {b : Addr} (h : b ∈ as) : inF F H as b = H b := if_pos h
theorem inF_ni {as : List Addr} {b : Addr} (h : b ∉ as) : inF F H as b = F b := if_neg h
theorem inF_sub {as : List Addr} (h : ∀ a ∈ as, F a = none) : Same F (inF F H as) := fun b u e => by
  rw [inF_ni (fun hb => by rw [h b hb] at e; cases e)]
  exact e
theorem StF.inN (S : StF K H₀ F H σ sd) (h0 : ∀ a ∈ l :: ls, F a = none) (no : ∀ a ∈ l :: ls, a ∉ owned sd) : StF K H₀ (inF F H (l :: ls)) H σ sd ∧ Same F (inF F H (l :: ls)) := by
  have s1 := inF_sub (H := H) h0
  refine ⟨⟨fun b u e => s1 _ _ (S.base _ _ e), fun b u e => ?_, S.smp, S.slots.mono s1 fun a ha => ⟨?_, fun ob e => e⟩, S.nd⟩, s1⟩
  · by_cases h : b ∈ l :: ls
    · rw [inF_in h] at e
      exact e
    · rw [inF_ni h] at e
      exact S.sub _ _ e
  · rw [inF_ni (fun hb => no a hb ha)]
    exact (S.slots.owns ha).1
noncomputable def outF (F : Hp) : List Addr → Hp
  | [] => F
  | a :: as => del (outF F as) a
theorem outF_ni : ∀ {as : List Addr} {a : Addr}, a ∉ as → outF F as a = F a
  | [], _, _ => rfl
  | b :: as, a, h => by
    show del (outF F as) b a = F a
    rw [del_ne (show a ≠ b from fun e => h (e ▸ List.mem_cons_self))]
    exact outF_ni fun z => h (List.mem_cons_of_mem _ z)
theorem Rep.delN {d : D} {v : V} (hn : noL d = true) (r : Rep K F d v) : ∀ {as : List Addr}, as.Nodup → (∀ a ∈ as, ∃ xs, F a = some (.lst xs)) → Rep K (outF F as) d v
  | [], _, _ => r
  | a :: as, nd, h => by
    obtain ⟨n1, n2⟩ := List.nodup_cons.mp nd
    obtain ⟨xs, e⟩ := h a List.mem_cons_self
    exact Rep.del (xs := xs) (by rw [outF_ni n1]; exact e) hn (Rep.delN hn r n2 fun b hb => h b (List.mem_cons_of_mem _ hb))
theorem RepL.delN {ds : List D} {vs : List V} (hn : noLs ds = true) (r : RepL K F ds vs) : ∀ {as : List Addr}, as.Nodup → (∀ a ∈ as, ∃ xs, F a = some (.lst xs)) → RepL K (outF F as) ds vs
  | [], _, _ => r
  | a :: as, nd, h => by
    obtain ⟨n1, n2⟩ := List.nodup_cons.mp nd
    obtain ⟨xs, e⟩ := h a List.mem_cons_self
    exact RepL.del (xs := xs) (by rw [outF_ni n1]; exact e) hn (RepL.delN hn r n2 fun b hb => h b (List.mem_cons_of_mem _ hb))
end
section
variable {X : Cx} {sd : List Slot} {e a b c tg iter o : Expr} {es : List Expr} {pos : Pos} {r ra rb : R} {d : D} {ds : List D} {st : Stmt} {rest : List Stmt} {E : EndD} {l : Addr} {ls : List Addr} {nss : List (List Int)} {ns : List Int}
theorem smp_upd {H : Hp} {xs : List V} (h : Smp H) (a : Addr) : Smp (upd H a (.lst xs)) := fun b u e => by
  by_cases z : b = a
  · subst z
    rw [upd_same] at e
    cases e
    trivial
  · rw [upd_ne z] at e
    exact h _ _ e
/-- a name for one of the lists -/
noncomputable def isA (a : Addr) : Slot := .ox [] fun v _ _ => v = .ref a
theorem isA_get {K : PySem.W.Frag} {H₀ F H : Hp} {σ : St} {j : Nat} {a : Addr} (S : StF K H₀ F H σ sd) (hs : sd[j]? = some (isA a)) : σ[j]? = some (some (.ref a)) := by
  obtain ⟨o, h1, v, h2, h3, h4⟩ := S.slots.get hs
  have e := h4 F H (Same.refl _) fun _ _ _ q => q
  subst e h2
  exact h1
end
end DL

namespace DL
open PySem PySem.Spec PyProof.Rows L2
/-! ### a comprehension whose items are fresh lists -/
noncomputable def InD (K : PySem.W.Frag) (F H : Hp) : List Addr → List (List D) → Prop
  | [], [] => True
  | a :: as, ds :: dss => (∃ xs, H a = some (.lst xs) ∧ RepL K F ds xs) ∧ InD K F H as dss
  | _, _ => False
section
variable {K : PySem.W.Frag} {F F' H H' : Hp}
theorem InD.len : ∀ {as : List Addr} {dss : List (List D)}, InD K F H as dss → as.length = dss.length
  | [], [], _ => rfl
  | [], _ :: _, h => h.elim
  | _ :: _, [], h => h.elim
  | _ :: as, _ :: dss, h => by rw [List.length_cons, List.length_cons, InD.len h.2]
theorem InD.of : ∀ {as : List Addr} {dss : List (List D)}, InD K F H as dss → ∀ a ∈ as, ∃ xs, H a = some (.lst xs)
  | [], [], _, a, ha => by cases ha
  | [], _ :: _, h, _, _ => h.elim
  | _ :: _, [], h, _, _ => h.elim
  | b :: as, _ :: dss, h, a, ha => by
    rcases List.mem_cons.mp ha with rfl | ha
    · exact ⟨h.1.choose, h.1.choose_spec.1⟩
    · exact InD.of h.2 a ha
theorem InD.mono : ∀ {as : List Addr} {dss : List (List D)}, InD K F F as dss → Same F F' → InD K F' F' as dss
  | [], [], _, _ => trivial
  | [], _ :: _, h, _ => h.elim
  | _ :: _, [], h, _ => h.elim
  | _ :: as, _ :: dss, h, s => by
    obtain ⟨⟨xs, e, r⟩, h2⟩ := h
    exact ⟨⟨xs, s _ _ e, r.mono s⟩, InD.mono h2 s⟩
theorem InD.app : ∀ {as bs : List Addr} {dss ess : List (List D)}, InD K F H as dss → InD K F H bs ess → InD K F H (as ++ bs) (dss ++ ess)
  | [], bs, [], ess, _, h => h
  | [], _, _ :: _, _, h, _ => h.elim
  | _ :: _, _, [], _, h, _ => h.elim
  | a :: as, bs, _ :: dss, ess, h, g => ⟨h.1, InD.app h.2 g⟩
theorem InD.out {cs : List Addr} {Fb : Hp} : ∀ {as : List Addr} {dss : List (List D)}, InD K Fb Fb as dss → (∀ es ∈ dss, noLs es = true) → cs.Nodup → (∀ a ∈ cs, ∃ xs, Fb a = some (.lst xs)) → Same (outF Fb cs) F' → (∀ a ∈ as, ∀ ob, Fb a = some ob → H' a = some ob) → InD K F' H' as dss
  | [], [], _, _, _, _, _, _ => trivial
  | [], _ :: _, h, _, _, _, _, _ => h.elim
  | _ :: _, [], h, _, _, _, _, _ => h.elim
  | a :: as, es :: dss, h, hn, nd, fx, s, k => by
    obtain ⟨⟨xs, e, r⟩, h2⟩ := h
    exact ⟨⟨xs, k a List.mem_cons_self _ e, (RepL.delN (hn es List.mem_cons_self) r nd fx).mono s⟩, InD.out h2 (fun x hx => hn x (List.mem_cons_of_mem _ hx)) nd fx s fun b hb => k b (List.mem_cons_of_mem _ hb)⟩
end
noncomputable def GD (K : PySem.W.Frag) (l : Addr) (ls : List Addr) (dss : List (List D)) : V → Hp → Hp → Prop := fun v F H => v = .ref l ∧ H l = some (.lst (ls.map V.ref)) ∧ InD K F H ls dss
section
variable {X : Cx} {sd : List Slot} {e a b c tg iter : Expr} {es : List Expr} {pos : Pos} {r ra rb : R} {d : D} {ds : List D} {st : Stmt} {rest : List Stmt} {E : EndD}
end
end DL

namespace DL
open PySem PySem.Spec PyProof.Rows L2
/-! ### a list of fresh lists in a slot -/
noncomputable def oD (K : PySem.W.Frag) (l : Addr) (ls : List Addr) (dss : List (List D)) : Slot := .ox (l :: ls) (GD K l ls dss)
section
variable {K : PySem.W.Frag} {H₀ F F' H H' : Hp} {σ : St} {sd : List Slot} {i : Nat} {l : Addr} {ls : List Addr} {dss : List (List D)}
theorem InD.mono2 : ∀ {as : List Addr} {dss : List (List D)}, InD K F H as dss → Same F F' → (∀ a ∈ as, ∀ ob, H a = some ob → H' a = some ob) → InD K F' H' as dss
  | [], [], _, _, _ => trivial
  | [], _ :: _, h, _, _ => h.elim
  | _ :: _, [], h, _, _ => h.elim
  | a :: as, _ :: dss, h, s, k => by
    obtain ⟨⟨xs, e, r⟩, h2⟩ := h
    exact ⟨⟨xs, k a List.mem_cons_self _ e, r.mono s⟩, InD.mono2 h2 s fun b hb => k b (List.mem_cons_of_mem _ hb)⟩
theorem InD.get : ∀ {as : List Addr} {dss : List (List D)} {t : Nat} {a : Addr}, InD K F H as dss → as[t]? = some a → ∃ ds xs, dss[t]? = some ds ∧ H a = some (.lst xs) ∧ RepL K F ds xs
  | [], [], t, a, _, e => by simp at e
  | [], _ :: _, _, _, h, _ => h.elim
  | _ :: _, [], _, _, h, _ => h.elim
  | b :: as, ds :: dss, 0, a, h, e => by
    have : b = a := by simpa using e
    subst this
    obtain ⟨⟨xs, e1, r⟩, _⟩ := h
    exact ⟨ds, xs, rfl, e1, r⟩
  | b :: as, ds :: dss, t + 1, a, h, e => by
    obtain ⟨ms, xs, e1, e2⟩ := InD.get (t := t) h.2 (by simpa using e)
    exact ⟨ms, xs, by simpa using e1, e2⟩
theorem InD.set : ∀ {as : List Addr} {dss : List (List D)} {t : Nat} {a : Addr} {es : List D} {ys : List V}, as.Nodup → InD K F H as dss → as[t]? = some a → RepL K F es ys → InD K F (upd H a (.lst ys)) as (dss.set t es)
  | [], [], t, a, _, _, _, _, e, _ => by simp at e
  | [], _ :: _, _, _, _, _, _, h, _, _ => h.elim
  | _ :: _, [], _, _, _, _, _, h, _, _ => h.elim
  | b :: as, ds :: dss, 0, a, es, ys, nd, h, e, r => by
    have : b = a := by simpa using e
    subst this
    refine ⟨⟨ys, upd_same, r⟩, h.2.mono2 (Same.refl _) fun c hc ob q => ?_⟩
    rw [upd_ne (show c ≠ b from fun z => (List.nodup_cons.mp nd).1 (z ▸ hc))]
    exact q
  | b :: as, ds :: dss, t + 1, a, es, ys, nd, h, e, r => by
    have e' : as[t]? = some a := by simpa using e
    obtain ⟨⟨xs, e1, r1⟩, h2⟩ := h
    refine ⟨⟨xs, ?_, r1⟩, InD.set (List.nodup_cons.mp nd).2 h2 e' r⟩
    rw [upd_ne (show b ≠ a from fun z => (List.nodup_cons.mp nd).1 (z ▸ List.mem_of_getElem? e'))]
    exact e1
theorem rep_dss {G : Hp} : ∀ {as : List Addr} {dss : List (List D)}, InD K G G as dss → RepL K G (dss.map D.lst) (as.map V.ref)
  | [], [], _ => .nil
  | [], _ :: _, h => h.elim
  | _ :: _, [], h => h.elim
  | a :: as, ds :: dss, h => by
    obtain ⟨⟨xs, e, r⟩, h2⟩ := h
    rw [List.map_cons, List.map_cons]
    refine .cons ?_ (rep_dss h2)
    simp only [Rep]
    exact ⟨a, xs, rfl, e, r⟩
end
section
variable {X : Cx} {sd : List Slot} {e a b c tg iter o : Expr} {es : List Expr} {pos : Pos} {r ra rb : R} {d : D} {ds : List D} {st : Stmt} {rest : List Stmt} {E : EndD} {l : Addr} {ls : List Addr} {dss : List (List D)}
end
end DL

namespace DL
open PySem PySem.Spec PyProof.Rows L2
section
variable {X : Cx} {sd : List Slot} {e a b c ix : Expr} {pos : Pos} {d : D} {ds : List D} {E : EndD} {l : Addr} {ls : List Addr} {dss : List (List D)}
end
end DL

namespace DL
open PySem PySem.Spec PyProof.Rows L2
noncomputable def wsD : Option (List (List Int)) → D
  | none => .non
  | some L => .lst (L.map tupI)
noncomputable def WsOk (p : Int × Int) (o : Option (List (List Int))) : Prop := ∀ L, o = some L → 0 < L.length ∧ L.length ≤ 100 ∧ ∀ ws ∈ L, Fil p ws
structure WishOk (p : Int × Int) (w : List (Option (List (List Int)))) : Prop where
  len : w.length = (filA p).length
  ok : ∀ o ∈ w, WsOk p o
theorem any_tups (L : List (List Int)) (t : List Int) : ((L.map tupI).any fun z => deq z (tupI t)) = decide (t ∈ L) := by
  induction L with
  | nil => simp
  | cons a L ih =>
    rw [List.map_cons, List.any_cons, ih, deq_tupI]
    by_cases h : t = a
    · simp [h]
    · have h2 : ¬ a = t := fun q => h q.symm
      simp [h, h2]
end DL

namespace DL
open PySem PySem.Spec PyProof.Rows L2
/-! ### wishes like tables -/
noncomputable def wdQ (bs : List Nat) (f : List Int) : List Int := bs.map fun j => f.getD j 0
end DL

namespace DL
open PySem PySem.Spec PyProof.Rows L2
section
variable {X : Cx} {sd : List Slot} {e a b c : Expr} {pos : Pos} {ds : List D}
/-- a statement after which all ways meet at the slots sd' -/
theorem PSd1.imp {st : Stmt} {E E' : EndD} (h : PSd1 X sd st E) (k1 : ∀ sd, E.nx sd → E'.nx sd) (k2 : ∀ r, E.rt r → E'.rt r) (k3 : ∀ sd, E.bk sd → E'.bk sd) (k4 : ∀ sd, E.ct sd → E'.ct sd) : PSd1 X sd st E' := .mk fun σ F H S =>
  wS.imp (h σ F H S) (fun _ _ ⟨sd2, F2, S2, s2, q2⟩ => ⟨sd2, F2, S2, s2, k1 _ q2⟩) (fun _ _ ⟨r, q, q2⟩ => ⟨r, q, k2 _ q2⟩) (fun _ _ ⟨sd2, F2, S2, s2, q2⟩ => ⟨sd2, F2, S2, s2, k3 _ q2⟩) fun _ _ ⟨sd2, F2, S2, s2, q2⟩ => ⟨sd2, F2, S2, s2, k4 _ q2⟩
theorem psd_consJ (sd' : List Slot) {st : Stmt} {rest : List Stmt} {E : EndD} (h : PSd1 X sd st { E with nx := fun s => Le s sd' }) (h3 : PSd X sd' rest E) : PSd X sd (st :: rest) E :=
  psd_cons (PSd1.imp h (fun s hs => psd_le hs h3) (fun _ q => q) (fun _ q => q) fun _ q => q)
end
end DL

namespace DL
open PySem PySem.Spec PyProof.Rows L2
section
variable {prog : Program} {w : World} {A : Around} {E : Value → Shared → Prop} {s : Shared}
end
section
variable {X : Cx} {sd : List Slot} {E : EndD} {e a b o : Expr} {ds es : List D} {d : D} {pos : Pos}
end
end DL

namespace DL
open PySem PySem.Spec PyProof.Rows L2
/-! ### turns -/
structure TurnOk (n : Nat) (τ : List Nat) : Prop where
  len : τ.length = n
  lt : ∀ b ∈ τ, b < n
  mem : ∀ b, b < n → b ∈ τ
  nd : τ.Nodup
noncomputable def backQ (τ : List Nat) : List Nat := (List.range τ.length).map fun b => τ.idxOf b
noncomputable def tsQ (τ : List Nat) (q : SQ) : SQ := (q.1, ((τ.getD q.2.1.toNat 0 : Nat) : Int), ((τ.getD q.2.2.1.toNat 0 : Nat) : Int), q.2.2.2)
section
variable {n : Nat} {τ : List Nat}
theorem TurnOk.at (T : TurnOk n τ) {i : Nat} (h : i < n) : τ.getD i 0 < n := by
  have h' : i < τ.length := by rw [T.len]; exact h
  have e : τ.getD i 0 = τ[i] := by simp [List.getD, h']
  rw [e]
  exact T.lt _ (List.getElem_mem h')
theorem TurnOk.idx (T : TurnOk n τ) {i : Nat} (h : i < n) : τ.idxOf (τ.getD i 0) = i := by
  have h' : i < τ.length := by rw [T.len]; exact h
  have e : τ.getD i 0 = τ[i] := by simp [List.getD, h']
  rw [e]
  exact T.nd.idxOf_getElem i h'
theorem TurnOk.idx_lt (T : TurnOk n τ) {b : Nat} (h : b < n) : τ.idxOf b < n := by
  have := List.idxOf_lt_length_of_mem (T.mem b h)
  rw [T.len] at this
  exact this
theorem TurnOk.get_idx (T : TurnOk n τ) {b : Nat} (h : b < n) : τ.getD (τ.idxOf b) 0 = b := by
  have h' := List.idxOf_lt_length_of_mem (T.mem b h)
  simp [List.getD, h']
theorem back_len : (backQ τ).length = τ.length := by simp [backQ]
theorem TurnOk.back (T : TurnOk n τ) : TurnOk n (backQ τ) := by
  refine ⟨by rw [back_len, T.len], fun b hb => ?_, fun b hb => ?_, ?_⟩
  · obtain ⟨c, hc, rfl⟩ := List.mem_map.mp hb
    rw [List.mem_range, T.len] at hc
    exact T.idx_lt hc
  · refine List.mem_map.mpr ⟨τ.getD b 0, ?_, T.idx hb⟩
    rw [List.mem_range, T.len]
    exact T.at hb
  · unfold backQ
    refine List.nodup_iff_pairwise_ne.mpr (List.pairwise_map.mpr ?_)
    have : (List.range τ.length).Nodup := List.nodup_range
    refine (List.nodup_iff_pairwise_ne.mp this).imp_of_mem fun {a b} ha hb hne z => hne ?_
    rw [List.mem_range, T.len] at ha hb
    have : τ.getD (τ.idxOf a) 0 = τ.getD (τ.idxOf b) 0 := by rw [z]
    rwa [T.get_idx ha, T.get_idx hb] at this
end
/-! ### what is told of turns -/
structure SqN (n : Nat) (q : SQ) : Prop where
  k10 : q.1 < 10
  i0 : 0 ≤ q.2.1 ∧ q.2.1 < n
  j0 : 0 ≤ q.2.2.1 ∧ q.2.2.1 < n
theorem SqOk.b {p : Int × Int} {q : SQ} (O : SqOk p q) : SqN p.2.toNat q := by
  have hi := O.i0
  have hj := O.j0
  exact ⟨O.k10, ⟨hi.1, by omega⟩, ⟨hj.1, by omega⟩⟩
theorem SqN.ts {n : Nat} {τ : List Nat} {q : SQ} (T : TurnOk n τ) (O : SqN n q) : SqN n (tsQ τ q) := by
  have hi := O.i0
  have hj := O.j0
  have a := T.at (i := q.2.1.toNat) (by omega)
  have b := T.at (i := q.2.2.1.toNat) (by omega)
  exact ⟨O.k10, ⟨by simp only [tsQ]; omega, by simp only [tsQ]; omega⟩, ⟨by simp only [tsQ]; omega, by simp only [tsQ]; omega⟩⟩
end DL

namespace DL
open PySem PySem.Spec PyProof.Rows L2
section
variable {X : Cx} {sd : List Slot} {e a b c tg iter o : Expr} {es : List Expr} {pos : Pos} {r ra rb : R} {d d' : D} {ds ls : List D} {ks : List Key} {st : Stmt} {rest : List Stmt} {E : EndD}
theorem StF.h0 {σ : St} {F H : Hp} {l : Addr} (S : StF X.K X.B₀ F H σ sd) (n : F l = none) : ∀ o, X.H₀ l = some o → ∃ xs, o = .lst xs := fun o q => Classical.byContradiction fun k => by
  have := S.base _ _ (X.hB l o q fun xs z => k ⟨xs, z⟩)
  rw [n] at this
  cases this
end
end DL
namespace DL
open PySem PySem.Spec PyProof.Rows L2
section
variable {X : Cx} {sd : List Slot} {e : Expr} {pos : Pos}
end
end DL

namespace DL
open PySem PySem.Spec PyProof.Rows L2
/-! ### a dict of ours whose keys are tuples -/
noncomputable def exO (l : Addr) (o : Obj) : HO := .ext (fun h => h.get? l = some o)
theorem exO_ok {P : Program} {w : World} {H : Hp} {h : Heap} {l : Addr} {o : Obj} (g : h.get? l = some o) : ObjOk P w H h l (exO l o) := ⟨g, ⟨o, g⟩, fun _ _ q k => k _ q⟩
noncomputable def TDo (P : Program) (w : World) (F : Hp) (l : Addr) (o : Obj) (kvs : List (List Key × V)) : Prop :=
  kvs.length ≤ sizeLine ∧ (l == sysModules) = false ∧ ∃ xs, KT F kvs xs ∧ ∃ es ep, o.ExactDict ∧ o.data = .dict es ep ∧ es.toList = xs.map (entryOfKey (tupleKind (mixKind P w))) ∧ (xs.map (·.1)).Nodup
theorem TDo.mono {P : Program} {w : World} {F F' : Hp} {l : Addr} {o : Obj} {kvs : List (List Key × V)} (t : TDo P w F l o kvs) (s : Same F F') : TDo P w F' l o kvs := by
  obtain ⟨z, y, xs, r, q⟩ := t
  exact ⟨z, y, xs, r.keeps fun b ys e => s _ _ e, q⟩
theorem KT.all {P : Program} {w : World} {H : Hp} {h : Heap} (ok : HOk P w H h) {l : List (List Key × V)} {m : List (List Key × Addr × Value)} (q : KT H l m) : ∀ x ∈ m, (tupleKind (mixKind P w)).is h x.1 x.2.1 := by
  induction q with
  | nil => intro x hx; exact nomatch hx
  | @cons p q ps qs hq t ih =>
    intro x hx
    rcases List.mem_cons.mp hx with e | hx
    · subst e
      exact key_of ok (by rw [← hq.1]; exact hq.2.1)
    · exact ih x hx
noncomputable def kD : Key → D
  | .inl i => .int i
  | .inr x => .str x
theorem rep_keys {K : PySem.W.Frag} {F : Hp} : ∀ {k : List Key} {xs : List V}, RepL K F (k.map kD) xs → xs = k.map kV
  | [], xs, r => by simpa only [List.map_nil, RepL] using r
  | a :: k, xs, r => by
    rw [List.map_cons] at r
    obtain ⟨y, ys, rfl, q, rl⟩ := r.uncons
    rw [rep_keys rl, List.map_cons]
    congr 1
    cases a with
    | inl i =>
      simp only [kD, Rep] at q
      exact q
    | inr x =>
      simp only [kD, Rep] at q
      exact q
noncomputable def Gt (P : Program) (w : World) (K : PySem.W.Frag) (l : Addr) (ks : List (List Key)) (ds : List D) : V → Hp → Hp → Prop := fun v F H => v = .ref l ∧ ∃ o xs, H l = some (exO l o) ∧ (∀ v, o.data ≠ .cell v) ∧ RepL K F ds xs ∧ ks.length = ds.length ∧ TDo P w F l o (ks.zip xs)
noncomputable def odT (P : Program) (w : World) (K : PySem.W.Frag) (l : Addr) (ks : List (List Key)) (ds : List D) : Slot := .ox [l] (Gt P w K l ks ds)
theorem zipT_snoc {α β : Type} {xs : List α} {ys : List β} (h : xs.length = ys.length) (x : α) (y : β) : (xs ++ [x]).zip (ys ++ [y]) = xs.zip ys ++ [(x, y)] := by
  rw [List.zip_append h]
  rfl
theorem valT_at : ∀ {ks : List (List Key)} {xs : List V} {n : Nat} {k : List Key} {x : V}, ks.Nodup → ks[n]? = some k → xs[n]? = some x → valV (ks.zip xs) k = some x
  | [], _, n, _, _, _, h, _ => by simp at h
  | _ :: _, [], n, _, _, _, _, h => by simp at h
  | j :: js, y :: ys, 0, k, x, nd, h1, h2 => by
    have e1 : j = k := by simpa using h1
    have e2 : y = x := by simpa using h2
    rw [List.zip_cons_cons, valV_pos e1, e2]
  | j :: js, y :: ys, n + 1, k, x, nd, h1, h2 => by
    obtain ⟨nj, nd⟩ := List.nodup_cons.mp nd
    have h1 : js[n]? = some k := by simpa using h1
    have h2 : ys[n]? = some x := by simpa using h2
    rw [List.zip_cons_cons, valV_neg (p := (j, y)) (k := k) (fun e => nj ((show j = k from e) ▸ List.mem_of_getElem? h1))]
    exact valT_at nd h1 h2
theorem ownT_nodup : ∀ {sd : List Slot} {i : Nat} {z : Slot}, (owned sd).Nodup → sd[i]? = some z → (ownL z).Nodup
  | [], _, _, _, e => by simp at e
  | y :: zs, 0, z, h, e => by
    have : y = z := by simpa using e
    subst this
    exact (List.nodup_append.mp (show (ownL y ++ owned zs).Nodup from h)).1
  | y :: zs, i + 1, z, h, e => ownT_nodup (sd := zs) (i := i) (List.nodup_append.mp (show (ownL y ++ owned zs).Nodup from h)).2.1 (by simpa using e)
section
variable {K : PySem.W.Frag} {H₀ F F' H H' : Hp} {σ : St} {sd : List Slot} {i : Nat} {l : Addr} {P : Program} {w : World} {ks : List (List Key)} {ds : List D}
theorem StF.setT {as : List Addr} {G : V → Hp → Hp → Prop} {v : V} (S : StF K H₀ F H σ sd) (i : Nat) (q : SlotOk K F H (.ox as G) (some v)) (nd : as.Nodup) (no : ∀ a ∈ as, a ∉ owned sd) : StF K H₀ F H (σ.set i (some v)) (sd.set i (.ox as G)) :=
  ⟨S.base, S.sub, S.smp, S.slots.set (z := .ox as G) q i, (owned_set (z := .ox as G) i S.nd (fun l e => .inl (no l e)) nd).1⟩
theorem smp_updE {o : Obj} (h : Smp H) (a : Addr) : Smp (upd H a (exO a o)) := fun b u e => by
  by_cases z : b = a
  · subst z
    rw [upd_same] at e
    cases e
    trivial
  · rw [upd_ne z] at e
    exact h _ _ e
end
section
variable {X : Cx} {sd : List Slot} {e a b c : Expr} {pos : Pos} {d : D} {ds : List D} {ks : List (List Key)} {k : List Key} {st : Stmt} {E : EndD} {l : Addr}
noncomputable def dict0 : Obj := { cls := .type "dict", data := .dict #[] }
theorem pe_dnewE : PE X (.Dict [] [] pos) (fun _ H Q => ∀ p, H p = none → (p == sysModules) = false → Q (.ref p) (upd H p (exO p dict0))) := fun pins s σ H Q I h =>
  wpAny_Dict_empty ⟨.ref s.heap.objs.size, _, I.laid (a := s.heap.objs.size) (o := exO s.heap.objs.size dict0) (t' := s.toks) (fun _ _ q => Heap.get?_push_of_some _ q) (Nat.le_refl _) (exO_ok (Heap.get?_push_size _ rfl)), rfl, h _ (I.hok.fresh (Nat.le_refl _)) (beq_eq_false_iff_ne.mpr (Ne.symm (Nat.ne_of_lt I.big)))⟩
end
end DL

namespace DL
open PySem PySem.Spec PyProof.Rows L2
/-! ### setdefault with a tuple as the key -/
section
variable {prog : Program} {w : World} {K : Type} [DecidableEq K] {knd : HeapKind prog w K} {A : Around} {E : Value → Shared → Prop} {s : Shared}
theorem dictSetDefault_heap {d a : Addr} {xs : List (K × Addr × Value)} {k : K} {v : Value} {Q : Value → Shared → Prop} (hu : knd.room A) (hkey : knd.is s.heap k a) (hm : s.heap.DictOfH knd d xs)
    (hold : ∀ u, (atKey xs k).map (·.2) = some u → Q u { s with toks := s.toks + knd.draws k })
    (hnew : atKey xs k = none → ∀ h', h'.DictOfH knd d (storedH xs k a v) → Heap.SameBut d s.heap h' → Q v { s with heap := h', toks := s.toks + knd.draws k })
    (hsz : xs.length ≤ sizeLine) :
    wpAny (model prog w) A (dictSetDefault d (.ref a) v) Q E s := by
  obtain ⟨o, es, ep, ho, hc, hd, he, his, hn⟩ := hm
  unfold dictSetDefault
  try with_reducible refine wpAny_holding ?_
  refine wpAny_bind (knd.pyHash hu hkey ?_)
  refine wpAny_bind (wpAny_dictFind_heap (s := { s with toks := s.toks + knd.draws k }) hu hkey ho hd he his hn ?_ ?_)
  · intro hno
    have hnot : k ∉ xs.map (·.1) := not_mem_keys_of_get hno
    refine wpAny_bind (wpAny_rule (wpAny_bind (wpAny_updateDictKeys (hz := by have e := size_of_entries he; omega) (s := { s with toks := s.toks + knd.draws k }) ho hd (wpAny_pure (hnew (atKey_none_of_get hno) _ ⟨_, _, ep + 1, Heap.get?_update_self _ ho (Obj.isFreed_of_dict (Obj.data_mapDictKeys hd _)),
      hc.mapDictKeys _, Obj.data_mapDictKeys hd _, ?_, ?_, ?_⟩ (Heap.SameBut.update ..))))))
    · rw [storedH_new (atKey_none_of_get hno)]
      simp [he, entryOfKey]
    · rw [storedH_new (atKey_none_of_get hno)]
      intro x hx
      rcases List.mem_append.mp hx with hx | hx
      · exact knd.keeps (his x hx) ho hd (Heap.SameBut.update ..)
      · simp only [List.mem_singleton] at hx
        subst hx
        exact knd.keeps hkey ho hd (Heap.SameBut.update ..)
    · rw [storedH_new (atKey_none_of_get hno)]
      rw [List.map_append, List.nodup_append]
      refine ⟨hn, by simp, ?_⟩
      intro x hx y hy
      simp only [List.map_cons, List.map_nil, List.mem_singleton] at hy
      subst hy
      exact fun e => hnot (e ▸ hx)
  · intro j p hj
    refine wpAny_bind (wpAny_dictEntries (s := { s with toks := s.toks + knd.draws k }) ho hd ?_)
    rw [entry_at he j, hj]
    have := hold p.2 (by rw [atKey_of_get hn hj]; rfl)
    exact wpAny_bind (wpAny_rule (wpAny_pure this))
end
section
variable {prog : Program} {w : World} {K : Type} [DecidableEq K] (knd : HeapKind prog w K) (d a : Addr)
theorem meetsH_setdefault (hd : (d == sysModules) = false) (dflt : Value) :
    MeetsIn prog w (Builtin.«dict.setdefault» ⟨[.ref d, .ref a, dflt], []⟩) (fun A R s => knd.room A.in1 ∧ ∃ k xs, knd.is s.heap k a ∧ s.heap.DictOfH knd d xs ∧ xs.length ≤ sizeLine ∧
      (∀ u, (atKey xs k).map (·.2) = some u → R (.ok (.ret u)) { s with toks := s.toks + knd.draws k }) ∧
      (atKey xs k = none → ∀ h', h'.DictOfH knd d (storedH xs k a dflt) → Heap.SameBut d s.heap h' → R (.ok (.ret dflt)) { s with heap := h', toks := s.toks + knd.draws k })) :=
  .of_wp fun A R s ⟨hu, k, xs, hkey, hm, hz, h1, h2⟩ => by
    unfold Builtin.«dict.setdefault»
    refine wpAny_bind ?_
    unfold Builtin.Dict.keyAndDefault
    refine wpAny_bind (wpAny_notOrdered_dict hm.typeIs ?_)
    show wpAny _ _ (pure (d, Value.ref a, some dflt)) _ _ s
    refine wpAny_pure ?_
    show wpAny _ _ (if (d == sysModules) = true then _ else (dictSetDefault d (.ref a) dflt >>= _)) _ _ s
    rw [if_neg (by rw [hd]; exact Bool.false_ne_true)]
    exact wpAny_bind (dictSetDefault_heap (hsz := hz) hu hkey hm (fun v hv => wpAny_pure ⟨v, rfl, h1 v hv⟩) fun hn h' hm' hs' => wpAny_pure ⟨dflt, rfl, h2 hn h' hm' hs'⟩)
end
section
variable {X : Cx} {o e : Expr} {es : List Expr} {to : TE} {t : TA} {name : Str} {apos cpos : Pos} {id : String} {r : V → List V → Hp → VK → Prop}
/-- a method of a dict of ours with tuples as keys -/
theorem pe_dm (pa : PlainAttrs "dict") (slot : PySem.Slot "dict" name id) (hty : typeOf (.builtin id) = pure (.type "method_descriptor")) (hm : MtR X id r) (ho : PE X o to) (ha : PA X (e :: es) t)
    (hbase : attributeBase o name X.env (eval o X.env) = eval o X.env := by rfl)
    (hfew : ((backTo cpos (starEach (e :: es) X.env)).all (fun x => !x.1) && (backToKw cpos (keywordEach [] X.env)).all (fun x => x.1.isSome)
      && decide ((e :: es).length + ([] : List Keyword).length + (if ([] : List Keyword).isEmpty then 0 else 1) < 30)) = true := by rfl)
    (hline : (apos.endLine == cpos.line) = true := by rfl) (hs : starEach (e :: es) X.env = (false, eval e X.env) :: starEach es X.env := by rfl) (hplain : (backTo cpos (starEach es X.env)).any (·.1) = false := by rfl) :
    PE X (.Call (.Attribute o name apos) (e :: es) [] cpos) (fun σ H Q => to σ H fun x H1 => (∃ l ob, x = .ref l ∧ H1 l = some (exO l ob) ∧ ob.ExactDict) ∧ t σ H1 fun xs H2 => r x xs H2 Q) := by
  intro pins s σ H Q I h
  refine wpAny_Call_method_late hbase hfew hline rfl (thn (ho pins s σ H _ I h) fun v s1 ⟨x, H1, I1, r1, ⟨l, ob, e1, e2, e3⟩, q1⟩ => ?_)
  subst e1
  obtain rfl : v = Value.ref l := r1
  have hg : s1.heap.get? l = some ob := (I1.hok l _ e2).1
  refine ⟨"dict", id, pa, slot, hty, ⟨ob, hg, e3.1⟩, fun a q => ?_, ?_⟩
  · cases q
    exact ⟨ob, hg, e3.2.1⟩
  have hA := ha cpos pins s1 σ H1 _ I1 q1
  rw [hs] at hA ⊢
  refine Calls.callWith_builtin (by show (false || (backTo cpos (starEach es X.env)).any (·.1)) = false; rw [hplain] <;> rfl) (Calls.evalArgs_plain ?_)
  exact thn hA fun us s2 ⟨vs, H2, I2, r2, q2⟩ => hm pins s2 σ H2 (.ref l) vs (.ref l) us Q I2 rfl r2 q2
/-- what setdefault does -/
noncomputable def rSD (X : Cx) : V → List V → Hp → VK → Prop := fun x vs H Q => ∃ (F : Hp) (l ad : Addr) (k : List Key) (y : V) (o : Obj) (kvs : List (List Key × V)), x = .ref l ∧ vs = [.ref ad, y] ∧ Same F H ∧ H l = some (exO l o) ∧ F ad = some (.tup (k.map kV)) ∧ X.A.units + 1 < cLine ∧
  TDo X.prog X.w F l o kvs ∧ kvs.length + 1 ≤ sizeLine ∧ (∀ z, valV kvs k = some z → Q z H) ∧ (valV kvs k = none → ∀ o', (∀ v, o'.data ≠ .cell v) → TDo X.prog X.w F l o' (kvs ++ [(k, y)]) → Q y (upd H l (exO l o')))
theorem mt_sd : MtR X "dict.setdefault" (rSD X) := by
  intro pins s σ H x vs v us Q I rx rv h
  obtain ⟨F, l, ad, k, y, o, kvs, rfl, rfl, sF, hl, ha, hu, ⟨z, hm, ts, kt, es, ep, t1, t2, t3, t4⟩, hz1, q1, q2⟩ := h
  obtain rfl : v = Value.ref l := rx
  cases rv with
  | cons r1 rv =>
    obtain ⟨u, rfl, ru⟩ := Vals.one rv
    rename_i b
    obtain rfl : b = Value.ref ad := r1
    have ho : s.heap.get? l = some o := (I.hok l _ hl).1
    have ktH : KT H kvs ts := kt.keeps fun b ys e => sF _ _ e
    have dd : s.heap.DictOfH (tupleKind (mixKind X.prog X.w)) l ts := ⟨o, es, ep, ho, t1, t2, t3, KT.all I.hok ktH, t4⟩
    have hz : ts.length ≤ sizeLine := by rw [← Paired.length kt]; exact z
    refine call_meetsIn PySem.F.slot_dict_setdefault dd.typeIs PySem.F.entry_dict_setdefault (PySem.F.args_dict_setdefault_3 _ _ _) (meetsH_setdefault (tupleKind (mixKind X.prog X.w)) l ad hm u) ⟨tupleKind_room_in1 hu, k, ts, key_of I.hok (sF _ _ ha), dd, hz, fun w' hw => ?_, fun hn h' dd' hsm => ?_⟩
    · have rl := ktH.val k
      rw [hw] at rl
      cases hv : valV kvs k with
      | none =>
        rw [hv] at rl
        cases rl
      | some z' =>
        rw [hv] at rl
        exact ⟨z', H, I.tok _, rl, q1 z' hv⟩
    · have hn' : valV kvs k = none := by
        have rl := ktH.val k
        rw [hn] at rl
        cases hv : valV kvs k with
        | none => rfl
        | some z' =>
          rw [hv] at rl
          cases rl
      obtain ⟨q, es', ep', hq, u2, u3, u4, _, u5⟩ := dd'
      have I4 := d_write (t' := s.toks + (tupleKind (mixKind X.prog X.w)).draws k) I (ob := exO l q) (by rw [hl]; exact True.intro) hsm ⟨q, hq⟩ (exO_ok hq)
      have kt' := kt.put k ha ru
      rw [putK_new y hn'] at kt'
      exact ⟨y, _, I4, ru, q2 hn' q (fun v z => by rw [u3] at z; cases z) ⟨by rw [List.length_append]; exact hz1, hm, _, kt', es', ep', u2, u3, u4, u5⟩⟩
end
end DL

namespace DL
open PySem PySem.Spec PyProof.Rows L2
/-! ### a dict of fresh lists, tuples as keys -/
noncomputable def Gg (P : Program) (w : World) (K : PySem.W.Frag) (l : Addr) (ks : List (List Key)) (ls : List Addr) (dss : List (List D)) : V → Hp → Hp → Prop := fun v F H => v = .ref l ∧ (∃ o, H l = some (exO l o) ∧ (∀ v, o.data ≠ .cell v) ∧ ks.length = ls.length ∧ TDo P w F l o (ks.zip (ls.map V.ref))) ∧ InD K F H ls dss
noncomputable def odG (P : Program) (w : World) (K : PySem.W.Frag) (l : Addr) (ks : List (List Key)) (ls : List Addr) (dss : List (List D)) : Slot := .ox (l :: ls) (Gg P w K l ks ls dss)
noncomputable def goR (P : Program) (w : World) (K : PySem.W.Frag) (ks : List (List Key)) (dss : List (List D)) : R := .ox fun v as F H => ∃ l ls, as = l :: ls ∧ Gg P w K l ks ls dss v F H
/-- the same, frozen -/
noncomputable def Gf (P : Program) (w : World) (K : PySem.W.Frag) (ks : List (List Key)) (ds : List D) : V → Hp → Hp → Prop := fun v F _ => ∃ l o xs, v = .ref l ∧ F l = some (exO l o) ∧ RepL K F ds xs ∧ ks.length = ds.length ∧ TDo P w F l o (ks.zip xs)
noncomputable def odF (P : Program) (w : World) (K : PySem.W.Frag) (ks : List (List Key)) (ds : List D) : Slot := .ox [] (Gf P w K ks ds)
theorem valT_some : ∀ {ks : List (List Key)} {xs : List V} {k : List Key} {z : V}, valV (ks.zip xs) k = some z → ∃ n : Nat, ks[n]? = some k ∧ xs[n]? = some z
  | [], _, _, _, h => by cases h
  | _ :: _, [], _, _, h => by cases h
  | j :: js, y :: ys, k, z, h => by
    rw [List.zip_cons_cons] at h
    by_cases e : j = k
    · rw [valV_pos (p := (j, y)) e] at h
      exact ⟨0, by simp [e], by simpa using h⟩
    · rw [valV_neg (p := (j, y)) (k := k) e] at h
      obtain ⟨n, h1, h2⟩ := valT_some h
      exact ⟨n + 1, by simpa using h1, by simpa using h2⟩
theorem valT_no : ∀ {ks : List (List Key)} {xs : List V} {k : List Key}, ks.length = xs.length → valV (ks.zip xs) k = none → k ∉ ks
  | [], _, _, _, _ => by simp
  | _ :: _, [], _, h, _ => by cases h
  | j :: js, y :: ys, k, hl, h => by
    rw [List.zip_cons_cons] at h
    by_cases e : j = k
    · rw [valV_pos (p := (j, y)) e] at h
      cases h
    · rw [valV_neg (p := (j, y)) (k := k) e] at h
      have := valT_no (Nat.succ.inj hl) h
      exact fun hm => (List.mem_cons.mp hm).elim (fun q => e q.symm) this
theorem slot_same {sd : List Slot} {i : Nat} {z : Slot} (h : sd[i]? = some z) : sd.set i z = sd := by
  obtain ⟨hi, e⟩ := List.getElem?_eq_some_iff.mp h
  rw [← e, List.set_getElem_self]
section
variable {K : PySem.W.Frag} {H₀ F F' H H' : Hp} {σ : St} {sd : List Slot} {i : Nat} {l : Addr} {ls : List Addr} {dss : List (List D)} {P : Program} {w : World} {ks : List (List Key)}
theorem odG_get (S : StF K H₀ F H σ sd) (hs : sd[i]? = some (odG P w K l ks ls dss)) : σ[i]? = some (some (.ref l)) ∧ (∀ a ∈ l :: ls, F a = none) ∧ (∃ o, H l = some (exO l o) ∧ (∀ v, o.data ≠ .cell v) ∧ ks.length = ls.length ∧ TDo P w F l o (ks.zip (ls.map V.ref))) ∧ InD K F H ls dss ∧ (l :: ls).Nodup := by
  obtain ⟨o, h1, v, h2, h3, h4⟩ := S.slots.get hs
  obtain ⟨e, q1, q2⟩ := h4 F H (Same.refl _) fun _ _ _ q => q
  subst e h2
  exact ⟨h1, fun a ha => (h3 a ha).1, q1, q2, ownL_nodup S.nd hs⟩
theorem odG_mk {o : Obj} (hF : ∀ a ∈ l :: ls, F a = none) (h1 : H l = some (exO l o)) (nc : ∀ v, o.data ≠ .cell v) (hl : ks.length = ls.length) (t : TDo P w F l o (ks.zip (ls.map V.ref))) (h2 : InD K F H ls dss) : SlotOk K F H (odG P w K l ks ls dss) (some (.ref l)) := by
  refine ⟨.ref l, rfl, fun a ha => ⟨hF a ha, ?_⟩, fun F' H' s k => ⟨rfl, ⟨o, k _ List.mem_cons_self _ h1, nc, hl, t.mono s⟩, h2.mono2 s fun a ha => k a (List.mem_cons_of_mem _ ha)⟩⟩
  rcases List.mem_cons.mp ha with rfl | ha
  · exact ⟨_, h1, o, rfl, nc⟩
  · obtain ⟨xs, e⟩ := h2.of a ha
    exact ⟨.lst xs, e, trivial⟩
theorem StF.wrG {t : Nat} {a : Addr} {es : List D} {ys : List V} (S : StF K H₀ F H σ sd) (hs : sd[i]? = some (odG P w K l ks ls dss)) (ht : ls[t]? = some a) (r : RepL K F es ys) : StF K H₀ F (upd H a (.lst ys)) σ (sd.set i (odG P w K l ks ls (dss.set t es))) := by
  obtain ⟨g1, g2, ⟨o, g3, nc, hl, td⟩, g4, g5⟩ := odG_get S hs
  obtain ⟨n1, n2⟩ := List.nodup_cons.mp g5
  have ma := List.mem_of_getElem? ht
  refine S.reX (z' := odG P w K l ks ls (dss.set t es)) hs g1 (fun b ob hb q => ?_) (smp_upd S.smp a) (odG_mk g2 (by
    rw [upd_ne (show l ≠ a from fun z => n1 (z ▸ ma))]
    exact g3) nc hl td (g4.set n2 ht r)) g5 fun b hb => .inl hb
  rw [upd_ne (show b ≠ a from fun z => hb (z ▸ List.mem_cons_of_mem _ ma))]
  exact q
theorem InD.snoc {a : Addr} : ∀ {as : List Addr} {dss : List (List D)}, InD K F H as dss → H a = some (.lst []) → InD K F H (as ++ [a]) (dss ++ [[]])
  | [], [], _, e => ⟨⟨[], e, .nil⟩, trivial⟩
  | [], _ :: _, h, _ => h.elim
  | _ :: _, [], h, _ => h.elim
  | _ :: _, _ :: _, h, e => ⟨h.1, InD.snoc h.2 e⟩
/-- a new key with a fresh empty list -/
theorem StF.newG {a : Addr} {o : Obj} {k : List Key} (S : StF K H₀ F H σ sd) (hs : sd[i]? = some (odG P w K l ks ls dss)) (fa : F a = none) (ha : H a = some (.lst [])) (na : a ∉ owned sd) (nc : ∀ v, o.data ≠ .cell v) (td : TDo P w F l o (ks.zip (ls.map V.ref) ++ [(k, .ref a)])) :
    StF K H₀ F (upd H l (exO l o)) σ (sd.set i (odG P w K l (ks ++ [k]) (ls ++ [a]) (dss ++ [[]]))) := by
  obtain ⟨g1, g2, ⟨o', g3, nc', hl, _⟩, g4, g5⟩ := odG_get S hs
  obtain ⟨n1, n2⟩ := List.nodup_cons.mp g5
  have ml : ∀ b ∈ l :: ls, b ∈ owned sd := fun b hb => List.mem_flatMap.mpr ⟨_, List.mem_of_getElem? hs, hb⟩
  have al : a ≠ l := fun z => na (z ▸ ml l List.mem_cons_self)
  have als : a ∉ ls := fun z => na (ml a (List.mem_cons_of_mem _ z))
  have sp : ∀ b, b ∈ l :: (ls ++ [a]) → b ∈ l :: ls ∨ b = a := fun b hb => by
    rcases List.mem_cons.mp hb with h | h
    · exact .inl (h ▸ List.mem_cons_self)
    · rcases List.mem_append.mp h with h | h
      · exact .inl (List.mem_cons_of_mem _ h)
      · exact .inr (List.mem_singleton.mp h)
  refine S.reX (z' := odG P w K l (ks ++ [k]) (ls ++ [a]) (dss ++ [[]])) hs g1 (fun b ob hb q => ?_) (smp_updE S.smp l) (odG_mk (fun b hb => ?_) upd_same nc (by rw [List.length_append, List.length_append, hl]; rfl) ?_ ?_) ?_ fun b hb => ?_
  · rw [upd_ne (show b ≠ l from fun z => hb (z ▸ List.mem_cons_self))]
    exact q
  · rcases sp b hb with h | rfl
    · exact g2 b h
    · exact fa
  · rw [List.map_append, List.map_cons, List.map_nil, zipT_snoc (by rw [List.length_map]; exact hl)]
    exact td
  · refine InD.snoc (g4.mono2 (Same.refl _) fun b hb ob q => ?_) ?_
    · rw [upd_ne (show b ≠ l from fun z => n1 (z ▸ hb))]
      exact q
    · rw [upd_ne al]
      exact ha
  · show (l :: (ls ++ [a])).Nodup
    refine List.nodup_cons.mpr ⟨fun h => ?_, List.nodup_append.mpr ⟨n2, by simp, fun b hb c hc e => als (List.mem_singleton.mp hc ▸ e ▸ hb)⟩⟩
    rcases List.mem_append.mp h with h | h
    · exact n1 h
    · exact al (List.mem_singleton.mp h).symm
  · rcases sp b hb with h | rfl
    · exact .inl h
    · exact .inr na
end
section
variable {X : Cx} {sd : List Slot} {e a b c : Expr} {pos : Pos} {d : D} {ds : List D} {ks : List (List Key)} {k : List Key} {st : Stmt} {E : EndD} {l : Addr} {ls : List Addr} {dss : List (List D)}
theorem psd_dnewG (i : Nat) {x : Str} {p p2 : Pos} (hN : X.N.Nodup) (hi : X.N[i]? = some x) (hx : Loc X.env.scope x) (hE : ∀ l, E.nx (sd.set i (odG X.prog X.w X.K l [] [] []))) (hs : swapsWith (.Dict [] [] p2) (some (.Name x p)) pos.line X.env = pure false := by rfl)
    (hf : X.fn x = true ∨ X.env.scope.names.lookup x = some .local := by first | exact .inl rfl | exact .inr rfl | assumption) : PSd1 X sd (.Assign [.Name x p] (.Dict [] [] p2) pos) E := .mk fun σ F H S =>
  (ps_set hN hi hx pe_dnewE hs hf).to fun q hq hm => by
    have fp : F q = none := S.sub.free hq
    have no : q ∉ owned sd := fun hl => by
      obtain ⟨_, ob, h, _⟩ := S.slots.owns hl
      rw [hq] at h
      cases h
    have S1 : StF X.K X.B₀ F (upd H q (exO q dict0)) σ sd := by
      refine ⟨S.base, fun b u e => ?_, smp_updE S.smp q, S.slots.mono (Same.refl _) fun l hl => ?_, S.nd⟩
      · rw [upd_ne (ne_of_none e fp)]
        exact S.sub _ _ e
      · obtain ⟨n, ys, y, _⟩ := S.slots.owns hl
        have hne : l ≠ q := ne_of_none y hq
        exact ⟨n, fun ys e => by rw [upd_ne hne]; exact e⟩
    refine ⟨_, F, S1.setT i (odG_mk (P := X.prog) (w := X.w) (K := X.K) (ks := []) (ls := []) (dss := []) (fun a ha => by rw [List.mem_singleton.mp ha]; exact fp) upd_same (fun v z => by cases z) rfl ⟨Nat.zero_le _, hm, [], .nil, #[], 0, ⟨rfl, rfl, rfl⟩, rfl, rfl, List.nodup_nil⟩ trivial) (by simp) fun a ha => ?_, Same.refl _, hE q⟩
    rw [List.mem_singleton.mp ha]
    exact no
/-- x.setdefault(b, []).append(e) -/
theorem psd_sdApp (i : Nat) {x : Str} {p ap1 cp1 p5 ap cp : Pos} (hu : X.A.units + 1 < cLine) (hs : sd[i]? = some (odG X.prog X.w X.K l ks ls dss)) (hx : PE X (.Name x p) (tVar i)) (hb : PEd X sd b (.val (.tup (k.map kD)))) (h : ∀ z, PEd X (sd.set i z) e (.val d)) (hl : dss.length ≤ 1000) (hl2 : ∀ ds ∈ dss, ds.length ≤ 1000)
    (hE1 : ∀ n ds, ks[n]? = some k → dss[n]? = some ds → E.nx (sd.set i (odG X.prog X.w X.K l ks ls (dss.set n (ds ++ [d])))))
    (hE2 : k ∉ ks → ∀ a, E.nx (sd.set i (odG X.prog X.w X.K l (ks ++ [k]) (ls ++ [a]) (dss ++ [[d]]))))
    (hm : PE X (.Call (.Attribute (.Call (.Attribute (.Name x p) "setdefault" ap1) [b, .List [] p5] [] cp1) "append" ap) [e] [] cp)
      (tBM X.K "list" rAppend (fun σ H Q => tVar i σ H fun x H1 => (∃ l ob, x = .ref l ∧ H1 l = some (exO l ob) ∧ ob.ExactDict) ∧ (tCons (wE X b) (tCons (wE X (.List [] p5)) tNil)) σ H1 fun xs H2 => rSD X x xs H2 Q) (tCons (wE X e) tNil)) := by
        exact pe_bm PySem.F.plainAttrs_list PySem.F.slot_list_append PySem.F.type_list_append mt_append (pe_dm PySem.F.plainAttrs_dict PySem.F.slot_dict_setdefault PySem.F.type_dict_setdefault mt_sd (pv _) (pa_cons pe_w (pa_cons pe_w pa_nil))) (pa_cons pe_w pa_nil))
    (hsw : swapsWith (.Call (.Attribute (.Call (.Attribute (.Name x p) "setdefault" ap1) [b, .List [] p5] [] cp1) "append" ap) [e] [] cp) none pos.line X.env = pure false := by rfl) :
    PSd1 X sd (.Expr (.Call (.Attribute (.Call (.Attribute (.Name x p) "setdefault" ap1) [b, .List [] p5] [] cp1) "append" ap) [e] [] cp) pos) E := .mk fun σ F H S =>
  (ps_expr hm hsw).to (by
    obtain ⟨h1, h2, ⟨o, h3, nc, hk, td⟩, h4, h5⟩ := odG_get S hs
    have il : i < sd.length := (List.getElem?_eq_some_iff.mp hs).1
    -- what is done behind setdefault
    have fin : ∀ (F2 H2 : Hp) (ks2 : List (List Key)) (ls2 : List Addr) (dss2 : List (List D)) (n : Nat) (ad : Addr) (ds : List D), StF X.K X.B₀ F2 H2 σ (sd.set i (odG X.prog X.w X.K l ks2 ls2 dss2)) → Same F F2 → ls2[n]? = some ad → dss2[n]? = some ds → ds.length ≤ 1000 → E.nx (sd.set i (odG X.prog X.w X.K l ks2 ls2 (dss2.set n (ds ++ [d])))) →
        tyV X.K "list" (.ref ad) H2 ∧ (tCons (wE X e) tNil) σ H2 fun xs H3 => rAppend (.ref ad) xs H3 fun _ H4 => (lft X F E).nx σ H4 := fun F2 H2 ks2 ls2 dss2 n ad ds S2 s2 hn hd hdl hE => by
      have hs2 : (sd.set i (odG X.prog X.w X.K l ks2 ls2 dss2))[i]? = some (odG X.prog X.w X.K l ks2 ls2 dss2) := List.getElem?_set_self il
      obtain ⟨g1, g2, _, g4, g5⟩ := odG_get S2 hs2
      obtain ⟨ds', xs, e1, e2, e3⟩ := g4.get hn
      refine ⟨.inl ⟨rfl, xs, .of e2⟩, (h _ σ F2 H2 S2).imp fun v H3 ⟨F3, S3, s3, q3⟩ => ?_⟩
      obtain ⟨f1, f2, _, f4, f5⟩ := odG_get S3 hs2
      obtain ⟨ds3, xs3, u1, u2, u3⟩ := f4.get hn
      rw [hd] at u1
      cases u1
      have W := S3.wrG (es := ds ++ [d]) (ys := xs3 ++ [v]) hs2 hn (u3.app (.one q3))
      rw [set_set] at W
      exact ⟨ad, xs3, v, rfl, rfl, u2, by rw [u3.len] ; exact small1000 hdl, _, F3, W, s2.trans s3, hE⟩
    refine ⟨.ref l, h1, ⟨l, o, rfl, h3, td.2.2.choose_spec.2.choose_spec.choose_spec.1⟩, (hb σ F H S).imp fun v1 H1 ⟨F1, S1, s1, q1⟩ => ((pd_lst (ds := []) pad_nil (Nat.zero_le _) : PEd X sd (.List [] p5) (.own [])) σ F1 H1 S1).imp fun v2 H2 ⟨F2, S2, s2, q2⟩ => ?_⟩
    obtain ⟨g1, g2, ⟨o2, g3, nc2, hk2, td2⟩, g4, g5⟩ := odG_get S2 hs
    simp only [ResOk, Rep] at q1
    obtain ⟨ad, ys, rfl, ha, rl⟩ := q1
    rw [rep_keys rl] at ha
    obtain ⟨a, xs, rfl, fa, ha2, rl2, na⟩ := q2
    have xn : xs = [] := List.eq_nil_of_length_eq_zero (by rw [rl2.len]; rfl)
    subst xn
    have zl : (ks.zip (ls.map V.ref)).length = dss.length := by rw [List.length_zip, List.length_map, ← hk2, Nat.min_self, hk2, g4.len]
    refine ⟨F2, l, ad, k, .ref a, o2, ks.zip (ls.map V.ref), rfl, rfl, S2.sub, g3, s2 _ _ ha, hu, td2, by rw [zl]; have := small1000 hl; omega, fun z hz => ?_, fun hz o' nc' td' => ?_⟩
    · obtain ⟨n, e1, e2⟩ := valT_some hz
      rw [List.getElem?_map] at e2
      obtain ⟨an, e3, rfl⟩ := Option.map_eq_some_iff.mp e2
      obtain ⟨ds, xs, d1, d2, d3⟩ := g4.get e3
      have S2' : StF X.K X.B₀ F2 H2 σ (sd.set i (odG X.prog X.w X.K l ks ls dss)) := by rw [slot_same hs]; exact S2
      exact fin F2 H2 ks ls dss n an ds S2' (s1.trans s2) e3 d1 (hl2 ds (List.mem_of_getElem? d1)) (hE1 n ds e1 d1)
    · have S3 := S2.newG hs fa ha2 na nc' td'
      have hE := hE2 (valT_no (by rw [List.length_map]; exact hk2) hz) a
      have en : (dss ++ [[]]).set dss.length ([] ++ [d]) = dss ++ [[d]] := by simp
      exact fin F2 _ (ks ++ [k]) (ls ++ [a]) (dss ++ [[]]) dss.length a [] S3 (s1.trans s2) (by rw [← g4.len]; simp) (by simp) (Nat.zero_le _) (by rw [en]; exact hE))
/-- return x, a thing of ours -/
theorem psd_retX (i : Nat) {x : Str} {p : Pos} {as : List Addr} {G : V → Hp → Hp → Prop} {G' : V → List Addr → Hp → Hp → Prop} (hs : sd[i]? = some (.ox as G)) (hx : PE X (.Name x p) (tVar i)) (hG : ∀ v F H, G v F H → G' v as F H) (hE : E.rt (.ox G')) : PSd1 X sd (.Return (some (.Name x p)) pos) E := .mk fun σ F H S =>
  (ps_ret hx).to (by
    obtain ⟨o, h1, v, h2, h3, h4⟩ := S.slots.get hs
    exact ⟨v, by rw [h1, h2], .ox G', ⟨F, S.base, S.sub, S.smp, as, ownT_nodup S.nd hs, fun l hl => ⟨(h3 l hl).1, (h3 l hl).2, by simp [owned]⟩, fun F' H' s k => hG _ _ _ (h4 F' H' s k)⟩, hE⟩)
theorem psd_setGF (i : Nat) {x : Str} {p : Pos} (hN : X.N.Nodup) (hi : X.N[i]? = some x) (hx : Loc X.env.scope x) (h : PEd X sd e (goR X.prog X.w X.K ks dss)) (hE : E.nx (sd.set i (odF X.prog X.w X.K ks (dss.map D.lst)))) (hs : swapsWith e (some (.Name x p)) pos.line X.env = pure false := by rfl)
    (hf : X.fn x = true ∨ X.env.scope.names.lookup x = some .local := by first | exact .inl rfl | exact .inr rfl | assumption) : PSd1 X sd (.Assign [.Name x p] e pos) E := .mk fun σ F H S =>
  (ps_set hN hi hx pe_w hs hf).to ((h σ F H S).imp fun v H' ⟨F', S', s', as, nd, q, g⟩ => by
    obtain ⟨l, ls, rfl, rfl, ⟨o, g1, nc, hk, td⟩, g2⟩ := g F' H' (Same.refl _) fun _ _ _ z => z
    obtain ⟨S2, s2⟩ := S'.inN (fun a ha => (q a ha).1) fun a ha => (q a ha).2.2
    have r2 : RepL X.K (inF F' H' (l :: ls)) (dss.map D.lst) (ls.map V.ref) := rep_dss (g2.mono2 s2 fun a ha ob e => by
      rw [inF_in (List.mem_cons_of_mem _ ha)]
      exact e)
    have f1 : (inF F' H' (l :: ls)) l = some (exO l o) := by
      rw [inF_in List.mem_cons_self]
      exact g1
    refine ⟨_, _, S2.setX (as := []) i (v := .ref l) ⟨.ref l, rfl, fun a ha => (nomatch ha), fun F2 H2 s3 _ => ⟨l, o, ls.map V.ref, rfl, s3 _ _ f1, r2.mono s3, by rw [List.length_map, hk, g2.len], (td.mono s2).mono s3⟩⟩ List.nodup_nil fun a ha => (nomatch ha), s'.trans s2, hE⟩)
/-- x[b], x a frozen dict with tuples as keys -/
theorem pd_dgetF (i : Nat) {x : Str} {p : Pos} {n : Nat} (hu : X.A.units + 1 < cLine) (hs : sd[i]? = some (odF X.prog X.w X.K ks ds)) (hx : PE X (.Name x p) (tVar i)) (hb : PEd X sd b (.val (.tup (k.map kD)))) (hn : ks.Nodup) (hk : ks[n]? = some k) (hd : ds[n]? = some d) (hsl : NoSl b) : PEd X sd (.Subscript (.Name x p) b pos) (.val d) := .mk fun σ F H S pins s I => by
  obtain ⟨ov, h1, v0, h2, _, h4⟩ := S.slots.get hs
  obtain ⟨l, o0, xs0, rfl, _⟩ := h4 F H (Same.refl _) fun _ _ _ q => q
  subst h2
  refine subD_of PySem.F.slot_dict_getitem.lookup hsl (thn (hx pins s σ H (fun v H1 => v = .ref l ∧ H1 = H) I ⟨.ref l, h1, rfl, rfl⟩) fun u s1 ⟨y, H1, I1, ry, e1, e2⟩ => ?_)
  subst e1 e2
  obtain rfl : u = Value.ref l := ry
  refine thn (hb σ F H1 S pins s1 I1) fun iv s2 ⟨y, H2, I2, ry, F2, S2, sF, q2⟩ => ?_
  obtain ⟨ov, j1, v1, j2, _, j4⟩ := S2.slots.get hs
  obtain ⟨l', o, xs, el, g3, g4, g5, z, hm, ts, kt, es, ep, t1, t2, t3, t4⟩ := j4 F2 H2 (Same.refl _) fun _ _ _ q => q
  subst j2 el
  rw [h1] at j1
  cases j1
  simp only [ResOk, Rep] at q2
  obtain ⟨ad, ys, rfl, ha, rl⟩ := q2
  rw [rep_keys rl] at ha
  obtain rfl : iv = Value.ref ad := ry
  have ho : s2.heap.get? l = some o := (I2.hok l _ (S2.sub _ _ g3)).1
  have ktH : KT H2 (ks.zip xs) ts := kt.keeps fun b ys e => S2.sub _ _ e
  have dd : s2.heap.DictOfH (tupleKind (mixKind X.prog X.w)) l ts := ⟨o, es, ep, ho, t1, t2, t3, KT.all I2.hok ktH, t4⟩
  obtain ⟨v, hv, rv⟩ := g4.get hd
  obtain ⟨w', hw, rw'⟩ := RelO.some_of (v := v) (o := (atKey ts k).map (·.2)) (by rw [← valT_at hn hk hv]; exact ktH.val k)
  obtain ⟨pr, hp, hp2⟩ := Option.map_eq_some_iff.mp hw
  refine ⟨dd.typeIs, wpAny_getItem_heap (tupleKind_room_in1 hu) (key_of I2.hok (S2.sub _ _ ha)) dd hp ?_⟩
  rw [hp2]
  exact ⟨v, H2, I2.tok _, rw', F2, S2, sF, rv⟩
end
end DL

namespace DL
open PySem PySem.Spec PyProof.Rows L2
section
variable {X : Cx} {sd : List Slot} {e a b c tg iter o : Expr} {es : List Expr} {pos : Pos} {r ra rb : R} {d : D} {ds : List D} {st : Stmt} {rest : List Stmt} {E : EndD}
end
end DL

namespace DL
open PySem PySem.Spec PyProof.Rows L2
section
variable {X : Cx} {sd : List Slot} {e a b c tg iter o : Expr} {es : List Expr} {pos : Pos} {r ra rb : R} {d : D} {ds : List D} {st : Stmt} {rest : List Stmt} {E : EndD}
end
end DL

namespace DL
open PySem PySem.Spec PyProof.Rows L2
theorem tab_ok {p : Int × Int} (hp : p ∈ sizes14) {L : List SK} (S : StkOk p L) {row : List Nat} (h : ∀ t ∈ row, t < L.length) : TabOk p (tabQ p L row) := ⟨tabQ_len p L row, tabQ_fil hp S h⟩
end DL

namespace DL
open PySem PySem.Spec PyProof.Rows L2
section
variable {p : Int × Int} {τ : List Nat} {T U : List (List Int)}
end
end DL

namespace DL
open PySem PySem.Spec PyProof.Rows L2
end DL

namespace DL
open PySem PySem.Spec PyProof.Rows L2
/-! ### t < u of any two tuples -/
noncomputable def LtAt (A : Around) (s : Shared) (x y : Value) (b : Bool) : Prop := ∀ (prog : Program) (w : World) (E : Value → Shared → Prop) (Q : Value → Shared → Prop), Q (.bool b) s → wpAny (model prog w) A (richCompare .Lt x y) Q E s
inductive LexV (A : Around) (s : Shared) (fin : Bool) : List (Value × Value) → Bool → Prop
  | nil : LexV A s fin [] fin
  | eq {x y : Value} {r : List (Value × Value)} {b : Bool} : SeqAt.EqAt A.in1 s x y true → LexV A s fin r b → LexV A s fin ((x, y) :: r) b
  | lt {x y : Value} {r : List (Value × Value)} {b : Bool} : SeqAt.EqAt A.in1 s x y false → LtAt A.in1 s x y b → LexV A s fin ((x, y) :: r) b
section
open PySem.SeqAt
open PySem.AutoSeq1 (wpAny_loadPart')
open PySem.MeetsSeq PySem.MeetsSeq2 PySem.MeetsSeq3
theorem tuple_lt_gen (l b : Addr) (items items2 : Array Value) (n n2 : Nat) (dd dd2 : Option Addr) (sl sl2 : Array (Option Value)) (res : Bool) :
    Meets (Builtin.«tuple.__lt__» ⟨[.ref l, .ref b], []⟩)
      (fun A R s => s.heap.get? l = some { cls := .type "tuple", dict := dd, data := .seq items n, slots := sl } ∧ s.heap.get? b = some { cls := .type "tuple", dict := dd2, data := .seq items2 n2, slots := sl2 } ∧
        LexV A s (decide (items.size < items2.size)) (items.toList.zip items2.toList) res ∧ R (.ok (.ret (.bool res))) s) :=
  .of_wp fun prog w A R s h => by
    obtain ⟨hp, g, d, tk, os⟩ := s; obtain ⟨hl, hb, hx, h⟩ := h
    have f2 := AutoSeq1.sub_tuple_tuple
    wp_walk using wpAny_loadPart' hl, wpAny_loadPart' hb, wpAny_forIn_list _ (fun rest b s' => b.1 = none ∧ s' = ⟨hp, g, d, tk, os⟩ ∧ LexV A ⟨hp, g, d, tk, os⟩ (decide (items.size < items2.size)) rest res) _
    case turn =>
      rintro ⟨y, x⟩ rest b s' ⟨hb', rfl, hv⟩
      cases hv with
      | eq he hr =>
        refine wpAny_bind (he prog w _ _ ?_)
        wp_walk
        exact ⟨rfl, rfl, hr⟩
      | lt he hlt =>
        refine wpAny_bind (he prog w _ _ ?_)
        have hri := hlt prog w
        wp_walk using hri
        exact ⟨_, rfl, by simpa using h⟩
    case fin =>
      rintro ⟨b1, b2⟩ s' ⟨hb', rfl, hv⟩
      simp only at hb'
      subst hb'
      cases hv
      wp_walk
      exact ⟨_, rfl, by simpa [Builtin.Tuple.tupleCompareSizes] using h⟩
    case h =>
      exact ⟨rfl, rfl, hx⟩
theorem lt_tup_gen {A : Around} {s : Shared} {l b : Addr} {items items2 : Array Value} {res : Bool} (hl : IsTup s.heap l items) (hb : IsTup s.heap b items2) (hx : LexV A s (decide (items.size < items2.size)) (items.toList.zip items2.toList) res)
    (hu : A.units < cLine) : LtAt A s (.ref l) (.ref b) res := fun prog w E Q h => by
  obtain ⟨⟨cls, dd, data, sl⟩, ho, hc, n, hd⟩ := id hl
  obtain ⟨⟨cls2, dd2, data2, sl2⟩, ho2, hc2, n2, hd2⟩ := id hb
  simp only at hc hd hc2 hd2
  subst hc hd hc2 hd2
  exact richCompare_meets_room (op := .Lt) ⟨_, ho, rfl⟩ ⟨_, ho2, rfl⟩ PySem.F.slot_tuple_lt PySem.F.entry_tuple_lt (PySem.F.args_tuple_lt_2 _ _) (tuple_lt_gen l b items items2 n n2 dd dd2 sl sl2 res)
    ⟨ho, ho2, hx, show Value.bool res ≠ Value.notImplemented ∧ Q (.bool res) s from ⟨(fun x => nomatch x), h⟩⟩ hu
end
end DL
namespace DL
open PySem PySem.Spec PyProof.Rows L2
mutual
noncomputable def dlt : D → D → Bool
  | .int a, .int b => decide (a < b)
  | .tup a, .tup b => dltL a b
  | _, _ => false
noncomputable def dltL : List D → List D → Bool
  | [], [] => false
  | [], _ :: _ => true
  | _ :: _, [] => false
  | d :: ds, e :: es => if deq d e = true then dltL ds es else dlt d e
end
mutual
noncomputable def cmp2 : D → D → Bool
  | .int _, .int _ => true
  | .tup a, .tup b => cmpL a b
  | _, _ => false
noncomputable def cmpL : List D → List D → Bool
  | [], _ => true
  | _ :: _, [] => true
  | d :: ds, e :: es => cmp2 d e && cmpL ds es
end
section
variable {P : Program} {w : World} {K : PySem.W.Frag} {H : Hp} {s : Shared}
mutual
theorem ltAt_D (hok : HOk P w H s.heap) : ∀ (d : D) {d2 : D} {v1 v2 : V} {u1 u2 : Value} {A : Around}, cmp2 d d2 = true → pl d = true → pl d2 = true → Rep K H d v1 → Rep K H d2 v2 → RelV v1 u1 → RelV v2 u2 → A.units + dep d < cLine → LtAt A s u1 u2 (dlt d d2)
  | .int a, d2, v1, v2, u1, u2, A, c, p1, p2, r1, r2, ru1, ru2, hu => by
    cases d2 with
    | int b =>
      simp only [Rep] at r1 r2
      subst r1 r2
      obtain ⟨t, rfl⟩ := ru1
      obtain ⟨t2, rfl⟩ := ru2
      simp only [dlt]
      exact fun prog w E Q h => (PyProof.Rows.lt_int h : wpAny (model prog w) A (compareOp .Lt (.int a t) (.int b t2)) Q E s)
    | _ => simp [cmp2] at c
  | .tup ds, d2, v1, v2, u1, u2, A, c, p1, p2, r1, r2, ru1, ru2, hu => by
    cases d2 with
    | tup es =>
      obtain ⟨a, xs, its, rfl, rfl, rl, rv, ht⟩ := tup_at hok r1 ru1
      obtain ⟨b, ys, jts, rfl, rfl, rl2, rv2, ht2⟩ := tup_at hok r2 ru2
      simp only [dlt]
      have l1 : its.length = ds.length := by rw [← rv.length, rl.len]
      have l2 : jts.length = es.length := by rw [← rv2.length, rl2.len]
      simp only [pl] at p1 p2
      simp only [dep] at hu
      simp only [cmp2] at c
      refine lt_tup_gen ht ht2 ?_ (by omega)
      exact ltAt_L hok ds c p1 p2 rl rl2 rv rv2 (by omega) (by simp [l1, l2])
    | _ => simp [cmp2] at c
  | .non, d2, _, _, _, _, _, c, _, _, _, _, _, _, _ => by cases d2 <;> simp [cmp2] at c
  | .bl _, d2, _, _, _, _, _, c, _, _, _, _, _, _, _ => by cases d2 <;> simp [cmp2] at c
  | .str _, d2, _, _, _, _, _, c, _, _, _, _, _, _, _ => by cases d2 <;> simp [cmp2] at c
  | .lst _, d2, _, _, _, _, _, c, _, _, _, _, _, _, _ => by cases d2 <;> simp [cmp2] at c
  | .dic, d2, _, _, _, _, _, c, _, _, _, _, _, _, _ => by cases d2 <;> simp [cmp2] at c
  | .dki _ _, d2, _, _, _, _, _, c, _, _, _, _, _, _, _ => by cases d2 <;> simp [cmp2] at c
  | .any _, d2, _, _, _, _, _, c, _, _, _, _, _, _, _ => by cases d2 <;> simp [cmp2] at c
  | .scr _, d2, _, _, _, _, _, c, _, _, _, _, _, _, _ => by cases d2 <;> simp [cmp2] at c
theorem ltAt_L (hok : HOk P w H s.heap) : ∀ (ds : List D) {es : List D} {xs ys : List V} {its jts : List Value} {A : Around} {fin : Bool}, cmpL ds es = true → plL ds = true → plL es = true → RepL K H ds xs → RepL K H es ys → Vals xs its → Vals ys jts → A.units + 1 + depL ds < cLine → fin = decide (ds.length < es.length) → LexV A s fin (its.zip jts) (dltL ds es)
  | [], es, xs, ys, its, jts, A, fin, c, p1, p2, r1, r2, v1, v2, hu, hf => by
    simp only [RepL] at r1
    subst r1
    cases v1
    subst hf
    rw [List.zip_nil_left]
    cases es with
    | nil => exact .nil
    | cons e es =>
      have : dltL [] (e :: es) = decide (([] : List D).length < (e :: es).length) := by simp [dltL]
      rw [this]
      exact .nil
  | d :: ds, [], xs, ys, its, jts, A, fin, c, p1, p2, r1, r2, v1, v2, hu, hf => by
    simp only [RepL] at r2
    subst r2
    cases v2
    subst hf
    rw [List.zip_nil_right]
    have : dltL (d :: ds) [] = decide ((d :: ds).length < ([] : List D).length) := by simp [dltL]
    rw [this]
    exact .nil
  | d :: ds, e :: es, xs, ys, its, jts, A, fin, c, p1, p2, r1, r2, v1, v2, hu, hf => by
    obtain ⟨x, xs, rfl, a1, r1⟩ := r1.uncons
    obtain ⟨y, ys, rfl, a2, r2⟩ := r2.uncons
    simp only [plL, Bool.and_eq_true] at p1 p2
    simp only [cmpL, Bool.and_eq_true] at c
    simp only [depL] at hu
    cases v1 with
    | cons q1 v1 =>
      cases v2 with
      | cons q2 v2 =>
        rw [List.zip_cons_cons]
        have he := eqAt_D (A := A.in1) hok d p1.1 p2.1 a1 a2 q1 q2 (by show A.units + 1 + dep d < cLine; omega)
        simp only [dltL]
        by_cases z : deq d e = true
        · rw [if_pos z]
          rw [z] at he
          exact .eq he (ltAt_L hok ds c.2 p1.2 p2.2 r1 r2 v1 v2 (by omega) (by rw [hf]; simp))
        · rw [if_neg z]
          rw [Bool.eq_false_iff.mpr z] at he
          exact .lt he (ltAt_D (A := A.in1) hok d c.1 p1.1 p2.1 a1 a2 q1 q2 (by show A.units + 1 + dep d < cLine; omega))
end
end
section
variable {X : Cx} {sd : List Slot} {e a b c tg iter o : Expr} {es : List Expr} {pos : Pos} {r ra rb : R} {d d1 d2 : D} {ds ls : List D} {st : Stmt} {rest : List Stmt} {E : EndD}
end
end DL

namespace DL
open PySem PySem.Spec PyProof.Rows L2
section
variable {prog : Program} {w : World} {A : Around} {E : Value → Shared → Prop} {s : Shared}
open HT
end
end DL

namespace DL
open PySem PySem.Spec PyProof.Rows L2
section
variable {X : Cx} {sd : List Slot} {e a b c tg iter o : Expr} {es : List Expr} {pos : Pos} {r ra rb : R} {d : D} {ds : List D} {st : Stmt} {rest : List Stmt} {E : EndD}
end
end DL

namespace DL
open PySem PySem.Spec PyProof.Rows L2
section
variable {X : Cx} {sd : List Slot} {e a b c : Expr} {pos : Pos} {d : D} {ds : List D}
/-! ### a datum in a tuple, in a list of data -/
theorem op_inDT (d : D) (ds : List D) (p1 : pl d = true) (p2 : plL ds = true) (hu : X.A.units + 1 + depL ds < cLine) : OpR X (compareOp .In) (fun x y H Q => Rep X.K H (.tup ds) y ∧ Rep X.K H d x ∧ Q (.bl (ds.any fun z => deq z d)) H) := by
  intro pins s σ H x y v u Q I rx ry h
  obtain ⟨hl, hd, k⟩ := h
  obtain ⟨a, xs, its, rfl, rfl, rl, rv, ht⟩ := tup_at I.hok hl ry
  have hat : ∀ (j : Nat) (w : Value), its[j]? = some w → ∃ z v, ds[j]? = some z ∧ xs[j]? = some v ∧ Rep X.K H z v ∧ RelV v w := fun j w hw => by
    have hj : j < its.length := (List.getElem?_eq_some_iff.mp hw).1
    have hx : j < xs.length := by rw [Vals.length rv]; exact hj
    have hd : j < ds.length := by rw [← rl.len]; exact hx
    obtain ⟨v, hv, rz⟩ := rl.get (i := j) (d := ds[j]) (by simp [hd])
    exact ⟨ds[j], v, by simp [hd], hv, rz, by
      have := rv.get hv
      obtain ⟨w', hw', r⟩ := this
      rw [hw] at hw'
      cases hw'
      exact r⟩
  have dc := fun w : Value => Classical.propDecidable (∃ (j : Nat) (z : D), its[j]? = some w ∧ ds[j]? = some z ∧ deq z d = true)
  refine SeqAt.in_tupleAt (fun w => @decide _ (dc w)) ht (fun w hw => ?_) ⟨.bl _, H, I, rfl, ?_⟩
  · by_cases q : ∃ (j : Nat) (z : D), its[j]? = some w ∧ ds[j]? = some z ∧ deq z d = true
    · obtain ⟨j, z, e1, e2, e3⟩ := q
      obtain ⟨z', v, f1, f2, f3, f4⟩ := hat j w e1
      rw [e2] at f1
      cases f1
      have : @decide _ (dc w) = true := by rw [decide_eq_true_eq]; exact ⟨j, z, e1, e2, e3⟩
      rw [this, ← e3]
      exact eqAt_D I.hok z (plL_get p2 e2) p1 f3 hd f4 rx (by have := depL_get e2; show X.A.units + 1 + dep z < cLine; omega)
    · have hw' : w ∈ its := by simpa using hw
      obtain ⟨j, hj, rfl⟩ := List.getElem_of_mem hw'
      obtain ⟨z, v, f1, f2, f3, f4⟩ := hat j its[j] (by simp [hj])
      have e3 : deq z d = false := by
        cases h : deq z d with
        | false => rfl
        | true => exact (q ⟨j, z, by simp [hj], f1, h⟩).elim
      have : @decide _ (dc its[j]) = false := by rw [decide_eq_false_iff_not]; exact q
      rw [this, ← e3]
      exact eqAt_D I.hok z (plL_get p2 f1) p1 f3 hd f4 rx (by have := depL_get f1; show X.A.units + 1 + dep z < cLine; omega)
  · have e : its.toArray.any (fun w => @decide _ (dc w)) = ds.any fun z => deq z d := by
      rw [Bool.eq_iff_iff, List.any_toArray, List.any_eq_true, List.any_eq_true]
      constructor
      · rintro ⟨w, hw, q⟩
        rw [decide_eq_true_eq] at q
        obtain ⟨j, z, e1, e2, e3⟩ := q
        exact ⟨z, List.mem_of_getElem? e2, e3⟩
      · rintro ⟨z, hz, e3⟩
        obtain ⟨j, hj, rfl⟩ := List.getElem_of_mem hz
        have hi : j < its.length := by rw [← Vals.length rv, rl.len]; exact hj
        exact ⟨its[j], List.getElem_mem hi, by rw [decide_eq_true_eq]; exact ⟨j, ds[j], by simp [hi], by simp [hj], e3⟩⟩
    rw [e]
    exact k
theorem ptd_inDT (ha : PEd X sd a (.val d)) (hb : PEd X sd b (.val (.tup ds))) (p1 : pl d = true) (p2 : plL ds = true) (hu : X.A.units + 1 + depL ds < cLine) (hk : behindInMarks .In b = false := by with_unfolding_all rfl) : PTd X sd (.Compare a [.In] [b] pos) (ds.any fun z => deq z d) :=
  ptd_cmp2 (op_inDT d ds p1 p2 hu) ha hb trivial hk fun σ F H x u Q S q1 q2 k => ⟨Rep.mono S.sub q2, Rep.mono S.sub q1, k F H S (Same.refl _)⟩
end
/-! ### the words told, each once, and the fillings that have them -/
noncomputable def kY (ws : List Int) : List Key := ws.map Sum.inl
theorem kY_D (ws : List Int) : D.tup ((kY ws).map kD) = tupI ws := by
  unfold kY tupI
  rw [List.map_map]
  rfl
theorem kY_inj {a b : List Int} (h : kY a = kY b) : a = b := by
  have := congrArg (List.map fun k : Key => match k with | .inl i => i | .inr _ => (0 : Int)) h
  unfold kY at this
  rw [List.map_map, List.map_map] at this
  have e : ((fun k : Key => match k with | .inl i => i | .inr _ => (0 : Int)) ∘ Sum.inl) = id := rfl
  rw [e, List.map_id, List.map_id] at this
  exact this
noncomputable def adkQ (ks : List (List Int)) (w : List Int) : List (List Int) := if w ∈ ks then ks else ks ++ [w]
noncomputable def keyQ (W : List (List Int)) : List (List Int) := W.foldl adkQ []
theorem keyQ_snoc (W : List (List Int)) (w : List Int) : keyQ (W ++ [w]) = adkQ (keyQ W) w := by
  unfold keyQ
  rw [List.foldl_append]
  rfl
theorem adkQ_ok {ks : List (List Int)} (nd : ks.Nodup) (w : List Int) : (adkQ ks w).Nodup ∧ ∀ k, k ∈ adkQ ks w ↔ k ∈ ks ∨ k = w := by
  unfold adkQ
  split
  · rename_i h
    exact ⟨nd, fun k => ⟨.inl, fun q => q.elim id fun e => e ▸ h⟩⟩
  · rename_i h
    refine ⟨List.nodup_append.mpr ⟨nd, by simp, fun a ha b hb e => h (List.mem_singleton.mp hb ▸ e ▸ ha)⟩, fun k => ?_⟩
    rw [List.mem_append, List.mem_singleton]
theorem key_fold : ∀ (W ks : List (List Int)), ks.Nodup → (W.foldl adkQ ks).Nodup ∧ ∀ k, k ∈ W.foldl adkQ ks ↔ k ∈ ks ∨ k ∈ W
  | [], ks, nd => ⟨nd, fun k => by simp⟩
  | w :: W, ks, nd => by
    obtain ⟨n1, m1⟩ := adkQ_ok nd w
    obtain ⟨n2, m2⟩ := key_fold W (adkQ ks w) n1
    refine ⟨n2, fun k => ?_⟩
    show k ∈ W.foldl adkQ (adkQ ks w) ↔ _
    rw [m2 k, m1 k, List.mem_cons, or_assoc]
theorem keyQ_nodup (W : List (List Int)) : (keyQ W).Nodup := (key_fold W [] List.nodup_nil).1
theorem keyQ_mem {W : List (List Int)} {k : List Int} : k ∈ keyQ W ↔ k ∈ W := by
  have := (key_fold W [] List.nodup_nil).2 k
  unfold keyQ
  rw [this]
  simp
theorem keyQ_len (W : List (List Int)) : (keyQ W).length ≤ W.length := by
  have : ∀ (W ks : List (List Int)), (W.foldl adkQ ks).length ≤ ks.length + W.length := fun W => by
    induction W with
    | nil => intro ks; exact Nat.le_refl _
    | cons w W ih =>
      intro ks
      refine Nat.le_trans (ih (adkQ ks w)) ?_
      have : (adkQ ks w).length ≤ ks.length + 1 := by
        unfold adkQ
        split
        · omega
        · rw [List.length_append]
          exact Nat.le_refl _
      rw [List.length_cons]
      omega
  have h := this W []
  rw [List.length_nil, Nat.zero_add] at h
  exact h
noncomputable def grpQ (h : List Int → List Int) (A : List (List Int)) (k : List Int) : List (List Int) := A.filter fun g => decide (h g = k)
noncomputable def grpD (h : List Int → List Int) (A : List (List Int)) (ks : List (List Int)) : List (List D) := ks.map fun k => (grpQ h A k).map tupI
theorem grp_snoc (h : List Int → List Int) (A : List (List Int)) (f k : List Int) : grpQ h (A ++ [f]) k = grpQ h A k ++ if h f = k then [f] else [] := by
  unfold grpQ
  rw [List.filter_append]
  by_cases e : h f = k
  · simp [e]
  · simp [e]
theorem grp_none {h : List Int → List Int} {A : List (List Int)} {k : List Int} (hn : ∀ g ∈ A, h g ≠ k) : grpQ h A k = [] := by
  unfold grpQ
  rw [List.filter_eq_nil_iff]
  exact fun g hg => by simp [hn g hg]
theorem grp_old {h : List Int → List Int} {A ks : List (List Int)} {f : List Int} {n : Nat} {ds : List D} (nd : ks.Nodup) (hk : ks[n]? = some (h f)) (hd : (grpD h A ks)[n]? = some ds) : (grpD h A ks).set n (ds ++ [tupI f]) = grpD h (A ++ [f]) ks := by
  have hd' : ds = (grpQ h A (h f)).map tupI := by
    unfold grpD at hd
    rw [List.getElem?_map, hk] at hd
    exact (Option.some.inj hd).symm
  subst hd'
  refine List.ext_getElem? fun m => ?_
  have hn : n < ks.length := (List.getElem?_eq_some_iff.mp hk).1
  have ek : ks[n] = h f := (List.getElem?_eq_some_iff.mp hk).2
  by_cases e : m = n
  · subst e
    rw [List.getElem?_set_self (by unfold grpD; rw [List.length_map]; exact hn)]
    unfold grpD
    rw [List.getElem?_map, hk, Option.map_some, grp_snoc, if_pos rfl, List.map_append]
    rfl
  · rw [List.getElem?_set_ne (Ne.symm e)]
    unfold grpD
    rw [List.getElem?_map, List.getElem?_map]
    cases q : ks[m]? with
    | none => rfl
    | some k =>
      have hm : m < ks.length := (List.getElem?_eq_some_iff.mp q).1
      have eq : ks[m] = k := (List.getElem?_eq_some_iff.mp q).2
      have ne : ¬ h f = k := fun z => e ((List.getElem_inj (h₀ := hm) (h₁ := hn) nd).mp (by rw [eq, ek, z]))
      rw [Option.map_some, Option.map_some, grp_snoc, if_neg ne, List.append_nil]
theorem grp_new {h : List Int → List Int} {A ks : List (List Int)} {f : List Int} (hn : h f ∉ ks) (hA : ∀ g ∈ A, h g ∈ ks) : grpD h A ks ++ [[tupI f]] = grpD h (A ++ [f]) (ks ++ [h f]) := by
  unfold grpD
  rw [List.map_append]
  congr 1
  · refine List.map_congr_left fun k hk => ?_
    rw [grp_snoc, if_neg (fun z : h f = k => hn (z ▸ hk)), List.append_nil]
  · rw [List.map_cons, List.map_nil, grp_snoc, if_pos rfl, grp_none (fun g hg (e : h g = h f) => hn (e ▸ hA g hg))]
    rfl
noncomputable def CFbw (P : Program) (w : World) (K : PySem.W.Frag) : List D → R → Prop := fun ds r => ∃ (p : Int × Int) (h : List Int → List Int), p ∈ sizes14 ∧ ds = [sizD p, .lst (((filA p).map h).map tupI)] ∧ r = goR P w K ((keyQ ((filA p).map h)).map kY) (grpD h (filA p) (keyQ ((filA p).map h)))
noncomputable def CWTold : List D → R → Prop := fun ds r => ∃ (p : Int × Int) (bs : List Nat) (T : List (List Int)), p ∈ sizes14 ∧ bs.length ≤ 100 ∧ (∀ b ∈ bs, b < p.2.toNat) ∧ TabOk p T ∧ ds = [.lst (natD bs), .tup (T.map tupI)] ∧ r = .own ((T.map (wdQ bs)).map tupI)
/-- what may come of a filling at a window -/
noncomputable def wnQ (p : Int × Int) (L : List SK) (row : List Nat) (pl mn : Nat) (bs : List Nat) (f : List Int) : Option (List (List Int)) := if f ∈ tabQ p L (row.take pl) then some (grpQ (fun g => wdQ bs (rowQ p L (row.drop (pl + mn)) g)) (filA p) (wdQ bs (rowQ p L (row.drop pl) f))) else none
noncomputable def waQ (p : Int × Int) (L : List SK) (row : List Nat) (pl mn : Nat) (bs : List Nat) : List (Option (List (List Int))) := (filA p).map (wnQ p L row pl mn bs)
noncomputable def CWat : List D → R → Prop := fun ds r => ∃ (p : Int × Int) (L : List SK) (row : List Nat) (pl mn : Nat) (o : Option (List Nat)), p ∈ sizes14 ∧ StkOk p L ∧ (∀ t ∈ row, t < L.length) ∧ row.length ≤ 100 ∧ 1 ≤ mn ∧ pl + mn ≤ row.length ∧ LkOk p o ∧ ds = [sizD p, .lst (L.map skD), .tup (natD row), .int (pl : Int), .int (mn : Int), lkD o] ∧ r = .own ((waQ p L row pl mn (bxQ p.2.toNat o)).map wsD)
theorem rowQ_app (p : Int × Int) (L : List SK) (a b : List Nat) (ws : List Int) : rowQ p L (a ++ b) ws = rowQ p L b (rowQ p L a ws) := by
  unfold rowQ
  rw [List.foldl_append]
theorem drop_split (row : List Nat) (pl mn : Nat) : row.drop pl = (row.drop pl).take mn ++ row.drop (pl + mn) := by
  rw [← List.drop_drop]
  exact (List.take_append_drop mn _).symm
theorem wn_mem {p : Int × Int} (hp : p ∈ sizes14) {L : List SK} (S : StkOk p L) {row : List Nat} (hrow : ∀ t ∈ row, t < L.length) (pl mn : Nat) (bs : List Nat) {f g : List Int} (G : Fil p f) (Gg : Fil p g) : g ∈ grpQ (fun g => wdQ bs (rowQ p L (row.drop (pl + mn)) g)) (filA p) (wdQ bs (rowQ p L (row.drop pl) f)) ↔ wdQ bs (rowQ p L (row.drop (pl + mn)) g) = wdQ bs (rowQ p L (row.drop (pl + mn)) (rowQ p L ((row.drop pl).take mn) f)) := by
  unfold grpQ
  have e : rowQ p L (row.drop pl) f = rowQ p L (row.drop (pl + mn)) (rowQ p L ((row.drop pl).take mn) f) := by rw [← rowQ_app, ← drop_split]
  rw [List.mem_filter, e]
  constructor
  · exact fun h => of_decide_eq_true h.2
  · exact fun h => ⟨fil_mem Gg.len Gg.wd, decide_eq_true h⟩
theorem wa_ok {p : Int × Int} (hp : p ∈ sizes14) {L : List SK} (S : StkOk p L) {row : List Nat} (hrow : ∀ t ∈ row, t < L.length) (pl mn : Nat) (bs : List Nat) : WishOk p (waQ p L row pl mn bs) := by
  refine ⟨by unfold waQ; rw [List.length_map], fun o ho M hM => ?_⟩
  obtain ⟨f, hf, rfl⟩ := List.mem_map.mp ho
  have G := fil_Fil hp hf
  unfold wnQ at hM
  split at hM
  · cases hM
    have f9 : (filA p).length ≤ 64 := fil_900 hp
    have Gm := rowQ_fil S ((row.drop pl).take mn) f (fun t ht => hrow t (List.mem_of_mem_drop (List.mem_of_mem_take ht))) G
    exact ⟨List.length_pos_of_mem ((wn_mem hp S hrow pl mn bs G Gm).mpr rfl), Nat.le_trans (List.length_filter_le _ _) (by omega), fun ws hw => fil_Fil hp (List.mem_filter.mp hw).1⟩
  · cases hM
noncomputable def sz74a : List (Int × Int) := [(1, 1), (1, 2), (1, 3), (2, 1), (2, 2), (1, 4), (3, 1), (1, 3)]
noncomputable def sz7 (c : Int) : Int × Int := sz74a.getD (c % 8).toNat (2, 2)
theorem sz7_mem (c : Int) : sz7 c ∈ sizes14 := by
  have ha : ∀ q ∈ sz74a, q ∈ sizes14 := by decide
  have h0 := Int.emod_nonneg c (show (8 : Int) ≠ 0 by decide)
  have h1 := Int.emod_lt_of_pos c (show (0 : Int) < 8 by decide)
  exact ha _ (getD_mem (by show _ < 8; omega))
noncomputable def CSz7 : List D → R → Prop := fun ds r => ∃ c, ds = [.int c] ∧ r = .val (sizD (sz7 c))
theorem kY_nodup {ks : List (List Int)} (h : ks.Nodup) : (ks.map kY).Nodup := List.Pairwise.map kY (fun a b q e => q (kY_inj e)) h
noncomputable def enF (F : List Int → D) : D → D
  | .tup [_, g] => F (intsOf g)
  | _ => .non
theorem enum_wa (p : Int × Int) (F : List Int → D) : (enumD ((filA p).map tupI)).map (enF F) = (filA p).map F := by
  unfold enumD
  rw [List.map_map, List.length_map]
  refine List.ext_getElem (by simp) fun m h1 h2 => ?_
  have hm : m < (filA p).length := by simpa using h2
  simp only [List.getElem_map, List.getElem_range, Function.comp]
  have : ((filA p).map tupI).getD m .non = tupI (filA p)[m] := by simp [List.getD, hm]
  rw [this]
  show F (intsOf (tupI _)) = _
  rw [intsOf_tup]
theorem natD_take (row : List Nat) (k : Nat) : (natD row).take k = natD (row.take k) := by unfold natD; rw [List.map_take]
theorem natD_drop (row : List Nat) (k : Nat) : (natD row).drop k = natD (row.drop k) := by unfold natD; rw [List.map_drop]
theorem natD_len (a : List Nat) : (natD a).length = a.length := by unfold natD; rw [List.length_map]
end DL

namespace DL
open PySem PySem.Spec PyProof.Rows L2
section
variable {K : PySem.W.Frag} {H₀ F F' H H' : Hp} {σ : St} {sd : List Slot} {i : Nat} {l : Addr} {ls : List Addr} {dss : List (List D)} {m : List Bool}
end
section
variable {X : Cx} {sd : List Slot} {e a b c tg iter o : Expr} {es : List Expr} {pos : Pos} {r ra rb : R} {d : D} {ds : List D} {st : Stmt} {rest : List Stmt} {E : EndD} {l : Addr} {ls : List Addr} {dss : List (List D)} {m : List Bool}
end
end DL

namespace DL
open PySem PySem.Spec PyProof.Rows L2
section
variable {X : Cx} {sd : List Slot} {e a b c : Expr} {pos : Pos} {d : D} {ds : List D} {ks : List (List Key)} {k : List Key} {st : Stmt} {E : EndD} {l : Addr}
/-- what is known by s is enough for sd -/
noncomputable def Better (X : Cx) (s sd : List Slot) : Prop := ∀ (rest : List Stmt) (E : EndD), PSd X sd rest E → PSd X s rest E
theorem Better.le {s sd : List Slot} (h : Le s sd) : Better X s sd := fun _ _ q => psd_le h q
theorem Better.frz {s sd : List Slot} (i : Nat) {l : Addr} (hs : s[i]? = some (.own l ds)) (h : Le (s.set i (.val (.lst ds))) sd) : Better X s sd := fun _ _ q => psd_frz i hs (psd_le h q)
/-- a dict of ours that has True at its keys -/
noncomputable def odB (P : Program) (w : World) (K : PySem.W.Frag) (l : Addr) (ks : List (List Key)) : Slot := odT P w K l ks (ks.map fun _ => D.bl true)
end
end DL

namespace DL
open PySem PySem.Spec PyProof.Rows L2
section
variable {X : Cx} {sd : List Slot} {e a b c : Expr} {pos : Pos}
end
end DL

namespace DL
open PySem PySem.Spec PyProof.Rows L2
/-! ### a heap without some objects -/
noncomputable def cutH1 (h : Heap) (a : Addr) : Heap := h.update a fun o => { o with data := .freed }
noncomputable def cutH (h : Heap) (S : List Addr) : Heap := S.foldl cutH1 h
theorem cutH1_other (h : Heap) {a b : Addr} (ne : b ≠ a) : (cutH1 h a).get? b = h.get? b := Heap.get?_update_other _ _ (Ne.symm ne)
theorem cutH1_self (h : Heap) (a : Addr) : (cutH1 h a).get? a = none := by
  cases h
  simp only [cutH1, Heap.update, Heap.get?, Array.getElem?_modify, if_true]
  split
  · rfl
  · rename_i hx
    generalize hq : Option.map _ _ = q at hx ⊢
    cases q with
    | none => rfl
    | some o =>
      obtain ⟨o', h1, h2⟩ := Option.map_eq_some_iff.mp hq
      exact (hx _ _ _ (by rw [← h2])).elim
theorem cutH_out : ∀ {S : List Addr} {h : Heap} {a : Addr}, a ∉ S → (cutH h S).get? a = h.get? a
  | [], _, _, _ => rfl
  | b :: S, h, a, hn => by
    show (cutH (cutH1 h b) S).get? a = _
    rw [cutH_out fun z => hn (List.mem_cons_of_mem _ z), cutH1_other h (fun z : a = b => hn (z ▸ List.mem_cons_self))]
theorem cutH_in : ∀ {S : List Addr} {h : Heap} {a : Addr}, a ∈ S → (cutH h S).get? a = none
  | b :: S, h, a, hm => by
    show (cutH (cutH1 h b) S).get? a = none
    by_cases hs : a ∈ S
    · exact cutH_in hs
    · have e : a = b := (List.mem_cons.mp hm).resolve_right hs
      subst e
      rw [cutH_out hs, cutH1_self]
theorem cutH_sub {S : List Addr} {h : Heap} {a : Addr} {o : Obj} (q : (cutH h S).get? a = some o) : a ∉ S ∧ h.get? a = some o := by
  have hn : a ∉ S := fun z => by rw [cutH_in z] at q; cases q
  exact ⟨hn, by rw [cutH_out hn] at q; exact q⟩
theorem funs_base {h base base' : Heap} : ∀ {l : List Env}, h.FunFrames base l → (∀ b ∈ l.filterMap (·.frame), base'.get? b = none) → h.FunFrames base' l
  | [], _, _ => trivial
  | env :: rest, hl, hb => by
    obtain ⟨hk, ⟨L, o, hf, hn, ho, hd⟩, hr⟩ := hl
    have e : (env :: rest).filterMap (·.frame) = L :: rest.filterMap (·.frame) := by rw [List.filterMap_cons, hf]
    rw [e] at hb
    exact ⟨hk, ⟨L, o, hf, hb L List.mem_cons_self, ho, hd⟩, funs_base hr fun b hm => hb b (List.mem_cons_of_mem _ hm)⟩
theorem obj_some {P : Program} {w : World} {H : Hp} {h : Heap} {a : Addr} {o : HO} (x : ObjOk P w H h a o) : ∃ ob, h.get? a = some ob := by
  cases o with
  | lst xs => obtain ⟨_, _, _, _, e⟩ := x; exact ⟨_, e⟩
  | tup xs => obtain ⟨_, _, _, ob, e, _⟩ := x; exact ⟨_, e⟩
  | dK kvs => obtain ⟨_, _, _, _, o, _, _, e, _⟩ := x; exact ⟨_, e⟩
  | dT kvs => obtain ⟨_, _, _, _, o, _, _, e, _⟩ := x; exact ⟨_, e⟩
  | set S n => obtain ⟨o, _, _, _, e, _⟩ := x; exact ⟨_, e⟩
  | ins C dx fs => obtain ⟨_, _, _, e, _⟩ := x; exact ⟨_, e⟩
  | own y => obtain ⟨_, e⟩ := x; exact ⟨_, e⟩
  | xd fs => obtain ⟨_, ⟨_, _, _, e, _⟩, _⟩ := x; exact ⟨_, e⟩
  | rng lo hi => obtain ⟨_, _, _, e⟩ := x; exact ⟨_, e⟩
  | frz ob u => obtain ⟨e, _⟩ := x; exact ⟨_, e⟩
  | tbl ps => exact ⟨_, (show h.get? a = some _ from x)⟩
  | met f y => exact ⟨_, (show h.get? a = some _ from x)⟩
  | ext φ => obtain ⟨_, ⟨_, e⟩, _⟩ := x; exact ⟨_, e⟩
/-! ### an exception of a class of the text, on its way -/
structure Exc (h0 h : Heap) (H : Hp) (a T : Addr) (cls : Value) : Prop where
  free : H a = none
  new : h0.get? a = none
  freeT : H T = none
  newT : h0.get? T = none
  obj : ∃ oe vs oT ts a0, h.get? a = some oe ∧ (oe.cls = cls ∧ vs[0]? = some a0) ∧ oe.data = .fields vs ∧ vs[1]? = some (.ref T) ∧ T ≠ a ∧ h.get? T = some oT ∧ oT.data = .fields ts ∧ ts[3]? = some .none
noncomputable def CX1 (P : Program) (w : World) (cls : Value) : CXT := fun outer H s E e s' => ∃ a T H', e = .ref a ∧ s'.os = s.os ∧ AllBare s'.gens ∧ Un (frs outer) [] H H' s.heap s'.heap ∧ HOk P w H' s'.heap ∧ Exc s.heap s'.heap H' a T cls ∧ E (.ref a) (some a) H'
section
variable {X : Cx} {pins : List (Addr × Obj)} {σ : St} {H : Hp} {s : Shared} {h' : Heap} {a T : Addr} {cls a0 : Value} {S : List Addr} {E : XK}
/-- a frame is left: what is known behind it -/
theorem left_cx (I : Inv X pins σ H s) (hex : X.ex = []) (hst : X.stack = X.env :: X.outer ∧ X.env.frame = some X.env.locals) (hS : ∀ b ∈ S, H b = none ∧ X.s₀.heap.get? b = none) (ha : a ∈ S) (L : Heap.LeftW (cutH s.heap (frs X.stack ++ S)) X.stack a cls a0 s.heap h') (hE : E (.ref a) (some a) H) :
    CX1 X.prog X.w cls X.outer X.H₀ X.s₀ E (.ref a) { s with heap := h' } := by
  obtain ⟨k1, k2, ⟨oe, vs, T, oT, ts, he, hc, hd, h1, hnT, hTe, hT, hdT, h3⟩, k4⟩ := L
  have fr : frs X.stack = X.env.locals :: frs X.outer := by
    unfold frs
    rw [hst.1, List.filterMap_cons, hst.2]
  have out : ∀ b o, X.s₀.heap.get? b = some o → b ∉ frs X.outer → b ∉ frs X.stack ++ S := fun b o q hb hm => by
    rcases List.mem_append.mp hm with hm | hm
    · rw [fr] at hm
      rcases List.mem_cons.mp hm with e | hm
      · have := I.ok.above
        have lt := Heap.lt_size q
        rw [e] at lt
        exact absurd lt (Nat.not_lt.mpr this)
      · exact hb hm
    · rw [(hS b hm).2] at q
      cases q
  have stay : ∀ b o, b ∉ frs X.stack ++ S → s.heap.get? b = some o → h'.get? b = some o := fun b o hb q => k1 b o (by rw [cutH_out hb]; exact q)
  have nex : ∀ b, b ∉ X.ex := fun b hb => by rw [hex] at hb; cases hb
  have slot : ∀ b o, X.s₀.heap.get? b = some o → X.H₀ b = none → b ∈ frs X.outer → ∃ sl, h'.get? b = some { o with slots := sl } := fun b o q n hb => by
    obtain ⟨sl, q1⟩ := I.base.slot b o q n hb (nex b)
    obtain ⟨_, o', q2, nf⟩ := I.ok.funs.mem hb
    rw [q] at q2
    cases q2
    obtain ⟨sl2, q3⟩ := k4 b _ q1 nf
    exact ⟨sl2, q3⟩
  have tr : ∀ b u, H b = some u → b ∉ frs X.stack ++ S := fun b u e hm => by
    rcases List.mem_append.mp hm with hm | hm
    · rw [I.env0.frf b hm] at e
      cases e
    · rw [(hS b hm).1] at e
      cases e
  have Tn : s.heap.get? T = none ∨ T ∈ S := by
    by_cases hm : T ∈ frs X.stack ++ S
    · rcases List.mem_append.mp hm with hm | hm
      · obtain ⟨_, o, q, nf⟩ := k2.mem hm
        rw [hT] at q
        cases q
        exact (nf ts hdT).elim
      · exact .inr hm
    · rw [cutH_out hm] at hnT
      exact .inl hnT
  refine ⟨a, T, H, rfl, I.os, I.bare, ⟨fun b o q n hb _ => stay b o (out b o q hb) (I.base.keep b o q n hb (nex b)), fun b o q n hb _ => slot b o q n hb, fun b o q n _ => I.base.free b o q n (nex b), fun b o q _ => ?_, I.base.tups, I.base.frzs, I.base.tbls⟩, fun b u e => ?_, ⟨(hS a ha).1, (hS a ha).2, ?_, ?_, oe, vs, oT, ts, a0, he, hc, hd, h1, hTe, hT, hdT, h3⟩, hE⟩
  · by_cases hb : b ∈ frs X.outer
    · obtain ⟨sl, q2⟩ := slot b o q (I.ok.frf b hb) hb
      exact ⟨_, q2⟩
    · obtain ⟨o1, q1⟩ := I.base.there b o q (nex b)
      exact ⟨o1, stay b o1 (out b o q hb) q1⟩
  · refine (I.hok b u e).stay (fun c v hc q => stay c v ?_ q) (fun _ q => q) fun _ _ q => q
    rcases hc with z | z
    · rw [z]
      exact tr b u e
    · exact tr c _ z
  · rcases Tn with q | q
    · cases g : H T with
      | none => rfl
      | some u =>
        obtain ⟨ob, q2⟩ := obj_some (I.hok T u g)
        rw [q] at q2
        cases q2
    · exact (hS T q).1
  · rcases Tn with q | q
    · cases g : X.s₀.heap.get? T with
      | none => rfl
      | some o =>
        obtain ⟨o1, q1⟩ := I.base.there T o g (nex T)
        rw [q] at q1
        cases q1
    · exact (hS T q).2
/-- a made exception leaves its frame -/
theorem leave_new {args : List Value} {Ex : Value → Shared → Prop} (I : Inv X pins σ H s) (hex : X.ex = []) (hst : X.stack = X.env :: X.outer ∧ X.env.frame = some X.env.locals) (m : Heap.MadeExcOf s.heap h' a cls args) (hE : E (.ref a) (some a) H) :
    wpAny (model X.prog X.w) X.A (leaving X.env (.ref a)) (fun _ s'' => CX1 X.prog X.w cls X.outer X.H₀ X.s₀ E (.ref a) s'') Ex { s with heap := h' } := by
  obtain ⟨t, he, ht, _⟩ := m.there
  have I' : Inv X pins σ H { s with heap := h' } := I.kept (t' := s.toks) m.keeps
  have Ha : H a = none := by
    cases g : H a with
    | none => rfl
    | some u =>
      obtain ⟨ob, q⟩ := obj_some (I.hok a u g)
      rw [m.new] at q
      cases q
  have sa : X.s₀.heap.get? a = none := by
    cases g : X.s₀.heap.get? a with
    | none => rfl
    | some o =>
      obtain ⟨o1, q1⟩ := I.base.there a o g (fun hb => by rw [hex] at hb; cases hb)
      rw [m.new] at q1
      cases q1
  have hS : ∀ b ∈ [a], H b = none ∧ X.s₀.heap.get? b = none := fun b hb => by
    rw [List.mem_singleton.mp hb]
    exact ⟨Ha, sa⟩
  have fu : Heap.FunFrames h' (cutH h' (frs X.stack ++ [a])) X.stack := funs_base I'.env0.funs fun b hb => cutH_in (List.mem_append_left _ hb)
  have fm := I'.ok.frames
  rw [hst.1] at fm
  have fu2 := fu
  rw [hst.1] at fu2
  refine wpAny_leaving_firstW (base := cutH h' (frs X.stack ++ [a])) fm (by rw [hst.1]; exact fu2) hst.2 he (fun b o q => (cutH_sub q).2) (cutH_in (List.mem_append_right _ (List.mem_singleton_self a))) rfl rfl rfl fun h'' L => ?_
  rw [← hst.1] at L
  exact left_cx I' hex hst hS (List.mem_singleton_self a) L hE
/-- an exception on its way leaves a frame -/
theorem leave_next {Ex : Value → Shared → Prop} (I : Inv X pins σ H s) (hex : X.ex = []) (hst : X.stack = X.env :: X.outer ∧ X.env.frame = some X.env.locals) (x : Exc X.s₀.heap s.heap H a T cls) (hE : E (.ref a) (some a) H) :
    wpAny (model X.prog X.w) X.A (leaving X.env (.ref a)) (fun _ s'' => CX1 X.prog X.w cls X.outer X.H₀ X.s₀ E (.ref a) s'') Ex s := by
  obtain ⟨f1, n1, HT, nT, oe, vs, oT, ts, a0, he, hc, hd, h1, hTe, hT, hdT, h3⟩ := x
  have hS : ∀ b ∈ [a, T], H b = none ∧ X.s₀.heap.get? b = none := fun b hb => by
    simp only [List.mem_cons, List.not_mem_nil, or_false] at hb
    rcases hb with rfl | rfl
    · exact ⟨f1, n1⟩
    · exact ⟨HT, nT⟩
  have fu : Heap.FunFrames s.heap (cutH s.heap (frs X.stack ++ [a, T])) X.stack := funs_base I.env0.funs fun b hb => cutH_in (List.mem_append_left _ hb)
  have fm := I.ok.frames
  rw [hst.1] at fm
  have fu2 := fu
  rw [hst.1] at fu2
  have ca : (cutH s.heap (frs X.stack ++ [a, T])).get? a = none := cutH_in (List.mem_append_right _ (by simp))
  have cT : (cutH s.heap (frs X.stack ++ [a, T])).get? T = none := cutH_in (List.mem_append_right _ (by simp))
  refine wpAny_leaving_nextW (base := cutH s.heap (frs X.stack ++ [a, T])) (cls := cls) (a0 := a0) fm (by rw [hst.1]; exact fu2) hst.2 ⟨oe, vs, T, oT, ts, he, hc, hd, h1, cT, hTe, hT, hdT, h3⟩ (fun b o q => (cutH_sub q).2) ca fun h'' L => ?_
  rw [← hst.1] at L
  exact left_cx I hex hst hS (by simp) L hE
end
end DL

namespace DL
open PySem PySem.Spec PySem.Calls PySem.W PyProof.Rows Builtin Builtin.Getset_descriptor Builtin.ObjectAttr
section
variable {prog : Program} {w : World} {A : Around} {E : Value → Shared → Prop} {h : Heap} {g : Array GenState} {d : Drawn} {t : Nat} {os : OsState} {a C : Addr} {K : Frag}
noncomputable def ExA (a C : Addr) (h : Heap) : Prop := ∃ o, h.get? a = some o ∧ o.cls = .ref C
theorem ExA.type {M : Model} {h : Heap} (I : ExA a C h) : Looks M h (typeOf (.ref a)) (.ref C) := by
  obtain ⟨o, h1, h2⟩ := I
  exact h2 ▸ (Looks.ld h1).andThen .now
theorem xc_get {tp : Value} {R : Result → Shared → Prop} {s : Shared} (X : K.In s.heap) (I : ExA a C s.heap) (hm : mroIn K C (.type "object") = some true)
    (h : R (.ok (.ret (.ref C))) s) : codeAny (model prog w) A (.call (.builtin "getset_descriptor.__get__") ⟨[.builtin "object.__class__", .ref a, tp], []⟩) R s := by
  obtain ⟨hh, g, dr, t, os⟩ := s
  have L0 := I.type (M := model prog w)
  have L1 := looks_mroIn (M := model prog w) X hm
  refine codeAny_call_builtin KF.slot_gs.plain KF.entry_gs (KF.slot_gs.check _ _ _ _ _ _ _ _ KF.type_class (KF.args_gs _ _ _) ?_)
  unfold Builtin.«getset_descriptor.__get__» descrGet
  rw [dga_obj]
  refine wpAny_bind (wpAny_pure ?_)
  unfold descrGetter descrCheckInstance descrNameAndClass isInstance
  simp only [KF.owner_class]
  repeat lk
  refine ⟨Code.quiet_builtin _ (by decide +kernel), codeAny_builtin KF.entry_class ?_⟩
  unfold Builtin.«object.__class__» shownTypeOf
  repeat lk
  exact h
theorem xc_entry {tk : Tok} {Q : Fin → Shared → Prop} (X : K.In h) (I : ExA a C h) (ha : findIn K (.ref C) "__class__" = some (some (.builtin "object.__class__"))) (hm : mroIn K C (.type "object") = some true)
    (hq : Q (.done (.ret (.ref C))) ⟨h, g, d, t, os⟩) : wpAny (model prog w) A (Builtin.«object.__getattribute__» ⟨[.ref a, .str "__class__" tk], []⟩) Q E ⟨h, g, d, t, os⟩ := by
  have hT5 : (⟨h, g, d, t, os⟩ : Shared).TypeIs (.builtin "object.__class__") "getset_descriptor" := F.typeOf_object_class
  have f5 := F.typeOf_object_class
  have f6 := F.slot_gs_get.lookup
  have f7 := F.slot_gs_set.lookup
  have L1 := looks_findIn (M := model prog w) X ha
  obtain ⟨o, hx, hc⟩ := id I
  repeat (any_goals (first | assumption | (with_reducible refine wpAny_loadPart_at hx ?_; rw [hc]) | with_reducible refine L1.at ?_ | wp_step))
  refine xc_get X I hm ?_
  repeat (any_goals (first | assumption | wp_step))
theorem xc_check {M : Model} {nameV : Value} {Q : Unit → Shared → Prop} (X : K.In h) (I : ExA a C h) (hs : subIn K (.ref C) (.type "BaseException") = some true) (hq : Q () ⟨h, g, d, t, os⟩) :
    wpAny M A (checkBuiltinCall "BaseException.__getattribute__" ⟨[.ref a, nameV], []⟩) Q E ⟨h, g, d, t, os⟩ := by
  have hk : builtinKind "BaseException.__getattribute__" = some .slot := by decide +kernel
  have hsplit : splitId "BaseException.__getattribute__" = some ("BaseException", "__getattribute__") := by decide +kernel
  have L1 := looks_subIn (M := M) X hs
  obtain ⟨o, hx, hc⟩ := id I
  have ha := F.args_bexc_ga (.ref a) nameV
  simp only [checkBuiltinCall, hk, hsplit]
  refine wpAny_bind ?_
  unfold isInstance
  repeat (first | (with_reducible refine wpAny_loadPart_at hx ?_; rw [hc]) | with_reducible refine L1.at ?_ | wp_step)
  exact hq
theorem xc_call {tk : Tok} {R : Result → Shared → Prop} (X : K.In h) (I : ExA a C h) (ha : findIn K (.ref C) "__class__" = some (some (.builtin "object.__class__"))) (hm : mroIn K C (.type "object") = some true) (hs : subIn K (.ref C) (.type "BaseException") = some true)
    (hq : R (.ok (.ret (.ref C))) ⟨h, g, d, t, os⟩) : codeAny (model prog w) A (.call (.builtin "BaseException.__getattribute__") ⟨[.ref a, .str "__class__" tk], []⟩) R ⟨h, g, d, t, os⟩ :=
  codeAny_call_builtin F.attr_ValueError.ga.plain F.entry_bexc_ga (xc_check X I hs (xc_entry X I ha hm hq))
theorem xc_by {tk : Tok} {Q : Value → Shared → Prop} (X : K.In h) (I : ExA a C h) (ha : findIn K (.ref C) "__class__" = some (some (.builtin "object.__class__"))) (hm : mroIn K C (.type "object") = some true) (hs : subIn K (.ref C) (.type "BaseException") = some true)
    (hg : findIn K (.ref C) "__getattribute__" = some (some (.builtin "BaseException.__getattribute__"))) (hn : findIn K (.ref C) "__getattr__" = some none)
    (hq : Q (.ref C) ⟨h, g, d, t, os⟩) : wpAny (model prog w) A (getAttrBy (.ref a) (.str "__class__" tk) false) Q E ⟨h, g, d, t, os⟩ := by
  have f3 := F.attr_ValueError.ga.bind (.ref a)
  have hx2 : (Value.builtin "BaseException.__getattribute__" == Value.builtin "object.__getattribute__") = false := by decide +kernel
  have hx1 : (onTheHeap (Value.ref C) && Value.builtin "BaseException.__getattribute__" == Value.builtin "object.__getattribute__") = false := by rw [hx2]; rfl
  have L1 := looks_findIn (M := model prog w) X hg
  have L2 := looks_findIn (M := model prog w) X hn
  obtain ⟨o, hx, hc⟩ := id I
  repeat (any_goals (first | assumption | (with_reducible refine wpAny_loadPart_at hx ?_; rw [hc]) | with_reducible refine L1.at ?_ | with_reducible refine L2.at ?_ | wp_step))
  refine xc_call X I ha hm hs ?_
  repeat (any_goals (first | assumption | wp_step))
theorem xc_attr {Q : Option Value → Shared → Prop} (X : K.In h) (I : ExA a C h) (ha : findIn K (.ref C) "__class__" = some (some (.builtin "object.__class__"))) (hm : mroIn K C (.type "object") = some true) (hs : subIn K (.ref C) (.type "BaseException") = some true)
    (hg : findIn K (.ref C) "__getattribute__" = some (some (.builtin "BaseException.__getattribute__"))) (hn : findIn K (.ref C) "__getattr__" = some none)
    (hq : Q (some (.ref C)) ⟨h, g, d, t + 1, os⟩) : wpAny (model prog w) A (getAttr? (.ref a) "__class__") Q E ⟨h, g, d, t, os⟩ := by
  unfold getAttr? getAttrBy?
  repeat (any_goals (first | assumption | with_reducible apply xc_by X I ha hm hs hg hn | wp_step))
/-- what is asked of a class of the text under an exception -/
structure XCls (K : Frag) (C : Addr) : Prop where
  ha : findIn K (.ref C) "__class__" = some (some (.builtin "object.__class__"))
  hm : mroIn K C (.type "object") = some true
  hs : subIn K (.ref C) (.type "BaseException") = some true
  hg : findIn K (.ref C) "__getattribute__" = some (some (.builtin "BaseException.__getattribute__"))
  hn : findIn K (.ref C) "__getattr__" = some none
  hc : (clsIn K C).isSome = true
theorem kitx_exc (x : XCls K C) : KitX K (.ref a) (.ref C) (ExA a C) where
  ty := fun _ _ _ I => I.type
  it := fun _ _ X _ => by
    obtain ⟨cdD, hcD⟩ := Option.isSome_iff_exists.mp x.hc
    unfold clsIn at hcD
    split at hcD
    · rename_i c' d' cd' sl' ho
      intro A' Q' E' s' k q
      unfold isType loadHead
      exact wpAny_bind (wpAny_loadPart (k _ _ (X _ _ ho)) (wpAny_pure q))
    · cases hcD
  ne := fun h tp dd its n sl X htp => by
    obtain ⟨cdD, hcD⟩ := Option.isSome_iff_exists.mp x.hc
    refine Bool.eq_false_iff.mpr fun q => ?_
    have e : C = tp := Value.ref.inj (beq_iff_eq.mp q)
    subst e
    unfold clsIn at hcD
    split at hcD
    · rename_i c' d' cd' sl' ho
      have z := (X _ _ ho).symm.trans htp
      cases z
    · cases hcD
  ca := fun {prog w A E Q s} X I k => by
    obtain ⟨h, g, d, t, os⟩ := s
    exact xc_attr X I x.ha x.hm x.hs x.hg x.hn k
end
end DL

namespace DL
open PySem PySem.Spec PyProof.Rows L2
noncomputable def bmVE : List Value := [.type "ValueError", .type "Exception", .type "BaseException", .type "object"]
theorem exc_of_in {K : PySem.W.Frag} {h : Heap} {C : Addr} {bmB : List Value} {newId : String} (X : K.In h) (q : PySem.W.excIn K C bmB newId = true) :
    ∃ bm N nm q bs hdct sn sub ab col dd k0 k1 k2 k3 k5 mN, h.get? C = some (excClassObj nm q C N bs bm hdct sn sub ab col dd k0 k1 k2 k3 k5 newId) ∧ h.Ns N mN ∧ mN "__init__" = none ∧ OwnTail h bmB bm := by
  unfold PySem.W.excIn at q
  split at q
  · rename_i dd cd sl ho
    split at q
    · rename_i C' bm k0 k1 k2 k3 n k5 hm hs
      simp only [Bool.and_eq_true, beq_iff_eq, Bool.not_eq_true'] at q
      obtain ⟨⟨⟨⟨⟨rfl, rfl⟩, hdel⟩, ht⟩, hok⟩, hni⟩ := q
      obtain ⟨nm, bs, mro, ns, qn, hd, sn, sub, ab, col, del⟩ := cd
      dsimp only at hm hdel hok hni
      subst hm hdel
      have hsl : sl = #[k0, k1, k2, k3, some (.builtin n), k5] := by
        obtain ⟨l⟩ := sl
        simp only at hs
        rw [hs]
      subst hsl
      exact ⟨bm, ns, nm, qn, bs, hd, sn, sub, ab, col, dd, k0, k1, k2, k3, k5, _, X _ _ ho, .of_isNs (PySem.W.isNs_of_in X hok), PySem.W.nsMap_none_of_in X hok hni, PySem.W.tail_of_in X ht⟩
    · cases q
  · cases q
/-! ### what takes an exception -/
noncomputable def Takes (X : Cx) (cls : Value) (sd : List Slot) : Prop := ∀ (pins : List (Addr × Obj)) (σ : St) (F H : Hp) (s : Shared) (a T : Addr), Inv X pins σ H s → StF X.K X.B₀ F H σ sd → Exc X.s₀.heap s.heap H a T cls → (∀ p ∈ X.pn ++ pins, p.1 ≠ a ∧ p.1 ≠ T) → X.xe (.ref a) s
noncomputable def TakesNew (X : Cx) (cls : Value) (sd : List Slot) : Prop := ∀ (pins : List (Addr × Obj)) (σ : St) (F H : Hp) (s : Shared) (h' : Heap) (a : Addr) (args : List Value), Inv X pins σ H s → StF X.K X.B₀ F H σ sd → Heap.MadeExcOf s.heap h' a cls args → X.xe (.ref a) { s with heap := h' }
section
variable {P : Program} {w : World} {K : PySem.W.Frag} {mg : Str → Option Value} {base : Heap} {N : List Str} {qual : Str} {scope : Scope} {f : Addr} {cdv : Value} {A : Around} {outer : List Env} {s : Shared} {H : Hp} {E : XK} {cls : Value} {sd : List Slot}
theorem takes_def (hE : ∀ a H', Same H H' → Smp H' → E (.ref a) (some a) H') : Takes (cxOf (CX1 P w cls) P w K mg base N qual scope f cdv A outer s H E) cls sd := fun pins σ F H' s' a T I S x _ =>
  leave_next (X := cxOf (CX1 P w cls) P w K mg base N qual scope f cdv A outer s H E) (E := E) I rfl ⟨rfl, rfl⟩ x (hE a H' (fun b o e => S.sub _ _ (S.base _ _ e)) S.smp)
theorem takes_defN (hE : ∀ a H', Same H H' → Smp H' → E (.ref a) (some a) H') : TakesNew (cxOf (CX1 P w cls) P w K mg base N qual scope f cdv A outer s H E) cls sd := fun pins σ F H' s' h' a args I S m =>
  leave_new (X := cxOf (CX1 P w cls) P w K mg base N qual scope f cdv A outer s H E) (E := E) I rfl ⟨rfl, rfl⟩ m (hE a H' (fun b o e => S.sub _ _ (S.base _ _ e)) S.smp)
end
/-! ### raise -/
section
variable {X : Cx} {sd : List Slot} {e a b c : Expr} {es : List Expr} {pos : Pos} {d : D} {ds : List D} {E : EndD}
theorem psd_raise {x : Str} {np cpos : Pos} {C : Addr} (hg : Gl X x) (hm : X.mg x = some (.ref C)) (hx : PySem.W.excIn X.K C bmVE "ValueError.__new__" = true) (ht : TakesNew X (.ref C) sd) (he : PAd X sd (e :: es) (ds.map R.val)) (hl : ds.length ≤ 1000)
    (hc : X.calm = true := by rfl) (hdb : (x == ("__debug__" : Str)) = false := by decide) (hst : starEach (e :: es) X.env = (false, eval e X.env) :: starEach es X.env := by rfl) (hpl : (backTo cpos (starEach es X.env)).any (·.1) = false := by rfl) :
    PSd1 X sd (.Raise (some (.Call (.Name x np) (e :: es) [] cpos)) none pos) E := .mk fun σ F H S pins s I => by
  obtain ⟨bm, Nn, nm, q, bs, hdct, sn, sub, ab, col, dd, k0, k1, k2, k3, k5, mN, hC, hN, hni, T⟩ := exc_of_in (h := X.base) I.ok.mod.kin hx
  refine wpAny_Raise_call_subT (C := C) (nm := nm) (q := q) (N := Nn) (bs := bs) (bm := bm) (hdct := hdct) (sn := sn) (sub := sub) (ab := ab) (col := col) (dd := dd) (k0 := k0) (k1 := k1) (k2 := k2) (k3 := k3) (k5 := k5) (bmB := bmVE)
    PySem.F.excBase_ValueError (mN := mN) (T.hasType PySem.F.excBase_ValueError.hasBase) (I.ok.hd hc) (by rw [hst]; show (false || (backTo cpos (starEach es X.env)).any (·.1)) = false; rw [hpl]; rfl) hni (ld_glob I hg hm ⟨rfl, ?_⟩ hdb)
  have hA := he σ F H S cpos pins s I
  rw [hst] at hA ⊢
  refine Calls.evalArgs_plain (wpAny_mono hA (fun us s2 ⟨vs, H2, I2, r2, F2, S2, s2', q2⟩ => ?_) fun _ _ y => y)
  have lv : us.length ≤ sizeLine := by
    rw [← r2.length, q2.vals.len]
    exact Nat.le_of_lt (small1000 hl)
  exact ⟨rfl, lv, I2.bk _ _ hC, hN.keeps I2.bk, T.keeps I2.bk, fun h' e m => ht pins σ F2 H2 s2 h' e us I2 S2 m⟩
/-! ### a call that raises -/
structure PEx (X : Cx) (sd : List Slot) (e : Expr) : Prop where
  run : ∀ (σ : St) (F H : Hp), StF X.K X.B₀ F H σ sd → wE X e σ H (fun _ _ => False)
theorem psd_exprX (h : PEx X sd e) (hs : swapsWith e none pos.line X.env = pure false := by rfl) : PSd1 X sd (.Expr e pos) E := .mk fun σ F H S =>
  (ps_expr pe_w hs).to ((h.run σ F H S).imp fun _ _ z => z.elim)
theorem psd_setE (i : Nat) {x : Str} {p : Pos} (hN : X.N.Nodup) (hi : X.N[i]? = some x) (hx : Loc X.env.scope x) (h : PEx X sd e) (hs : swapsWith e (some (.Name x p)) pos.line X.env = pure false := by rfl)
    (hf : X.fn x = true ∨ X.env.scope.names.lookup x = some .local := by first | exact .inl rfl | exact .inr rfl | assumption) : PSd1 X sd (.Assign [.Name x p] e pos) E := .mk fun σ F H S =>
  (ps_set hN hi hx pe_w hs hf).to ((h.run σ F H S).imp fun _ _ z => z.elim)
theorem psd_retE (h : PEx X sd e) : PSd1 X sd (.Return (some e) pos) E := .mk fun σ F H S =>
  (ps_ret pe_w).to ((h.run σ F H S).imp fun _ _ z => z.elim)
noncomputable def spX (K : PySem.W.Frag) (n : Nat) (C : List D → Prop) : Sp := fun vs H _ E => vs.length = n ∧ Smp H ∧ ∃ ds, RepL K H ds vs ∧ C ds ∧ ∀ a H', Same H H' → Smp H' → E (.ref a) (some a) H'
structure CalleeX (P : Program) (w : World) (K : PySem.W.Frag) (mg : Str → Option Value) (base : Heap) (x : Str) (k n : Nat) (C : List D → Prop) (cls : Value) (dvs : List V) (dws : List Value) : Prop where
  ex : ∃ (f : Addr) (fd : FuncData) (ps : List Str), mg x = some (.ref f) ∧ PySem.W.keepIn K (.ref f) = true ∧ Binds K fd ps dws ∧ Vals dvs dws ∧ FnOk P w K mg base (CX1 P w cls) k f fd ps (spX K n C)
theorem run_fnX {CX : CXT} {k : Nat} {f : Addr} {fd : FuncData} {ps : List Str} {sp : Sp} {dvs : List V} {dws : List Value} {Ex : XK} {pins : List (Addr × Obj)} {σ : St} {H : Hp} {s : Shared} {Q : VK} {us : List Value} {vs : List V} (F : FnOk X.prog X.w X.K X.mg X.base CX k f fd ps sp) (hr : Room k X.A) (hb : Binds X.K fd ps dws) (hd : Vals dvs dws)
    (I : Inv X pins σ H s) (r : Vals vs us) (h : sp (vs ++ dvs) H Q Ex) (hx : ∀ e s', CX X.stack H s Ex e s' → X.xe e s') : wpAny (model X.prog X.w) X.A (call (.ref f) us) (EP X pins σ Q) X.xe s := by
  have r2 : Vals (vs ++ dvs) (us ++ dws) := r.append hd
  have hl : (us ++ dws).length = ps.length := by rw [← r2.length]; exact F.len _ _ _ _ h
  refine wpAny_call (codeAny_mono (F.run X.A X.stack s H ⟨us, []⟩ (us ++ dws) (vs ++ dvs) Q Ex hr I.env0 (hb s us I.kIn hl) r2 h) fun r s' hq => ?_)
  cases r with
  | error e => exact hx e s' hq
  | ok fl =>
    cases fl with
    | ret u => exact I.after hq
    | next => exact False.elim hq
    | brk => exact False.elim hq
    | cont => exact False.elim hq
/-- behind a call that raised -/
theorem after_x {cls : Value} {pins : List (Addr × Obj)} {σ : St} {F H : Hp} {s s' : Shared} {e : Value} (hex : X.ex = []) (I : Inv X pins σ H s) (S : StF X.K X.B₀ F H σ sd) (h : CX1 X.prog X.w cls X.stack H s (fun _ _ H' => Same H H' ∧ Smp H') e s') :
    ∃ a T H', e = .ref a ∧ Inv X pins σ H' s' ∧ StF X.K X.B₀ F H' σ sd ∧ Exc X.s₀.heap s'.heap H' a T cls ∧ ∀ p ∈ X.pn ++ pins, p.1 ≠ a ∧ p.1 ≠ T := by
  obtain ⟨a, T, H', rfl, os, bare, un, hok, x, sH, smH⟩ := h
  have I2 : Inv X pins σ H' s' := I.call' os un hok bare (fun b z => absurd z (by simp))
  have fr : ∀ b, s.heap.get? b = none → X.s₀.heap.get? b = none := fun b q => by
    cases g : X.s₀.heap.get? b with
    | none => rfl
    | some o =>
      obtain ⟨o1, q1⟩ := I.base.there b o g (fun hb => by rw [hex] at hb; cases hb)
      rw [q] at q1
      cases q1
  have nw : ∀ b, s.heap.get? b = none → ∀ p ∈ X.pn ++ pins, p.1 ≠ b := fun b q p hp z => by
    have := (I.pin p hp).1
    rw [z, q] at this
    cases this
  exact ⟨a, T, H', rfl, I2, ⟨S.base, S.sub.trans sH, smH, S.slots.mono (Same.refl _) fun l hl => ⟨(S.slots.owns hl).1, fun ob e => sH _ _ e⟩, S.nd⟩, ⟨x.free, fr a x.new, x.freeT, fr T x.newT, x.obj⟩, fun p hp => ⟨nw a x.new p hp, nw T x.newT p hp⟩⟩
theorem px_call {x : Str} {p : Pos} {k n : Nat} {C : List D → Prop} {cls : Value} {dvs : List V} {dws : List Value} {dds : List D} (G : CalleeX X.prog X.w X.K X.mg X.base x k n C cls dvs dws) (hex : X.ex = []) (hr : Room k X.A) (hg : Gl X x) (ha : PAd X sd (e :: es) (ds.map R.val)) (hdv : ∀ H, RepL X.K H dds dvs) (hc : C (ds ++ dds)) (hn : ds.length + dds.length = n) (ht : Takes X cls sd)
    (hdb : (x == ("__debug__" : Str)) = false := by decide) (he : starEach (e :: es) X.env = (false, eval e X.env) :: starEach es X.env := by rfl) (hpl : (backTo pos (starEach es X.env)).any (·.1) = false := by rfl) :
    PEx X sd (.Call (.Name x p) (e :: es) [] pos) := ⟨fun σ F H S pins s I => by
  obtain ⟨f, fd, ps, hm, hk, bd, hd, G⟩ := G.ex
  refine wpAny_Call_Name_kw (ld_glob I hg hm ?_ hdb)
  refine PySem.W.callWith_K (h₀ := X.base) I.ok.mod.kin hk (thn (ha σ F H S pos pins s I) fun us s1 ⟨vs, H1, I1, r, F1, S1, s1', q⟩ => ⟨I1.kIn, ?_⟩) he hpl
  have rl : RepL X.K H1 (ds ++ dds) (vs ++ dvs) := (q.vals.mono S1.sub).app (hdv H1)
  refine run_fnX (Q := fun _ _ => False) (Ex := fun _ _ H' => Same H1 H' ∧ Smp H') G hr bd hd I1 r ⟨by rw [rl.len, List.length_append]; exact hn, S1.smp, ds ++ dds, rl, hc, fun a H' q1 q2 => ⟨q1, q2⟩⟩ fun e s' hcx => ?_
  obtain ⟨a, T, H', rfl, I2, S2, x2, pn⟩ := after_x hex I1 S1 hcx
  exact ht pins σ F1 H' s' a T I2 S2 x2 pn⟩
end
/-! ### a def that raises -/
section
variable {P : Program} {w : World} {K : PySem.W.Frag} {mg : Str → Option Value} {base : Heap} {x qual : Str} {st : Stmt} {f : Addr} {fd : FuncData} {N ps : List Str} {k : Nat} {C : List D → Prop} {cls : Value}
theorem fn_x {oc : Value} {od : Option Addr} {osl : Array (Option Value)} {dV kV doc pm cdv ct : Value} {an : Option Addr} (lk : K.lookup f = some ⟨oc, od, .func (PySem.W.fnOf x qual (defArgs st) (defBody st) (defScope st) dV kV doc pm an cdv ct), osl⟩) (hcd : PySem.W.codeIn K cdv qual = true) (S : FnScope N ps (defScope st))
    (body : ∀ (A : Around) (outer : List Env) (s : Shared) (H : Hp) (E : XK), Room k (A.deeper (envOfC qual (defScope st) s.heap.objs.size f cdv)) → (∀ a H', Same H H' → Smp H' → E (.ref a) (some a) H') → ∀ ds, ds.length = ps.length → C ds →
      PSd (cxOf (CX1 P w cls) P w K mg base N qual (defScope st) f cdv A outer s H E) (init N.length ds) (defBody st) { nx := fun _ => False, rt := fun _ => False }) :
    FnOk P w K mg base (CX1 P w cls) (k + 1) f (PySem.W.fnOf x qual (defArgs st) (defBody st) (defScope st) dV kV doc pm an cdv ct) ps (spX K ps.length C) := by
  refine fn_of lk hcd S (fun vs H Q E h => h.1) fun A outer s H vs Q E hr h => ?_
  obtain ⟨hl, sm, ds, rl, c, q⟩ := h
  have hds : ds.length = ps.length := by rw [← rl.len]; exact hl
  refine ⟨_, pss_w, ?_⟩
  have hlen : N.length - vs.length = N.length - ds.length := by rw [rl.len]
  have S0 : StF K H H H (L2.start N vs) (init N.length ds) := by
    refine ⟨Same.refl _, Same.refl _, sm, ?_, ?_⟩
    · unfold L2.start init
      rw [hlen]
      exact slots_init (m := 0) rl
    · unfold init
      rw [owned_init]
      exact List.nodup_nil
  exact (body A outer s H E hr q ds hds c (L2.start N vs) H H S0).imp (fun _ _ ⟨_, _, _, _, z⟩ => z.elim) (fun _ _ ⟨_, _, z⟩ => z.elim) (fun _ _ ⟨_, _, _, _, z⟩ => z.elim) fun _ _ ⟨_, _, _, _, z⟩ => z.elim
theorem def_okXD (F : FunD K x qual st f fd) (S : FnScope N ps (defScope st)) (hm : mg x = some (.ref f))
    (hb : ∀ (s : Shared) (T : Addr) (o : Obj) (nn : Nat) (kV doc pm : Value) (an : Option Addr) (cdv ct : Value) (us : List Value), s.heap.get? T = some o → o.data = .seq #[.none] nn → us.length = ps.length → BindsTo s (PySem.W.fnOf x qual (defArgs st) (defBody st) (defScope st) (.ref T) kV doc pm an cdv ct) ⟨us, []⟩ (ps.zip us))
    (hb2 : ∀ (s : Shared) (T : Addr) (o : Obj) (nn : Nat) (kV doc pm : Value) (an : Option Addr) (cdv ct : Value) (us : List Value), s.heap.get? T = some o → o.data = .seq #[.none] nn → us.length + 1 = ps.length → BindsTo s (PySem.W.fnOf x qual (defArgs st) (defBody st) (defScope st) (.ref T) kV doc pm an cdv ct) ⟨us, []⟩ (ps.zip (us ++ [.none])))
    (body : ∀ (cdv : Value) (A : Around) (outer : List Env) (s : Shared) (H : Hp) (E : XK), Room k (A.deeper (envOfC qual (defScope st) s.heap.objs.size f cdv)) → (∀ a H', Same H H' → Smp H' → E (.ref a) (some a) H') → ∀ ds, ds.length = ps.length → C ds →
      PSd (cxOf (CX1 P w cls) P w K mg base N qual (defScope st) f cdv A outer s H E) (init N.length ds) (defBody st) { nx := fun _ => False, rt := fun _ => False }) :
    CalleeX P w K mg base x (k + 1) ps.length C cls [] [] ∧ CalleeX P w K mg base x (k + 1) ps.length C cls [.non] [.none] := by
  obtain ⟨oc, od, T, kV, doc, pm, an, cdv, ct, osl, tc, td, n, tsl, rfl, lk, hcd, lT⟩ := F.ex
  refine ⟨⟨f, PySem.W.fnOf x qual (defArgs st) (defBody st) (defScope st) (.ref T) kV doc pm an cdv ct, ps, hm, F.kp, fun s us KX hl => ?_, .nil, fn_x lk hcd S (body cdv)⟩, ⟨f, PySem.W.fnOf x qual (defArgs st) (defBody st) (defScope st) (.ref T) kV doc pm an cdv ct, ps, hm, F.kp, fun s us KX hl => ?_, .cons rfl .nil, fn_x lk hcd S (body cdv)⟩⟩
  · rw [List.append_nil] at hl ⊢
    exact hb s T _ n kV doc pm an cdv ct us (KX T _ lT) rfl hl
  · exact hb2 s T _ n kV doc pm an cdv ct us (KX T _ lT) rfl (by simpa using hl)
end
end DL

namespace DL
open PySem PySem.Spec PyProof.Rows L2
section
variable {X : Cx} {pins : List (Addr × Obj)} {σ : St} {F H : Hp} {s : Shared} {h' : Heap} {S : List Addr} {sd : List Slot}
theorem cell_slots {h h' : Heap} {c : Addr} {v : Option Value} (k : h.UpToSlots h') (z : h.IsCell c v) : h'.IsCell c v := by
  obtain ⟨o, ho, hd⟩ := z
  obtain ⟨sl, q⟩ := k c o ho fun vs e => by rw [hd] at e; cases e
  exact ⟨_, q, hd⟩
/-- records of ours have changed, and slots of frames -/
theorem inv_rec (I : Inv X pins σ H s) (hS : ∀ b ∈ S, H b = none ∧ X.s₀.heap.get? b = none ∧ ∀ p ∈ X.pn ++ pins, p.1 ≠ b) (k1 : Heap.StaysIn (cutH s.heap (frs X.stack ++ S)) h') (k4 : s.heap.UpToSlots h') : Inv X pins σ H { s with heap := h' } := by
  have stay : ∀ b o, b ∉ frs X.stack ++ S → s.heap.get? b = some o → h'.get? b = some o := fun b o hb q => k1 b o (by rw [cutH_out hb]; exact q)
  have out : ∀ b o, X.s₀.heap.get? b = some o → b ∉ X.fs → b ∉ frs X.stack ++ S := fun b o q hb hm => by
    rcases List.mem_append.mp hm with hm | hm
    · rcases List.mem_cons.mp (I.stkSub b hm) with e | hm
      · have lt := Heap.lt_size q
        rw [e] at lt
        exact absurd lt (Nat.not_lt.mpr I.ok.above)
      · exact hb hm
    · rw [(hS b hm).2.1] at q
      cases q
  have slot : ∀ b o, X.s₀.heap.get? b = some o → X.H₀ b = none → b ∈ X.fs → b ∉ X.ex → ∃ sl, h'.get? b = some { o with slots := sl } := fun b o q n hb hx => by
    obtain ⟨sl, q1⟩ := I.base.slot b o q n hb hx
    obtain ⟨_, o', q2, nf⟩ := I.ok.funs.mem hb
    rw [q] at q2
    cases q2
    obtain ⟨sl2, q3⟩ := k4 b _ q1 nf
    exact ⟨sl2, q3⟩
  have tr : ∀ b u, H b = some u → b ∉ frs X.stack ++ S := fun b u e hm => by
    rcases List.mem_append.mp hm with hm | hm
    · rw [I.env0.frf b hm] at e
      cases e
    · rw [(hS b hm).1] at e
      cases e
  obtain ⟨m, hn, hl⟩ := id I.loc
  refine ⟨I.ok, I.os, I.bare, ⟨fun b o q n hb hx => stay b o (out b o q hb) (I.base.keep b o q n hb hx), slot, I.base.free, fun b o q hx => ?_, I.base.tups, I.base.frzs, I.base.tbls⟩, ⟨m, k4.ns hn, fun i x v e1 e2 e3 => ?_⟩, fun x c e => ?_, I.free, I.freeC, fun p hp => ?_, fun b u e => ?_, I.len⟩
  · by_cases hb : b ∈ X.fs
    · obtain ⟨sl, q2⟩ := slot b o q (I.ok.frf b hb) hb hx
      exact ⟨_, q2⟩
    · obtain ⟨o1, q1⟩ := I.base.there b o q hx
      exact ⟨o1, stay b o1 (out b o q hb) q1⟩
  · obtain ⟨u, r, q⟩ := hl i x v e1 e2 e3
    refine ⟨u, r, ?_⟩
    rcases q with q | ⟨k, c, e, z⟩
    · exact .inl q
    · exact .inr ⟨k, c, e, cell_slots k4 z⟩
  · obtain ⟨v, z⟩ := I.cell x c e
    exact ⟨v, cell_slots k4 z⟩
  · obtain ⟨e, n, ne, nf, d⟩ := I.pin p hp
    refine ⟨stay p.1 p.2 (fun hm => ?_) e, n, ne, nf, d⟩
    rcases List.mem_append.mp hm with hm | hm
    · rcases List.mem_cons.mp (I.stkSub _ hm) with z | z
      · exact ne z
      · exact nf z
    · exact (hS _ hm).2.2 p hp rfl
  · refine (I.hok b u e).stay (fun c v hc q => stay c v ?_ q) (fun _ q => q) fun _ _ q => q
    rcases hc with z | z
    · rw [z]
      exact tr b u e
    · exact tr c _ z
/-- the same state seen from another start of the frozen heap -/
theorem inv_h0 {ξ : Value → Shared → Prop} {pn : List (Addr × Obj)} (I : Inv X pins σ H s) (S : StF X.K X.H₀ F H σ sd) (hpn : pn = X.pn ++ pins) : Inv { X with H₀ := F, B₀ := F, hB := fun _ _ e _ => e, xe := ξ, pn := pn } [] σ H s := by
  have n0 : ∀ b, F b = none → X.H₀ b = none := fun b n => by
    cases q : X.H₀ b with
    | none => rfl
    | some u => rw [S.base _ _ q] at n; cases n
  have fn : ∀ b, H b = none → F b = none := fun b n => S.sub.free n
  subst hpn
  refine ⟨⟨I.ok.mod, I.ok.kind, I.ok.glob, I.ok.blt, I.ok.above, I.ok.inj, I.ok.has, I.ok.cab, I.ok.hd, I.ok.frames, I.ok.stk, I.ok.exf, fun b o e => ⟨(I.ok.bs b o e).1, fn b (I.bs b o e).2⟩, I.ok.bsz, I.ok.noex, I.ok.exfs, I.ok.funs, fun b hb => ?_⟩, I.os, I.bare,
    ⟨fun b o q n hb hx => I.base.keep b o q (n0 b n) hb hx, fun b o q n hb hx => I.base.slot b o q (n0 b n) hb hx, fun b o q n hx => I.base.free b o q (n0 b n) hx, I.base.there, fun b xs e => S.sub _ _ e, fun b o u e => S.sub _ _ e, fun b ps e => ⟨#[], by rw [S.sub _ _ e]; simp⟩⟩, I.loc, I.cell, I.free, I.freeC, fun p hp => ?_, I.hok, I.len⟩
  · obtain ⟨_, o, q, _⟩ := I.ok.funs.mem hb
    exact fn b (I.base.free b o q (I.ok.frf b hb) (fun hx => I.ok.exfs b hx hb))
  · rw [List.append_nil] at hp
    exact I.pin p hp
theorem inv_h1 {ξ : Value → Shared → Prop} {pn : List (Addr × Obj)} {pins' : List (Addr × Obj)} {σ' : St} {H' : Hp} {s' : Shared} (I0 : Inv X pins σ H s) (S : StF X.K X.H₀ F H σ sd) (hpn : pn = X.pn ++ pins) (I : Inv { X with H₀ := F, B₀ := F, hB := fun _ _ e _ => e, xe := ξ, pn := pn } pins' σ' H' s') : Inv X pins σ' H' s' := by
  subst hpn
  have nf : ∀ b o, X.s₀.heap.get? b = some o → X.H₀ b = none → b ∉ X.ex → F b = none := fun b o q n hx => S.sub.free (I0.base.free b o q n hx)
  refine ⟨I0.ok, I.os, I.bare, ⟨fun b o q n hb hx => I.base.keep b o q (nf b o q n hx) hb hx, fun b o q n hb hx => I.base.slot b o q (nf b o q n hx) hb hx, fun b o q n hx => I.base.free b o q (nf b o q n hx) hx, I.base.there, fun b xs e => I.base.tups b xs (S.base _ _ e), fun b o u e => I.base.frzs b o u (S.base _ _ e), fun b ps e => I.base.tbls b ps (S.base _ _ e)⟩, I.loc, I.cell, I.free, I.freeC, fun p hp => I.pin p (List.mem_append_left _ hp), I.hok, I.len⟩
/-- a name is gone -/
theorem inv_gone {m : Str → Option Value} {j : Nat} {n : Str} {v : Option Value} {t' : Nat} (I : Inv X pins σ H s) (hN : X.N.Nodup) (hj : X.N[j]? = some n) (hk : X.env.scope.names.lookup n = some .local) (hn : s.heap.Ns X.env.locals m)
    (hl : ∀ (i : Nat) (x : Str) (v : V), X.N[i]? = some x → σ[i]? = some (some v) → Vis X.env.scope x → ∃ u, RelV v u ∧ Look X.env s.heap m x u) (hn' : h'.Ns X.env.locals (fun x => if x = n then v else m x)) (hs : Heap.SameBut X.env.locals s.heap h') : Inv X pins (σ.set j none) H { s with heap := h', toks := t' } := by
  have cne := I.cne
  have hiσ : j < σ.length := by rw [I.len]; exact (List.getElem?_eq_some_iff.mp hj).1
  refine ⟨I.ok, I.os, I.bare, ⟨fun b o e n hb hx => ?_, fun b o e n hb hx => ?_, I.base.free, fun b o e hx => ?_, I.base.tups, I.base.frzs, I.base.tbls⟩, ⟨_, hn', fun i y v' e1 e2 e3 => ?_⟩, fun y c e => ?_, I.free, I.freeC, fun p hp => ?_, fun b ob e => ?_, by rw [List.length_set]; exact I.len⟩
  · exact (hs.2 b (Nat.ne_of_lt (Nat.lt_of_lt_of_le (Heap.lt_size e) I.ok.above))).trans (I.base.keep b o e n hb hx)
  · obtain ⟨sl, e1⟩ := I.base.slot b o e n hb hx
    exact ⟨sl, (hs.2 b (Nat.ne_of_lt (Nat.lt_of_lt_of_le (Heap.lt_size e) I.ok.above))).trans e1⟩
  · obtain ⟨o', e1⟩ := I.base.there b o e hx
    exact ⟨o', (hs.2 b (Nat.ne_of_lt (Nat.lt_of_lt_of_le (Heap.lt_size e) I.ok.above))).trans e1⟩
  · by_cases hi : i = j
    · subst hi
      rw [List.getElem?_set_self hiσ] at e2
      cases e2
    · rw [List.getElem?_set_ne (Ne.symm hi)] at e2
      obtain ⟨u', r', q⟩ := hl i y v' e1 e2 e3
      refine ⟨u', r', ?_⟩
      rcases q with ⟨k, e⟩ | ⟨k, c, e, z⟩
      · refine .inl ⟨k, ?_⟩
        have : y ≠ n := fun e => hi (nodup_ix hN e1 (e ▸ hj))
        simp [this, e]
      · exact .inr ⟨k, c, e, z.sameBut hs (cne y c e)⟩
  · obtain ⟨w', z⟩ := I.cell y c e
    exact ⟨w', z.sameBut hs (cne y c e)⟩
  · obtain ⟨e, n, ne, nf, d⟩ := I.pin p hp
    exact ⟨(hs.2 p.1 ne).trans e, n, ne, nf, d⟩
  · refine (I.hok b ob e).stay (fun c w' hc q => (hs.2 c ?_).trans q) (fun _ q => q) fun _ _ q => q
    rintro rfl
    rcases hc with z | hc
    · have := I.free
      rw [z, e] at this
      cases this
    · rw [I.free] at hc
      cases hc
end
end DL

namespace DL
open PySem PySem.Spec PyProof.Rows L2
section
variable {X : Cx} {pins : List (Addr × Obj)} {σ : St} {F H : Hp} {s : Shared} {sd : List Slot} {a T : Addr} {cls : Value} {M : Model} {A : Around} {Ex : Value → Shared → Prop}
/-- an exception in hand: its state, whatever its flight -/
structure Held (X : Cx) (pins : List (Addr × Obj)) (σ : St) (H : Hp) (s : Shared) (a T : Addr) (cls fl : Value) : Prop where
  inv : Inv X pins σ H s
  fa : H a = none ∧ X.s₀.heap.get? a = none ∧ ∀ p ∈ X.pn ++ pins, p.1 ≠ a
  fT : H T = none ∧ X.s₀.heap.get? T = none ∧ ∀ p ∈ X.pn ++ pins, p.1 ≠ T
  obj : ∃ oe vs oT ts a0, s.heap.get? a = some oe ∧ (oe.cls = cls ∧ vs[0]? = some a0) ∧ oe.data = .fields vs ∧ vs[1]? = some (.ref T) ∧ T ≠ a ∧ s.heap.get? T = some oT ∧ oT.data = .fields ts ∧ ts[3]? = some fl
theorem held_out (h : Held X pins σ H s a T cls fl) : ∀ b ∈ [a, T], H b = none ∧ X.s₀.heap.get? b = none ∧ ∀ p ∈ X.pn ++ pins, p.1 ≠ b := fun b hb => by
  simp only [List.mem_cons, List.not_mem_nil, or_false] at hb
  rcases hb with rfl | rfl
  · exact h.fa
  · exact h.fT
/-- the frame is noted -/
theorem held_note {Q : Unit → Shared → Prop} (hst : X.stack = X.env :: X.outer ∧ X.env.frame = some X.env.locals) (hfr : A.frames = some X.stack) (hex : X.ex = []) (h : Held X pins σ H s a T cls .none) (k : ∀ h' T', Held X pins σ H { s with heap := h' } a T' cls (rawInt X.env.locals) → Q () { s with heap := h' }) :
    wpAny M A (noteFrame (.ref a) X.env) Q Ex s := by
  have hS := held_out h
  obtain ⟨oe, vs, oT, ts, a0, he, hc, hd, h1, hTe, hT, hdT, h3⟩ := h.obj
  have I := h.inv
  have fu : Heap.FunFrames s.heap (cutH s.heap (frs X.stack ++ [a, T])) X.stack := funs_base I.env0.funs fun b hb => cutH_in (List.mem_append_left _ hb)
  have fm := hfr
  rw [hst.1] at fm
  have fu2 := fu
  rw [hst.1] at fu2
  have ca : (cutH s.heap (frs X.stack ++ [a, T])).get? a = none := cutH_in (List.mem_append_right _ (by simp))
  have cT : (cutH s.heap (frs X.stack ++ [a, T])).get? T = none := cutH_in (List.mem_append_right _ (by simp))
  refine wpAny_noteFrame_onW (base := cutH s.heap (frs X.stack ++ [a, T])) (cls := cls) (a0 := a0) fm (by rw [hst.1]; exact fu2) hst.2 ⟨oe, vs, T, oT, ts, he, hc, hd, h1, cT, hTe, hT, hdT, h3⟩ (fun b o q => (cutH_sub q).2) ca fun h' L => ?_
  rw [← hst.1] at L
  obtain ⟨k1, k2, ⟨oe', vs', T', oT', ts', he', hc', hd', h1', hnT', hTe', hT', hdT', h3'⟩, k4⟩ := L
  have I2 := inv_rec I hS k1 k4
  have Tn : s.heap.get? T' = none ∨ T' ∈ [a, T] := by
    by_cases hm : T' ∈ frs X.stack ++ [a, T]
    · rcases List.mem_append.mp hm with hm | hm
      · obtain ⟨_, o, q, nf⟩ := k2.mem hm
        rw [hT'] at q
        cases q
        exact (nf ts' hdT').elim
      · exact .inr hm
    · rw [cutH_out hm] at hnT'
      exact .inl hnT'
  refine k h' T' ⟨I2, h.fa, ?_, oe', vs', oT', ts', a0, he', hc', hd', h1', hTe', hT', hdT', h3'⟩
  rcases Tn with q | q
  · refine ⟨?_, ?_, fun p hp z => ?_⟩
    · cases g : H T' with
      | none => rfl
      | some u =>
        obtain ⟨ob, q2⟩ := obj_some (I.hok T' u g)
        rw [q] at q2
        cases q2
    · cases g : X.s₀.heap.get? T' with
      | none => rfl
      | some o =>
        obtain ⟨o1, q1⟩ := I.base.there T' o g (fun hb => by rw [hex] at hb; cases hb)
        rw [q] at q1
        cases q1
    · have := (I.pin p hp).1
      rw [z, q] at this
      cases this
  · exact hS T' q
/-- it is in no flight -/
theorem held_flight {fl : Value} {fr : Option Addr} {Q : Unit → Shared → Prop} (hst : X.stack = X.env :: X.outer ∧ X.env.frame = some X.env.locals) (h : Held X pins σ H s a T cls fl) (k : ∀ h', Held X pins σ H { s with heap := h' } a T cls (fr.elim Value.none fun f => rawInt f) → Q () { s with heap := h' }) :
    wpAny M A (setFlight (.ref a) fr) Q Ex s := by
  have hS := held_out h
  obtain ⟨oe, vs, oT, ts, a0, he, hc, hd, h1, hTe, hT, hdT, h3⟩ := h.obj
  have I := h.inv
  have hsz3 : 3 < ts.size := (Array.getElem?_eq_some_iff.mp h3).1
  have other : ∀ b, b ≠ T → (s.heap.update T (Obj.mapFields (·.setIfInBounds 3 (fr.elim Value.none fun f => rawInt f)))).get? b = s.heap.get? b :=
    fun b hb => Heap.get?_update_other _ _ (Ne.symm hb)
  have noRecord : ∀ b o, s.heap.get? b = some o → (∀ vs, o.data ≠ .fields vs) → b ≠ T := fun b o hb hnf q => by
    rw [q, hT] at hb; injection hb with hb; subst hb; exact hnf ts hdT
  unfold setFlight
  refine wpAny_bind (wpAny_field he hd h1 ?_)
  rw [if_pos (show (Value.ref T != Value.none) = true from by simp)]
  refine wpAny_setField hT hdT hsz3 (k _ ⟨inv_rec I hS (fun b o q => ?_) (fun b o q nf => ⟨o.slots, (other b (noRecord b o q nf)).trans q⟩), h.fa, h.fT, oe, vs, _, _, a0, (other a (Ne.symm hTe)).trans he, hc, hd, h1, hTe, Heap.get?_update_self _ hT (Obj.isFreed_of_fields (Obj.data_mapFields hdT _)), Obj.data_mapFields hdT _, by simp [hsz3]⟩)
  obtain ⟨q1, q2⟩ := cutH_sub q
  exact (other b fun z => q1 (List.mem_append_right _ (by simp [z]))).trans q2
end
section
variable {X : Cx} {sd : List Slot} {pos : Pos} {E : EndD} {cls : Value}
/-- try: a body that raises; except C as n: a suite that goes through -/
theorem psd_try {body suite : List Stmt} {b₀ : Stmt} {xE n : Str} {np hpos : Pos} {CE : Addr} (j : Nat) (hN : X.N.Nodup) (hj : X.N[j]? = some n) (hloc : X.env.scope.names.lookup n = some .local) (hg : Gl X xE) (hm : X.mg xE = some (.ref CE)) (hmt : PySem.W.exmOne X.K cls (.ref CE) = some true)
    (hb : ∀ (ξ : Value → Shared → Prop) (pn : List (Addr × Obj)) (F : Hp), Takes { X with H₀ := F, B₀ := F, hB := fun _ _ e _ => e, xe := ξ, pn := pn } cls sd → PSd { X with H₀ := F, B₀ := F, hB := fun _ _ e _ => e, xe := ξ, pn := pn } sd body { nx := fun _ => False, rt := fun _ => False })
    (hh : ∀ (a : Addr) (oe : Obj) (pn : List (Addr × Obj)), (a, oe) ∈ pn → oe.cls = cls → PSd { X with A := X.A.mark (some (.ref a)), calm := false, pn := pn, xe := fun _ _ => False } (sd.set j (isA a)) (b₀ :: suite) { nx := fun sd' => E.nx (sd'.set j .un), rt := fun _ => False })
    (hB₀ : X.B₀ = X.H₀ := by rfl) (hex : X.ex = [] := by rfl) (hst : X.stack = X.env :: X.outer ∧ X.env.frame = some X.env.locals := by exact ⟨rfl, rfl⟩) (hdb : (xE == ("__debug__" : Str)) = false := by decide) :
    PSd1 X sd (.Try body [.ExceptHandler (some (.Name xE np)) (some n) (b₀ :: suite) hpos] [] [] pos) E := .mk fun σ F H S pins s I => by
  rw [hB₀] at S
  obtain ⟨ξ, hξ⟩ : ∃ ξ : Value → Shared → Prop, ξ = fun e s' => ∃ a T σ' F' H', e = .ref a ∧ Inv X pins σ' H' s' ∧ StF X.K F F' H' σ' sd ∧ Exc X.s₀.heap s'.heap H' a T cls ∧ ∀ p ∈ X.pn ++ pins, p.1 ≠ a ∧ p.1 ≠ T := ⟨_, rfl⟩
  have I' : Inv { X with H₀ := F, B₀ := F, hB := fun _ _ e _ => e, xe := ξ, pn := X.pn ++ pins } [] σ H s := inv_h0 I S rfl
  have S' : StF X.K F F H σ sd := ⟨Same.refl _, S.sub, S.smp, S.slots, S.nd⟩
  have tk : Takes { X with H₀ := F, B₀ := F, hB := fun _ _ e _ => e, xe := ξ, pn := X.pn ++ pins } cls sd := fun pins' σ' F' H' s' a T I2 S2 x2 hp => by
    show ξ _ _
    rw [hξ]
    exact ⟨a, T, σ', F', H', rfl, inv_h1 I S rfl I2, S2, x2, fun p hp' => hp p (List.mem_append_left _ hp')⟩
  refine wpAny_Try_except (wpAny_mono (hb ξ (X.pn ++ pins) F tk σ F H S' [] s I') (fun f s1 q => ?_) fun e s1 hx => ?_)
  · cases f with
    | next => obtain ⟨_, _, _, _, _, _, _, z⟩ := q; exact z.elim
    | brk => obtain ⟨_, _, _, _, _, _, _, z⟩ := q; exact z.elim
    | cont => obtain ⟨_, _, _, _, _, _, _, z⟩ := q; exact z.elim
    | ret u => obtain ⟨_, _, _, _, _, _, _, z⟩ := q; exact z.elim
  · have hx : ξ e s1 := hx
    rw [hξ] at hx
    obtain ⟨a, T, σ1, F1, H1, rfl, I1, S1, x1, hp⟩ := hx
    have hd : Held X pins σ1 H1 s1 a T cls .none := ⟨I1, ⟨x1.free, x1.new, fun p h => (hp p h).1⟩, ⟨x1.freeT, x1.newT, fun p h => (hp p h).2⟩, x1.obj⟩
    refine held_note hst I.ok.frames hex hd fun h2 T2 hd2 => ?_
    refine held_flight hst hd2 fun h3 hd3 => ?_
    have LT : PySem.W.Looks (model X.prog X.w) h3 (typeOf (.ref a)) cls := by
      obtain ⟨oe, vs, oT, ts, a0, he, hc, _⟩ := hd3.obj
      exact hc.1 ▸ (PySem.W.Looks.ld he).andThen .now
    refine wpAny_handleBy_cons (codeAny_handlers_test (Calls.Name_function_global hd3.inv.ok.kind hg (Calls.loadGlobal_global (by rw [hd3.inv.ok.glob]; exact hd3.inv.mod.glob.keeps hd3.inv.bk) hm ((PySem.W.exm_one hd3.inv.kIn LT hmt).at ?_)) hdb)) (by intro q; cases q)
    refine codeAny_handlers_suite_as (held_flight hst hd3 fun h4 hd4 => ?_)
    obtain ⟨oe, vs, oT, ts, a0, he, hc, hdt, _⟩ := hd4.obj
    have fsub : ∀ b ∈ X.fs, b ∈ frs X.stack := fun b hb => by
      unfold frs
      rw [hst.1, List.filterMap_cons, hst.2]
      exact List.mem_cons_of_mem _ hb
    have I5 := hd4.inv.pins_of (pins' := pins ++ [(a, oe)]) fun p hp => by
      rcases List.mem_append.mp hp with hp | hp
      · exact hd4.inv.pin p (List.mem_append_right _ hp)
      · rw [List.mem_singleton.mp hp]
        refine ⟨he, hd4.fa.1, fun z => ?_, fun z => ?_, fun v z => by rw [hdt] at z; cases z⟩
        · obtain ⟨m, ⟨o, es, ep, ho, r, _⟩, _⟩ := hd4.inv.loc
          rw [← z] at ho
          have : oe = o := Option.some.inj (he.symm.trans ho)
          rw [← this, hdt] at r
          cases r
        · obtain ⟨_, o, q, nf⟩ := hd4.inv.stack.mem (fsub a z)
          have : oe = o := Option.some.inj (he.symm.trans q)
          rw [← this] at nf
          exact nf vs hdt
    refine store_ok (v := .ref a) I5 hN hj (.inl hloc) rfl (fun s6 I6 => ?_) (.inr hloc)
    have I7 : Inv { X with A := X.A.mark (some (.ref a)), calm := false, pn := X.pn ++ (pins ++ [(a, oe)]), xe := fun _ _ => False } [] (σ1.set j (some (.ref a))) H1 s6 :=
      ⟨⟨I6.ok.mod, I6.ok.kind, I6.ok.glob, I6.ok.blt, I6.ok.above, I6.ok.inj, I6.ok.has, I6.ok.cab, fun z => (by cases z), I6.ok.frames, I6.ok.stk, I6.ok.exf, I6.ok.bs, I6.ok.bsz, I6.ok.noex, I6.ok.exfs, I6.ok.funs, I6.ok.frf⟩, I6.os, I6.bare, I6.base, I6.loc, I6.cell, I6.free, I6.freeC, fun p hp => by rw [List.append_nil] at hp; exact I6.pin p hp, I6.hok, I6.len⟩
    have S1' : StF X.K X.B₀ F1 H1 σ1 sd := hB₀ ▸ ⟨fun b o e => S1.base _ _ (S.base _ _ e), S1.sub, S1.smp, S1.slots, S1.nd⟩
    have S7 : StF X.K X.B₀ F1 H1 (σ1.set j (some (.ref a))) (sd.set j (isA a)) := S1'.setX j ⟨.ref a, rfl, fun b hb => (by cases hb), fun _ _ _ _ => rfl⟩ List.nodup_nil fun b hb => by cases hb
    refine wpAny_mono (hh a oe _ (by simp) hc.1 (σ1.set j (some (.ref a))) F1 H1 S7 [] s6 I7) (fun f s8 q => ?_) fun _ _ z => False.elim z
    cases f with
    | next =>
      obtain ⟨σ8, H8, I8, sd8, F8, S8, s8', qn⟩ := q
      have I9 : Inv X pins σ8 H8 s8 := ⟨I.ok, I8.os, I8.bare, I8.base, I8.loc, I8.cell, I8.free, I8.freeC, fun p hp => I8.pin p (by
        rw [List.append_nil]
        rcases List.mem_append.mp hp with hp | hp
        · exact List.mem_append_left _ hp
        · exact List.mem_append_right _ (List.mem_append_left _ hp)), I8.hok, I8.len⟩
      obtain ⟨m, hn, hl⟩ := id I9.loc
      refine wpAny_nameGoes_keeps hloc hn (by rw [I9.ok.kind]; rfl) fun h9 v hn9 hs9 => ?_
      exact ⟨σ8.set j none, H8, inv_gone I9 hN hj hloc hn hl hn9 hs9, sd8.set j .un, F8, ⟨S8.base, S8.sub, S8.smp, S8.slots.set (z := .un) (o := none) trivial j, (owned_set (z := .un) j S8.nd (fun l hl => by cases hl) List.nodup_nil).1⟩, fun b o e => s8' _ _ (S1.base _ _ e), qn⟩
    | brk => obtain ⟨_, _, _, _, _, _, _, z⟩ := q; exact z.elim
    | cont => obtain ⟨_, _, _, _, _, _, _, z⟩ := q; exact z.elim
    | ret u => obtain ⟨_, _, _, _, _, _, _, z⟩ := q; exact z.elim
end
end DL

namespace DL
open PySem PySem.Spec PyProof.Rows L2
/-! ### isinstance of an exception in hand -/
section
variable {X : Cx} {sd : List Slot} {e a b c : Expr} {es : List Expr} {pos : Pos} {d : D} {ds : List D} {E : EndD}
theorem call_isinX {ad C : Addr} {oe : Obj} {cv : V} {u : Value} {k : Bool} (hp : (ad, oe) ∈ X.pn) (hc : oe.cls = .ref C) (xc : XCls X.K C) (ru : ∀ u', RelV cv u' → u' = u) (hk : PySem.W.kitOne X.K (.ref C) u = some k) :
    CallR X (.builtin "isinstance") (fun xs H Q => xs = [.ref ad, cv] ∧ Q (.bl k) H) := by
  intro pins s σ H xs us Q I r h
  obtain ⟨rfl, q⟩ := h
  obtain ⟨u1, u2, rfl, r1, r2⟩ := vals2 r
  cases (show u1 = Value.ref ad from r1)
  have e := ru u2 r2
  subst e
  exact PySem.W.kia_one (kitx_exc xc) I.kIn ⟨oe, (I.pin _ (List.mem_append_left _ hp)).1, hc⟩ hk (by intro q; cases q) fun tk => ⟨.bl k, H, I.tok tk, rfl, q⟩
theorem pd_isinX (j : Nat) {ad C CE : Addr} {oe : Obj} {k : Bool} {y x : Str} {p p1 p2 : Pos} (hp : (ad, oe) ∈ X.pn) (hc : oe.cls = .ref C) (xc : XCls X.K C) (hg : Gl X "isinstance") (hm : X.mg "isinstance" = none) (hgx : Gl X x) (hmx : X.mg x = some (.ref CE)) (hk : PySem.W.kitOne X.K (.ref C) (.ref CE) = some k) (hj : sd[j]? = some (isA ad)) (hy : PE X (.Name y p1) (tVar j)) (hdb : (x == ("__debug__" : Str)) = false := by decide)
    (he : starEach (.Name y p1 :: [.Name x p2]) X.env = (false, eval (.Name y p1) X.env) :: starEach [.Name x p2] X.env := by rfl) (hpl : (backTo pos (starEach [.Name x p2] X.env)).any (·.1) = false := by rfl) (hs2 : starEach [.Name x p2] X.env = (false, eval (.Name x p2) X.env) :: starEach [] X.env := by rfl) :
    PEd X sd (.Call (.Name "isinstance" p) [.Name y p1, .Name x p2] [] pos) (.val (.bl k)) := .mk fun σ F H S =>
  (pe_callB (call_isinX (cv := .ref CE) hp hc xc (fun u' r => r) hk) hg hm boot_isinstance (pa_cons hy (pa_cons (pe_glob hgx hmx (v := .ref CE) rfl hdb) pa_nil hs2) he) (by decide) (by decide) he hpl).to
    ⟨.ref ad, isA_get S hj, rfl, F, S, Same.refl _, by simp only [ResOk, Rep]⟩
theorem pd_isinXB (j : Nat) {ad C : Addr} {oe : Obj} {k : Bool} {y x : Str} {n : String} {p p1 p2 : Pos} (hp : (ad, oe) ∈ X.pn) (hc : oe.cls = .ref C) (xc : XCls X.K C) (hg : Gl X "isinstance") (hm : X.mg "isinstance" = none) (hgx : Gl X x) (hmx : X.mg x = none) (hv : bootBuiltins x = some (.type n)) (hk : PySem.W.kitOne X.K (.ref C) (.type n) = some k) (hj : sd[j]? = some (isA ad)) (hy : PE X (.Name y p1) (tVar j)) (hn : x ≠ "__name__" := by decide) (hdb : (x == ("__debug__" : Str)) = false := by decide)
    (he : starEach (.Name y p1 :: [.Name x p2]) X.env = (false, eval (.Name y p1) X.env) :: starEach [.Name x p2] X.env := by rfl) (hpl : (backTo pos (starEach [.Name x p2] X.env)).any (·.1) = false := by rfl) (hs2 : starEach [.Name x p2] X.env = (false, eval (.Name x p2) X.env) :: starEach [] X.env := by rfl) :
    PEd X sd (.Call (.Name "isinstance" p) [.Name y p1, .Name x p2] [] pos) (.val (.bl k)) := .mk fun σ F H S =>
  (pe_callB (call_isinX (cv := .ty n) hp hc xc (fun u' r => r) hk) hg hm boot_isinstance (pa_cons hy (pa_cons (pe_type hgx hmx hv hn hdb) pa_nil hs2) he) (by decide) (by decide) he hpl).to
    ⟨.ref ad, isA_get S hj, rfl, F, S, Same.refl _, by simp only [ResOk, Rep]⟩
end
/-! ### an instance as a frozen thing -/
section
variable {X : Cx} {pins : List (Addr × Obj)} {σ : St} {H H' F : Hp} {s : Shared}
end
noncomputable def ShG (K : PySem.W.Frag) (C : Addr) (fs : List (Str × D)) : V → Hp → Prop := fun v F => ∃ (x dx : Addr) (od : Obj) (mA : Str → Option Value), v = .ref x ∧ F x = some (exO x (PySem.W.instObj C dx)) ∧ F dx = some (exO dx od) ∧ dx ≠ x ∧ (∀ h : Heap, h.get? dx = some od → h.Ns1 dx mA) ∧ ∀ f d, fs.lookup f = some d → ∃ y u, mA f = some u ∧ RelV y u ∧ Rep K F d y
theorem ShG.mono {K : PySem.W.Frag} {C : Addr} {fs : List (Str × D)} {v : V} {F F' : Hp} (h : ShG K C fs v F) (s : Same F F') : ShG K C fs v F' := by
  obtain ⟨x, dx, od, mA, e, h1, h2, ne, n, q⟩ := h
  exact ⟨x, dx, od, mA, e, s _ _ h1, s _ _ h2, ne, n, fun f d hf => let ⟨y, u, a, b, c⟩ := q f d hf; ⟨y, u, a, b, c.mono s⟩⟩
noncomputable def shS (K : PySem.W.Frag) (C : Addr) (fs : List (Str × D)) : Slot := .ox [] fun v F _ => ShG K C fs v F
section
variable {X : Cx} {sd : List Slot} {e a b c : Expr} {es : List Expr} {pos : Pos} {d : D} {ds : List D} {E : EndD}
theorem pd_fldS (j : Nat) {C : Addr} {fs : List (Str × D)} {y f : Str} {p : Pos} (hj : sd[j]? = some (shS X.K C fs)) (hy : PE X (.Name y p) (tVar j)) (hc : Cls X.K C) (hn : NoAttr X.K C f) (hf : fs.lookup f = some d) (hb : attributeBase (.Name y p) f X.env (eval (.Name y p) X.env) = eval (.Name y p) X.env := by rfl) :
    PEd X sd (.Attribute (.Name y p) f pos) (.val d) := .mk fun σ F H S pins s I => by
  obtain ⟨o, h1, v, h2, _, g⟩ := S.slots.get hj
  obtain ⟨x, dx, od, mA, rfl, e1, e2, ne, ns, q⟩ := g F H (Same.refl _) fun l hl => by cases hl
  obtain ⟨y0, u0, hm, ru, rp⟩ := q f d hf
  refine attr_of hb (thn (hy pins s σ H (fun v' H' => v' = .ref x ∧ H' = H) I ⟨.ref x, by rw [h1, h2], rfl, rfl⟩) fun u s1 ⟨v', H', I1, r1, ev, eH⟩ => ?_)
  subst ev eH
  cases (show u = Value.ref x from r1)
  have g1 : s1.heap.get? x = some (PySem.W.instObj C dx) := (I1.hok x _ (S.sub _ _ e1)).1
  have g2 : s1.heap.get? dx = some od := (I1.hok dx _ (S.sub _ _ e2)).1
  exact get_map I1.kIn ⟨g1, ns _ g2, ne⟩ (hc.get f) hc.hd hn hm (handed_of ru) ⟨y0, H', I1.tok _, ru, F, S, Same.refl _, rp⟩
/-! ### a callee that takes an instance and raises -/
noncomputable def spS (K : PySem.W.Frag) (n : Nat) (G : V → Hp → Prop) (C : List D → Prop) : Sp := fun vs H _ E => vs.length = n ∧ Smp H ∧ ∃ v us ds, vs = v :: us ∧ G v H ∧ RepL K H ds us ∧ C ds ∧ ∀ a H', Same H H' → Smp H' → E (.ref a) (some a) H'
structure CalleeS (P : Program) (w : World) (K : PySem.W.Frag) (mg : Str → Option Value) (base : Heap) (x : Str) (k n : Nat) (G : V → Hp → Prop) (C : List D → Prop) (cls : Value) : Prop where
  ex : ∃ (f : Addr) (fd : FuncData) (ps : List Str), mg x = some (.ref f) ∧ PySem.W.keepIn K (.ref f) = true ∧ Binds K fd ps [] ∧ FnOk P w K mg base (CX1 P w cls) k f fd ps (spS K n G C)
structure PSh (X : Cx) (sd : List Slot) (e : Expr) (G : V → Hp → Prop) : Prop where
  run : ∀ (σ : St) (F H : Hp), StF X.K X.B₀ F H σ sd → wE X e σ H fun v H' => ∃ F', StF X.K X.B₀ F' H' σ sd ∧ Same F F' ∧ G v F'
theorem px_callS {x : Str} {p : Pos} {k n : Nat} {G : V → Hp → Prop} {C : List D → Prop} {cls : Value} (Gc : CalleeS X.prog X.w X.K X.mg X.base x k n G C cls) (hG : ∀ v F F', Same F F' → G v F → G v F') (hex : X.ex = []) (hr : Room k X.A) (hg : Gl X x) (h0 : PSh X sd e G) (ha : PAd X sd es (ds.map R.val)) (hc : C ds) (hn : ds.length + 1 = n) (ht : Takes X cls sd)
    (hdb : (x == ("__debug__" : Str)) = false := by decide) (he : starEach (e :: es) X.env = (false, eval e X.env) :: starEach es X.env := by rfl) (hpl : (backTo pos (starEach es X.env)).any (·.1) = false := by rfl) :
    PEx X sd (.Call (.Name x p) (e :: es) [] pos) := ⟨fun σ F H S pins s I => by
  obtain ⟨f, fd, ps, hm, hk, bd, Gf⟩ := Gc.ex
  have hA : wA X (e :: es) σ H fun vs H' => ∃ v us F', vs = v :: us ∧ StF X.K X.B₀ F' H' σ sd ∧ G v F' ∧ RsOk X.K F' H' sd (ds.map R.val) us :=
    (pa_cons pe_w pa_w he).to ((h0.run σ F H S).imp fun v H1 ⟨F1, S1, s1, q1⟩ => (ha σ F1 H1 S1).imp fun vs H2 ⟨F2, S2, s2, q2⟩ => ⟨v, vs, F2, rfl, S2, hG _ _ _ s2 q1, q2⟩)
  refine wpAny_Call_Name_kw (ld_glob I hg hm ?_ hdb)
  refine PySem.W.callWith_K (h₀ := X.base) I.ok.mod.kin hk (thn (hA pos pins s I) fun us s1 ⟨vs, H1, I1, r, v, us', F1, ev, S1, g1, q⟩ => ⟨I1.kIn, ?_⟩) he hpl
  subst ev
  have rl : RepL X.K H1 ds us' := q.vals.mono S1.sub
  refine run_fnX (dvs := []) (dws := []) (Q := fun _ _ => False) (Ex := fun _ _ H' => Same H1 H' ∧ Smp H') Gf hr bd .nil I1 r ⟨by rw [List.append_nil, List.length_cons, rl.len]; exact hn, S1.smp, v, us', ds, by rw [List.append_nil], hG _ _ _ S1.sub g1, rl, hc, fun a H' q1 q2 => ⟨q1, q2⟩⟩ fun e s' hcx => ?_
  obtain ⟨a, T, H', rfl, I2, S2, x2, pn⟩ := after_x hex I1 S1 hcx
  exact ht pins σ F1 H' s' a T I2 S2 x2 pn⟩
end
section
variable {P : Program} {w : World} {K : PySem.W.Frag} {mg : Str → Option Value} {base : Heap} {x qual : Str} {st : Stmt} {f : Addr} {fd : FuncData} {N ps : List Str} {k : Nat} {C : List D → Prop} {cls : Value} {G : V → Hp → Prop}
theorem def_okS (hG : ∀ v F F', Same F F' → G v F → G v F') (F : Fun K x qual st f fd) (S : FnScope N ps (defScope st)) (hm : mg x = some (.ref f)) (hb : ∀ (kV doc pm : Value) (an : Option Addr) (cdv ct : Value) (us : List Value), us.length = ps.length → bindArgs (PySem.W.fnOf x qual (defArgs st) (defBody st) (defScope st) .none kV doc pm an cdv ct) ⟨us, []⟩ = pure (ps.zip us))
    (body : ∀ (cdv : Value) (A : Around) (outer : List Env) (s : Shared) (H : Hp) (E : XK), Room k (A.deeper (envOfC qual (defScope st) s.heap.objs.size f cdv)) → (∀ a H', Same H H' → Smp H' → E (.ref a) (some a) H') → ∀ ds, ds.length + 1 = ps.length → C ds →
      PSd (cxOf (CX1 P w cls) P w K mg base N qual (defScope st) f cdv A outer s H E) (Slot.ox [] (fun v F _ => G v F) :: init (N.length - 1) ds) (defBody st) { nx := fun _ => False, rt := fun _ => False }) : CalleeS P w K mg base x (k + 1) ps.length G C cls := by
  have hbd := F.binds hb
  obtain ⟨oc, od, kV, doc, pm, an, cdv, ct, osl, rfl, lk, hcd⟩ := F.ex
  refine ⟨f, _, ps, hm, F.kp, hbd, fn_of lk hcd S (fun vs H Q E h => h.1) fun A outer s H vs Q E hr h => ?_⟩
  obtain ⟨hl, sm, v, us, ds, rfl, g, rl, c, q⟩ := h
  have hds : ds.length + 1 = ps.length := by rw [← rl.len]; simpa using hl
  refine ⟨_, pss_w, ?_⟩
  have hlen : N.length - (v :: us).length = N.length - 1 - ds.length := by rw [List.length_cons, rl.len]; omega
  have S0 : StF K H H H (L2.start N (v :: us)) (Slot.ox [] (fun v F _ => G v F) :: init (N.length - 1) ds) := by
    refine ⟨Same.refl _, Same.refl _, sm, ?_, ?_⟩
    · unfold L2.start init
      rw [hlen]
      exact ⟨some v, _, rfl, ⟨v, rfl, fun l hl => (by cases hl), fun F' H' sF _ => hG _ _ _ sF g⟩, slots_init (m := 0) rl⟩
    · show ([] ++ owned _).Nodup
      unfold init
      rw [List.nil_append, owned_init]
      exact List.nodup_nil
  exact (body cdv A outer s H E hr q ds hds c (L2.start N (v :: us)) H H S0).imp (fun _ _ ⟨_, _, _, _, z⟩ => z.elim) (fun _ _ ⟨_, _, z⟩ => z.elim) (fun _ _ ⟨_, _, _, _, z⟩ => z.elim) fun _ _ ⟨_, _, _, _, z⟩ => z.elim
end
end DL

namespace DL
open PySem PySem.Spec PyProof.Rows L2
/-! ### a shelf: size, stock, and a dict -/
noncomputable def shF (v1 v2 : V) (m : Addr) : List (Str × V) := putF "made" (.ref m) (putF "stock" v2 (putF "size" v1 []))
theorem nsm1 : ¬ ("size" : Str) = "made" := by decide +kernel
theorem nsm2 : ¬ ("stock" : Str) = "made" := by decide +kernel
theorem nsm3 : ¬ ("size" : Str) = "stock" := by decide +kernel
theorem shF_size (v1 v2 : V) (m : Addr) : (shF v1 v2 m).lookup ("size" : Str) = some v1 := by
  unfold shF
  rw [lookup_putF, if_neg nsm1, lookup_putF, if_neg nsm3, lookup_putF, if_pos rfl]
theorem shF_stock (v1 v2 : V) (m : Addr) : (shF v1 v2 m).lookup ("stock" : Str) = some v2 := by
  unfold shF
  rw [lookup_putF, if_neg nsm2, lookup_putF, if_pos rfl]
noncomputable def spShelf (C : Addr) : Sp := fun vs H Q _ => ∃ (x dx : Addr) (v1 v2 : V), vs = [.ref x, v1, v2] ∧ H x = some (.ins C dx []) ∧ ∀ m, H m = none → Q .non (upd (upd H m (exO m dict0)) x (.ins C dx (shF v1 v2 m)))
theorem upd_swap {H : Hp} {x m : Addr} {a b e c : HO} : upd (upd (upd (upd H x a) x b) m e) x c = upd (upd H m e) x c := by
  funext z
  unfold upd
  by_cases h1 : z = x
  · simp [h1]
  · by_cases h2 : z = m
    · simp [h1, h2]
    · simp [h1, h2]
structure ShCls (K : PySem.W.Frag) (mg : Str → Option Value) (C : Addr) : Prop where
  cl : Cls K C
  nZ : NoAttr K C "size"
  nS : NoAttr K C "stock"
  nM : NoAttr K C "made"
  mgC : mg "Shelf" = some (.ref C)
theorem Inv.reB {X : Cx} {pins : List (Addr × Obj)} {σ : St} {H H' : Hp} {s : Shared} (I : Inv X pins σ H s) (hn : ∀ b, H b = none → H' b = none) (h0 : Same X.B₀ H') (ok : HOk X.prog X.w H' s.heap) : Inv X pins σ H' s := by
  refine ⟨I.ok, I.os, I.bare, ⟨I.base.keep, I.base.slot, fun b u e n hx => hn b (I.base.free b u e n hx), I.base.there, fun b xs e => h0 _ _ (X.hB _ _ e (fun _ z => by cases z)), fun b u xs e => h0 _ _ (X.hB _ _ e (fun _ z => by cases z)), fun b ps e => ⟨#[], ?_⟩⟩, I.loc, I.cell, hn _ I.free, fun x c e => hn _ (I.freeC x c e), fun p hp => ?_, ok, I.len⟩
  · rw [h0 _ _ (X.hB _ _ e (fun _ z => by cases z))]
    simp
  · obtain ⟨e, n, r⟩ := I.pin p hp
    exact ⟨e, hn _ n, r⟩
theorem psh_make {X : Cx} {sd : List Slot} {e1 e2 : Expr} {pos p : Pos} {d1 d2 : D} {C f : Addr} {fd : FuncData} (T : ShCls X.K X.mg C) (M : Mk X.K C f) (G : FnOk X.prog X.w X.K X.mg X.base CX0 1 f fd ["self", "size", "stock"] (spShelf C)) (hb : Binds X.K fd ["self", "size", "stock"] []) (hr : Room 2 X.A) (hg : Gl X "Shelf") (ha : PAd X sd [e1, e2] [.val d1, .val d2])
    (he : starEach (e1 :: [e2]) X.env = (false, eval e1 X.env) :: starEach [e2] X.env := by rfl) (hpl : (backTo pos (starEach [e2] X.env)).any (·.1) = false := by rfl) :
    PSh X sd (.Call (.Name "Shelf" p) [e1, e2] [] pos) (ShG X.K C [("size", d1), ("stock", d2)]) := ⟨fun σ F H S pins s I => by
  refine thn ((pe_make M G hr hg T.mgC hb .nil pass0 pa_w (by decide) he hpl) pins s σ H (fun v H2 => ∃ (x dx m : Addr) (v1 v2 : V) (F1 H1 : Hp), v = .ref x ∧ StF X.K X.B₀ F1 H1 σ sd ∧ Same F F1 ∧ Rep X.K F1 d1 v1 ∧ Rep X.K F1 d2 v2 ∧ H1 x = none ∧ H1 dx = none ∧ H1 m = none ∧ dx ≠ x ∧ m ≠ x ∧ m ≠ dx ∧ H2 = upd (upd (upd (upd H1 dx (.own x)) x (.ins C dx [])) m (exO m dict0)) x (.ins C dx (shF v1 v2 m))) I ?_) fun u s1 ⟨v, H2, I2, r, x, dx, m, v1, v2, F1, H1, ev, S1, s1', q1, q2, n1, n2, n3, ne, ne2, ne3, eH⟩ => ?_
  · refine (ha σ F H S).imp fun vs H1 ⟨F1, S1, s1, q⟩ => ?_
    intro x dx n1 n2 ne
    obtain ⟨v1, vs1, rfl, a1, t1⟩ : ∃ v1 vs1, vs = v1 :: vs1 ∧ ResOk X.K F1 H1 sd (.val d1) v1 ∧ RsOk X.K F1 H1 sd [.val d2] vs1 := by
      cases q with
      | cons a b => exact ⟨_, _, rfl, a, b⟩
    obtain ⟨v2, vs2, rfl, a2, t2⟩ : ∃ v2 vs2, vs1 = v2 :: vs2 ∧ ResOk X.K F1 H1 sd (.val d2) v2 ∧ RsOk X.K F1 H1 sd [] vs2 := by
      cases t1 with
      | cons a b => exact ⟨_, _, rfl, a, b⟩
    cases t2
    refine ⟨x, dx, v1, v2, rfl, upd_same, fun m hm => ⟨rfl, x, dx, m, v1, v2, F1, H1, rfl, S1, s1, a1, a2, n1, n2, ?_, ne, ?_, ?_, rfl⟩⟩
    · by_cases h1 : m = x
      · subst h1
        rw [upd_same] at hm
        cases hm
      · by_cases h2 : m = dx
        · subst h2
          rw [upd_ne h1, upd_same] at hm
          cases hm
        · rw [upd_ne h1, upd_ne h2] at hm
          exact hm
    · intro h1
      subst h1
      rw [upd_same] at hm
      cases hm
    · intro h2
      subst h2
      rw [upd_ne ne, upd_same] at hm
      cases hm
  · subst ev eH
    obtain ⟨mA, O, rel, _, _, _⟩ := ins_get I2.hok upd_same
    obtain ⟨od, es, ep, ho, rest⟩ := id O.ns
    have hx := O.obj
    have hm0 : s1.heap.get? m = some dict0 := (I2.hok m (exO m dict0) (by rw [upd_ne ne2, upd_same])).1
    have keep : ∀ b o, H1 b = some o → (upd (upd (upd H1 m (exO m dict0)) x (exO x (PySem.W.instObj C dx))) dx (exO dx od)) b = some o := fun b o e => by
      rw [upd_ne (ne_of_none e n2), upd_ne (ne_of_none e n1), upd_ne (ne_of_none e n3)]
      exact e
    have I3 : Inv X pins σ (upd (upd (upd H1 m (exO m dict0)) x (exO x (PySem.W.instObj C dx))) dx (exO dx od)) s1 := by
      refine Inv.reB I2 (fun b hb => ?_) (fun b o e => keep b o (S1.sub _ _ (S1.base _ _ e))) fun b o e => ?_
      · by_cases h1 : b = x
        · subst h1
          rw [upd_same] at hb
          cases hb
        · by_cases h2 : b = m
          · subst h2
            rw [upd_ne h1, upd_same] at hb
            cases hb
          · by_cases h3 : b = dx
            · subst h3
              rw [upd_ne h1, upd_ne h2, upd_ne h1, upd_same] at hb
              cases hb
            · rw [upd_ne h1, upd_ne h2, upd_ne h1, upd_ne h3] at hb
              rw [upd_ne h3, upd_ne h1, upd_ne h2]
              exact hb
      · by_cases h3 : b = dx
        · subst h3
          rw [upd_same] at e
          cases e
          exact exO_ok ho
        · by_cases h1 : b = x
          · subst h1
            rw [upd_ne h3, upd_same] at e
            cases e
            exact exO_ok hx
          · by_cases h2 : b = m
            · subst h2
              rw [upd_ne h3, upd_ne h1, upd_same] at e
              cases e
              exact exO_ok hm0
            · rw [upd_ne h3, upd_ne h1, upd_ne h2] at e
              exact (I2.hok b o (by rw [upd_ne h1, upd_ne h2, upd_ne h1, upd_ne h3]; exact e)).smp (S1.smp _ _ e)
    obtain ⟨A1, t1⟩ := S1.lay (o := exO m dict0) n3 trivial
    obtain ⟨A2, t2⟩ := A1.lay (p := x) (o := exO x (PySem.W.instObj C dx)) (by rw [upd_ne (Ne.symm ne2)]; exact n1) trivial
    obtain ⟨A3, t3⟩ := A2.lay (p := dx) (o := exO dx od) (by rw [upd_ne ne, upd_ne (Ne.symm ne3)]; exact n2) trivial
    refine ⟨.ref x, _, I3, r, _, A3, ((s1'.trans t1).trans t2).trans t3, x, dx, od, mA, rfl, by rw [upd_ne (Ne.symm ne), upd_same], upd_same, ne, fun h hh => ⟨od, es, ep, hh, rest⟩, fun g d hg => ?_⟩
    have tt := (t1.trans t2).trans t3
    by_cases g1 : g = "size"
    · subst g1
      have : d1 = d := Option.some.inj hg
      subst this
      obtain ⟨u1, hu, ru⟩ := RelO.some_of (v := v1) (o := mA "size") (by rw [← shF_size v1 v2 m]; exact rel "size")
      exact ⟨v1, u1, hu, ru, q1.mono tt⟩
    · by_cases g2 : g = "stock"
      · subst g2
        have : d2 = d := Option.some.inj hg
        subst this
        obtain ⟨u1, hu, ru⟩ := RelO.some_of (v := v2) (o := mA "stock") (by rw [← shF_stock v1 v2 m]; exact rel "stock")
        exact ⟨v2, u1, hu, ru, q2.mono tt⟩
      · have b1 : (g == ("size" : Str)) = false := beq_eq_false_iff_ne.mpr g1
        have b2 : (g == ("stock" : Str)) = false := beq_eq_false_iff_ne.mpr g2
        simp only [List.lookup, b1, b2] at hg
        cases hg⟩
end DL

namespace DL
open PySem PySem.Spec PyProof.Rows L2
/-! ### the script's weight -/
noncomputable def bitI (i : Int) : Prop := Builtin.Int.intBits i ≤ 1048576
theorem weight_all : ∀ (ns : List Int), ∀ i ∈ ns, Builtin.Int.intBits i ≤ PySem.W.WData.weightAll (ns.map PySem.W.WData.int)
  | [], i, h => by cases h
  | n :: ns, i, h => by
    rw [List.map_cons]
    simp only [PySem.W.WData.weightAll, PySem.W.WData.weight]
    rcases List.mem_cons.mp h with rfl | h
    · unfold Builtin.Int.intBits
      omega
    · have := weight_all ns i h
      omega
theorem bit_of {ns : List Int} (h : PySem.W.WData.layableAll [PySem.W.WData.list (ns.map PySem.W.WData.int)] = true) : ∀ i ∈ ns, bitI i := fun i hi => by
  have h1 := List.all_eq_true.mp h _ List.mem_cons_self
  unfold PySem.W.WData.layable at h1
  have h2 := (Bool.and_eq_true_iff.mp h1).2
  have h3 := of_decide_eq_true h2
  have e : PySem.W.WData.weight (PySem.W.WData.list (ns.map PySem.W.WData.int)) = PySem.W.WData.weightAll (ns.map PySem.W.WData.int) := by simp only [PySem.W.WData.weight]
  rw [e] at h3
  exact Nat.le_trans (weight_all ns i hi) h3
noncomputable def CLawB : List D → R → Prop := fun ds r => ∃ ns : List Int, ds = [.scr ns] ∧ ns.length ≤ 63 ∧ (∀ i ∈ ns, bitI i) ∧ r = .val (.bl true)
open PySem.W PySem.Calls Att in
theorem attach_callB {l : OpenLaw} {n : Nat} {q : Program} {loose : List Str} {XP : (Str → Option Value) → Heap → Prop} {YP : World → Heap → Prop} {d : DefRec}
    (hn : l.most = some n) (hdf : d.params.defaults = [])
    (call : ∀ (w : World) (s₀ s₁ : Shared) (mg mb : Str → Option Value) (fa : Addr) (o : Obj) (pm cd doc : Value) (a : Addr) (vs : List Value) (ns : List Int),
      Ground q loose [] XP w s₀ mg mb s₁.heap → YP w s₁.heap →
      s₁.heap.get? fa = some o → o.data = .func (docDef d.name d.params d.body d.scope pm cd doc) → s₁.heap.CodeRec cd d.name → mg d.name = some (.ref fa) →
      s₁.heap.get? a = some { cls := .type "list", data := .seq vs.toArray } → IntsAre vs ns → ns.length ≤ n → (∀ i ∈ ns, bitI i) → s₁.gens = #[] →
      codeAny (model l.prog w) callerA (.call (.ref fa) ⟨[.ref a], []⟩) (fun r s' => r = .ok (.ret (.bool true)) ∧ OldK s₁.heap s'.heap ∧ s'.os = s₁.os ∧ AllBare s'.gens) s₁) :
    WalkO q loose XP YP l.row.toRowW d [] (fun f vs => PySem.call f vs) := by
  intro w s₀ s₁ mg mb G Y fa o pm cd doc dV kV ho hd hcd hD hmg hg args vals as hpre hlay hrd hwl hlo
  obtain rfl : dV = .none := Dflts.none hD hdf
  obtain rfl : kV = .none := Dflts.noKw hD
  obtain ⟨a, vs, ns, rfl, rfl, hobj, hints, hlen⟩ := script_of hn hpre hwl
  refine enter_call (codeAny_mono (call w s₀ s₁ mg mb fa o pm cd doc a vs ns G Y ho (fd_plain hd) hcd hmg hobj hints hlen (bit_of hlay) hg) fun r s' hq => ?_)
  obtain ⟨rfl, h2, h3, h4⟩ := hq
  exact ⟨.inl ⟨.bool true, .bool true, [], rfl, fun _ => rfl, .bool true, post_true l _, fun _ => ⟨List.Pairwise.nil, fun _ hm => (nomatch hm)⟩⟩, h2, h3, h4⟩
theorem walkDB {l : PySem.W.OpenLaw} {k : Nat} {x : Str} {q : Program} {loose : List Str} {XP : (Str → Option Value) → Heap → Prop} {YP : World → Heap → Prop} {d : DefRec} {K : Params → PySem.W.Frag} (hn : l.most = some 63) (hdf : d.params.defaults = [])
    (hr : Room k callerA) (hY : ∀ (w : World) (h : Heap), YP w h → (K w.params).In h)
    (F : ∀ (w : World) (mg : Str → Option Value) (fa : Addr) (h : Heap), (K w.params).In h → h.Ns mainGlobals mg → mg d.name = some (.ref fa) →
      ∃ fd : FuncData, (∀ (s : Shared) (u : Value), BindsTo s fd ⟨[u], []⟩ [(x, u)]) ∧ ∀ base : Heap, (K w.params).In base → base.Ns mainGlobals mg → FnOk l.prog w (K w.params) mg base CX0 k fa fd [x] (spC (K w.params) 1 CLawB)) :
    PySem.W.WalkO q loose XP YP l.row.toRowW d [] (fun f vs => PySem.call f vs) := by
  refine attach_callB hn hdf fun w s₀ s₁ mg mb fa o pm cd doc a vs ns G Y ho hd hcd hmg hobj hints hlen hbit hg => ?_
  have KX := hY w _ Y
  obtain ⟨fd, hb, hF⟩ := F w mg fa _ KX G.T.g hmg
  exact law_call (CX := CX0) (sp := spC (K w.params) 1 CLawB) KX G.T.g G.T.b G.T.builtins G.T.nolimit hg hobj hints (Nat.le_trans hlen (by decide)) hr hF hb
    (fun H hO hS => ⟨rfl, smp_only hO, [.scr ns], .val (.bl true), .one (by simp only [Rep]; exact ⟨a, rfl, hS⟩), ⟨ns, rfl, hlen, hbit, rfl⟩, fun v H' ⟨F, _, _, _, res⟩ => by simpa only [ResOk, Rep] using res⟩) fun H e s' z => z
theorem mul_bit {i j : Int} (h : bitI i) (hj : Builtin.Int.intBits j ≤ 1000) : IntMulOk i j := by
  unfold IntMulOk Builtin.Int.intTooBig
  intro q
  simp only [Bool.and_eq_true, decide_eq_true_eq] at q
  unfold bitI at h
  have e : bitsLine = 134217728 := rfl
  have := q.2
  rw [e] at this
  omega
end DL

namespace DL
open PySem PySem.Spec PyProof.Rows L2
noncomputable def winZ (row : List Nat) (a b : Int) : Bool := decide (0 ≤ a) && (decide (1 ≤ b) && decide (a + b ≤ (row.length : Int)))
theorem winZ_t {row : List Nat} {pl mn : Nat} (w1 : 1 ≤ mn) (w2 : pl + mn ≤ row.length) : winZ row (pl : Int) (mn : Int) = true := by
  unfold winZ
  rw [decide_eq_true (show (0 : Int) ≤ (pl : Int) by omega), decide_eq_true (show (1 : Int) ≤ (mn : Int) by omega), decide_eq_true (show (pl : Int) + (mn : Int) ≤ (row.length : Int) by omega)]
  rfl
theorem winZ_nat {row : List Nat} {a b : Int} (h : winZ row a b = true) : ∃ pl mn : Nat, a = (pl : Int) ∧ b = (mn : Int) ∧ 1 ≤ mn ∧ pl + mn ≤ row.length := by
  unfold winZ at h
  simp only [Bool.and_eq_true, decide_eq_true_eq] at h
  exact ⟨a.toNat, b.toNat, by omega, by omega, by omega, by omega⟩
noncomputable def CWinZ : List D → R → Prop := fun ds r => ∃ (row : List Nat) (a b : Int), ds = [.tup (natD row), .int a, .int b] ∧ r = .val (.bl (winZ row a b))
noncomputable def CNoWin : List D → Prop := fun ds => ∃ (p : Int × Int) (L : List SK) (row : List Nat) (a b : Int) (dl : D), ds = [sizD p, .lst (L.map skD), .tup (natD row), .int a, .int b, dl] ∧ winZ row a b = false
noncomputable def CNoPf : List D → Prop := fun ds => ∃ (row : List Nat) (a b : Int) (dl : D), ds = [.tup (natD row), .int a, .int b, dl] ∧ winZ row a b = false
noncomputable def w2D (c : Int × Int) : D := .tup [.int c.1, .int c.2]
noncomputable def CRef75 : List D → R → Prop := fun ds r => ∃ (p : Int × Int) (L : List SK) (row : List Nat) (c : Int × Int) (t : Nat), winZ row c.1 c.2 = false ∧ t < 3 ∧ ds = [sizD p, .lst (L.map skD), .tup (natD row), w2D c, .int (t : Int)] ∧ r = .val (.bl true)
noncomputable def fr75 (c : Int) : Int := c * ((10 : Int) ^ (59 : Nat) + 9) % (2 * (10 : Int) ^ (60 : Nat) - 1) - ((10 : Int) ^ (60 : Nat) - 1)
noncomputable def wvA (c : Int) (n : Nat) : Int := if c / 7 % 5 = 1 then fr75 c else c % ((n : Int) + 6) - 3
noncomputable def wvB (c : Int) (n : Nat) : Int := if c / 7 % 5 = 2 then fr75 c else c / 100 % ((n : Int) + 6) - 3
noncomputable def wv75 (n : Nat) (c : Int) : Int × Int := (wvA c n, wvB c n)
noncomputable def CWnd75 : List D → R → Prop := fun ds r => ∃ (c : Int) (n : Nat), bitI c ∧ n ≤ 1000 ∧ ds = [.int c, .int (n : Int)] ∧ r = .val (w2D (wv75 n c))
noncomputable def ws75 (n : Nat) (cs : List Int) : List (Int × Int) := [(0, 0), (0, (n : Int) + 1), (-1, 1), ((n : Int), 1), (-1, 2), (0, -1)] ++ cs.map (wv75 n)
theorem ws75_len (n : Nat) (cs : List Int) : (ws75 n cs).length = 6 + cs.length := by
  unfold ws75
  rw [List.length_append, List.length_map]
  rfl
theorem ws75_snoc (n : Nat) (cs : List Int) (c : Int) : (ws75 n (cs ++ [c])).map w2D = (ws75 n cs).map w2D ++ [w2D (wv75 n c)] := by
  unfold ws75
  rw [List.map_append, List.map_append, List.map_append, List.map_append]
  simp
theorem cs_take {cs : List Int} {t : Nat} {d : D} (h : (cs.map D.int)[t]? = some d) : ∃ c, c ∈ cs ∧ d = .int c ∧ cs.take (t + 1) = cs.take t ++ [c] := by
  rw [List.getElem?_map] at h
  obtain ⟨c, hc, rfl⟩ := Option.map_eq_some_iff.mp h
  exact ⟨c, List.mem_of_getElem? hc, rfl, by rw [List.take_add_one, hc]; rfl⟩
theorem fil_shl {p : Int × Int} (hp : p ∈ sizes14) : ((2 ^ (p.1 * p.2).toNat : Nat) : Int) = ((filA p).length : Int) ∧ 0 ≤ p.1 * p.2 ∧ p.1 * p.2 ≤ 100 := by
  unfold filA
  rw [fil_len]
  revert p
  decide +kernel
/-- the refusals of the text, by the class that is raised -/
structure Xk75 (K : PySem.W.Frag) (mg : Str → Option Value) (CN : Addr) : Prop where
  xc : XCls K CN
  ex : PySem.W.excIn K CN bmVE "ValueError.__new__" = true
  le : ∃ C : Addr, mg "LeastError" = some (.ref C) ∧ PySem.W.exmOne K (.ref CN) (.ref C) = some true
  nw : mg "NoWindow" = some (.ref CN) ∧ PySem.W.kitOne K (.ref CN) (.ref CN) = some true
  ve : mg "ValueError" = none ∧ PySem.W.kitOne K (.ref CN) (.type "ValueError") = some true
  nc : ∃ C : Addr, mg "NoChange" = some (.ref C) ∧ PySem.W.kitOne K (.ref CN) (.ref C) = some false
  nt : ∃ C : Addr, mg "NoText" = some (.ref C) ∧ PySem.W.kitOne K (.ref CN) (.ref C) = some false
  ns : ∃ C : Addr, mg "NoWish" = some (.ref C) ∧ PySem.W.kitOne K (.ref CN) (.ref C) = some false
  tg : ∃ C : Addr, mg "TooGreat" = some (.ref C) ∧ PySem.W.kitOne K (.ref CN) (.ref C) = some false
theorem boot_ve : bootBuiltins "ValueError" = some (.type "ValueError") := by boot_by_name
end DL

set_option maxHeartbeats 400000
namespace K75
open PySem PySem.Spec PyProof.Rows L2 DL
theorem lenS {α : Type} {us : List α} {n : Nat} (h : us.length = n + 1) : ∃ a r, us = a :: r ∧ r.length = n := by
  cases us with
  | nil => cases h
  | cons a r => exact ⟨a, r, rfl, Nat.succ.inj h⟩
theorem len1 {α : Type} {us : List α} (h : us.length = 1) : ∃ a, us = [a] := by
  obtain ⟨a, r, e0, h2⟩ := lenS h
  subst e0
  exact ⟨a, by rw [List.eq_nil_of_length_eq_zero h2]⟩
theorem len2 {α : Type} {us : List α} (h : us.length = 2) : ∃ a b, us = [a, b] := by
  obtain ⟨a, r, e0, h2⟩ := lenS h
  subst e0
  obtain ⟨b, rfl⟩ := len1 h2
  exact ⟨a, b, rfl⟩
theorem len3 {α : Type} {us : List α} (h : us.length = 3) : ∃ a b c, us = [a, b, c] := by
  obtain ⟨a, r, e0, h2⟩ := lenS h
  subst e0
  obtain ⟨b, c, rfl⟩ := len2 h2
  exact ⟨a, b, c, rfl⟩
theorem len4 {α : Type} {us : List α} (h : us.length = 4) : ∃ a b c d, us = [a, b, c, d] := by
  obtain ⟨a, r, e0, h2⟩ := lenS h
  subst e0
  obtain ⟨b, c, d, rfl⟩ := len3 h2
  exact ⟨a, b, c, d, rfl⟩
theorem len5 {α : Type} {us : List α} (h : us.length = 5) : ∃ a b c d e, us = [a, b, c, d, e] := by
  obtain ⟨a, r, e0, h2⟩ := lenS h
  subst e0
  obtain ⟨b, c, d, e, rfl⟩ := len4 h2
  exact ⟨a, b, c, d, e, rfl⟩
theorem len6 {α : Type} {us : List α} (h : us.length = 6) : ∃ a b c d e f, us = [a, b, c, d, e, f] := by
  obtain ⟨a, r, e0, h2⟩ := lenS h
  subst e0
  obtain ⟨b, c, d, e, f, rfl⟩ := len5 h2
  exact ⟨a, b, c, d, e, f, rfl⟩
noncomputable def top (i : Nat) : Stmt := PySem.Challenge.pw_leastrow_k75_no_window.main.body.getD i (.Pass ⟨0, 0, 0, 0⟩)
noncomputable abbrev sCount : Stmt := top 8
noncomputable abbrev sEach : Stmt := top 9
noncomputable abbrev sFill : Stmt := top 10
noncomputable abbrev sItself : Stmt := top 14
noncomputable abbrev sAnother : Stmt := top 15
noncomputable abbrev sNewWord : Stmt := top 16
noncomputable abbrev sWritten : Stmt := top 18
noncomputable abbrev sStepOn : Stmt := top 17
noncomputable abbrev sRowOn : Stmt := top 30
noncomputable abbrev sTable : Stmt := top 32
noncomputable abbrev sBoxes : Stmt := top 33
noncomputable abbrev sWordsIn : Stmt := top 34
noncomputable abbrev sIsWin : Stmt := top 43
noncomputable abbrev sWTold : Stmt := top 45
noncomputable abbrev sFbw : Stmt := top 46
noncomputable abbrev sWat : Stmt := top 47
noncomputable abbrev sPfrom : Stmt := top 48
noncomputable abbrev sPfor : Stmt := top 49
noncomputable abbrev sWnd : Stmt := top 58
noncomputable abbrev sRef : Stmt := top 59
noncomputable abbrev sCellAt : Stmt := top 51
noncomputable abbrev sCellsQ : Stmt := top 52
noncomputable abbrev sMixed : Stmt := top 53
noncomputable abbrev sSize74 : Stmt := top 54
noncomputable abbrev sStepD : Stmt := top 55
noncomputable abbrev sKitQ : Stmt := top 56
noncomputable abbrev sRowQ2 : Stmt := top 57
noncomputable abbrev sLaw : Stmt := top 60
noncomputable abbrev sShI : Stmt := inClass (top 41) 0
section
variable {P : Program} {w : World} {K : PySem.W.Frag} {mg : Str → Option Value} {base : Heap} {f : Addr} {fd : FuncData}
theorem u_of {u d n c : Nat} (h : u + n < c) (hd : d + 1 ≤ n) : u + d + 1 < c := by omega
theorem pl_sq (q : SQ) : pl (sqD q) = true := by
  show pl (stpD _ _ _ _) = true
  unfold stpD
  split
  · rfl
  · split <;> rfl
theorem dep_sq (q : SQ) : dep (sqD q) = 1 := by
  show dep (stpD _ _ _ _) = 1
  unfold stpD
  split
  · rfl
  · split <;> rfl
theorem plL_map {α : Type} (g : α → D) (h : ∀ a, pl (g a) = true) : ∀ l : List α, plL (l.map g) = true
  | [] => rfl
  | a :: l => by
    show (pl (g a) && plL (l.map g)) = true
    rw [h a, plL_map g h l]
    rfl
theorem depL_map {α : Type} (g : α → D) (n : Nat) (h : ∀ a, dep (g a) ≤ n) : ∀ l : List α, depL (l.map g) ≤ n
  | [] => Nat.zero_le _
  | a :: l => Nat.max_le.mpr ⟨h a, depL_map g n h l⟩
noncomputable def twoT : D → List Slot → List Slot
  | .tup [x, y], r => .val x :: .val y :: r
  | _, r => .un :: .un :: r
noncomputable def CCount : List D → R → Prop := fun ds r => ∃ p : Int × Int, ds = [sizD p] ∧ 0 ≤ p.1 ∧ p.1 ≤ 60 ∧ r = .val (.int (2 ^ p.1.toNat))
theorem ok_count (F : Fun K "word_count" "word_count" sCount f fd) (zrange : mg "range" = none) (hm : mg "word_count" = some (.ref f)) : Callee P w K mg base "word_count" 1 1 CCount := by
  have nd : (["size", "count", "bit"] : List Str).Nodup := by decide +kernel
  refine def_ok (N := ["size", "count", "bit"]) (ps := ["size"]) (k := 0) F ⟨rfl, rfl, rfl, nd, rfl, by decide +kernel, by decide +kernel⟩ hm (fun _ _ _ _ _ _ us hl => by (obtain ⟨_, rfl⟩ := len1 hl; exact rfl)) fun cdv A outer s H E hr ds r hl c => ?_
  obtain ⟨p, rfl, h0, h1, rfl⟩ := c
  have ep : p.1 = ((p.1.toNat : Nat) : Int) := by omega
  refine psd_cons (psd_set 1 nd rfl (Or.inl rfl) pd_int ?_)
  refine psd_cons (psd_for (ds := rangeD 0 p.1.toNat) (fun k => [.val (sizD p), .val (.int (2 ^ k)), .un]) (fun k => [.val (sizD p), .val (.int (2 ^ k)), .val (.int (0 + (k : Int)))]) (pid_range (n := p.1.toNat) rfl zrange (PEd.cast (pd_ixT (n := 0) (d := .int p.1) (pd_var 0 rfl (pv 0)) pd_int rfl fun _ _ => rfl) (by rw [← ep])) (by omega)) ⟨.inr rfl, .inr rfl, .inr rfl, trivial⟩ (fun i d hd => ?_) (fun i d hd => ?_) ?_)
  · obtain ⟨_, rfl⟩ := rangeD_get hd
    exact pgd_name 2 (pg_name (i := 2) nd rfl (Or.inl rfl))
  · refine psd_one (psd_set 1 nd rfl (Or.inl rfl) (pd_iiC op_mulG (pd_var 1 rfl (pv 1)) pd_int (mul64 (by decide) (by decide))) ?_)
    exact ⟨.inr rfl, .inr rfl, .inl rfl, trivial⟩
  · refine psd_one (psd_ret (pd_var 1 rfl (pv 1)) trivial ?_)
    rw [rangeD_len]
noncomputable def CEach : List D → R → Prop := fun ds r => ∃ (L : List (List Int)) (m : Nat), ds = [.lst (L.map tupI), .int (m : Int)] ∧ L.length * m ≤ 900 ∧ m ≤ 64 ∧ (∀ s ∈ L, s.length ≤ 100) ∧ r = .own ((L.flatMap fun s => (List.range m).map fun (w : Nat) => s ++ [(w : Int)]).map tupI)
theorem ok_each (F : Fun K "with_each_word" "with_each_word" sEach f fd) (zrange : mg "range" = none) (hm : mg "with_each_word" = some (.ref f)) : Callee P w K mg base "with_each_word" 1 2 CEach := by
  have nd : (["starts", "count", "longer", "start"] : List Str).Nodup := by decide +kernel
  refine def_ok (N := ["starts", "count", "longer", "start"]) (ps := ["starts", "count"]) (k := 0) F ⟨rfl, rfl, rfl, nd, rfl, by decide +kernel, by decide +kernel⟩ hm (fun _ _ _ _ _ _ us hl => by (obtain ⟨_, _, rfl⟩ := len2 hl; exact rfl)) fun cdv A outer s H E hr ds r hl c => ?_
  obtain ⟨L, m, rfl, hL, hm64, hs, rfl⟩ := c
  have nd2 : (["word", "start"] : List Str).Nodup := by decide +kernel
  refine psd_cons (psd_setO 2 nd rfl (Or.inl rfl) (pd_lst (ds := []) pad_nil (Nat.zero_le _)) fun l => ?_)
  refine psd_cons (psd_for (ds := L.map tupI) (fun k => [.val (.lst (L.map tupI)), .val (.int (m : Int)), .own l (((L.take k).flatMap fun s => (List.range m).map fun (w : Nat) => s ++ [(w : Int)]).map tupI), .un]) (fun k => [.val (.lst (L.map tupI)), .val (.int (m : Int)), .own l (((L.take k).flatMap fun s => (List.range m).map fun (w : Nat) => s ++ [(w : Int)]).map tupI), .val (tupI (L.getD k []))]) (pid_list (pd_var 0 rfl (pv 0))) ⟨.inr rfl, .inr rfl, .inr rfl, .inr rfl, trivial⟩ (fun k d hd => ?_) (fun k d hd => ?_) ?_)
  · obtain ⟨_, rfl⟩ := tups_get hd
    exact pgd_name 3 (pg_name (i := 3) nd rfl (Or.inr rfl))
  · obtain ⟨hk, rfl⟩ := tups_get hd
    have hmem : L.getD k [] ∈ L := getD_mem hk
    have et : L.take (k + 1) = L.take k ++ [L.getD k []] := by
      rw [List.take_add_one]
      simp [List.getD, hk]
    have lk : (L.take k).length * m + m ≤ 900 := by
      have h1 : (L.take k).length + 1 ≤ L.length := by rw [List.length_take]; omega
      have h2 := Nat.mul_le_mul_right m h1
      rw [Nat.succ_mul] at h2
      omega
    have comp : ∀ {pos : Pos}, PEd (cxOf CX0 P w K mg base ["starts", "count", "longer", "start"] "with_each_word" (defScope sEach) f cdv A outer s H E).nox [.val (.lst (L.map tupI)), .val (.int (m : Int)), .own l (((L.take k).flatMap fun s => (List.range m).map fun (w : Nat) => s ++ [(w : Int)]).map tupI), .val (tupI (L.getD k []))] (match (defBody sEach).getD 1 (.Pass ⟨0, 0, 0, 0⟩) with | .For _ _ [.Expr (.Call _ [c] _ _) _] _ _ => c | _ => .Constant .none 0 ⟨0, 0, 0, 0⟩) (.own (((rangeD 0 m).filter fun _ => true).map fun d => D.tup ((L.getD k []).map D.int ++ [d]))) := fun {pos} => by
      refine pd_comp (N := ["word", "start"]) (M := ["starts", "count", "longer", "start"]) (cap := [none, some 3]) (sc := defScope sEach) (Tb := fun d => [.val d, .val (tupI (L.getD k []))]) (fun _ => true) (fun d => D.tup ((L.getD k []).map D.int ++ [d])) (pid_range (n := m) rfl zrange (pd_var 1 rfl (pv 1)) (by omega)) (by rw [rangeD_len]; omega) rfl (by decide +kernel) rfl (by decide +kernel) rfl (fun cl C fp s H d _ => pgd_name 0 (pg_name (i := 0) nd2 rfl (Or.inl rfl))) (fun d _ => ⟨.inl rfl, .inr rfl, trivial⟩) (fun cl C fp s H d _ => .inl ⟨rfl, rfl⟩) fun cl C fp s H d _ _ => ?_
      refine pd_catT (pd_var 1 rfl (pv 1)) (pd_tup (ds := [d]) (pad_cons (pd_var 0 rfl (pv 0)) pad_nil) (Nat.le_of_ble_eq_true rfl)) ?_
      have := hs _ hmem
      simp only [List.length_map, List.length_cons, List.length_nil]
      omega
    have ec : ((rangeD 0 m).filter fun _ => true).map (fun d => D.tup ((L.getD k []).map D.int ++ [d])) = ((List.range m).map fun (w : Nat) => L.getD k [] ++ [(w : Int)]).map tupI := by
      rw [List.filter_eq_self.mpr (fun _ _ => rfl)]
      unfold rangeD
      rw [List.map_map, List.map_map]
      refine List.map_congr_left fun w _ => ?_
      simp [tupI]
    refine psd_one (psd_extend 2 rfl (pv 2) (PEd.val (comp (pos := ⟨0, 0, 0, 0⟩))) ?_ ?_)
    · rw [List.length_map, flatMap_len, ec, List.length_map, List.length_map, List.length_range]
      omega
    · refine ⟨.inr rfl, .inr rfl, .inr ?_, .inl rfl, trivial⟩
      rw [et, ec, List.flatMap_append, List.map_append]
      simp
  · refine psd_one (psd_retO 2 rfl (pv 2) ?_)
    show R.own _ = R.own _
    rw [List.length_map, List.take_length]
noncomputable def CFill : List D → R → Prop := fun ds r => ∃ p, p ∈ sizes14 ∧ ds = [sizD p] ∧ r = .own ((filI (2 ^ p.1.toNat) p.2.toNat).map tupI)
theorem ok_fill (F : Fun K "fillings" "fillings" sFill f fd) (zrange : mg "range" = none) (hm : mg "fillings" = some (.ref f)) (GC : Callee P w K mg base "word_count" 1 1 CCount) (GE : Callee P w K mg base "with_each_word" 1 2 CEach) : Callee P w K mg base "fillings" 2 1 CFill := by
  have nd : (["size", "count", "told", "box"] : List Str).Nodup := by decide +kernel
  refine def_ok (N := ["size", "count", "told", "box"]) (ps := ["size"]) (k := 1) F ⟨rfl, rfl, rfl, nd, rfl, by decide +kernel, by decide +kernel⟩ hm (fun _ _ _ _ _ _ us hl => by (obtain ⟨_, rfl⟩ := len1 hl; exact rfl)) fun cdv A outer s H E hr ds r hl c => ?_
  obtain ⟨p, hp, rfl, rfl⟩ := c
  obtain ⟨h1, h2, h3, h4, h5⟩ := sz14 p hp
  have e2 : p.2 = ((p.2.toNat : Nat) : Int) := by omega
  have m64 : 2 ^ p.1.toNat ≤ 64 := by
    have : p.1.toNat ≤ 6 := by omega
    exact Nat.le_trans (Nat.pow_le_pow_right (by decide) this) (by decide)
  have ec : (2 : Int) ^ p.1.toNat = ((2 ^ p.1.toNat : Nat) : Int) := by push_cast; rfl
  refine psd_cons (psd_set 1 nd rfl (Or.inl rfl) (pd_call (ds := [sizD p]) GC hr rfl (pad_cons (pd_var 0 rfl (pv 0)) pad_nil) ⟨p, rfl, by omega, by omega, rfl⟩ trivial rfl) ?_)
  refine psd_cons (psd_setO (ds := [tupI []]) 2 nd rfl (Or.inl rfl) (pd_lst (ds := [tupI []]) (pad_cons (pd_tup (ds := []) pad_nil (Nat.zero_le _)) pad_nil) (Nat.le_of_ble_eq_true rfl)) fun l => ?_)
  refine psd_cons (psd_forG (ds := rangeD 0 p.2.toNat) (fun k sd => ∃ l, sd = [.val (sizD p), .val (.int (2 ^ p.1.toNat)), .own l ((filI (2 ^ p.1.toNat) k).map tupI), .un]) (pid_range (n := p.2.toNat) rfl zrange (PEd.cast (pd_ixT (n := 1) (d := .int p.2) (pd_var 0 rfl (pv 0)) pd_int rfl fun _ _ => rfl) (by rw [← e2])) (by omega)) ⟨_, Le.refl _, l, rfl⟩ (fun k d sdk hd hk => ?_) fun sdn hn => ?_)
  · obtain ⟨hk2, rfl⟩ := rangeD_get hd
    obtain ⟨l2, rfl⟩ := hk
    refine ⟨[.val (sizD p), .val (.int (2 ^ p.1.toNat)), .own l2 ((filI (2 ^ p.1.toNat) k).map tupI), .val (.int (0 + (k : Int)))], pgd_name 3 (pg_name (i := 3) nd rfl (Or.inl rfl)), ?_⟩
    refine psd_frz 2 rfl ?_
    refine psd_one (psd_setO 2 nd rfl (Or.inl rfl) (pd_call (ds := [.lst ((filI (2 ^ p.1.toNat) k).map tupI), .int ((2 ^ p.1.toNat : Nat) : Int)]) GE hr rfl (pad_cons (pd_var 2 rfl (pv 2)) (pad_cons (PEd.cast (pd_var 1 rfl (pv 1)) (by rw [ec])) pad_nil)) ⟨filI (2 ^ p.1.toNat) k, 2 ^ p.1.toNat, rfl, ?_, m64, fun s hs => ?_, rfl⟩ trivial rfl) fun l3 => ?_)
    · rw [fil_len]
      exact pow_small p hp k hk2
    · rw [fil_lens _ _ s hs]
      omega
    · exact ⟨[.val (sizD p), .val (.int (2 ^ p.1.toNat)), .own l3 ((filI (2 ^ p.1.toNat) (k + 1)).map tupI), .un], ⟨.inr rfl, .inr rfl, .inr rfl, .inl rfl, trivial⟩, l3, rfl⟩
  · rw [rangeD_len] at hn
    obtain ⟨l2, rfl⟩ := hn
    exact psd_one (psd_retO 2 rfl (pv 2) rfl)
noncomputable def CItself : List D → R → Prop := fun ds r => ∃ (k : Nat) (m a : Int), ds = [.str (nm k), .int m, .int a] ∧ 7 ≤ k ∧ k < 10 ∧ 0 < m ∧ r = .val (.int (selfW k m a))
theorem ok_itself (F : Fun K "word_by_itself" "word_by_itself" sItself f fd) (hm : mg "word_by_itself" = some (.ref f)) : Callee P w K mg base "word_by_itself" 1 3 CItself := by
  have nd : (["name", "count", "word"] : List Str).Nodup := by decide +kernel
  refine def_ok (N := ["name", "count", "word"]) (ps := ["name", "count", "word"]) (k := 0) F ⟨rfl, rfl, rfl, nd, rfl, by decide +kernel, by decide +kernel⟩ hm (fun _ _ _ _ _ _ us hl => by (obtain ⟨_, _, _, rfl⟩ := len3 hl; exact rfl)) fun cdv A outer s H E hr ds r hl c => ?_
  obtain ⟨k, m, a, rfl, h7, h10, hm0, rfl⟩ := c
  refine psd_cons (psd_if (k := decide (k = 7)) (ptd_eqS (pd_var 0 rfl (pv 0)) pd_str rfl rfl rfl (nm_not k h10)) (fun h => ?_) fun h => psd_nil ?_)
  · have : k = 7 := by simpa using h
    subst this
    exact psd_one (psd_ret (pd_ii op_sub (pd_ii op_sub (pd_var 1 rfl (pv 1)) pd_int) (pd_var 2 rfl (pv 2))) trivial rfl)
  have n7 : ¬ k = 7 := by simpa using h
  refine psd_cons (psd_if (k := decide (k = 8)) (ptd_eqS (pd_var 0 rfl (pv 0)) pd_str rfl rfl rfl (nm_up k h10)) (fun h => ?_) fun h => psd_nil ?_)
  · have : k = 8 := by simpa using h
    subst this
    exact psd_one (psd_ret (pd_iiC op_mod (pd_iiC op_mulG (pd_var 2 rfl (pv 2)) pd_int (mul64 (by decide) (by decide))) (pd_var 1 rfl (pv 1)) hm0) trivial rfl)
  have n8 : ¬ k = 8 := by simpa using h
  have : k = 9 := by omega
  subst this
  exact psd_one (psd_ret (pd_iiC op_fdiv (pd_var 2 rfl (pv 2)) pd_int ⟨by decide, by decide⟩) trivial rfl)
noncomputable def CAnother : List D → R → Prop := fun ds r => ∃ (k : Nat) (m a c : Int), ds = [.str (nm k), .int m, .int a, .int c] ∧ k < 6 ∧ 0 < m ∧ r = .val (.int (anoW k m a c))
theorem ok_another (F : Fun K "word_by_another" "word_by_another" sAnother f fd) (hm : mg "word_by_another" = some (.ref f)) : Callee P w K mg base "word_by_another" 1 4 CAnother := by
  have nd : (["name", "count", "word", "other"] : List Str).Nodup := by decide +kernel
  refine def_ok (N := ["name", "count", "word", "other"]) (ps := ["name", "count", "word", "other"]) (k := 0) F ⟨rfl, rfl, rfl, nd, rfl, by decide +kernel, by decide +kernel⟩ hm (fun _ _ _ _ _ _ us hl => by (obtain ⟨_, _, _, _, rfl⟩ := len4 hl; exact rfl)) fun cdv A outer s H E hr ds r hl c => ?_
  obtain ⟨k, m, a, c, rfl, h6, hm0, rfl⟩ := c
  have h10 : k < 10 := by omega
  refine psd_cons (psd_if (k := decide (k = 0)) (ptd_eqS (pd_var 0 rfl (pv 0)) pd_str rfl rfl rfl (nm_and k h10)) (fun h => ?_) fun h => psd_nil ?_)
  · have : k = 0 := by simpa using h
    subst this
    exact psd_one (psd_ret (pd_ii op_and (pd_var 2 rfl (pv 2)) (pd_var 3 rfl (pv 3))) trivial rfl)
  have n0 : ¬ k = 0 := by simpa using h
  refine psd_cons (psd_if (k := decide (k = 1)) (ptd_eqS (pd_var 0 rfl (pv 0)) pd_str rfl rfl rfl (nm_or k h10)) (fun h => ?_) fun h => psd_nil ?_)
  · have : k = 1 := by simpa using h
    subst this
    exact psd_one (psd_ret (pd_ii op_or (pd_var 2 rfl (pv 2)) (pd_var 3 rfl (pv 3))) trivial rfl)
  have n1 : ¬ k = 1 := by simpa using h
  refine psd_cons (psd_if (k := decide (k = 2)) (ptd_eqS (pd_var 0 rfl (pv 0)) pd_str rfl rfl rfl (nm_xor k h10)) (fun h => ?_) fun h => psd_nil ?_)
  · have : k = 2 := by simpa using h
    subst this
    exact psd_one (psd_ret (pd_ii op_xor (pd_var 2 rfl (pv 2)) (pd_var 3 rfl (pv 3))) trivial rfl)
  have n2 : ¬ k = 2 := by simpa using h
  refine psd_cons (psd_if (k := decide (k = 3)) (ptd_eqS (pd_var 0 rfl (pv 0)) pd_str rfl rfl rfl (nm_add k h10)) (fun h => ?_) fun h => psd_nil ?_)
  · have : k = 3 := by simpa using h
    subst this
    exact psd_one (psd_ret (pd_iiC op_mod (pd_ii op_add (pd_var 2 rfl (pv 2)) (pd_var 3 rfl (pv 3))) (pd_var 1 rfl (pv 1)) hm0) trivial rfl)
  have n3 : ¬ k = 3 := by simpa using h
  refine psd_cons (psd_if (k := decide (k = 4)) (ptd_eqS (pd_var 0 rfl (pv 0)) pd_str rfl rfl rfl (nm_take k h10)) (fun h => ?_) fun h => psd_nil ?_)
  · have : k = 4 := by simpa using h
    subst this
    exact psd_one (psd_ret (pd_iiC op_mod (pd_ii op_sub (pd_var 2 rfl (pv 2)) (pd_var 3 rfl (pv 3))) (pd_var 1 rfl (pv 1)) hm0) trivial rfl)
  have n4 : ¬ k = 4 := by simpa using h
  have : k = 5 := by omega
  subst this
  exact psd_one (psd_ret (pd_var 3 rfl (pv 3)) trivial rfl)
/-- a step of the size p, a filling of it -/
structure StOk (p : Int × Int) (k : Nat) (i j n : Int) (ws : List Int) : Prop where
  sz : p ∈ sizes14
  k10 : k < 10
  i0 : 0 ≤ i ∧ i < p.2
  j0 : 0 ≤ j ∧ j < p.2
  n0 : 0 ≤ n ∧ n < ((2 ^ p.1.toNat : Nat) : Int)
  len : ws.length = p.2.toNat
  wd : ∀ w ∈ ws, 0 ≤ w ∧ w < ((2 ^ p.1.toNat : Nat) : Int)
noncomputable def nwOf (p : Int × Int) (k : Nat) (i j n : Int) (ws : List Int) : Int := newW k ((2 ^ p.1.toNat : Nat) : Int) (ws.getD i.toNat 0) (ws.getD j.toNat 0) n
noncomputable def CNewWord : List D → R → Prop := fun ds r => ∃ p k i j n ws, StOk p k i j n ws ∧ ds = [sizD p, stpD k i j n, tupI ws] ∧ r = .val (.int (nwOf p k i j n ws))
theorem pw_pos (n : Nat) : (0 : Int) < ((2 ^ n : Nat) : Int) := by
  have : 0 < 2 ^ n := Nat.pow_pos (by decide)
  generalize 2 ^ n = q at this ⊢
  omega
theorem at_int {ws : List Int} {i : Int} {n : Nat} (h : ws.length = n) (h1 : i < (n : Int)) (h0 : 0 ≤ i) : (ws.map D.int)[i.toNat]? = some (.int (ws.getD i.toNat 0)) := by
  have : i.toNat < ws.length := by omega
  simp [List.getD, this]
theorem ok_newword (F : Fun K "new_word" "new_word" sNewWord f fd) (byself : ∃ ad, mg "BY_ITSELF" = some (.ref ad) ∧ ∀ H : Hp, SqT K H ad [V.str "not", V.str "up", V.str "down"]) (hm : mg "new_word" = some (.ref f)) (GC : Callee P w K mg base "word_count" 1 1 CCount) (GI : Callee P w K mg base "word_by_itself" 1 3 CItself) (GA : Callee P w K mg base "word_by_another" 1 4 CAnother) : Callee P w K mg base "new_word" 2 3 CNewWord := by
  have nd : (["size", "step", "filling", "name", "word"] : List Str).Nodup := by decide +kernel
  refine def_ok (N := ["size", "step", "filling", "name", "word"]) (ps := ["size", "step", "filling"]) (k := 1) F ⟨rfl, rfl, rfl, nd, rfl, by decide +kernel, by decide +kernel⟩ hm (fun _ _ _ _ _ _ us hl => by (obtain ⟨_, _, _, rfl⟩ := len3 hl; exact rfl)) fun cdv A outer s H E hr ds r hl c => ?_
  obtain ⟨p, k, i, j, n, ws, O, rfl, rfl⟩ := c
  obtain ⟨h1, h2, h3, h4, h5⟩ := sz14 p O.sz
  have hm0 := pw_pos p.1.toNat
  have ec : (2 : Int) ^ p.1.toNat = ((2 ^ p.1.toNat : Nat) : Int) := by push_cast; rfl
  have e2 : p.2 = ((p.2.toNat : Nat) : Int) := by omega
  obtain ⟨ad, hB, hq⟩ := byself
  have ai : (ws.map D.int)[i.toNat]? = some (.int (ws.getD i.toNat 0)) := at_int O.len (by have := O.i0.2; omega) O.i0.1
  have aj : (ws.map D.int)[j.toNat]? = some (.int (ws.getD j.toNat 0)) := at_int O.len (by have := O.j0.2; omega) O.j0.1
  by_cases k6 : k < 6
  · have es : stpD k i j n = .tup [.str (nm k), .int i, .int j] := by unfold stpD; rw [if_pos k6]
    rw [es]
    refine psd_cons (psd_set 3 nd rfl (Or.inl rfl) (pd_ixT (n := 0) (pd_var 1 rfl (pv 1)) pd_int rfl fun _ _ => rfl) ?_)
    refine psd_cons (psd_ifF (ptd_eqS (pd_var 3 rfl (pv 3)) pd_str rfl rfl rfl (nm_put k O.k10)) (by simp; omega) (psd_nil ?_))
    refine psd_cons (psd_set 4 nd rfl (Or.inl rfl) (pd_ixTi (i := i) (pd_var 2 rfl (pv 2)) (pd_ixT (n := 1) (pd_var 1 rfl (pv 1)) pd_int rfl fun _ _ => rfl) O.i0.1 ai fun _ _ => rfl) ?_)
    refine psd_cons (psd_ifF (ptd_inM rfl hB (fun H => hq H) (pd_var 3 rfl (pv 3)) rfl rfl rfl) (by rw [nm_self k O.k10]; simp; omega) (psd_nil ?_))
    refine psd_one (psd_ret (pd_call (ds := [.str (nm k), .int ((2 ^ p.1.toNat : Nat) : Int), .int (ws.getD i.toNat 0), .int (ws.getD j.toNat 0)]) GA hr rfl (pad_cons (pd_var 3 rfl (pv 3)) (pad_cons (PEd.cast (pd_call (ds := [sizD p]) GC hr rfl (pad_cons (pd_var 0 rfl (pv 0)) pad_nil) ⟨p, rfl, by omega, by omega, rfl⟩ trivial rfl) (by rw [ec])) (pad_cons (pd_var 4 rfl (pv 4)) (pad_cons (pd_ixTi (i := j) (pd_var 2 rfl (pv 2)) (pd_ixT (n := 2) (pd_var 1 rfl (pv 1)) pd_int rfl fun _ _ => rfl) O.j0.1 aj fun _ _ => rfl) pad_nil)))) ⟨k, _, _, _, rfl, k6, hm0, rfl⟩ trivial rfl) trivial ?_)
    unfold nwOf newW
    rw [if_neg (by omega), if_neg (by omega)]
  · by_cases k6' : k = 6
    · subst k6'
      have es : stpD 6 i j n = .tup [.str (nm 6), .int i, .int n] := rfl
      rw [es]
      refine psd_cons (psd_set 3 nd rfl (Or.inl rfl) (pd_ixT (n := 0) (pd_var 1 rfl (pv 1)) pd_int rfl fun _ _ => rfl) ?_)
      refine psd_cons (psd_ifT (ptd_eqS (pd_var 3 rfl (pv 3)) pd_str rfl rfl rfl (nm_put 6 O.k10)) rfl ?_)
      exact psd_one (psd_ret (pd_ixT (n := 2) (pd_var 1 rfl (pv 1)) pd_int rfl fun _ _ => rfl) trivial rfl)
    · have es : stpD k i j n = .tup [.str (nm k), .int i] := by unfold stpD; rw [if_neg k6, if_neg k6']
      rw [es]
      refine psd_cons (psd_set 3 nd rfl (Or.inl rfl) (pd_ixT (n := 0) (pd_var 1 rfl (pv 1)) pd_int rfl fun _ _ => rfl) ?_)
      refine psd_cons (psd_ifF (ptd_eqS (pd_var 3 rfl (pv 3)) pd_str rfl rfl rfl (nm_put k O.k10)) (by simp; omega) (psd_nil ?_))
      refine psd_cons (psd_set 4 nd rfl (Or.inl rfl) (pd_ixTi (i := i) (pd_var 2 rfl (pv 2)) (pd_ixT (n := 1) (pd_var 1 rfl (pv 1)) pd_int rfl fun _ _ => rfl) O.i0.1 ai fun _ _ => rfl) ?_)
      refine psd_cons (psd_ifT (ptd_inM rfl hB (fun H => hq H) (pd_var 3 rfl (pv 3)) rfl rfl rfl) (by rw [nm_self k O.k10]; simp; omega) ?_)
      refine psd_one (psd_ret (pd_call (ds := [.str (nm k), .int ((2 ^ p.1.toNat : Nat) : Int), .int (ws.getD i.toNat 0)]) GI hr rfl (pad_cons (pd_var 3 rfl (pv 3)) (pad_cons (PEd.cast (pd_call (ds := [sizD p]) GC hr rfl (pad_cons (pd_var 0 rfl (pv 0)) pad_nil) ⟨p, rfl, by omega, by omega, rfl⟩ trivial rfl) (by rw [ec])) (pad_cons (pd_var 4 rfl (pv 4)) pad_nil))) ⟨k, _, _, rfl, by omega, O.k10, hm0, rfl⟩ trivial rfl) trivial ?_)
      unfold nwOf newW
      rw [if_neg k6', if_pos (by omega)]
noncomputable def CWritten : List D → R → Prop := fun ds r => ∃ k i j n, ds = [stpD k i j n] ∧ r = .val (.int i)
theorem stp_one (k : Nat) (i j n : Int) : ∃ es, stpD k i j n = .tup (.str (nm k) :: .int i :: es) := by
  unfold stpD
  split
  · exact ⟨_, rfl⟩
  · split
    · exact ⟨_, rfl⟩
    · exact ⟨_, rfl⟩
theorem ok_written (F : Fun K "written_box" "written_box" sWritten f fd) (hm : mg "written_box" = some (.ref f)) : Callee P w K mg base "written_box" 1 1 CWritten := by
  have nd : (["step"] : List Str).Nodup := by decide +kernel
  refine def_ok (N := ["step"]) (ps := ["step"]) (k := 0) F ⟨rfl, rfl, rfl, nd, rfl, by decide +kernel, by decide +kernel⟩ hm (fun _ _ _ _ _ _ us hl => by (obtain ⟨_, rfl⟩ := len1 hl; exact rfl)) fun cdv A outer s H E hr ds r hl c => ?_
  obtain ⟨k, i, j, n, rfl, rfl⟩ := c
  obtain ⟨es, e⟩ := stp_one k i j n
  rw [e]
  exact psd_one (psd_ret (pd_ixT (n := 1) (pd_var 0 rfl (pv 0)) pd_int rfl fun _ _ => rfl) trivial rfl)
noncomputable def onOf (p : Int × Int) (k : Nat) (i j n : Int) (ws : List Int) : List Int := ws.set i.toNat (nwOf p k i j n ws)
noncomputable def CStepOn : List D → R → Prop := fun ds r => ∃ p k i j n ws, StOk p k i j n ws ∧ ds = [sizD p, stpD k i j n, tupI ws] ∧ r = .val (tupI (onOf p k i j n ws))
theorem cut_to (ws : List Int) {i : Nat} (h : i < ws.length) : DL.cutD (ws.map D.int) none (some (i : Int)) = (ws.take i).map D.int := by
  unfold DL.cutD
  have h1 : HT.sIx (ws.map D.int).length 0 none = 0 := rfl
  have h2 : HT.sIx (ws.map D.int).length (ws.map D.int).length (some (i : Int)) = i := by
    rw [HT.sIx_nat, List.length_map]
    omega
  rw [h1, h2, List.map_take]
  simp
theorem cut_from (ws : List Int) {i : Nat} (h : i < ws.length) : DL.cutD (ws.map D.int) (some ((i : Int) + 1)) none = (ws.drop (i + 1)).map D.int := by
  unfold DL.cutD
  have e : ((i : Int) + 1) = ((i + 1 : Nat) : Int) := by push_cast; rfl
  have h1 : HT.sIx (ws.map D.int).length 0 (some ((i : Int) + 1)) = i + 1 := by
    rw [e, HT.sIx_nat, List.length_map]
    omega
  have h2 : HT.sIx (ws.map D.int).length (ws.map D.int).length none = ws.length := by
    rw [HT.sIx_none, List.length_map]
  rw [h1, h2, List.map_drop, List.take_of_length_le (by rw [List.length_drop, List.length_map]; omega)]
theorem ok_stepon (F : Fun K "step_on" "step_on" sStepOn f fd) (hm : mg "step_on" = some (.ref f)) (GB : Callee P w K mg base "written_box" 1 1 CWritten) (GN : Callee P w K mg base "new_word" 2 3 CNewWord) : Callee P w K mg base "step_on" 3 3 CStepOn := by
  have nd : (["size", "step", "filling", "box"] : List Str).Nodup := by decide +kernel
  refine def_ok (N := ["size", "step", "filling", "box"]) (ps := ["size", "step", "filling"]) (k := 2) F ⟨rfl, rfl, rfl, nd, rfl, by decide +kernel, by decide +kernel⟩ hm (fun _ _ _ _ _ _ us hl => by (obtain ⟨_, _, _, rfl⟩ := len3 hl; exact rfl)) fun cdv A outer s H E hr ds r hl c => ?_
  obtain ⟨p, k, i, j, n, ws, O, rfl, rfl⟩ := c
  obtain ⟨h1, h2, h3, h4, h5⟩ := sz14 p O.sz
  have hr1 := hr.mono (show 1 ≤ 2 by decide)
  have li : i.toNat < ws.length := by have := O.i0; rw [O.len]; omega
  have ei : i = ((i.toNat : Nat) : Int) := by have := O.i0; omega
  have l6 : ws.length ≤ 6 := by rw [O.len]; omega
  refine psd_cons (psd_set (d := .int ((i.toNat : Nat) : Int)) 3 nd rfl (Or.inl rfl) (PEd.cast (pd_call (ds := [stpD k i j n]) GB hr1 rfl (pad_cons (pd_var 1 rfl (pv 1)) pad_nil) ⟨k, i, j, n, rfl, rfl⟩ trivial rfl) (by rw [← ei])) ?_)
  refine psd_one (psd_ret (PEd.cast (pd_catT (pd_catT (pd_slT (ol := none) (oh := some ((i.toNat : Nat) : Int)) (pd_var 2 rfl (pv 2)) trivial (pd_var 3 rfl (pv 3)) ?_) (pd_tup (ds := [.int (nwOf p k i j n ws)]) (pad_cons (pd_call (ds := [sizD p, stpD k i j n, tupI ws]) GN hr rfl (pad_cons (pd_var 0 rfl (pv 0)) (pad_cons (pd_var 1 rfl (pv 1)) (pad_cons (pd_var 2 rfl (pv 2)) pad_nil))) ⟨p, k, i, j, n, ws, O, rfl, rfl⟩ trivial rfl) pad_nil) (Nat.le_of_ble_eq_true rfl)) ?_) (pd_slT (ol := some (((i.toNat : Nat) : Int) + 1)) (oh := none) (pd_var 2 rfl (pv 2)) (pd_ii op_add (pd_var 3 rfl (pv 3)) pd_int) trivial ?_) ?_) ?_) trivial rfl)
  · rw [HT.sIx_nat, List.length_map]
    omega
  · rw [cut_to ws li]
    simp only [List.length_map, List.length_take, List.length_cons, List.length_nil]
    omega
  · have e : (((i.toNat : Nat) : Int) + 1) = ((i.toNat + 1 : Nat) : Int) := by push_cast; rfl
    rw [e, HT.sIx_nat, List.length_map]
    omega
  · rw [cut_to ws li, cut_from ws li]
    simp only [List.length_append, List.length_map, List.length_take, List.length_drop, List.length_cons, List.length_nil]
    omega
  · rw [cut_to ws li, cut_from ws li]
    unfold tupI onOf
    rw [List.set_eq_take_append_cons_drop, if_pos li]
    simp
noncomputable def CRowOn : List D → R → Prop := fun ds r => ∃ p L row ws, p ∈ sizes14 ∧ StkOk p L ∧ (∀ t ∈ row, t < L.length) ∧ Fil p ws ∧ ds = [sizD p, .lst (L.map skD), .tup (natD row), tupI ws] ∧ r = .val (tupI (rowQ p L row ws))
theorem onQ_on {p : Int × Int} {q : SQ} {ws : List Int} (O : SqOk p q) (G : Fil p ws) : StOk p q.1 q.2.1 q.2.2.1 q.2.2.2 ws := ⟨O.sz, O.k10, O.i0, O.j0, O.n0, G.len, G.wd⟩
theorem ok_rowon (F : Fun K "row_on" "row_on" sRowOn f fd) (hm : mg "row_on" = some (.ref f)) (GS : Callee P w K mg base "step_on" 3 3 CStepOn) : Callee P w K mg base "row_on" 4 4 CRowOn := by
  have nd : (["size", "stock", "row", "filling", "made", "number"] : List Str).Nodup := by decide +kernel
  refine def_ok (N := ["size", "stock", "row", "filling", "made", "number"]) (ps := ["size", "stock", "row", "filling"]) (k := 3) F ⟨rfl, rfl, rfl, nd, rfl, by decide +kernel, by decide +kernel⟩ hm (fun _ _ _ _ _ _ us hl => by (obtain ⟨_, _, _, _, rfl⟩ := len4 hl; exact rfl)) fun cdv A outer s H E hr ds r hl c => ?_
  obtain ⟨p, L, row, ws, hp, S, hrow, G, rfl, rfl⟩ := c
  refine psd_cons (psd_set 4 nd rfl (Or.inl rfl) (pd_var 3 rfl (pv 3)) ?_)
  refine psd_cons (psd_for (ds := natD row) (fun t => [.val (sizD p), .val (.lst (L.map skD)), .val (.tup (natD row)), .val (tupI ws), .val (tupI (rowQ p L (row.take t) ws)), .un]) (fun t => [.val (sizD p), .val (.lst (L.map skD)), .val (.tup (natD row)), .val (tupI ws), .val (tupI (rowQ p L (row.take t) ws)), .val (.int ((row.getD t 0 : Nat) : Int))]) (pid_tup (pd_var 2 rfl (pv 2))) ⟨.inr rfl, .inr rfl, .inr rfl, .inr rfl, .inr rfl, .inr rfl, trivial⟩ (fun t d hd => ?_) (fun t d hd => ?_) ?_)
  · obtain ⟨_, rfl⟩ := nat_get hd
    exact pgd_name 5 (pg_name (i := 5) nd rfl (Or.inl rfl))
  · obtain ⟨ht, rfl⟩ := nat_get hd
    have hn := hrow (row.getD t 0) (DL.getD_mem ht)
    have G1 := rowQ_fil S (row.take t) ws (fun u hu => hrow u (List.take_subset _ _ hu)) G
    refine psd_one (psd_set (d := tupI (rowQ p L (row.take (t + 1)) ws)) 4 nd rfl (Or.inl rfl) (pd_call (ds := [sizD p, sqD (L.getD (row.getD t 0) default).1, tupI (rowQ p L (row.take t) ws)]) GS hr rfl (pad_cons (pd_var 0 rfl (pv 0)) (pad_cons (pd_ixT (n := 0) (ds := [sqD (L.getD (row.getD t 0) default).1, .int (L.getD (row.getD t 0) default).2]) (pd_ixL (PEd.bor (pd_var 1 rfl (pv 1))) (pd_var 5 rfl (pv 5)) (sk_get hn) fun _ _ => rfl) pd_int rfl fun _ _ => rfl) (pad_cons (pd_var 4 rfl (pv 4)) pad_nil))) ⟨p, _, _, _, _, _, onQ_on (S.st _ (DL.getD_mem hn)).1 G1, rfl, by rw [row_take ht, rowQ_snoc]; rfl⟩ trivial rfl) ?_)
    exact ⟨.inr rfl, .inr rfl, .inr rfl, .inr rfl, .inr rfl, .inl rfl, trivial⟩
  · refine psd_one (psd_ret (pd_var 4 rfl (pv 4)) trivial ?_)
    show R.val (tupI (rowQ p L (row.take (natD row).length) ws)) = _
    rw [show (natD row).length = row.length from List.length_map _, List.take_length]
theorem ok_table (F : Fun K "table_of" "table_of" sTable f fd) (ztuple : mg "tuple" = none) (hm : mg "table_of" = some (.ref f)) (GF : Callee P w K mg base "fillings" 2 1 CFill) (GR : Callee P w K mg base "row_on" 4 4 CRowOn) : Callee P w K mg base "table_of" 5 3 CTable := by
  have nd : (["size", "stock", "row"] : List Str).Nodup := by decide +kernel
  refine def_ok (N := ["size", "stock", "row"]) (ps := ["size", "stock", "row"]) (k := 4) F ⟨rfl, rfl, rfl, nd, rfl, by decide +kernel, by decide +kernel⟩ hm (fun _ _ _ _ _ _ us hl => by (obtain ⟨_, _, _, rfl⟩ := len3 hl; exact rfl)) fun cdv A outer s H E hr ds r hl c => ?_
  obtain ⟨p, L, row, hp, S, hrow, rfl, rfl⟩ := c
  have hr2 := hr.mono (show 2 ≤ 4 by decide)
  have nd2 : (["filling", "size", "stock", "row"] : List Str).Nodup := by decide +kernel
  have f9 := fil_900 hp
  have fp : ∀ w ∈ filI (2 ^ p.1.toNat) p.2.toNat, Fil p w := fun w hw => fil_Fil hp hw
  have et : tabQ p L row = (filI (2 ^ p.1.toNat) p.2.toNat).map fun ws => rowQ p L row ws := rfl
  rw [et]
  refine psd_one (psd_ret (pd_tupleL rfl ztuple (PEd.bor (PEd.val (PEd.cast (pd_comp (ds := (filI (2 ^ p.1.toNat) p.2.toNat).map tupI) (N := ["filling", "size", "stock", "row"]) (M := ["size", "stock", "row"]) (cap := [none, some 0, some 1, some 2]) (sc := defScope sTable) (Tb := fun d => [.val d, .val (sizD p), .val (.lst (L.map skD)), .val (.tup (natD row))]) (fun _ => true) (fun d => tupI (rowQ p L row (intsOf d))) (pid_list (PEd.val (pd_call (ds := [sizD p]) GF hr2 rfl (pad_cons (pd_var 0 rfl (pv 0)) pad_nil) ⟨p, hp, rfl, rfl⟩ trivial rfl))) (by rw [List.length_map]; omega) rfl (by decide +kernel) rfl (by decide +kernel) rfl (fun cl C fp s H d _ => pgd_name 0 (pg_name (i := 0) nd2 rfl (Or.inl rfl))) (fun d _ => ⟨.inl rfl, .inr rfl, .inr rfl, .inr rfl, trivial⟩) (fun cl C fp s H d hd => .inl ⟨rfl, rfl⟩) fun cl C fp2 s H d hd _ => ?_) (?_ : _ = R.own (((filI (2 ^ p.1.toNat) p.2.toNat).map fun ws => rowQ p L row ws).map tupI)))))) trivial rfl)
  · obtain ⟨ws, hw, rfl⟩ := mem_tups hd
    rw [intsOf_tup]
    exact pd_call (ds := [sizD p, .lst (L.map skD), .tup (natD row), tupI ws]) GR hr rfl (pad_cons (pd_var 1 rfl (pv 1)) (pad_cons (pd_var 2 rfl (pv 2)) (pad_cons (pd_var 3 rfl (pv 3)) (pad_cons (pd_var 0 rfl (pv 0)) pad_nil)))) ⟨p, L, row, ws, hp, S, hrow, fp ws hw, rfl, rfl⟩ trivial rfl
  · rw [List.filter_eq_self.mpr (fun _ _ => rfl), List.map_map, List.map_map]
    congr 1
    refine List.map_congr_left fun ws _ => ?_
    show tupI (rowQ p L row (intsOf (tupI ws))) = _
    rw [intsOf_tup]
    rfl
theorem ok_boxes (F : Fun K "boxes_looked_at" "boxes_looked_at" sBoxes f fd) (zlist : mg "list" = none) (zrange : mg "range" = none) (hm : mg "boxes_looked_at" = some (.ref f)) : Callee P w K mg base "boxes_looked_at" 1 2 CBoxes := by
  have nd : (["size", "looked"] : List Str).Nodup := by decide +kernel
  refine def_ok (N := ["size", "looked"]) (ps := ["size", "looked"]) (k := 0) F ⟨rfl, rfl, rfl, nd, rfl, by decide +kernel, by decide +kernel⟩ hm (fun _ _ _ _ _ _ us hl => by (obtain ⟨_, _, rfl⟩ := len2 hl; exact rfl)) fun cdv A outer s H E hr ds r hl c => ?_
  obtain ⟨p, o, hp, rfl, rfl⟩ := c
  obtain ⟨h1, h2, h3, h4, h5⟩ := sz14 p hp
  have e2 : p.2 = ((p.2.toNat : Nat) : Int) := by omega
  cases o with
  | none => exact psd_cons (psd_ifT (ptd_isN (d := .non) (pd_var 1 rfl (pv 1)) pd_non) rfl (psd_one (psd_ret (PEd.cast (pd_listRange (n := p.2.toNat) rfl zlist rfl zrange (PEd.ic (pd_ixT (n := 1) (d := .int p.2) (pd_var 0 rfl (pv 0)) pd_int rfl fun _ _ => rfl) e2) (by omega)) (by rw [range_nat]; rfl)) trivial rfl)))
  | some l =>
    refine psd_cons (psd_ifF (ptd_isN (d := .lst (natD l)) (pd_var 1 rfl (pv 1)) pd_non) rfl (psd_nil ?_))
    exact psd_one (psd_ret (pd_listL rfl zlist (PEd.bor (pd_var 1 rfl (pv 1)))) trivial rfl)
theorem ok_wordsin (F : Fun K "words_in" "words_in" sWordsIn f fd) (hm : mg "words_in" = some (.ref f)) : Callee P w K mg base "words_in" 1 2 CWordsIn := by
  have nd : (["boxes", "filling"] : List Str).Nodup := by decide +kernel
  refine def_ok (N := ["boxes", "filling"]) (ps := ["boxes", "filling"]) (k := 0) F ⟨rfl, rfl, rfl, nd, rfl, by decide +kernel, by decide +kernel⟩ hm (fun _ _ _ _ _ _ us hl => by (obtain ⟨_, _, rfl⟩ := len2 hl; exact rfl)) fun cdv A outer s H E hr ds r hl c => ?_
  obtain ⟨bs, ws, hb, hw, rfl, rfl⟩ := c
  have nd2 : (["box", "filling"] : List Str).Nodup := by decide +kernel
  refine psd_one (psd_ret (PEd.cast (pd_comp (ds := natD bs) (N := ["box", "filling"]) (M := ["boxes", "filling"]) (cap := [none, some 1]) (sc := defScope sWordsIn) (Tb := fun d => [.val d, .val (tupI ws)]) (fun _ => true) (fun d => match d with | .int i => D.int (ws.getD i.toNat 0) | _ => .non) (pid_list (pd_var 0 rfl (pv 0))) (by unfold natD; rw [List.length_map]; omega) rfl (by decide +kernel) rfl (by decide +kernel) rfl (fun cl C fp s H d _ => pgd_name 0 (pg_name (i := 0) nd2 rfl (Or.inl rfl))) (fun d _ => ⟨.inl rfl, .inr rfl, trivial⟩) (fun cl C fp s H d hd => .inl ⟨rfl, rfl⟩) fun cl C fp s H d hd _ => ?_) ?_) trivial rfl)
  · obtain ⟨b, hb2, rfl⟩ := List.mem_map.mp hd
    have := hw b hb2
    exact pd_ixT (n := b) (d := .int (ws.getD b 0)) (pd_var 1 rfl (pv 1)) (pd_var 0 rfl (pv 0)) (by simp [List.getD, this]) fun _ _ => rfl
  · rw [List.filter_eq_self.mpr (fun _ _ => rfl)]
    unfold natD
    rw [List.map_map, List.map_map]
    rfl
theorem ok_iswin75 (F : Fun K "is_window" "is_window" sIsWin f fd) (zlen : mg "len" = none) (hm : mg "is_window" = some (.ref f)) : Callee P w K mg base "is_window" 1 3 CWinZ := by
  have nd : (["row", "place", "many"] : List Str).Nodup := by decide +kernel
  refine def_ok (N := ["row", "place", "many"]) (ps := ["row", "place", "many"]) (k := 0) F ⟨rfl, rfl, rfl, nd, rfl, by decide +kernel, by decide +kernel⟩ hm (fun _ _ _ _ _ _ us hl => by (obtain ⟨_, _, _, rfl⟩ := len3 hl; exact rfl)) fun cdv A outer s H E hr ds r hl c => ?_
  obtain ⟨row, a, b, rfl, rfl⟩ := c
  exact psd_one (psd_ret (pd_and (k := decide (0 ≤ a)) (j := decide (1 ≤ b) && decide (a + b ≤ (row.length : Int))) (pd_cI (g := fun i j => decide (j ≤ i)) op_ge (pd_var 1 rfl (pv 1)) pd_int (nomark _)) fun _ => pd_and (k := decide (1 ≤ b)) (j := decide (a + b ≤ (row.length : Int))) (pd_cI (g := fun i j => decide (j ≤ i)) op_ge (pd_var 2 rfl (pv 2)) pd_int (nomark _)) fun _ => pd_one (pd_cI (g := fun i j => decide (i ≤ j)) op_le (pd_ii op_add (pd_var 1 rfl (pv 1)) (pd_var 2 rfl (pv 2))) (PEd.ic (pd_lenT rfl zlen (pd_var 0 rfl (pv 0))) (by unfold natD; rw [List.length_map])) (nomark _))) trivial rfl)
theorem ok_wtold74 (F : Fun K "words_told" "words_told" sWTold f fd) (ztuple : mg "tuple" = none) (hm : mg "words_told" = some (.ref f)) (GW : Callee P w K mg base "words_in" 1 2 CWordsIn) : Callee P w K mg base "words_told" 2 2 CWTold := by
  have nd : (["boxes", "table"] : List Str).Nodup := by decide +kernel
  refine def_ok (N := ["boxes", "table"]) (ps := ["boxes", "table"]) (k := 1) F ⟨rfl, rfl, rfl, nd, rfl, by decide +kernel, by decide +kernel⟩ hm (fun _ _ _ _ _ _ us hl => by (obtain ⟨_, _, rfl⟩ := len2 hl; exact rfl)) fun cdv A outer s H E hr ds r hl c => ?_
  obtain ⟨p, bs, T, hp, lb, hb, O, rfl, rfl⟩ := c
  have f9 : (filA p).length ≤ 64 := fil_900 hp
  have ec : ((T.map tupI).filter fun _ => true).map (fun d => tupI (wdQ bs (intsOf d))) = (T.map (wdQ bs)).map tupI := by
    rw [List.filter_eq_self.mpr (fun _ _ => rfl), List.map_map, List.map_map]
    refine List.map_congr_left fun f _ => ?_
    show tupI (wdQ bs (intsOf (tupI f))) = _
    rw [intsOf_tup]
    rfl
  refine psd_one (psd_ret (PEd.cast (pd_comp (ds := T.map tupI) (N := ["filling", "boxes"]) (M := ["boxes", "table"]) (cap := [none, some 0]) (sc := defScope sWTold) (Tb := fun d => [.val d, .val (.lst (natD bs))]) (fun _ => true) (fun d => tupI (wdQ bs (intsOf d))) (pid_tup (pd_var 1 rfl (pv 1))) (by rw [List.length_map, O.len]; omega) rfl (by decide +kernel) rfl (by decide +kernel) rfl (fun cl C fp s H d _ => pgd_name 0 (pg_name (i := 0) (show (["filling", "boxes"] : List Str).Nodup by decide +kernel) rfl (Or.inl rfl))) (fun d _ => ⟨.inl rfl, .inr rfl, trivial⟩) (fun cl C fp s H d hd => .inl ⟨rfl, rfl⟩) fun cl C fp s H d hd _ => ?_) (by rw [ec])) trivial rfl)
  obtain ⟨f, hf, rfl⟩ := mem_tups hd
  have G := O.fil f hf
  rw [intsOf_tup]
  exact pd_tupleL rfl ztuple (PEd.bor (PEd.val (pd_call (ds := [.lst (natD bs), tupI f]) (r := .own ((wdQ bs f).map D.int)) GW hr rfl (pad_cons (pd_var 1 rfl (pv 1)) (pad_cons (pd_var 0 rfl (pv 0)) pad_nil)) ⟨bs, f, lb, fun b h => by rw [G.len]; exact hb b h, rfl, rfl⟩ trivial rfl)))
theorem ok_fbw74 (F : Fun K "fillings_by_words" "fillings_by_words" sFbw f fd) (zenumerate : mg "enumerate" = none) (hm : mg "fillings_by_words" = some (.ref f)) (GF : Callee P w K mg base "fillings" 2 1 CFill) : Callee P w K mg base "fillings_by_words" 3 2 (CFbw P w K) := by
  have nd : (["size", "words", "gathered", "number", "filling"] : List Str).Nodup := by decide +kernel
  refine def_ok (N := ["size", "words", "gathered", "number", "filling"]) (ps := ["size", "words"]) (k := 2) F ⟨rfl, rfl, rfl, nd, rfl, by decide +kernel, by decide +kernel⟩ hm (fun _ _ _ _ _ _ us hl => by (obtain ⟨_, _, rfl⟩ := len2 hl; exact rfl)) fun cdv A outer s H E hr ds r hl c => ?_
  obtain ⟨p, h, hp, rfl, rfl⟩ := c
  have f9 : (filA p).length ≤ 64 := fil_900 hp
  have hu : (A.deeper (envOfC "fillings_by_words" (defScope sFbw) s.heap.objs.size f cdv)).units + 1 < cLine := by have := hr.un; omega
  refine psd_cons (psd_dnewG 2 nd rfl (Or.inl rfl) fun l => ?_)
  refine psd_cons (psd_forG (ds := enumD ((filA p).map tupI)) (fun t sd => ∃ ls, sd = [.val (sizD p), .val (.lst (((filA p).map h).map tupI)), odG P w K l ((keyQ (((filA p).take t).map h)).map kY) ls (grpD h ((filA p).take t) (keyQ (((filA p).take t).map h))), .un, .un]) (pid_enum rfl zenumerate (PEd.val (pd_call (ds := [sizD p]) GF hr rfl (pad_cons (pd_var 0 rfl (pv 0)) pad_nil) ⟨p, hp, rfl, rfl⟩ trivial rfl))) ⟨_, Le.refl _, [], rfl⟩ (fun t d sdk hd hk => ?_) fun sdn hn => ?_)
  · obtain ⟨x, e1, rfl⟩ := enumD_get hd
    obtain ⟨ht, rfl⟩ := tups_get e1
    obtain ⟨ls, rfl⟩ := hk
    have ew : (((filA p).map h).map tupI)[t]? = some (tupI (h ((filA p).getD t []))) := by simp [List.getD, ht]
    have et : (filA p).take (t + 1) = (filA p).take t ++ [(filA p).getD t []] := take_snoc [] ht
    have tl : ((filA p).take t).length ≤ 64 := Nat.le_trans (List.length_take_le' _ _) f9
    refine ⟨[.val (sizD p), .val (.lst (((filA p).map h).map tupI)), odG P w K l ((keyQ (((filA p).take t).map h)).map kY) ls (grpD h ((filA p).take t) (keyQ (((filA p).take t).map h))), .val (.int (t : Int)), .val (tupI ((filA p).getD t []))], pgd_tup (js := [3, 4]) rfl (pgs_cons (pg_name (i := 3) nd rfl (Or.inl rfl)) (pgs_cons (pg_name (i := 4) nd rfl (Or.inl rfl)) pgs_nil)) rfl rfl, ?_⟩
    have pred : ∀ k', k' ∈ keyQ (((filA p).take t).map h) ↔ k' ∈ ((filA p).take t).map h := fun k' => keyQ_mem
    have ndk := keyQ_nodup (((filA p).take t).map h)
    have es : keyQ (((filA p).take (t + 1)).map h) = adkQ (keyQ (((filA p).take t).map h)) (h ((filA p).getD t [])) := by rw [et, List.map_append]; exact keyQ_snoc _ _
    have kl : (keyQ (((filA p).take t).map h)).length ≤ 64 := by
      refine Nat.le_trans (keyQ_len _) ?_
      rw [List.length_map]
      exact tl
    refine psd_one (psd_sdApp 2 (k := kY (h ((filA p).getD t []))) (d := tupI ((filA p).getD t [])) hu rfl (pv 2) (PEd.cast (pd_ixL (n := t) (d := tupI (h ((filA p).getD t []))) (PEd.bor (pd_var 1 rfl (pv 1))) (pd_var 3 rfl (pv 3)) ew fun _ _ => rfl) (by rw [kY_D])) (fun z => (pd_var 4 rfl (pv 4))) (by unfold grpD; rw [List.length_map]; omega) (fun ds hds => ?_) (fun n ds hk2 hd2 => ?_) fun hk2 a => ?_)
    · obtain ⟨k', _, rfl⟩ := List.mem_map.mp hds
      rw [List.length_map]
      exact Nat.le_trans (List.length_filter_le _ _) (by omega)
    · rw [List.getElem?_map] at hk2
      obtain ⟨k', q1, q2⟩ := Option.map_eq_some_iff.mp hk2
      have q3 := kY_inj q2
      subst q3
      refine ⟨[.val (sizD p), .val (.lst (((filA p).map h).map tupI)), odG P w K l ((keyQ (((filA p).take (t + 1)).map h)).map kY) ls (grpD h ((filA p).take (t + 1)) (keyQ (((filA p).take (t + 1)).map h))), .un, .un], ⟨.inr rfl, .inr rfl, .inr ?_, .inl rfl, .inl rfl, trivial⟩, ls, rfl⟩
      show odG P w K l _ ls _ = _
      rw [es, show adkQ (keyQ (((filA p).take t).map h)) (h ((filA p).getD t [])) = keyQ (((filA p).take t).map h) from if_pos (List.mem_of_getElem? q1), et, ← grp_old ndk q1 hd2]
    · have nm : h ((filA p).getD t []) ∉ keyQ (((filA p).take t).map h) := fun hm => hk2 (List.mem_map.mpr ⟨_, hm, rfl⟩)
      refine ⟨[.val (sizD p), .val (.lst (((filA p).map h).map tupI)), odG P w K l ((keyQ (((filA p).take (t + 1)).map h)).map kY) (ls ++ [a]) (grpD h ((filA p).take (t + 1)) (keyQ (((filA p).take (t + 1)).map h))), .un, .un], ⟨.inr rfl, .inr rfl, .inr ?_, .inl rfl, .inl rfl, trivial⟩, ls ++ [a], rfl⟩
      show odG P w K l _ (ls ++ [a]) _ = _
      rw [es, show adkQ (keyQ (((filA p).take t).map h)) (h ((filA p).getD t [])) = keyQ (((filA p).take t).map h) ++ [h ((filA p).getD t [])] from if_neg nm, et, List.map_append, ← grp_new nm fun g hg => (pred _).mpr (List.mem_map.mpr ⟨g, hg, rfl⟩)]
      rfl
  · obtain ⟨ls, rfl⟩ := hn
    rw [enumD_len, List.length_map, List.take_length]
    exact psd_one (psd_retX 2 rfl (pv 2) (fun v F H g => ⟨l, ls, rfl, g⟩) rfl)
theorem ok_wat75N (F : FunD K "wish_at" "wish_at" sWat f fd) (zlist : mg "list" = none) (zenumerate : mg "enumerate" = none) (hm : mg "wish_at" = some (.ref f)) (GI : Callee P w K mg base "is_window" 1 3 CWinZ) (GB : Callee P w K mg base "boxes_looked_at" 1 2 CBoxes) (GT : Callee P w K mg base "table_of" 5 3 CTable) (GW : Callee P w K mg base "words_told" 2 2 CWTold) (GG : Callee P w K mg base "fillings_by_words" 3 2 (CFbw P w K)) (GF : Callee P w K mg base "fillings" 2 1 CFill) : CalleeD P w K mg base "wish_at" 6 6 CWat := by
  have nd : (["size", "stock", "row", "place", "many", "looked", "boxes", "ahead", "alike", "words", "every"] : List Str).Nodup := by decide +kernel
  refine def_okD (N := ["size", "stock", "row", "place", "many", "looked", "boxes", "ahead", "alike", "words", "every"]) (ps := ["size", "stock", "row", "place", "many", "looked"]) (k := 5) F ⟨rfl, rfl, rfl, nd, rfl, by decide +kernel, by decide +kernel⟩ hm (fun s T o nn _ _ _ _ _ _ us hT hS hl => by (obtain ⟨_, _, _, _, _, _, rfl⟩ := len6 hl; exact BindsTo.of_defaults rfl hT hS rfl rfl)) (fun s T o nn _ _ _ _ _ _ us hT hS hl => by (obtain ⟨_, _, _, _, _, rfl⟩ := len5 (Nat.succ.inj hl); exact BindsTo.of_defaults rfl hT hS rfl rfl)) fun cdv A outer s H E hr ds r hl c => ?_
  obtain ⟨p, L, row, pl, mn, o, hp, S, hrow, rl, w1, w2, hlk, rfl, rfl⟩ := c
  have hr1 := hr.mono (show 1 ≤ 5 by decide)
  have hr2 := hr.mono (show 2 ≤ 5 by decide)
  have hr3 := hr.mono (show 3 ≤ 5 by decide)
  have f9 : (filA p).length ≤ 64 := fil_900 hp
  have hu : (A.deeper (envOfC "wish_at" (defScope sWat) s.heap.objs.size f cdv)).units + 4 < cLine := by have := hr.un; omega
  obtain ⟨lb, hb⟩ := bx_ok hp hlk
  have r1 : ∀ t ∈ row.take pl, t < L.length := fun t ht => hrow t (List.mem_of_mem_take ht)
  have r2 : ∀ t ∈ row.drop (pl + mn), t < L.length := fun t ht => hrow t (List.mem_of_mem_drop ht)
  have r3 : ∀ t ∈ row.drop pl, t < L.length := fun t ht => hrow t (List.mem_of_mem_drop ht)
  refine psd_cons (psd_ifF (k := false) (ptd_not (k := true) (ptd_val (pd_call (ds := [.tup (natD row), .int (pl : Int), .int (mn : Int)]) (r := .val (.bl true)) GI hr1 rfl (pad_cons (pd_var 2 rfl (pv 2)) (pad_cons (pd_var 3 rfl (pv 3)) (pad_cons (pd_var 4 rfl (pv 4)) pad_nil))) ⟨row, pl, mn, rfl, by rw [winZ_t w1 w2]⟩ trivial rfl))) rfl (psd_nil ?_))
  refine psd_cons (psd_setO (ds := natD (bxQ p.2.toNat o)) 6 nd rfl (Or.inl rfl) (pd_call (ds := [sizD p, lkD o]) GB hr1 rfl (pad_cons (pd_var 0 rfl (pv 0)) (pad_cons (pd_var 5 rfl (pv 5)) pad_nil)) ⟨p, o, hp, rfl, rfl⟩ trivial rfl) fun l6 => psd_frz 6 rfl ?_)
  generalize bxQ p.2.toNat o = bs at lb hb
  refine psd_cons (psd_set (d := .tup ((tabQ p L (row.take pl)).map tupI)) 7 nd rfl (Or.inr rfl) (pd_call (ds := [sizD p, .lst (L.map skD), .tup (natD (row.take pl))]) GT hr rfl (pad_cons (pd_var 0 rfl (pv 0)) (pad_cons (pd_var 1 rfl (pv 1)) (pad_cons (PEd.cast (pd_takeT (k := pl) (pd_var 2 rfl (pv 2)) (pd_var 3 rfl (pv 3))) (by rw [natD_take])) pad_nil))) ⟨p, L, _, hp, S, r1, rfl, rfl⟩ trivial rfl) ?_)
  obtain ⟨h, hh⟩ : ∃ h, h = (fun g => wdQ bs (rowQ p L (row.drop (pl + mn)) g)) := ⟨_, rfl⟩
  have e1 : (tabQ p L (row.drop (pl + mn))).map (wdQ bs) = (filA p).map h := by
    rw [hh]
    unfold tabQ
    rw [List.map_map]
    rfl
  refine psd_cons (psd_setGF (ks := (keyQ ((filA p).map h)).map kY) (dss := grpD h (filA p) (keyQ ((filA p).map h))) 8 nd rfl (Or.inr rfl) (pd_call (ds := [sizD p, .lst (((filA p).map h).map tupI)]) GG hr3 rfl (pad_cons (pd_var 0 rfl (pv 0)) (pad_cons (PEd.cast (PEd.val (pd_call (ds := [.lst (natD bs), .tup ((tabQ p L (row.drop (pl + mn))).map tupI)]) GW hr2 rfl (pad_cons (pd_var 6 rfl (pv 6)) (pad_cons (pd_call (ds := [sizD p, .lst (L.map skD), .tup (natD (row.drop (pl + mn)))]) GT hr rfl (pad_cons (pd_var 0 rfl (pv 0)) (pad_cons (pd_var 1 rfl (pv 1)) (pad_cons (PEd.cast (pd_dropT (k := pl + mn) (pd_var 2 rfl (pv 2)) (PEd.ic (pd_ii op_add (pd_var 3 rfl (pv 3)) (pd_var 4 rfl (pv 4))) (by push_cast; rfl))) (by rw [natD_drop])) pad_nil))) ⟨p, L, _, hp, S, r2, rfl, rfl⟩ trivial rfl) pad_nil)) ⟨p, bs, _, hp, lb, hb, tab_ok hp S r2, rfl, rfl⟩ trivial rfl)) (by rw [e1])) pad_nil)) ⟨p, h, hp, rfl, rfl⟩ trivial rfl) ?_)
  refine psd_cons (psd_setO (ds := ((tabQ p L (row.drop pl)).map (wdQ bs)).map tupI) 9 nd rfl (Or.inr rfl) (pd_call (ds := [.lst (natD bs), .tup ((tabQ p L (row.drop pl)).map tupI)]) GW hr2 rfl (pad_cons (pd_var 6 rfl (pv 6)) (pad_cons (pd_call (ds := [sizD p, .lst (L.map skD), .tup (natD (row.drop pl))]) GT hr rfl (pad_cons (pd_var 0 rfl (pv 0)) (pad_cons (pd_var 1 rfl (pv 1)) (pad_cons (PEd.cast (pd_dropT (k := pl) (pd_var 2 rfl (pv 2)) (pd_var 3 rfl (pv 3))) (by rw [natD_drop])) pad_nil))) ⟨p, L, _, hp, S, r3, rfl, rfl⟩ trivial rfl) pad_nil)) ⟨p, bs, _, hp, lb, hb, tab_ok hp S r3, rfl, rfl⟩ trivial rfl) fun l9 => psd_frz 9 rfl ?_)
  refine psd_cons (psd_setO (ds := (filA p).map tupI) 10 nd rfl (Or.inl rfl) (pd_call (ds := [sizD p]) GF hr2 rfl (pad_cons (pd_var 0 rfl (pv 0)) pad_nil) ⟨p, hp, rfl, rfl⟩ trivial rfl) fun l10 => psd_frz 10 rfl ?_)
  have ec : ((enumD ((filA p).map tupI)).filter fun _ => true).map (enF fun g => wsD (wnQ p L row pl mn bs g)) = (waQ p L row pl mn bs).map wsD := by
    rw [List.filter_eq_self.mpr (fun _ _ => rfl), enum_wa p fun g => wsD (wnQ p L row pl mn bs g)]
    unfold waQ
    rw [List.map_map]
    rfl
  have sh : ∀ d ∈ enumD ((filA p).map tupI), ∃ t : Nat, t < (filA p).length ∧ d = .tup [.int (t : Int), tupI ((filA p).getD t [])] := fun d hd => by
    obtain ⟨t, ht⟩ := List.getElem?_of_mem hd
    obtain ⟨x, q1, q2⟩ := enumD_get ht
    obtain ⟨q3, rfl⟩ := tups_get q1
    exact ⟨t, q3, q2⟩
  refine psd_one (psd_ret (PEd.cast (pd_comp (ds := enumD ((filA p).map tupI)) (N := ["number", "filling", "alike", "words", "ahead"]) (M := ["size", "stock", "row", "place", "many", "looked", "boxes", "ahead", "alike", "words", "every"]) (cap := [none, none, some 8, some 9, some 7]) (sc := defScope sWat) (Tb := fun d => match d with | .tup [a, b] => [.val a, .val b, odF P w K ((keyQ ((filA p).map h)).map kY) ((grpD h (filA p) (keyQ ((filA p).map h))).map D.lst), .val (.lst (((tabQ p L (row.drop pl)).map (wdQ bs)).map tupI)), .val (.tup ((tabQ p L (row.take pl)).map tupI))] | _ => [.un, .un, .un, .un, .un]) (fun _ => true) (enF fun g => wsD (wnQ p L row pl mn bs g)) (pid_enum rfl zenumerate (pd_var 10 rfl (pv 10))) (by rw [enumD_len, List.length_map]; omega) rfl (by decide +kernel) rfl (by decide +kernel) rfl (fun cl C fp s H d hd => ?_) (fun d hd => ?_) (fun cl C fp s H d hd => .inl ⟨rfl, rfl⟩) fun cl C fp s H d hd _ => ?_) (by rw [ec])) trivial rfl)
  · obtain ⟨t, ht, rfl⟩ := sh d hd
    exact pgd_tup (js := [0, 1]) rfl (pgs_cons (pg_name (i := 0) (show (["number", "filling", "alike", "words", "ahead"] : List Str).Nodup by decide +kernel) rfl (Or.inl rfl)) (pgs_cons (pg_name (i := 1) (show (["number", "filling", "alike", "words", "ahead"] : List Str).Nodup by decide +kernel) rfl (Or.inl rfl)) pgs_nil)) rfl rfl
  · obtain ⟨t, ht, rfl⟩ := sh d hd
    exact ⟨.inl rfl, .inl rfl, .inr rfl, .inr rfl, .inr rfl, trivial⟩
  · obtain ⟨t, ht, rfl⟩ := sh d hd
    have G : Fil p ((filA p).getD t []) := fil_Fil hp (getD_mem (d := []) ht)
    have ew : (((tabQ p L (row.drop pl)).map (wdQ bs)).map tupI)[t]? = some (tupI (wdQ bs (rowQ p L (row.drop pl) ((filA p).getD t [])))) := by
      unfold tabQ
      rw [List.getElem?_map, List.getElem?_map, List.getElem?_map]
      show (((filA p)[t]?.map _).map _).map _ = _
      simp [List.getD, ht]
    show PEd _ _ _ (.val (wsD (wnQ p L row pl mn bs (intsOf (tupI ((filA p).getD t []))))))
    rw [intsOf_tup]
    generalize (filA p).getD t [] = u at G ew
    have dT := depL_tups (tabQ p L (row.take pl))
    refine pd_ite (k := decide (u ∈ tabQ p L (row.take pl))) (PTd.cast (ptd_inDT (pd_var 1 rfl (pv 1)) (pd_var 4 rfl (pv 4)) (pl_tupI _) (plL_tups _) (by show (A.deeper _).units + 1 + _ < cLine; omega)) (by rw [any_tups])) (fun q => ?_) fun q => ?_
    · have hm2 := of_decide_eq_true q
      have e3 : wnQ p L row pl mn bs u = some (grpQ h (filA p) (wdQ bs (rowQ p L (row.drop pl) u))) := by rw [hh]; exact if_pos hm2
      rw [e3]
      have Gm := rowQ_fil S ((row.drop pl).take mn) u (fun t ht => r3 t (List.mem_of_mem_take ht)) G
      have mk : wdQ bs (rowQ p L (row.drop pl) u) ∈ keyQ ((filA p).map h) := by
        rw [keyQ_mem, hh]
        refine List.mem_map.mpr ⟨rowQ p L ((row.drop pl).take mn) u, fil_mem Gm.len Gm.wd, ?_⟩
        show wdQ bs _ = _
        rw [← rowQ_app, ← drop_split]
      obtain ⟨n, hn⟩ := List.getElem?_of_mem mk
      exact PEd.val (pd_listL rfl zlist (PEd.bor (pd_dgetF 2 (k := kY (wdQ bs (rowQ p L (row.drop pl) u))) (n := n) (d := .lst ((grpQ h (filA p) (wdQ bs (rowQ p L (row.drop pl) u))).map tupI)) (by show (A.deeper _).units + 1 < cLine; omega) rfl (pv 2) (PEd.cast (pd_ixL (n := t) (d := tupI (wdQ bs (rowQ p L (row.drop pl) u))) (PEd.bor (pd_var 3 rfl (pv 3))) (pd_var 0 rfl (pv 0)) ew fun _ _ => rfl) (by rw [kY_D])) (kY_nodup (keyQ_nodup _)) (by rw [List.getElem?_map, hn]; rfl) (by unfold grpD; rw [List.getElem?_map, List.getElem?_map, hn]; rfl) fun _ _ => rfl)))
    · rw [show wnQ p L row pl mn bs u = none from if_neg (of_decide_eq_false q)]
      exact pd_non
theorem ok_wat75X {CN : Addr} (F : FunD K "wish_at" "wish_at" sWat f fd) (xk : Xk75 K mg CN) (hm : mg "wish_at" = some (.ref f)) (GI : Callee P w K mg base "is_window" 1 3 CWinZ) : CalleeX P w K mg base "wish_at" 2 6 CNoWin (.ref CN) [] [] ∧ CalleeX P w K mg base "wish_at" 2 6 CNoWin (.ref CN) [.non] [.none] := by
  have nd : (["size", "stock", "row", "place", "many", "looked", "boxes", "ahead", "alike", "words", "every"] : List Str).Nodup := by decide +kernel
  refine def_okXD (N := ["size", "stock", "row", "place", "many", "looked", "boxes", "ahead", "alike", "words", "every"]) (ps := ["size", "stock", "row", "place", "many", "looked"]) (k := 1) F ⟨rfl, rfl, rfl, nd, rfl, by decide +kernel, by decide +kernel⟩ hm (fun s T o nn _ _ _ _ _ _ us hT hS hl => by (obtain ⟨_, _, _, _, _, _, rfl⟩ := len6 hl; exact BindsTo.of_defaults rfl hT hS rfl rfl)) (fun s T o nn _ _ _ _ _ _ us hT hS hl => by (obtain ⟨_, _, _, _, _, rfl⟩ := len5 (Nat.succ.inj hl); exact BindsTo.of_defaults rfl hT hS rfl rfl)) fun cdv A outer s H E hr hE ds hl c => ?_
  obtain ⟨p, L, row, a, b, dl, rfl, hw⟩ := c
  refine psd_cons (psd_if (k := true) (PTd.cast (ptd_not (k := winZ row a b) (ptd_val (pd_call (ds := [.tup (natD row), .int a, .int b]) GI hr rfl (pad_cons (pd_var 2 rfl (pv 2)) (pad_cons (pd_var 3 rfl (pv 3)) (pad_cons (pd_var 4 rfl (pv 4)) pad_nil))) ⟨row, a, b, rfl, rfl⟩ trivial rfl))) (by rw [hw]; rfl)) (fun _ => ?_) fun h => by cases h)
  exact psd_one (psd_raise (ds := [.str "no such window of the row"]) rfl xk.nw.1 xk.ex (takes_defN hE) (pad_cons pd_str pad_nil) (by decide))
theorem ok_wat75 {CN : Addr} (F : FunD K "wish_at" "wish_at" sWat f fd) (zlist : mg "list" = none) (zenumerate : mg "enumerate" = none) (xk : Xk75 K mg CN) (hm : mg "wish_at" = some (.ref f)) (GI : Callee P w K mg base "is_window" 1 3 CWinZ) (GB : Callee P w K mg base "boxes_looked_at" 1 2 CBoxes) (GT : Callee P w K mg base "table_of" 5 3 CTable) (GW : Callee P w K mg base "words_told" 2 2 CWTold) (GG : Callee P w K mg base "fillings_by_words" 3 2 (CFbw P w K)) (GF : Callee P w K mg base "fillings" 2 1 CFill) : CalleeD P w K mg base "wish_at" 6 6 CWat ∧ CalleeX P w K mg base "wish_at" 2 6 CNoWin (.ref CN) [] [] ∧ CalleeX P w K mg base "wish_at" 2 6 CNoWin (.ref CN) [.non] [.none] :=
  ⟨ok_wat75N F zlist zenumerate hm GI GB GT GW GG GF, ok_wat75X F xk hm GI⟩
theorem ok_pfrom75 {CN CS : Addr} (F : Fun K "piece_from" "piece_from" sPfrom f fd) (shT : ShCls K mg CS) (hm : mg "piece_from" = some (.ref f)) (GW : CalleeD P w K mg base "wish_at" 6 6 CWat ∧ CalleeX P w K mg base "wish_at" 2 6 CNoWin (.ref CN) [] [] ∧ CalleeX P w K mg base "wish_at" 2 6 CNoWin (.ref CN) [.non] [.none]) : ∀ (p : Int × Int) (L : List SK), CalleeS P w K mg base "piece_from" 3 5 (ShG K CS [("size", sizD p), ("stock", .lst (L.map skD))]) CNoPf (.ref CN) := fun p L => by
  have nd : (["shelf", "row", "place", "many", "looked", "wish", "price", "found"] : List Str).Nodup := by decide +kernel
  refine def_okS (N := ["shelf", "row", "place", "many", "looked", "wish", "price", "found"]) (ps := ["shelf", "row", "place", "many", "looked"]) (k := 2) (fun v F F' s h => h.mono s) F ⟨rfl, rfl, rfl, nd, rfl, by decide +kernel, by decide +kernel⟩ hm (fun _ _ _ _ _ _ us hl => by (obtain ⟨_, _, _, _, _, rfl⟩ := len5 hl; exact rfl)) fun cdv A outer s H E hr hE ds hl c => ?_
  obtain ⟨row, a, b, dl, rfl, hw⟩ := c
  exact psd_cons (psd_setE 5 nd rfl (Or.inl rfl) (px_call (ds := [sizD p, .lst (L.map skD), .tup (natD row), .int a, .int b, dl]) (dds := []) GW.2.1 rfl hr rfl (pad_cons (pd_fldS (d := sizD p) 0 rfl (pv 0) shT.cl shT.nZ rfl) (pad_cons (pd_fldS (d := .lst (L.map skD)) 0 rfl (pv 0) shT.cl shT.nS rfl) (pad_cons (pd_var 1 rfl (pv 1)) (pad_cons (pd_var 2 rfl (pv 2)) (pad_cons (pd_var 3 rfl (pv 3)) (pad_cons (pd_var 4 rfl (pv 4)) pad_nil)))))) (fun _ => RepL.nil) ⟨p, L, row, a, b, dl, rfl, hw⟩ rfl (takes_def hE)))
theorem ok_shelfI {C : Addr} (F : Fun K "__init__" "Shelf.__init__" sShI f fd) (T : ShCls K mg C) : FnOk P w K mg base CX0 1 f fd ["self", "size", "stock"] (spShelf C) := by
  refine F.ok (N := ["self", "size", "stock"]) ⟨rfl, rfl, rfl, by decide +kernel, rfl, by decide +kernel, by decide +kernel⟩ (fun vs H Q E h => ?_) (fun cdv A outer s H vs Q E hr h => ?_)
  · obtain ⟨x, dx, v1, v2, rfl, _⟩ := h
    rfl
  · obtain ⟨x, dx, v1, v2, rfl, hx, k⟩ := h
    refine ⟨_, pss_cons (ps_fld (pv 0) (pv 1) rfl) (pss_cons (ps_fld (pv 0) (pv 2) rfl) (pss_one (ps_fld (pv 0) pe_dnewE rfl))), ?_⟩
    refine ⟨_, rfl, _, rfl, x, C, dx, [], rfl, hx, T.cl, T.nZ, (by show 0 < 1000; decide), ?_⟩
    refine ⟨_, rfl, _, rfl, x, C, dx, _, rfl, upd_same, T.cl, T.nS, (by show 1 < 1000; decide), ?_⟩
    intro m hm _
    have nxm : x ≠ m := fun z => by
      subst z
      rw [upd_same] at hm
      cases hm
    refine ⟨_, rfl, x, C, dx, _, rfl, (by rw [upd_ne nxm, upd_same]), T.cl, T.nM, (by have := length_putF "stock" v2 (putF "size" v1 []); have := length_putF "size" v1 []; simp only [List.length_nil] at this; omega), ?_⟩
    rw [upd_ne nxm.symm, upd_ne nxm.symm] at hm
    have q := k m hm
    rw [upd_swap]
    exact q
theorem ok_pfor75 {CN CS fI : Addr} {fdI : FuncData} (F : FunD K "piece_for" "piece_for" sPfor f fd) (shT : ShCls K mg CS) (shM : Mk K CS fI) (shF : Fun K "__init__" "Shelf.__init__" sShI fI fdI) (hm : mg "piece_for" = some (.ref f)) (GP : ∀ (p : Int × Int) (L : List SK), CalleeS P w K mg base "piece_from" 3 5 (ShG K CS [("size", sizD p), ("stock", .lst (L.map skD))]) CNoPf (.ref CN)) : CalleeX P w K mg base "piece_for" 4 6 CNoWin (.ref CN) [] [] ∧ CalleeX P w K mg base "piece_for" 4 6 CNoWin (.ref CN) [.non] [.none] := by
  have nd : (["size", "stock", "row", "place", "many", "looked"] : List Str).Nodup := by decide +kernel
  refine def_okXD (N := ["size", "stock", "row", "place", "many", "looked"]) (ps := ["size", "stock", "row", "place", "many", "looked"]) (k := 3) F ⟨rfl, rfl, rfl, nd, rfl, by decide +kernel, by decide +kernel⟩ hm (fun s T o nn _ _ _ _ _ _ us hT hS hl => by (obtain ⟨_, _, _, _, _, _, rfl⟩ := len6 hl; exact BindsTo.of_defaults rfl hT hS rfl rfl)) (fun s T o nn _ _ _ _ _ _ us hT hS hl => by (obtain ⟨_, _, _, _, _, rfl⟩ := len5 (Nat.succ.inj hl); exact BindsTo.of_defaults rfl hT hS rfl rfl)) fun cdv A outer s H E hr hE ds hl c => ?_
  obtain ⟨p, L, row, a, b, dl, rfl, hw⟩ := c
  have bI := shF.binds (ps := ["self", "size", "stock"]) fun _ _ _ _ _ _ us hl => match us, hl with | [_, _, _], _ => rfl
  exact psd_one (psd_retE (px_callS (ds := [.tup (natD row), .int a, .int b, dl]) (GP p L) (fun v F F' s h => h.mono s) rfl hr rfl (psh_make shT shM (ok_shelfI shF shT) bI (hr.mono (by decide)) rfl (pad_cons (pd_var 0 rfl (pv 0)) (pad_cons (pd_var 1 rfl (pv 1)) pad_nil))) (pad_cons (pd_var 2 rfl (pv 2)) (pad_cons (pd_var 3 rfl (pv 3)) (pad_cons (pd_var 4 rfl (pv 4)) (pad_cons (pd_var 5 rfl (pv 5)) pad_nil)))) ⟨row, a, b, dl, rfl, hw⟩ rfl (takes_def hE)))
theorem ok_wnd75 (F : Fun K "_law_window" "_law_window" sWnd f fd) (hm : mg "_law_window" = some (.ref f)) : Callee P w K mg base "_law_window" 1 2 CWnd75 := by
  have nd : (["_law_cell", "_law_size_here", "_law_place", "_law_many", "_law_far"] : List Str).Nodup := by decide +kernel
  refine def_ok (N := ["_law_cell", "_law_size_here", "_law_place", "_law_many", "_law_far"]) (ps := ["_law_cell", "_law_size_here"]) (k := 0) F ⟨rfl, rfl, rfl, nd, rfl, by decide +kernel, by decide +kernel⟩ hm (fun _ _ _ _ _ _ us hl => by (obtain ⟨_, _, rfl⟩ := len2 hl; exact rfl)) fun cdv A outer s H E hr ds r hl c => ?_
  obtain ⟨c, n, hb, hn, rfl, rfl⟩ := c
  refine psd_cons (psd_set (d := .int (c % ((n : Int) + 6) - 3)) 2 nd rfl (Or.inl rfl) (pd_ii op_sub (pd_iiC op_mod (pd_var 0 rfl (pv 0)) (pd_ii op_add (pd_var 1 rfl (pv 1)) pd_int) (show (0 : Int) < (n : Int) + 6 by omega)) pd_int) ?_)
  refine psd_cons (psd_set (d := .int (c / 100 % ((n : Int) + 6) - 3)) 3 nd rfl (Or.inl rfl) (pd_ii op_sub (pd_iiC op_mod (pd_iiC op_fdivG (pd_var 0 rfl (pv 0)) pd_int ⟨by decide, by decide⟩) (pd_ii op_add (pd_var 1 rfl (pv 1)) pd_int) (show (0 : Int) < (n : Int) + 6 by omega)) pd_int) ?_)
  refine psd_cons (psd_set (d := .int (fr75 c)) 4 nd rfl (Or.inl rfl) (PEd.ic (pd_ii op_sub (pd_iiC op_mod (pd_iiC op_mulG (j := (10 : Int) ^ (59 : Nat) + 9) (pd_var 0 rfl (pv 0)) (pd_ii op_add (PEd.ic (pd_iiC op_pow (i := 10) (j := 59) pd_int pd_int ⟨by decide, by decide, by decide⟩) (show (10 : Int) ^ (59 : Int).toNat = (10 : Int) ^ (59 : Nat) from rfl)) pd_int) (mul_bit hb (by decide +kernel))) (pd_ii op_sub (pd_iiC op_mul (i := 2) (j := (10 : Int) ^ (60 : Nat)) pd_int (PEd.ic (pd_iiC op_pow (i := 10) (j := 60) pd_int pd_int ⟨by decide, by decide, by decide⟩) (show (10 : Int) ^ (60 : Int).toNat = (10 : Int) ^ (60 : Nat) from rfl)) (.inl ⟨by decide, by decide⟩)) pd_int) (by decide +kernel)) (pd_ii op_sub (PEd.ic (pd_iiC op_pow (i := 10) (j := 60) pd_int pd_int ⟨by decide, by decide, by decide⟩) (show (10 : Int) ^ (60 : Int).toNat = (10 : Int) ^ (60 : Nat) from rfl)) pd_int)) (by unfold fr75; rfl)) ?_)
  refine psd_consJ [.val (.int c), .val (.int (n : Int)), .val (.int (wvA c n)), .val (.int (c / 100 % ((n : Int) + 6) - 3)), .val (.int (fr75 c))] (psd_if (k := decide (c / 7 % 5 = 1)) (ptd_eqI (pd_iiC op_mod (pd_iiC op_fdivG (pd_var 0 rfl (pv 0)) pd_int ⟨by decide, by decide⟩) pd_int (by decide)) pd_int) (fun h => ?_) fun h => ?_) ?_
  · have e : wvA c n = fr75 c := if_pos (of_decide_eq_true h)
    rw [e]
    exact psd_one (psd_set (d := .int (fr75 c)) 2 nd rfl (Or.inl rfl) (pd_var 4 rfl (pv 4)) (Le.refl _))
  · have e : wvA c n = c % ((n : Int) + 6) - 3 := if_neg (of_decide_eq_false h)
    rw [e]
    exact psd_nil (Le.refl _)
  refine psd_consJ [.val (.int c), .val (.int (n : Int)), .val (.int (wvA c n)), .val (.int (wvB c n)), .val (.int (fr75 c))] (psd_if (k := decide (c / 7 % 5 = 2)) (ptd_eqI (pd_iiC op_mod (pd_iiC op_fdivG (pd_var 0 rfl (pv 0)) pd_int ⟨by decide, by decide⟩) pd_int (by decide)) pd_int) (fun h => ?_) fun h => ?_) ?_
  · have e : wvB c n = fr75 c := if_pos (of_decide_eq_true h)
    rw [e]
    exact psd_one (psd_set (d := .int (fr75 c)) 3 nd rfl (Or.inl rfl) (pd_var 4 rfl (pv 4)) (Le.refl _))
  · have e : wvB c n = c / 100 % ((n : Int) + 6) - 3 := if_neg (of_decide_eq_false h)
    rw [e]
    exact psd_nil (Le.refl _)
  exact psd_one (psd_ret (pd_tup (ds := [.int (wvA c n), .int (wvB c n)]) (pad_cons (pd_var 2 rfl (pv 2)) (pad_cons (pd_var 3 rfl (pv 3)) pad_nil)) (Nat.le_of_ble_eq_true rfl)) trivial rfl)
theorem ok_ref75 {CN : Addr} (F : Fun K "_law_refused" "_law_refused" sRef f fd) (zisinstance : mg "isinstance" = none) (xk : Xk75 K mg CN) (hm : mg "_law_refused" = some (.ref f)) (GW : CalleeD P w K mg base "wish_at" 6 6 CWat ∧ CalleeX P w K mg base "wish_at" 2 6 CNoWin (.ref CN) [] [] ∧ CalleeX P w K mg base "wish_at" 2 6 CNoWin (.ref CN) [.non] [.none]) (GP : CalleeX P w K mg base "piece_for" 4 6 CNoWin (.ref CN) [] [] ∧ CalleeX P w K mg base "piece_for" 4 6 CNoWin (.ref CN) [.non] [.none]) : Callee P w K mg base "_law_refused" 5 5 CRef75 := by
  have nd : (["_law_size_here", "_law_kit_here", "_law_row_here", "_law_window_here", "_law_way", "_law_told", "e"] : List Str).Nodup := by decide +kernel
  refine def_ok (N := ["_law_size_here", "_law_kit_here", "_law_row_here", "_law_window_here", "_law_way", "_law_told", "e"]) (ps := ["_law_size_here", "_law_kit_here", "_law_row_here", "_law_window_here", "_law_way"]) (k := 4) F ⟨rfl, rfl, rfl, nd, rfl, by decide +kernel, by decide +kernel⟩ hm (fun _ _ _ _ _ _ us hl => by (obtain ⟨_, _, _, _, _, rfl⟩ := len5 hl; exact rfl)) fun cdv A outer s H E hr ds r hl c => ?_
  obtain ⟨p, L, row, c, t, hw, ht, rfl, rfl⟩ := c
  obtain ⟨CL, m1, q1⟩ := xk.le
  obtain ⟨C1, k1⟩ := xk.nc
  obtain ⟨C2, k2⟩ := xk.nt
  obtain ⟨C3, k3⟩ := xk.ns
  obtain ⟨C4, k4⟩ := xk.tg
  have hr2 := hr.mono (show 2 ≤ 4 by decide)
  refine psd_cons (psd_set (d := .bl false) 5 nd rfl (Or.inl rfl) pd_bl ?_)
  refine psd_cons (psd_try (cls := .ref CN) 6 nd rfl rfl rfl m1 q1 (fun ξ pn F0 tk => ?_) fun a oe pn hp hc => ?_)
  · refine psd_one (psd_if (k := decide ((t : Int) = 0)) (ptd_eqI (pd_var 4 rfl (pv 4)) pd_int) (fun h => ?_) fun h => ?_)
    · exact psd_one (psd_exprX (px_call (ds := [sizD p, .lst (L.map skD), .tup (natD row), .int c.1, .int c.2]) (dds := [.non]) GW.2.2 rfl hr2 rfl (pad_cons (pd_var 0 rfl (pv 0)) (pad_cons (pd_var 1 rfl (pv 1)) (pad_cons (pd_var 2 rfl (pv 2)) (pad_cons (pd_ixT (n := 0) (d := .int c.1) (pd_var 3 rfl (pv 3)) pd_int rfl fun _ _ => rfl) (pad_cons (pd_ixT (n := 1) (d := .int c.2) (pd_var 3 rfl (pv 3)) pd_int rfl fun _ _ => rfl) pad_nil))))) (fun _ => .cons (by simp only [Rep]) RepL.nil) ⟨p, L, row, c.1, c.2, .non, rfl, hw⟩ rfl tk))
    · refine psd_one (psd_if (k := decide ((t : Int) = 1)) (ptd_eqI (pd_var 4 rfl (pv 4)) pd_int) (fun h => ?_) fun h => ?_)
      · exact psd_one (psd_exprX (px_call (ds := [sizD p, .lst (L.map skD), .tup (natD row), .int c.1, .int c.2, .lst [.int 0]]) (dds := []) GP.1 rfl hr rfl (pad_cons (pd_var 0 rfl (pv 0)) (pad_cons (pd_var 1 rfl (pv 1)) (pad_cons (pd_var 2 rfl (pv 2)) (pad_cons (pd_ixT (n := 0) (d := .int c.1) (pd_var 3 rfl (pv 3)) pd_int rfl fun _ _ => rfl) (pad_cons (pd_ixT (n := 1) (d := .int c.2) (pd_var 3 rfl (pv 3)) pd_int rfl fun _ _ => rfl) (pad_cons (PEd.val (pd_lst (ds := [.int 0]) (pad_cons pd_int pad_nil) (Nat.le_of_ble_eq_true rfl))) pad_nil)))))) (fun _ => RepL.nil) ⟨p, L, row, c.1, c.2, .lst [.int 0], rfl, hw⟩ rfl tk))
      · exact psd_one (psd_exprX (px_call (ds := [sizD p, .lst (L.map skD), .tup (natD row), .int c.1, .int c.2, .lst []]) (dds := []) GW.2.1 rfl hr2 rfl (pad_cons (pd_var 0 rfl (pv 0)) (pad_cons (pd_var 1 rfl (pv 1)) (pad_cons (pd_var 2 rfl (pv 2)) (pad_cons (pd_ixT (n := 0) (d := .int c.1) (pd_var 3 rfl (pv 3)) pd_int rfl fun _ _ => rfl) (pad_cons (pd_ixT (n := 1) (d := .int c.2) (pd_var 3 rfl (pv 3)) pd_int rfl fun _ _ => rfl) (pad_cons (PEd.val (pd_lst (ds := []) pad_nil (Nat.le_of_ble_eq_true rfl))) pad_nil)))))) (fun _ => RepL.nil) ⟨p, L, row, c.1, c.2, .lst [], rfl, hw⟩ rfl tk))
  · refine psd_cons (psd_set (d := .bl true) 5 nd rfl (Or.inl rfl) (PEd.cast (pd_and (k := true) (j := true) (pd_isinX 6 hp hc xk.xc rfl zisinstance rfl xk.nw.1 xk.nw.2 rfl (pv 6)) fun _ => pd_one (pd_isinXB 6 hp hc xk.xc rfl zisinstance rfl xk.ve.1 boot_ve xk.ve.2 rfl (pv 6))) rfl) ?_)
    refine psd_one (psd_ifF (k := false) (PWd.pt (pwd_or (k := false) (j := false) (ptd_val (pd_isinX 6 hp hc xk.xc rfl zisinstance rfl k1.1 k1.2 rfl (pv 6))) fun _ => pwd_or (k := false) (j := false) (ptd_val (pd_isinX 6 hp hc xk.xc rfl zisinstance rfl k2.1 k2.2 rfl (pv 6))) fun _ => pwd_or (k := false) (j := false) (ptd_val (pd_isinX 6 hp hc xk.xc rfl zisinstance rfl k3.1 k3.2 rfl (pv 6))) fun _ => pwd_or1 (ptd_val (pd_isinX 6 hp hc xk.xc rfl zisinstance rfl k4.1 k4.2 rfl (pv 6))))) rfl (psd_nil ?_))
    exact psd_one (psd_ret (pd_var 5 rfl (pv 5)) trivial rfl)
theorem ok_cellat (F : Fun K "_law_cell_at" "_law_cell_at" sCellAt f fd) (zlen : mg "len" = none) (hm : mg "_law_cell_at" = some (.ref f)) : Callee P w K mg base "_law_cell_at" 1 2 CCell := by
  have nd : (["_law_script", "_law_k"] : List Str).Nodup := by decide +kernel
  refine def_ok (N := ["_law_script", "_law_k"]) (ps := ["_law_script", "_law_k"]) (k := 0) F ⟨rfl, rfl, rfl, nd, rfl, by decide +kernel, by decide +kernel⟩ hm (fun _ _ _ _ _ _ us hl => by (obtain ⟨_, _, rfl⟩ := len2 hl; exact rfl)) fun cdv A outer s H E hr ds r hl c => ?_
  obtain ⟨ns, k, rfl, hk, rfl⟩ := c
  refine psd_cons (psd_if (ptd_cI op_lt (pd_var 1 rfl (pv 1)) (pd_lenS rfl zlen (pd_var 0 rfl (pv 0))) (nomark _)) (fun h => ?_) fun h => psd_nil ?_)
  · have h' : k < ns.length := by simpa using h
    exact psd_one (psd_ret (pd_ixS (z := ns.getD k 0) (pd_var 0 rfl (pv 0)) (pd_var 1 rfl (pv 1)) (by simp [h']) fun _ _ => rfl) trivial rfl)
  · have h' : ¬ k < ns.length := by simpa using h
    refine psd_one (psd_ret pd_int trivial ?_)
    show R.val (.int 0) = R.val (.int (ns.getD k 0))
    simp [List.getD, h']
theorem ok_cellsQ (F : Fun K "_law_cells" "_law_cells" sCellsQ f fd) (zrange : mg "range" = none) (hm : mg "_law_cells" = some (.ref f)) (GC : Callee P w K mg base "_law_cell_at" 1 2 CCell) : Callee P w K mg base "_law_cells" 2 3 CCelQ := by
  have nd : (["_law_script", "_law_start", "_law_many"] : List Str).Nodup := by decide +kernel
  refine def_ok (N := ["_law_script", "_law_start", "_law_many"]) (ps := ["_law_script", "_law_start", "_law_many"]) (k := 1) F ⟨rfl, rfl, rfl, nd, rfl, by decide +kernel, by decide +kernel⟩ hm (fun _ _ _ _ _ _ us hl => by (obtain ⟨_, _, _, rfl⟩ := len3 hl; exact rfl)) fun cdv A outer s H E hr ds r hl c => ?_
  obtain ⟨ns, st, m, hst, hm2, rfl, rfl⟩ := c
  have nd2 : (["_law_k", "_law_script", "_law_start"] : List Str).Nodup := by decide +kernel
  refine psd_one (psd_ret (PEd.cast (pd_comp (ds := rangeD 0 m) (N := ["_law_k", "_law_script", "_law_start"]) (M := ["_law_script", "_law_start", "_law_many"]) (cap := [none, some 0, some 1]) (sc := defScope sCellsQ) (Tb := fun d => [.val d, .val (.scr ns), .val (.int (st : Int))]) (fun _ => true) (fun d => match d with | .int k => D.int (ns.getD (st + k.toNat) 0) | _ => .non) (pid_range (n := m) rfl zrange (pd_var 2 rfl (pv 2)) (by omega)) (by rw [rangeD_len]; omega) rfl (by decide +kernel) rfl (by decide +kernel) rfl (fun cl C fp s H d _ => pgd_name 0 (pg_name (i := 0) nd2 rfl (Or.inl rfl))) (fun d _ => ⟨.inl rfl, .inr rfl, .inr rfl, trivial⟩) (fun cl C fp s H d hd => .inl ⟨rfl, rfl⟩) fun cl C fp s H d hd _ => ?_) ?_) trivial rfl)
  · obtain ⟨k, hk, rfl⟩ := List.mem_map.mp hd
    have hk := List.mem_range.mp hk
    show PEd _ _ _ (.val (.int (ns.getD (st + (0 + (k : Int)).toNat) 0)))
    rw [Int.zero_add, Int.toNat_natCast]
    exact pd_call (ds := [.scr ns, .int ((st + k : Nat) : Int)]) GC hr rfl (pad_cons (pd_var 1 rfl (pv 1)) (pad_cons (PEd.ic (pd_ii op_add (pd_var 2 rfl (pv 2)) (pd_var 0 rfl (pv 0))) (by omega)) pad_nil)) ⟨ns, st + k, rfl, by omega, rfl⟩ trivial rfl
  · rw [List.filter_eq_self.mpr (fun _ _ => rfl), range_nat]
    unfold natD celQ
    rw [List.map_map, List.map_map]
    rfl
theorem ok_mixed (F : Fun K "_law_mixed" "_law_mixed" sMixed f fd) (hm : mg "_law_mixed" = some (.ref f)) : Callee P w K mg base "_law_mixed" 1 2 CMixed := by
  have nd : (["_law_cell", "_law_k", "_law_number"] : List Str).Nodup := by decide +kernel
  refine def_ok (N := ["_law_cell", "_law_k", "_law_number"]) (ps := ["_law_cell", "_law_k"]) (k := 0) F ⟨rfl, rfl, rfl, nd, rfl, by decide +kernel, by decide +kernel⟩ hm (fun _ _ _ _ _ _ us hl => by (obtain ⟨_, _, rfl⟩ := len2 hl; exact rfl)) fun cdv A outer s H E hr ds r hl c => ?_
  obtain ⟨c, k, rfl, hk, rfl⟩ := c
  have kb : ((k : Nat) : Int).natAbs < 2 ^ 250 := Nat.lt_of_le_of_lt (by omega : _ ≤ 1000) (by decide)
  have kb2 : ((k : Int) * (k : Int)).natAbs < 2 ^ 250 := by
    rw [Int.natAbs_mul, Int.natAbs_natCast]
    exact Nat.lt_of_le_of_lt (Nat.mul_le_mul hk hk) (by decide)
  refine psd_cons (psd_if (ptd_eqI (pd_iiC op_mod (pd_var 0 rfl (pv 0)) pd_int (by decide)) pd_int) (fun h => ?_) fun h => psd_nil ?_)
  · have h' : c % 2 = 1 := by simpa using h
    refine psd_one (psd_ret (pd_iiC op_fdivG (pd_var 0 rfl (pv 0)) pd_int ⟨by decide, by decide⟩) trivial ?_)
    unfold mixQ
    rw [if_pos h']
  have h' : ¬ c % 2 = 1 := by simpa using h
  have c1 := Int.emod_nonneg c (show (2147483647 : Int) ≠ 0 by decide)
  have c2 := Int.emod_lt_of_pos c (show (0 : Int) < 2147483647 by decide)
  have big : ∀ z : Int, 0 ≤ z ∧ z < 2147483647 → z.natAbs < 2 ^ 250 := fun z hz => Nat.lt_of_le_of_lt (by omega : z.natAbs ≤ 2147600000) (by decide)
  refine psd_cons (psd_set (d := .int (mix1 c k)) 2 nd rfl (Or.inl rfl) (pd_iiC op_mod (pd_ii op_add (pd_ii op_add (pd_iiC op_mulG (pd_iiC op_mod (pd_var 0 rfl (pv 0)) pd_int (by decide)) pd_int (mul_small (big _ ⟨c1, c2⟩) (by decide))) (pd_iiC op_mulG (pd_iiC op_mulG (pd_var 1 rfl (pv 1)) (pd_var 1 rfl (pv 1)) (mul_small kb kb)) pd_int (mul_small kb2 (by decide)))) pd_int) pd_int (by decide)) ?_)
  have r0 := mix1_rng c k
  refine psd_one (psd_ret (pd_iiC op_mod (pd_ii op_add (pd_ii op_add (pd_iiC op_mulG (pd_var 2 rfl (pv 2)) (pd_var 2 rfl (pv 2)) (mul_small (big _ r0) (big _ r0))) (pd_iiC op_mulG pd_int (pd_var 2 rfl (pv 2)) (mul_small (by decide) (big _ r0)))) (pd_var 1 rfl (pv 1))) pd_int (by decide)) trivial ?_)
  unfold mixQ
  rw [if_neg h']
theorem ok_size74 (F : Fun K "_law_size" "_law_size" sSize74 f fd) (zlen : mg "len" = none) (hm : mg "_law_size" = some (.ref f))  : Callee P w K mg base "_law_size" 1 1 CSz7 := by
  have nd : (["_law_cell", "_law_some"] : List Str).Nodup := by decide +kernel
  refine def_ok (N := ["_law_cell", "_law_some"]) (ps := ["_law_cell"]) (k := 0) F ⟨rfl, rfl, rfl, nd, rfl, by decide +kernel, by decide +kernel⟩ hm (fun _ _ _ _ _ _ us hl => by (obtain ⟨_, rfl⟩ := len1 hl; exact rfl)) fun cdv A outer s H E hr ds r hl c => ?_
  obtain ⟨z, rfl, rfl⟩ := c
  refine psd_cons (psd_setO (ds := [sizD (1, 1), sizD (1, 2), sizD (1, 3), sizD (2, 1), sizD (2, 2), sizD (1, 4), sizD (3, 1), sizD (1, 3)]) 1 nd rfl (Or.inl rfl) (pd_lst (ds := [sizD (1, 1), sizD (1, 2), sizD (1, 3), sizD (2, 1), sizD (2, 2), sizD (1, 4), sizD (3, 1), sizD (1, 3)]) ?_ (Nat.le_of_ble_eq_true rfl)) fun l => ?_)
  · repeat' (first | exact pad_nil | refine pad_cons (pd_two rfl rfl) ?_)
  have h0 := Int.emod_nonneg z (show (8 : Int) ≠ 0 by decide)
  have h1 := Int.emod_lt_of_pos z (show (0 : Int) < 8 by decide)
  refine psd_one (psd_ret (pd_ixLi (i := z % 8) (d := sizD (sz7 z)) (pd_varB 1 rfl (pv 1)) (pd_iiC (i := z) (j := 8) op_mod (pd_var 0 rfl (pv 0)) (PEd.cast (pd_lenL rfl zlen (pd_varB 1 rfl (pv 1))) rfl) (by decide)) h0 ?_ fun _ _ => rfl) trivial rfl)
  show (sz74a.map sizD)[(z % 8).toNat]? = _
  rw [List.getElem?_map]
  unfold sz7
  have hlt : (z % 8).toNat < sz74a.length := by
    show _ < 8
    omega
  simp [List.getD, hlt]
theorem ok_stepD (F : Fun K "_law_step" "_law_step" sStepD f fd) (hm : mg "_law_step" = some (.ref f)) : Callee P w K mg base "_law_step" 1 2 CStepB := by
  have nd : (["_law_m", "_law_size_here", "_law_i", "_law_j", "_law_kind"] : List Str).Nodup := by decide +kernel
  refine def_ok (N := ["_law_m", "_law_size_here", "_law_i", "_law_j", "_law_kind"]) (ps := ["_law_m", "_law_size_here"]) (k := 0) F ⟨rfl, rfl, rfl, nd, rfl, by decide +kernel, by decide +kernel⟩ hm (fun _ _ _ _ _ _ us hl => by (obtain ⟨_, _, rfl⟩ := len2 hl; exact rfl)) fun cdv A outer s H E hr ds r hl c => ?_
  obtain ⟨x, p, hp, rfl, rfl⟩ := c
  obtain ⟨h1, h2, h3, h4, h5⟩ := sz14 p hp
  have m0 := pw0 p.1.toNat
  have e1 : p.1 = ((p.1.toNat : Nat) : Int) := by omega
  have p20 : (0 : Int) < p.2 := by omega
  have d0 := Int.emod_nonneg x (show (10 : Int) ≠ 0 by decide)
  have d1 := Int.emod_lt_of_pos x (show (0 : Int) < 10 by decide)
  refine psd_cons (psd_set (d := .int (x / 10 % p.2)) 2 nd rfl (Or.inl rfl) (pd_iiC op_mod (pd_iiC op_fdivG (pd_var 0 rfl (pv 0)) pd_int ⟨by decide, by decide⟩) (pd_ixT (n := 1) (d := .int p.2) (pd_var 1 rfl (pv 1)) pd_int rfl fun _ _ => rfl) p20) ?_)
  refine psd_cons (psd_set (d := .int (x / 60 % p.2)) 3 nd rfl (Or.inl rfl) (pd_iiC op_mod (pd_iiC op_fdivG (pd_var 0 rfl (pv 0)) pd_int ⟨by decide, by decide⟩) (pd_ixT (n := 1) (d := .int p.2) (pd_var 1 rfl (pv 1)) pd_int rfl fun _ _ => rfl) p20) ?_)
  refine psd_cons (psd_set (d := .int (x % 10)) 4 nd rfl (Or.inl rfl) (pd_iiC op_mod (pd_var 0 rfl (pv 0)) pd_int (by decide)) ?_)
  have nm6 : ∀ k : Nat, k < 6 → ([.str "and", .str "or", .str "xor", .str "add", .str "take", .str "copy"] : List D)[k]? = some (.str (nm k)) := by
    intro k hk
    match k, hk with
    | 0, _ => rfl
    | 1, _ => rfl
    | 2, _ => rfl
    | 3, _ => rfl
    | 4, _ => rfl
    | 5, _ => rfl
  have nm7 : ∀ k : Nat, k < 3 → ([.str "not", .str "up", .str "down"] : List D)[k]? = some (.str (nm (k + 7))) := by
    intro k hk
    match k, hk with
    | 0, _ => rfl
    | 1, _ => rfl
    | 2, _ => rfl
  refine psd_cons (psd_if (ptd_cI op_lt (pd_var 4 rfl (pv 4)) pd_int (nomark _)) (fun h => ?_) fun h => psd_nil ?_)
  · have h' : x % 10 < 6 := by simpa using h
    have es : sqD (stpQ p x) = .tup [.str (nm (x % 10).toNat), .int (x / 10 % p.2), .int (x / 60 % p.2)] := by
      show stpD (x % 10).toNat _ _ _ = _
      unfold stpD
      rw [if_pos (by omega)]
      rfl
    rw [es]
    refine psd_one (psd_ret (pd_tup (ds := [.str (nm (x % 10).toNat), .int (x / 10 % p.2), .int (x / 60 % p.2)]) (pad_cons (pd_ixLi (i := x % 10) (ds := [.str "and", .str "or", .str "xor", .str "add", .str "take", .str "copy"]) (PEd.bor (PEd.val (pd_lst (ds := [.str "and", .str "or", .str "xor", .str "add", .str "take", .str "copy"]) ?_ (Nat.le_of_ble_eq_true rfl)))) (pd_var 4 rfl (pv 4)) d0 (nm6 (x % 10).toNat (by omega)) fun _ _ => rfl) (pad_cons (pd_var 2 rfl (pv 2)) (pad_cons (pd_var 3 rfl (pv 3)) pad_nil))) (Nat.le_of_ble_eq_true rfl)) trivial rfl)
    repeat' (first | exact pad_nil | refine pad_cons pd_str ?_)
  have h' : ¬ x % 10 < 6 := by simpa using h
  refine psd_cons (psd_if (ptd_eqI (pd_var 4 rfl (pv 4)) pd_int) (fun h2 => ?_) fun h2 => psd_nil ?_)
  · have h2' : x % 10 = 6 := by simpa using h2
    have es : sqD (stpQ p x) = .tup [.str "put", .int (x / 10 % p.2), .int (x / 360 % ((2 ^ p.1.toNat : Nat) : Int))] := by
      show stpD (x % 10).toNat _ _ _ = _
      rw [h2']
      rfl
    rw [es]
    exact psd_one (psd_ret (pd_tup (ds := [.str "put", .int (x / 10 % p.2), .int (x / 360 % ((2 ^ p.1.toNat : Nat) : Int))]) (pad_cons pd_str (pad_cons (pd_var 2 rfl (pv 2)) (pad_cons (pd_iiC op_mod (pd_iiC op_fdivG (pd_var 0 rfl (pv 0)) pd_int ⟨by decide, by decide⟩) (pd_shl1 (PEd.ic (pd_ixT (n := 0) (d := .int p.1) (pd_var 1 rfl (pv 1)) pd_int rfl fun _ _ => rfl) e1) (by omega)) m0) pad_nil))) (Nat.le_of_ble_eq_true rfl)) trivial rfl)
  have h2' : ¬ x % 10 = 6 := by simpa using h2
  have es : sqD (stpQ p x) = .tup [.str (nm (x % 10).toNat), .int (x / 10 % p.2)] := by
    show stpD (x % 10).toNat _ _ _ = _
    unfold stpD
    rw [if_neg (by omega), if_neg (by omega)]
    rfl
  rw [es]
  have e7 : (x % 10 - 7).toNat + 7 = (x % 10).toNat := by omega
  have n7 := nm7 (x % 10 - 7).toNat (by omega)
  rw [e7] at n7
  refine psd_one (psd_ret (pd_tup (ds := [.str (nm (x % 10).toNat), .int (x / 10 % p.2)]) (pad_cons (pd_ixLi (i := x % 10 - 7) (PEd.bor (PEd.val (pd_lst (ds := [.str "not", .str "up", .str "down"]) ?_ (Nat.le_of_ble_eq_true rfl)))) (pd_ii op_sub (pd_var 4 rfl (pv 4)) pd_int) (by omega) n7 fun _ _ => rfl) (pad_cons (pd_var 2 rfl (pv 2)) pad_nil)) (Nat.le_of_ble_eq_true rfl)) trivial rfl)
  repeat' (first | exact pad_nil | refine pad_cons pd_str ?_)
theorem ok_kitQ (F : Fun K "_law_kit" "_law_kit" sKitQ f fd) (zrange : mg "range" = none) (hm : mg "_law_kit" = some (.ref f)) (GC : Callee P w K mg base "_law_cell_at" 1 2 CCell) (GM : Callee P w K mg base "_law_mixed" 1 2 CMixed) (GT : Callee P w K mg base "_law_step" 1 2 CStepB) : Callee P w K mg base "_law_kit" 2 5 CKit := by
  have nd : (["_law_script", "_law_start", "_law_size_here", "_law_most", "_law_dear", "_law_kit_here", "_law_k", "_law_m", "_law_step_here"] : List Str).Nodup := by decide +kernel
  refine def_ok (N := ["_law_script", "_law_start", "_law_size_here", "_law_most", "_law_dear", "_law_kit_here", "_law_k", "_law_m", "_law_step_here"]) (ps := ["_law_script", "_law_start", "_law_size_here", "_law_most", "_law_dear"]) (k := 1) F ⟨rfl, rfl, rfl, nd, rfl, by decide +kernel, by decide +kernel⟩ hm (fun _ _ _ _ _ _ us hl => by (obtain ⟨_, _, _, _, _, rfl⟩ := len5 hl; exact rfl)) fun cdv A outer s H E hr ds r hl c => ?_
  obtain ⟨ns, st, m, p, d, hp, hst, m1, m8, d1, d9, rfl, rfl⟩ := c
  have hu : (A.deeper (envOfC "_law_kit" (defScope sKitQ) s.heap.objs.size f cdv)).units + 4 < cLine := by have := hr.un; omega
  refine psd_cons (psd_setO (ds := ([] : List SK).map skD) 5 nd rfl (Or.inl rfl) (pd_lst (ds := []) pad_nil (Nat.zero_le _)) fun l5 => ?_)
  refine psd_cons (psd_for (ds := rangeD 0 m) (fun t => [.val (.scr ns), .val (.int (st : Int)), .val (sizD p), .val (.int (m : Int)), .val (.int d), .own l5 ((ktN p ns st d t).map skD), .un, .un, .un]) (fun t => [.val (.scr ns), .val (.int (st : Int)), .val (sizD p), .val (.int (m : Int)), .val (.int d), .own l5 ((ktN p ns st d t).map skD), .val (.int (0 + (t : Int))), .un, .un]) (pid_range (n := m) rfl zrange (pd_var 3 rfl (pv 3)) (by omega)) ⟨.inr rfl, .inr rfl, .inr rfl, .inr rfl, .inr rfl, .inr rfl, .inr rfl, .inr rfl, .inr rfl, trivial⟩ (fun t d' hd => ?_) (fun t d' hd => ?_) ?_)
  · obtain ⟨_, rfl⟩ := rangeD_get hd
    exact pgd_name 6 (pg_name (i := 6) nd rfl (Or.inl rfl))
  · obtain ⟨ht, rfl⟩ := rangeD_get hd
    rw [Int.zero_add]
    have ll : (ktN p ns st d t).length ≤ 8 := Nat.le_trans (ktN_ok hp ns st d1 d9 t).1 (by omega)
    refine psd_cons (psd_set (d := .int (mixQ (ns.getD (st + t) 0) (t + 1))) 7 nd rfl (Or.inl rfl) (pd_call (ds := [.int (ns.getD (st + t) 0), .int ((t + 1 : Nat) : Int)]) GM hr rfl (pad_cons (pd_call (ds := [.scr ns, .int ((st + t : Nat) : Int)]) GC hr rfl (pad_cons (pd_var 0 rfl (pv 0)) (pad_cons (PEd.ic (pd_ii op_add (pd_var 1 rfl (pv 1)) (pd_var 6 rfl (pv 6))) (by omega)) pad_nil)) ⟨ns, st + t, rfl, by omega, rfl⟩ trivial rfl) (pad_cons (PEd.ic (pd_ii op_add (pd_var 6 rfl (pv 6)) pd_int) (by omega)) pad_nil)) ⟨_, t + 1, rfl, by omega, rfl⟩ trivial rfl) ?_)
    refine psd_cons (psd_set (d := sqD (stpQ p (mixQ (ns.getD (st + t) 0) (t + 1)))) 8 nd rfl (Or.inl rfl) (pd_call (ds := [.int (mixQ (ns.getD (st + t) 0) (t + 1)), sizD p]) GT hr rfl (pad_cons (pd_var 7 rfl (pv 7)) (pad_cons (pd_var 2 rfl (pv 2)) pad_nil)) ⟨_, p, hp, rfl, rfl⟩ trivial rfl) ?_)
    have eN : ktN p ns st d (t + 1) = if ((ktN p ns st d t).map skD |>.map ktN.fstQ).any (fun z => deq z (sqD (stpQ p (mixQ (ns.getD (st + t) 0) (t + 1))))) then ktN p ns st d t else ktN p ns st d t ++ [(stpQ p (mixQ (ns.getD (st + t) 0) (t + 1)), 1 + mixQ (ns.getD (st + t) 0) (t + 1) / 10 ^ 6 % d)] := rfl
    rw [eN]
    generalize ktN p ns st d t = L at *
    generalize hx : mixQ (ns.getD (st + t) 0) (t + 1) = x
    generalize stpQ p x = q
    have nd2 : (["_law_one", "_law_price"] : List Str).Nodup := by decide +kernel
    have plc : plL ((L.map skD).map ktN.fstQ) = true ∧ depL ((L.map skD).map ktN.fstQ) ≤ 1 := by
      rw [List.map_map]
      exact ⟨plL_map (fun s : SK => ktN.fstQ (skD s)) (fun s => pl_sq s.1) _, depL_map (fun s : SK => ktN.fstQ (skD s)) 1 (fun s => Nat.le_of_eq (dep_sq s.1)) _⟩
    have ef : ((L.map skD).filter fun _ => true).map ktN.fstQ = (L.map skD).map ktN.fstQ := by rw [List.filter_eq_self.mpr (fun _ _ => rfl)]
    refine psd_one (psd_if (k := !((L.map skD).map ktN.fstQ).any fun z => deq z (sqD q)) (PTd.lend 5 rfl (oth_b rfl) (ptd_ninD (pd_var 8 rfl (pv 8)) (PEd.val (PEd.cast (pd_comp (ds := L.map skD) (N := ["_law_one", "_law_price"]) (M := ["_law_script", "_law_start", "_law_size_here", "_law_most", "_law_dear", "_law_kit_here", "_law_k", "_law_m", "_law_step_here"]) (cap := [none, none]) (sc := defScope sKitQ) (Tb := fun d => twoT d []) (fun _ => true) ktN.fstQ (pid_list (pd_var 5 rfl (pv 5))) (by rw [List.length_map]; omega) rfl (by decide +kernel) rfl (by decide +kernel) rfl (fun cl C fp s H d hd => ?_) (fun d hd => ?_) (fun cl C fp s H d hd => .inl ⟨rfl, rfl⟩) fun cl C fp s H d hd _ => ?_) (by rw [ef]))) (pl_sq q) plc.1 (by have := plc.2; show (A.deeper (envOfC "_law_kit" (defScope sKitQ) s.heap.objs.size f cdv)).units + 1 + _ < cLine; omega))) (fun h => ?_) fun h => ?_)
    · obtain ⟨s, _, rfl⟩ := List.mem_map.mp hd
      exact pgd_tup (js := [0, 1]) rfl (pgs_cons (pg_name (i := 0) nd2 rfl (Or.inl rfl)) (pgs_cons (pg_name (i := 1) nd2 rfl (Or.inl rfl)) pgs_nil)) rfl rfl
    · obtain ⟨s, _, rfl⟩ := List.mem_map.mp hd
      exact ⟨.inl rfl, .inl rfl, trivial⟩
    · obtain ⟨s, _, rfl⟩ := List.mem_map.mp hd
      exact (pd_var 0 rfl (pv 0))
    · have h' : ((L.map skD).map ktN.fstQ).any (fun z => deq z (sqD q)) = false := by simpa using h
      rw [h']
      refine psd_one (psd_append (d := skD (q, 1 + x / (10 : Int) ^ (6 : Nat) % d)) 5 rfl (pv 5) (pd_tup (ds := [sqD q, .int (1 + x / (10 : Int) ^ (6 : Nat) % d)]) (pad_cons (pd_var 8 rfl (pv 8)) (pad_cons (pd_ii op_add pd_int (pd_iiC op_mod (pd_iiC op_fdivG (pd_var 7 rfl (pv 7)) (PEd.ic (pd_iiC op_pow (i := 10) (j := 6) pd_int pd_int ⟨by decide, by decide, by decide⟩) (show (10 : Int) ^ (6 : Int).toNat = (10 : Int) ^ (6 : Nat) from rfl)) ⟨by decide, by decide⟩) (pd_var 4 rfl (pv 4)) (by omega))) pad_nil)) (Nat.le_of_ble_eq_true rfl)) (by rw [List.length_map]; omega) ?_)
      refine ⟨.inr rfl, .inr rfl, .inr rfl, .inr rfl, .inr rfl, .inr ?_, .inl rfl, .inl rfl, .inl rfl, trivial⟩
      simp only [Bool.false_eq_true, if_false, List.map_append]
      rfl
    · have h' : ((L.map skD).map ktN.fstQ).any (fun z => deq z (sqD q)) = true := by simpa using h
      rw [h']
      exact psd_nil ⟨.inr rfl, .inr rfl, .inr rfl, .inr rfl, .inr rfl, .inr rfl, .inl rfl, .inl rfl, .inl rfl, trivial⟩
  · rw [rangeD_len]
    exact psd_one (psd_retO 5 rfl (pv 5) rfl)
theorem ok_rowQ2 (F : Fun K "_law_row" "_law_row" sRowQ2 f fd) (ztuple : mg "tuple" = none) (zlen : mg "len" = none) (zrange : mg "range" = none) (hm : mg "_law_row" = some (.ref f)) (GM : Callee P w K mg base "_law_mixed" 1 2 CMixed) : Callee P w K mg base "_law_row" 2 2 CRwQ := by
  have nd : (["_law_cells_here", "_law_kit_here"] : List Str).Nodup := by decide +kernel
  refine def_ok (N := ["_law_cells_here", "_law_kit_here"]) (ps := ["_law_cells_here", "_law_kit_here"]) (k := 1) F ⟨rfl, rfl, rfl, nd, rfl, by decide +kernel, by decide +kernel⟩ hm (fun _ _ _ _ _ _ us hl => by (obtain ⟨_, _, rfl⟩ := len2 hl; exact rfl)) fun cdv A outer s H E hr ds r hl c => ?_
  obtain ⟨cs, L, l0, hc, rfl, rfl⟩ := c
  have nd2 : (["_law_k", "_law_cells_here", "_law_kit_here"] : List Str).Nodup := by decide +kernel
  have n0 : (0 : Int) < (L.length : Int) := by omega
  refine psd_one (psd_ret (pd_tupleL rfl ztuple (PEd.bor (PEd.val (PEd.cast (pd_comp (ds := rangeD 0 cs.length) (N := ["_law_k", "_law_cells_here", "_law_kit_here"]) (M := ["_law_cells_here", "_law_kit_here"]) (cap := [none, some 0, some 1]) (sc := defScope sRowQ2) (Tb := fun d => [.val d, .val (.lst (cs.map D.int)), .val (.lst (L.map skD))]) (fun _ => true) (fun d => match d with | .int k => D.int (((mixQ (cs.getD k.toNat 0) k.toNat % (L.length : Int)).toNat : Nat) : Int) | _ => .non) (pid_range (n := cs.length) rfl zrange (PEd.ic (pd_lenL rfl zlen (PEd.bor (pd_var 0 rfl (pv 0)))) (by rw [List.length_map])) (by omega)) (by rw [rangeD_len]; omega) rfl (by decide +kernel) rfl (by decide +kernel) rfl (fun cl C fp s H d _ => pgd_name 0 (pg_name (i := 0) nd2 rfl (Or.inl rfl))) (fun d _ => ⟨.inl rfl, .inr rfl, .inr rfl, trivial⟩) (fun cl C fp s H d hd => .inl ⟨rfl, rfl⟩) fun cl C fp s H d hd _ => ?_) (?_ : _ = R.own (natD (rwQ cs L.length))))))) trivial rfl)
  · obtain ⟨k, hk, rfl⟩ := List.mem_map.mp hd
    have hk := List.mem_range.mp hk
    have r1 := Int.emod_nonneg (mixQ (cs.getD k 0) k) (Int.ne_of_gt n0)
    show PEd _ _ _ (.val (.int (((mixQ (cs.getD (0 + (k : Int)).toNat 0) (0 + (k : Int)).toNat % (L.length : Int)).toNat : Nat) : Int)))
    rw [Int.zero_add, Int.toNat_natCast, Int.toNat_of_nonneg r1]
    exact pd_iiC op_mod (pd_call (ds := [.int (cs.getD k 0), .int (k : Int)]) GM hr rfl (pad_cons (pd_ixL (n := k) (d := .int (cs.getD k 0)) (PEd.bor (pd_var 1 rfl (pv 1))) (pd_var 0 rfl (pv 0)) (by simp [List.getD, hk]) fun _ _ => rfl) (pad_cons (pd_var 0 rfl (pv 0)) pad_nil)) ⟨_, k, rfl, by omega, rfl⟩ trivial rfl) (PEd.ic (pd_lenL rfl zlen (PEd.bor (pd_var 2 rfl (pv 2)))) (by rw [List.length_map])) n0
  · rw [List.filter_eq_self.mpr (fun _ _ => rfl), range_nat]
    unfold natD rwQ
    rw [List.map_map, List.map_map]
    rfl
theorem pl_sk (s : SK) : pl (skD s) = true := by
  show (pl (sqD s.1) && plL [.int s.2]) = true
  rw [pl_sq]
  rfl
theorem dep_sk (s : SK) : dep (skD s) ≤ 2 := by
  show max (dep (sqD s.1)) _ + 1 ≤ 2
  rw [dep_sq]
  simp [depL, dep]
theorem pl_sks (L : List SK) : pl (.lst (L.map skD)) = true := plL_map skD pl_sk L
theorem dep_sks (L : List SK) : dep (.lst (L.map skD)) ≤ 3 := Nat.succ_le_succ (depL_map skD 2 dep_sk L)
set_option maxHeartbeats 4000000 in
theorem ok_law {CN : Addr} (F : Fun K "law" "law" sLaw f fd) (zlist : mg "list" = none) (zlen : mg "len" = none) (zrange : mg "range" = none) (zisinstance : mg "isinstance" = none) (GC : Callee P w K mg base "_law_cell_at" 1 2 CCell) (GE : Callee P w K mg base "_law_cells" 2 3 CCelQ) (GZ : Callee P w K mg base "_law_size" 1 1 CSz7) (GK : Callee P w K mg base "_law_kit" 2 5 CKit) (GR : Callee P w K mg base "_law_row" 2 2 CRwQ) (GN : Callee P w K mg base "_law_window" 1 2 CWnd75) (GW : CalleeD P w K mg base "wish_at" 6 6 CWat ∧ CalleeX P w K mg base "wish_at" 2 6 CNoWin (.ref CN) [] [] ∧ CalleeX P w K mg base "wish_at" 2 6 CNoWin (.ref CN) [.non] [.none]) (GF : Callee P w K mg base "_law_refused" 5 5 CRef75) : FnOk P w K mg base CX0 7 f fd ["_law_script"] (spC K 1 CLawB) := by
  have nd : (["_law_script", "_law_size_here", "_law_kit_here", "_law_row_here", "_law_kept", "_law_windows", "_law_cell", "_law_window_here", "_law_place", "_law_many", "_law_found", "_law_way"] : List Str).Nodup := by decide +kernel
  refine def_fn (N := ["_law_script", "_law_size_here", "_law_kit_here", "_law_row_here", "_law_kept", "_law_windows", "_law_cell", "_law_window_here", "_law_place", "_law_many", "_law_found", "_law_way"]) (ps := ["_law_script"]) (k := 6) F ⟨rfl, rfl, rfl, nd, rfl, by decide +kernel, by decide +kernel⟩ fun cdv A outer s H E hr ds r hl c => ?_
  obtain ⟨ns, rfl, hns, hbit, rfl⟩ := c
  have hr1 := hr.mono (show 1 ≤ 6 by decide)
  have hr2 := hr.mono (show 2 ≤ 6 by decide)
  have hr5 := hr.mono (show 5 ≤ 6 by decide)
  have hu : (A.deeper (envOfC "law" (defScope sLaw) s.heap.objs.size f cdv)).units + 6 < cLine := by have := hr.un; omega
  have cell : ∀ {sd : List Slot} {p1 p2 p3 p4 : Pos} {j1 : Nat} (k : Nat), k ≤ 1000 → sd[0]? = some (.val (.scr ns)) → PEd (cxOf CX0 P w K mg base ["_law_script", "_law_size_here", "_law_kit_here", "_law_row_here", "_law_kept", "_law_windows", "_law_cell", "_law_window_here", "_law_place", "_law_many", "_law_found", "_law_way"] "law" (defScope sLaw) f cdv A outer s H E).nox sd (.Call (.Name "_law_cell_at" p1) [.Name "_law_script" p2, .Constant (.int (k : Int)) j1 p3] [] p4) (.val (.int (ns.getD k 0))) := fun k hk hs => pd_call (ds := [.scr ns, .int (k : Int)]) GC hr1 rfl (pad_cons (pd_var 0 hs (pv 0)) (pad_cons pd_int pad_nil)) ⟨ns, k, rfl, hk, rfl⟩ trivial rfl
  refine psd_cons (psd_set (d := sizD (sz7 (ns.getD 0 0))) 1 nd rfl (Or.inl rfl) (pd_call (ds := [.int (ns.getD 0 0)]) GZ hr1 rfl (pad_cons (cell 0 (by decide) rfl) pad_nil) ⟨_, rfl, rfl⟩ trivial rfl) ?_)
  have hp := sz7_mem (ns.getD 0 0)
  generalize sz7 (ns.getD 0 0) = p at hp
  obtain ⟨h1, h2, h3, h4, h5⟩ := sz14 p hp
  refine psd_cons (psd_setO (ds := (ktN p ns 2 9 4).map skD) 2 nd rfl (Or.inl rfl) (pd_call (ds := [.scr ns, .int ((2 : Nat) : Int), sizD p, .int ((4 : Nat) : Int), .int 9]) GK hr2 rfl (pad_cons (pd_var 0 rfl (pv 0)) (pad_cons pd_int (pad_cons (pd_var 1 rfl (pv 1)) (pad_cons pd_int (pad_cons pd_int pad_nil))))) ⟨ns, 2, 4, p, 9, hp, by decide, by decide, by decide, by decide, by decide, rfl, rfl⟩ trivial rfl) fun l2 => psd_frz 2 rfl ?_)
  have S : StkOk p (ktN p ns 2 9 4) := kt_ok hp ns 2 (by decide) (by decide) (by decide) (by decide)
  generalize ktN p ns 2 9 4 = L at S
  have c0 := Int.emod_nonneg (ns.getD 1 0) (show (13 : Int) ≠ 0 by decide)
  have c1 := Int.emod_lt_of_pos (ns.getD 1 0) (show (0 : Int) < 13 by decide)
  obtain ⟨m, hm⟩ : ∃ m : Nat, ns.getD 1 0 % 13 = (m : Int) := ⟨(ns.getD 1 0 % 13).toNat, by omega⟩
  have m1 : m ≤ 12 := by omega
  refine psd_cons (psd_set (d := .tup (natD (rwQ (celQ ns 7 m) L.length))) 3 nd rfl (Or.inl rfl) (pd_call (ds := [.lst ((celQ ns 7 m).map D.int), .lst (L.map skD)]) GR hr2 rfl (pad_cons (PEd.val (pd_call (ds := [.scr ns, .int ((7 : Nat) : Int), .int (m : Int)]) GE hr2 rfl (pad_cons (pd_var 0 rfl (pv 0)) (pad_cons pd_int (pad_cons (PEd.ic (pd_iiC op_mod (cell 1 (by decide) rfl) pd_int (by decide)) hm) pad_nil))) ⟨ns, 7, m, by decide, by omega, rfl, rfl⟩ trivial rfl)) (pad_cons (pd_var 2 rfl (pv 2)) pad_nil)) ⟨celQ ns 7 m, L, S.pos, by simp [celQ]; omega, rfl, rfl⟩ trivial rfl) ?_)
  have hrow := rwQ_lt (celQ ns 7 m) S.pos
  have hrl : (rwQ (celQ ns 7 m) L.length).length = m := by rw [rwQ_len]; simp [celQ]
  generalize rwQ (celQ ns 7 m) L.length = row at hrow hrl
  refine psd_cons (psd_setO (ds := L.map skD) 4 nd rfl (Or.inl rfl) (pd_listL rfl zlist (PEd.bor (pd_var 2 rfl (pv 2)))) fun l4 => psd_frz 4 rfl ?_)
  refine psd_le (sd' := [.val (.scr ns), .val (sizD p), .val (.lst (L.map skD)), .val (.tup (natD row)), .val (.lst (L.map skD)), .un, .un, .un, .un, .un, .un, .un]) (Le.refl _) ?_
  have lenR : ∀ {sd : List Slot} {p1 p2 p3 : Pos}, sd[3]? = some (.val (.tup (natD row))) → PEd (cxOf CX0 P w K mg base ["_law_script", "_law_size_here", "_law_kit_here", "_law_row_here", "_law_kept", "_law_windows", "_law_cell", "_law_window_here", "_law_place", "_law_many", "_law_found", "_law_way"] "law" (defScope sLaw) f cdv A outer s H E).nox sd (.Call (.Name "len" p1) [.Name "_law_row_here" p2] [] p3) (.val (.int (row.length : Int))) := fun hs => PEd.ic (pd_lenT rfl zlen (pd_var 3 hs (pv 3))) (by rw [natD_len])
  refine psd_cons (psd_setO (ds := (ws75 row.length []).map w2D) 5 nd rfl (Or.inl rfl) (pd_lst (ds := (ws75 row.length []).map w2D) (pad_cons (pd_tup (ds := [.int 0, .int 0]) (pad_cons pd_int (pad_cons pd_int pad_nil)) (Nat.le_of_ble_eq_true rfl)) (pad_cons (pd_tup (ds := [.int 0, .int ((row.length : Int) + 1)]) (pad_cons pd_int (pad_cons (pd_ii op_add (lenR rfl) pd_int) pad_nil)) (Nat.le_of_ble_eq_true rfl)) (pad_cons (pd_tup (ds := [.int (-1), .int 1]) (pad_cons (pd_neg pd_int) (pad_cons pd_int pad_nil)) (Nat.le_of_ble_eq_true rfl)) (pad_cons (pd_tup (ds := [.int (row.length : Int), .int 1]) (pad_cons (lenR rfl) (pad_cons pd_int pad_nil)) (Nat.le_of_ble_eq_true rfl)) (pad_cons (pd_tup (ds := [.int (-1), .int 2]) (pad_cons (pd_neg pd_int) (pad_cons pd_int pad_nil)) (Nat.le_of_ble_eq_true rfl)) (pad_cons (pd_tup (ds := [.int 0, .int (-1)]) (pad_cons pd_int (pad_cons (pd_neg pd_int) pad_nil)) (Nat.le_of_ble_eq_true rfl)) pad_nil)))))) (by rw [List.length_map, ws75_len]; decide)) fun l5 => ?_)
  obtain ⟨cs, hcs, cl, cm⟩ : ∃ cs : List Int, DL.cutD (ns.map D.int) (some 19) (some 59) = cs.map D.int ∧ cs.length ≤ 63 ∧ ∀ i ∈ cs, i ∈ ns := ⟨((ns.drop (HT.sIx (ns.map D.int).length 0 (some 19))).take _), by unfold DL.cutD; rw [← List.map_drop, ← List.map_take], by rw [List.length_take, List.length_drop]; omega, fun i hi => List.mem_of_mem_drop (List.mem_of_mem_take hi)⟩
  refine psd_cons (psd_for (ds := cs.map D.int) (fun t => [.val (.scr ns), .val (sizD p), .val (.lst (L.map skD)), .val (.tup (natD row)), .val (.lst (L.map skD)), .own l5 ((ws75 row.length (cs.take t)).map w2D), .un, .un, .un, .un, .un, .un]) (fun t => [.val (.scr ns), .val (sizD p), .val (.lst (L.map skD)), .val (.tup (natD row)), .val (.lst (L.map skD)), .own l5 ((ws75 row.length (cs.take t)).map w2D), .val (.int (cs.getD t 0)), .un, .un, .un, .un, .un]) (pid_list (PEd.val (PEd.cast (pd_slS (ol := some 19) (oh := some 59) (pd_var 0 rfl (pv 0)) pd_int pd_int) (by rw [hcs])))) (Le.refl _) (fun t d hd => ?_) (fun t d hd => ?_) ?_)
  · have e : d = .int (cs.getD t 0) := by
      rw [List.getElem?_map] at hd
      obtain ⟨c, hc, rfl⟩ := Option.map_eq_some_iff.mp hd
      simp [List.getD, hc]
    rw [e]
    exact pgd_name 6 (pg_name (i := 6) nd rfl (Or.inl rfl))
  · obtain ⟨c, hc, rfl, et⟩ := cs_take hd
    have e : cs.getD t 0 = c := by
      rw [List.getElem?_map] at hd
      obtain ⟨c', hc', e'⟩ := Option.map_eq_some_iff.mp hd
      cases e'
      simp [List.getD, hc']
    rw [e, et, ws75_snoc]
    exact psd_one (psd_append (d := w2D (wv75 row.length c)) 5 rfl (pv 5) (pd_call (ds := [.int c, .int (row.length : Int)]) GN hr1 rfl (pad_cons (pd_var 6 rfl (pv 6)) (pad_cons (lenR rfl) pad_nil)) ⟨c, row.length, hbit c (cm c hc), by omega, rfl, rfl⟩ trivial rfl) (by rw [List.length_map, ws75_len, List.length_take]; omega) ⟨.inr rfl, .inr rfl, .inr rfl, .inr rfl, .inr rfl, .inr rfl, .inl rfl, .inl rfl, .inl rfl, .inl rfl, .inl rfl, .inl rfl, trivial⟩)
  rw [List.length_map, List.take_length]
  have wl : (ws75 row.length cs).length ≤ 100 := by rw [ws75_len]; omega
  generalize ws75 row.length cs = ws at wl
  refine psd_frz 5 rfl ?_
  refine psd_le (sd' := [.val (.scr ns), .val (sizD p), .val (.lst (L.map skD)), .val (.tup (natD row)), .val (.lst (L.map skD)), .val (.lst (ws.map w2D)), .un, .un, .un, .un, .un, .un]) (Le.refl _) ?_
  refine psd_cons (psd_for (ds := ws.map w2D) (fun _ => [.val (.scr ns), .val (sizD p), .val (.lst (L.map skD)), .val (.tup (natD row)), .val (.lst (L.map skD)), .val (.lst (ws.map w2D)), .un, .un, .un, .un, .un, .un]) (fun t => [.val (.scr ns), .val (sizD p), .val (.lst (L.map skD)), .val (.tup (natD row)), .val (.lst (L.map skD)), .val (.lst (ws.map w2D)), .un, .val (w2D (ws.getD t (0, 0))), .un, .un, .un, .un]) (pid_list (pd_var 5 rfl (pv 5))) (Le.refl _) (fun t d hd => ?_) (fun t d hd => ?_) ?_)
  · have e : d = w2D (ws.getD t (0, 0)) := by
      rw [List.getElem?_map] at hd
      obtain ⟨c, hc, rfl⟩ := Option.map_eq_some_iff.mp hd
      simp [List.getD, hc]
    rw [e]
    exact pgd_name 7 (pg_name (i := 7) nd rfl (Or.inl rfl))
  · generalize ws.getD t (0, 0) = c
    refine psd_cons (psd_asg (d := .tup [.int c.1, .int c.2]) (pd_var 7 rfl (pv 7)) (pgd_tup (js := [8, 9]) rfl (pgs_cons (pg_name (i := 8) nd rfl (Or.inl rfl)) (pgs_cons (pg_name (i := 9) nd rfl (Or.inl rfl)) pgs_nil)) rfl rfl) ?_)
    refine psd_le (sd' := [.val (.scr ns), .val (sizD p), .val (.lst (L.map skD)), .val (.tup (natD row)), .val (.lst (L.map skD)), .val (.lst (ws.map w2D)), .un, .val (w2D c), .val (.int c.1), .val (.int c.2), .un, .un]) (Le.refl _) ?_
    refine psd_one (psd_if (k := winZ row c.1 c.2) (PWd.pt (pwd_and (k := decide (0 ≤ c.1)) (j := decide (1 ≤ c.2) && decide (c.1 + c.2 ≤ (row.length : Int))) (ptd_cI (g := fun i j => decide (j ≤ i)) op_ge (pd_var 8 rfl (pv 8)) pd_int (nomark _)) fun _ => pwd_and (k := decide (1 ≤ c.2)) (j := decide (c.1 + c.2 ≤ (row.length : Int))) (ptd_cI (g := fun i j => decide (j ≤ i)) op_ge (pd_var 9 rfl (pv 9)) pd_int (nomark _)) fun _ => pwd_and1 (ptd_cI (g := fun i j => decide (i ≤ j)) op_le (pd_ii op_add (pd_var 8 rfl (pv 8)) (pd_var 9 rfl (pv 9))) (lenR rfl) (nomark _)))) (fun hw => ?_) fun hw => ?_)
    · obtain ⟨pl, mn, e1, e2, w1, w2⟩ := winZ_nat hw
      rw [e1, e2]
      refine psd_cons (psd_setO (ds := (waQ p L row pl mn (bxQ p.2.toNat none)).map wsD) 10 nd rfl (Or.inl rfl) (pd_callD (ds := [sizD p, .lst (L.map skD), .tup (natD row), .int (pl : Int), .int (mn : Int)]) GW.1 hr rfl (pad_cons (pd_var 1 rfl (pv 1)) (pad_cons (pd_var 2 rfl (pv 2)) (pad_cons (pd_var 3 rfl (pv 3)) (pad_cons (pd_var 8 rfl (pv 8)) (pad_cons (pd_var 9 rfl (pv 9)) pad_nil))))) ⟨p, L, row, pl, mn, none, hp, S, hrow, by omega, w1, w2, (fun _ z => nomatch z), rfl, rfl⟩ trivial rfl) fun l10 => psd_frz 10 rfl ?_)
      have WO := wa_ok hp S hrow pl mn (bxQ p.2.toNat none)
      generalize waQ p L row pl mn (bxQ p.2.toNat none) = W at WO
      obtain ⟨f1, f2, f3⟩ := fil_shl hp
      refine psd_one (psd_ifF (k := false) (PWd.pt (pwd_or (k := false) (j := false) (ptd_not (k := true) (ptd_val (PEd.cast (pd_isin rfl zisinstance rfl zlist PyProof.Rows.boot_list (pd_var 10 rfl (pv 10)) (fun _ => by simp) (kit_list _ _)) rfl))) fun _ => pwd_or1 (PTd.cast (ptd_neI (i := ((filA p).length : Int)) (j := ((filA p).length : Int)) (PEd.ic (pd_lenL rfl zlen (PEd.bor (pd_var 10 rfl (pv 10)))) (by rw [List.length_map, WO.len])) (PEd.ic (pd_shl1 (k := (p.1 * p.2).toNat) (PEd.ic (pd_iiC op_mul (i := p.1) (j := p.2) (pd_ixT (n := 0) (d := .int p.1) (pd_var 1 rfl (pv 1)) pd_int rfl fun _ _ => rfl) (pd_ixT (n := 1) (d := .int p.2) (pd_var 1 rfl (pv 1)) pd_int rfl fun _ _ => rfl) (.inl ⟨by omega, by omega⟩)) (by omega)) (by omega)) f1)) (by simp)))) rfl (psd_nil ⟨.inr rfl, .inr rfl, .inr rfl, .inr rfl, .inr rfl, .inr rfl, .inl rfl, .inl rfl, .inl rfl, .inl rfl, .inl rfl, .inl rfl, trivial⟩))
    · refine psd_one (psd_for (ds := rangeD 0 3) (fun _ => [.val (.scr ns), .val (sizD p), .val (.lst (L.map skD)), .val (.tup (natD row)), .val (.lst (L.map skD)), .val (.lst (ws.map w2D)), .un, .val (w2D c), .val (.int c.1), .val (.int c.2), .un, .un]) (fun t => [.val (.scr ns), .val (sizD p), .val (.lst (L.map skD)), .val (.tup (natD row)), .val (.lst (L.map skD)), .val (.lst (ws.map w2D)), .un, .val (w2D c), .val (.int c.1), .val (.int c.2), .un, .val (.int (t : Int))]) (pid_range (n := 3) rfl zrange pd_int (by decide)) (Le.refl _) (fun t d hd => ?_) (fun t d hd => ?_) ?_)
      · obtain ⟨_, rfl⟩ := rangeD_get hd
        rw [Int.zero_add]
        exact pgd_name 11 (pg_name (i := 11) nd rfl (Or.inl rfl))
      · obtain ⟨ht, rfl⟩ := rangeD_get hd
        refine psd_one (psd_ifF (k := false) (ptd_not (k := true) (ptd_val (pd_call (ds := [sizD p, .lst (L.map skD), .tup (natD row), w2D c, .int (t : Int)]) (r := .val (.bl true)) GF hr5 rfl (pad_cons (pd_var 1 rfl (pv 1)) (pad_cons (pd_var 2 rfl (pv 2)) (pad_cons (pd_var 3 rfl (pv 3)) (pad_cons (pd_var 7 rfl (pv 7)) (pad_cons (pd_var 11 rfl (pv 11)) pad_nil))))) ⟨p, L, row, c, t, hw, ht, rfl, rfl⟩ trivial rfl))) rfl (psd_nil ⟨.inr rfl, .inr rfl, .inr rfl, .inr rfl, .inr rfl, .inr rfl, .inl rfl, .inr rfl, .inr rfl, .inr rfl, .inl rfl, .inl rfl, trivial⟩))
      · exact ⟨.inr rfl, .inr rfl, .inr rfl, .inr rfl, .inr rfl, .inr rfl, .inl rfl, .inl rfl, .inl rfl, .inl rfl, .inl rfl, .inl rfl, trivial⟩
  have ph := pl_sks L
  have dh := dep_sks L
  exact psd_one (psd_ret (PEd.cast (pd_eqD (ra := .val (.lst (L.map skD))) (rb := .val (.lst (L.map skD))) (pd_var 2 rfl (pv 2)) (pd_var 4 rfl (pv 4)) trivial trivial (.inr ⟨rfl, rfl⟩) ph ph (u_of hu (by show dep (.lst _) + 1 ≤ 6; omega))) (by show R.val (.bl (deq (.lst _) (.lst _))) = _; rw [deq_refl _ ph])) trivial rfl)
end
theorem byself_vals {t1 t2 t3 : Tok} : Vals [V.str "not", V.str "up", V.str "down"] (#[Value.str "not" t1, Value.str "up" t2, Value.str "down" t3] : Array Value).toList := .cons ⟨_, rfl⟩ (.cons ⟨_, rfl⟩ (.cons ⟨_, rfl⟩ .nil))
theorem all_mk {P : Program} {w : World} {K : PySem.W.Frag} {h : Heap} {mg : Str → Option Value} {fa : Addr} (X : K.In h) (G : h.Ns mainGlobals mg) (hfa : mg "law" = some (.ref fa))
    {odC anC : Option Addr} {slC : Array (Option Value)} {ocC kVC dcC pmC cdC ctC : Value} {fC : Addr} {odEa anEa : Option Addr} {slEa : Array (Option Value)} {ocEa kVEa dcEa pmEa cdEa ctEa : Value} {fEa : Addr} {odFi anFi : Option Addr} {slFi : Array (Option Value)} {ocFi kVFi dcFi pmFi cdFi ctFi : Value} {fFi : Addr} {odI anI : Option Addr} {slI : Array (Option Value)} {ocI kVI dcI pmI cdI ctI : Value} {fI : Addr} {odA anA : Option Addr} {slA : Array (Option Value)} {ocA kVA dcA pmA cdA ctA : Value} {fA : Addr} {odN anN : Option Addr} {slN : Array (Option Value)} {ocN kVN dcN pmN cdN ctN : Value} {fN : Addr} {odB anB : Option Addr} {slB : Array (Option Value)} {ocB kVB dcB pmB cdB ctB : Value} {fB : Addr} {odS anS : Option Addr} {slS : Array (Option Value)} {ocS kVS dcS pmS cdS ctS : Value} {fS : Addr} {odR anR : Option Addr} {slR : Array (Option Value)} {ocR kVR dcR pmR cdR ctR : Value} {fR : Addr} {odTa anTa : Option Addr} {slTa : Array (Option Value)} {ocTa kVTa dcTa pmTa cdTa ctTa : Value} {fTa : Addr} {odBo anBo : Option Addr} {slBo : Array (Option Value)} {ocBo kVBo dcBo pmBo cdBo ctBo : Value} {fBo : Addr} {odWi anWi : Option Addr} {slWi : Array (Option Value)} {ocWi kVWi dcWi pmWi cdWi ctWi : Value} {fWi : Addr} {odIw anIw : Option Addr} {slIw : Array (Option Value)} {ocIw kVIw dcIw pmIw cdIw ctIw : Value} {fIw : Addr} {odWt anWt : Option Addr} {slWt : Array (Option Value)} {ocWt kVWt dcWt pmWt cdWt ctWt : Value} {fWt : Addr} {odFb anFb : Option Addr} {slFb : Array (Option Value)} {ocFb kVFb dcFb pmFb cdFb ctFb : Value} {fFb : Addr} {odWa anWa : Option Addr} {slWa : Array (Option Value)} {ocWa kVWa dcWa pmWa cdWa ctWa : Value} {fWa : Addr} {dTWa : Addr} {tcWa : Value} {tdWa : Option Addr} {tnWa : Nat} {tsWa : Array (Option Value)} {odPf anPf : Option Addr} {slPf : Array (Option Value)} {ocPf kVPf dcPf pmPf cdPf ctPf : Value} {fPf : Addr} {odPo anPo : Option Addr} {slPo : Array (Option Value)} {ocPo kVPo dcPo pmPo cdPo ctPo : Value} {fPo : Addr} {dTPo : Addr} {tcPo : Value} {tdPo : Option Addr} {tnPo : Nat} {tsPo : Array (Option Value)} {odWn anWn : Option Addr} {slWn : Array (Option Value)} {ocWn kVWn dcWn pmWn cdWn ctWn : Value} {fWn : Addr} {odRf anRf : Option Addr} {slRf : Array (Option Value)} {ocRf kVRf dcRf pmRf cdRf ctRf : Value} {fRf : Addr} {odCa anCa : Option Addr} {slCa : Array (Option Value)} {ocCa kVCa dcCa pmCa cdCa ctCa : Value} {fCa : Addr} {odCe anCe : Option Addr} {slCe : Array (Option Value)} {ocCe kVCe dcCe pmCe cdCe ctCe : Value} {fCe : Addr} {odMi anMi : Option Addr} {slMi : Array (Option Value)} {ocMi kVMi dcMi pmMi cdMi ctMi : Value} {fMi : Addr} {odZ anZ : Option Addr} {slZ : Array (Option Value)} {ocZ kVZ dcZ pmZ cdZ ctZ : Value} {fZ : Addr} {odQ anQ : Option Addr} {slQ : Array (Option Value)} {ocQ kVQ dcQ pmQ cdQ ctQ : Value} {fQ : Addr} {odKi anKi : Option Addr} {slKi : Array (Option Value)} {ocKi kVKi dcKi pmKi cdKi ctKi : Value} {fKi : Addr} {odRo anRo : Option Addr} {slRo : Array (Option Value)} {ocRo kVRo dcRo pmRo cdRo ctRo : Value} {fRo : Addr} {odL anL : Option Addr} {slL : Array (Option Value)} {ocL kVL dcL pmL cdL ctL : Value} {fL : Addr} {fBY : Addr} {dB : Option Addr} {t1 t2 t3 : Tok} {nB : Nat} {sB : Array (Option Value)} {CN CL : Addr} {cdXc : ClassData} {CXo0 : Addr} {CXo1 : Addr} {CXo2 : Addr} {CXo3 : Addr} {CS fSI : Addr} {odSh anSh : Option Addr} {slSh : Array (Option Value)} {ocSh kVSh dcSh pmSh cdSh ctSh : Value}
    (aC : PySem.W.nsIn K mainGlobals "word_count" = some (some (.ref fC))) (lC : K.lookup fC = some ⟨ocC, odC, .func (PySem.W.fnOf "word_count" "word_count" (defArgs sCount) (defBody sCount) (defScope sCount) .none kVC dcC pmC anC cdC ctC), slC⟩) (cC : PySem.W.codeIn K cdC "word_count" = true) (kC : PySem.W.keepIn K (.ref fC) = true) (aEa : PySem.W.nsIn K mainGlobals "with_each_word" = some (some (.ref fEa))) (lEa : K.lookup fEa = some ⟨ocEa, odEa, .func (PySem.W.fnOf "with_each_word" "with_each_word" (defArgs sEach) (defBody sEach) (defScope sEach) .none kVEa dcEa pmEa anEa cdEa ctEa), slEa⟩) (cEa : PySem.W.codeIn K cdEa "with_each_word" = true) (kEa : PySem.W.keepIn K (.ref fEa) = true) (aFi : PySem.W.nsIn K mainGlobals "fillings" = some (some (.ref fFi))) (lFi : K.lookup fFi = some ⟨ocFi, odFi, .func (PySem.W.fnOf "fillings" "fillings" (defArgs sFill) (defBody sFill) (defScope sFill) .none kVFi dcFi pmFi anFi cdFi ctFi), slFi⟩) (cFi : PySem.W.codeIn K cdFi "fillings" = true) (kFi : PySem.W.keepIn K (.ref fFi) = true) (aI : PySem.W.nsIn K mainGlobals "word_by_itself" = some (some (.ref fI))) (lI : K.lookup fI = some ⟨ocI, odI, .func (PySem.W.fnOf "word_by_itself" "word_by_itself" (defArgs sItself) (defBody sItself) (defScope sItself) .none kVI dcI pmI anI cdI ctI), slI⟩) (cI : PySem.W.codeIn K cdI "word_by_itself" = true) (kI : PySem.W.keepIn K (.ref fI) = true) (aA : PySem.W.nsIn K mainGlobals "word_by_another" = some (some (.ref fA))) (lA : K.lookup fA = some ⟨ocA, odA, .func (PySem.W.fnOf "word_by_another" "word_by_another" (defArgs sAnother) (defBody sAnother) (defScope sAnother) .none kVA dcA pmA anA cdA ctA), slA⟩) (cA : PySem.W.codeIn K cdA "word_by_another" = true) (kA : PySem.W.keepIn K (.ref fA) = true) (aN : PySem.W.nsIn K mainGlobals "new_word" = some (some (.ref fN))) (lN : K.lookup fN = some ⟨ocN, odN, .func (PySem.W.fnOf "new_word" "new_word" (defArgs sNewWord) (defBody sNewWord) (defScope sNewWord) .none kVN dcN pmN anN cdN ctN), slN⟩) (cN : PySem.W.codeIn K cdN "new_word" = true) (kN : PySem.W.keepIn K (.ref fN) = true) (aB : PySem.W.nsIn K mainGlobals "written_box" = some (some (.ref fB))) (lB : K.lookup fB = some ⟨ocB, odB, .func (PySem.W.fnOf "written_box" "written_box" (defArgs sWritten) (defBody sWritten) (defScope sWritten) .none kVB dcB pmB anB cdB ctB), slB⟩) (cB : PySem.W.codeIn K cdB "written_box" = true) (kB : PySem.W.keepIn K (.ref fB) = true) (aS : PySem.W.nsIn K mainGlobals "step_on" = some (some (.ref fS))) (lS : K.lookup fS = some ⟨ocS, odS, .func (PySem.W.fnOf "step_on" "step_on" (defArgs sStepOn) (defBody sStepOn) (defScope sStepOn) .none kVS dcS pmS anS cdS ctS), slS⟩) (cS : PySem.W.codeIn K cdS "step_on" = true) (kS : PySem.W.keepIn K (.ref fS) = true) (aR : PySem.W.nsIn K mainGlobals "row_on" = some (some (.ref fR))) (lR : K.lookup fR = some ⟨ocR, odR, .func (PySem.W.fnOf "row_on" "row_on" (defArgs sRowOn) (defBody sRowOn) (defScope sRowOn) .none kVR dcR pmR anR cdR ctR), slR⟩) (cR : PySem.W.codeIn K cdR "row_on" = true) (kR : PySem.W.keepIn K (.ref fR) = true) (aTa : PySem.W.nsIn K mainGlobals "table_of" = some (some (.ref fTa))) (lTa : K.lookup fTa = some ⟨ocTa, odTa, .func (PySem.W.fnOf "table_of" "table_of" (defArgs sTable) (defBody sTable) (defScope sTable) .none kVTa dcTa pmTa anTa cdTa ctTa), slTa⟩) (cTa : PySem.W.codeIn K cdTa "table_of" = true) (kTa : PySem.W.keepIn K (.ref fTa) = true) (aBo : PySem.W.nsIn K mainGlobals "boxes_looked_at" = some (some (.ref fBo))) (lBo : K.lookup fBo = some ⟨ocBo, odBo, .func (PySem.W.fnOf "boxes_looked_at" "boxes_looked_at" (defArgs sBoxes) (defBody sBoxes) (defScope sBoxes) .none kVBo dcBo pmBo anBo cdBo ctBo), slBo⟩) (cBo : PySem.W.codeIn K cdBo "boxes_looked_at" = true) (kBo : PySem.W.keepIn K (.ref fBo) = true) (aWi : PySem.W.nsIn K mainGlobals "words_in" = some (some (.ref fWi))) (lWi : K.lookup fWi = some ⟨ocWi, odWi, .func (PySem.W.fnOf "words_in" "words_in" (defArgs sWordsIn) (defBody sWordsIn) (defScope sWordsIn) .none kVWi dcWi pmWi anWi cdWi ctWi), slWi⟩) (cWi : PySem.W.codeIn K cdWi "words_in" = true) (kWi : PySem.W.keepIn K (.ref fWi) = true) (aIw : PySem.W.nsIn K mainGlobals "is_window" = some (some (.ref fIw))) (lIw : K.lookup fIw = some ⟨ocIw, odIw, .func (PySem.W.fnOf "is_window" "is_window" (defArgs sIsWin) (defBody sIsWin) (defScope sIsWin) .none kVIw dcIw pmIw anIw cdIw ctIw), slIw⟩) (cIw : PySem.W.codeIn K cdIw "is_window" = true) (kIw : PySem.W.keepIn K (.ref fIw) = true) (aWt : PySem.W.nsIn K mainGlobals "words_told" = some (some (.ref fWt))) (lWt : K.lookup fWt = some ⟨ocWt, odWt, .func (PySem.W.fnOf "words_told" "words_told" (defArgs sWTold) (defBody sWTold) (defScope sWTold) .none kVWt dcWt pmWt anWt cdWt ctWt), slWt⟩) (cWt : PySem.W.codeIn K cdWt "words_told" = true) (kWt : PySem.W.keepIn K (.ref fWt) = true) (aFb : PySem.W.nsIn K mainGlobals "fillings_by_words" = some (some (.ref fFb))) (lFb : K.lookup fFb = some ⟨ocFb, odFb, .func (PySem.W.fnOf "fillings_by_words" "fillings_by_words" (defArgs sFbw) (defBody sFbw) (defScope sFbw) .none kVFb dcFb pmFb anFb cdFb ctFb), slFb⟩) (cFb : PySem.W.codeIn K cdFb "fillings_by_words" = true) (kFb : PySem.W.keepIn K (.ref fFb) = true) (aWa : PySem.W.nsIn K mainGlobals "wish_at" = some (some (.ref fWa))) (lWa : K.lookup fWa = some ⟨ocWa, odWa, .func (PySem.W.fnOf "wish_at" "wish_at" (defArgs sWat) (defBody sWat) (defScope sWat) (.ref dTWa) kVWa dcWa pmWa anWa cdWa ctWa), slWa⟩) (cWa : PySem.W.codeIn K cdWa "wish_at" = true) (kWa : PySem.W.keepIn K (.ref fWa) = true) (tWa : K.lookup dTWa = some ⟨tcWa, tdWa, .seq #[.none] tnWa, tsWa⟩) (aPf : PySem.W.nsIn K mainGlobals "piece_from" = some (some (.ref fPf))) (lPf : K.lookup fPf = some ⟨ocPf, odPf, .func (PySem.W.fnOf "piece_from" "piece_from" (defArgs sPfrom) (defBody sPfrom) (defScope sPfrom) .none kVPf dcPf pmPf anPf cdPf ctPf), slPf⟩) (cPf : PySem.W.codeIn K cdPf "piece_from" = true) (kPf : PySem.W.keepIn K (.ref fPf) = true) (aPo : PySem.W.nsIn K mainGlobals "piece_for" = some (some (.ref fPo))) (lPo : K.lookup fPo = some ⟨ocPo, odPo, .func (PySem.W.fnOf "piece_for" "piece_for" (defArgs sPfor) (defBody sPfor) (defScope sPfor) (.ref dTPo) kVPo dcPo pmPo anPo cdPo ctPo), slPo⟩) (cPo : PySem.W.codeIn K cdPo "piece_for" = true) (kPo : PySem.W.keepIn K (.ref fPo) = true) (tPo : K.lookup dTPo = some ⟨tcPo, tdPo, .seq #[.none] tnPo, tsPo⟩) (aWn : PySem.W.nsIn K mainGlobals "_law_window" = some (some (.ref fWn))) (lWn : K.lookup fWn = some ⟨ocWn, odWn, .func (PySem.W.fnOf "_law_window" "_law_window" (defArgs sWnd) (defBody sWnd) (defScope sWnd) .none kVWn dcWn pmWn anWn cdWn ctWn), slWn⟩) (cWn : PySem.W.codeIn K cdWn "_law_window" = true) (kWn : PySem.W.keepIn K (.ref fWn) = true) (aRf : PySem.W.nsIn K mainGlobals "_law_refused" = some (some (.ref fRf))) (lRf : K.lookup fRf = some ⟨ocRf, odRf, .func (PySem.W.fnOf "_law_refused" "_law_refused" (defArgs sRef) (defBody sRef) (defScope sRef) .none kVRf dcRf pmRf anRf cdRf ctRf), slRf⟩) (cRf : PySem.W.codeIn K cdRf "_law_refused" = true) (kRf : PySem.W.keepIn K (.ref fRf) = true) (aCa : PySem.W.nsIn K mainGlobals "_law_cell_at" = some (some (.ref fCa))) (lCa : K.lookup fCa = some ⟨ocCa, odCa, .func (PySem.W.fnOf "_law_cell_at" "_law_cell_at" (defArgs sCellAt) (defBody sCellAt) (defScope sCellAt) .none kVCa dcCa pmCa anCa cdCa ctCa), slCa⟩) (cCa : PySem.W.codeIn K cdCa "_law_cell_at" = true) (kCa : PySem.W.keepIn K (.ref fCa) = true) (aCe : PySem.W.nsIn K mainGlobals "_law_cells" = some (some (.ref fCe))) (lCe : K.lookup fCe = some ⟨ocCe, odCe, .func (PySem.W.fnOf "_law_cells" "_law_cells" (defArgs sCellsQ) (defBody sCellsQ) (defScope sCellsQ) .none kVCe dcCe pmCe anCe cdCe ctCe), slCe⟩) (cCe : PySem.W.codeIn K cdCe "_law_cells" = true) (kCe : PySem.W.keepIn K (.ref fCe) = true) (aMi : PySem.W.nsIn K mainGlobals "_law_mixed" = some (some (.ref fMi))) (lMi : K.lookup fMi = some ⟨ocMi, odMi, .func (PySem.W.fnOf "_law_mixed" "_law_mixed" (defArgs sMixed) (defBody sMixed) (defScope sMixed) .none kVMi dcMi pmMi anMi cdMi ctMi), slMi⟩) (cMi : PySem.W.codeIn K cdMi "_law_mixed" = true) (kMi : PySem.W.keepIn K (.ref fMi) = true) (aZ : PySem.W.nsIn K mainGlobals "_law_size" = some (some (.ref fZ))) (lZ : K.lookup fZ = some ⟨ocZ, odZ, .func (PySem.W.fnOf "_law_size" "_law_size" (defArgs sSize74) (defBody sSize74) (defScope sSize74) .none kVZ dcZ pmZ anZ cdZ ctZ), slZ⟩) (cZ : PySem.W.codeIn K cdZ "_law_size" = true) (kZ : PySem.W.keepIn K (.ref fZ) = true) (aQ : PySem.W.nsIn K mainGlobals "_law_step" = some (some (.ref fQ))) (lQ : K.lookup fQ = some ⟨ocQ, odQ, .func (PySem.W.fnOf "_law_step" "_law_step" (defArgs sStepD) (defBody sStepD) (defScope sStepD) .none kVQ dcQ pmQ anQ cdQ ctQ), slQ⟩) (cQ : PySem.W.codeIn K cdQ "_law_step" = true) (kQ : PySem.W.keepIn K (.ref fQ) = true) (aKi : PySem.W.nsIn K mainGlobals "_law_kit" = some (some (.ref fKi))) (lKi : K.lookup fKi = some ⟨ocKi, odKi, .func (PySem.W.fnOf "_law_kit" "_law_kit" (defArgs sKitQ) (defBody sKitQ) (defScope sKitQ) .none kVKi dcKi pmKi anKi cdKi ctKi), slKi⟩) (cKi : PySem.W.codeIn K cdKi "_law_kit" = true) (kKi : PySem.W.keepIn K (.ref fKi) = true) (aRo : PySem.W.nsIn K mainGlobals "_law_row" = some (some (.ref fRo))) (lRo : K.lookup fRo = some ⟨ocRo, odRo, .func (PySem.W.fnOf "_law_row" "_law_row" (defArgs sRowQ2) (defBody sRowQ2) (defScope sRowQ2) .none kVRo dcRo pmRo anRo cdRo ctRo), slRo⟩) (cRo : PySem.W.codeIn K cdRo "_law_row" = true) (kRo : PySem.W.keepIn K (.ref fRo) = true) (aL : PySem.W.nsIn K mainGlobals "law" = some (some (.ref fL))) (lL : K.lookup fL = some ⟨ocL, odL, .func (PySem.W.fnOf "law" "law" (defArgs sLaw) (defBody sLaw) (defScope sLaw) .none kVL dcL pmL anL cdL ctL), slL⟩) (cL : PySem.W.codeIn K cdL "law" = true) (kL : PySem.W.keepIn K (.ref fL) = true) (nrange : PySem.W.nsIn K mainGlobals "range" = some none) (ntuple : PySem.W.nsIn K mainGlobals "tuple" = some none) (nlist : PySem.W.nsIn K mainGlobals "list" = some none) (nlen : PySem.W.nsIn K mainGlobals "len" = some none) (nenumerate : PySem.W.nsIn K mainGlobals "enumerate" = some none) (nisinstance : PySem.W.nsIn K mainGlobals "isinstance" = some none) (aBY : PySem.W.nsIn K mainGlobals "BY_ITSELF" = some (some (.ref fBY))) (lBY : K.lookup fBY = some ⟨.type "tuple", dB, .seq #[.str "not" t1, .str "up" t2, .str "down" t3] nB, sB⟩) (aCN : PySem.W.nsIn K mainGlobals "NoWindow" = some (some (.ref CN))) (xa : PySem.W.findIn K (.ref CN) "__class__" = some (some (.builtin "object.__class__"))) (xm : PySem.W.mroIn K CN (.type "object") = some true) (xs : PySem.W.subIn K (.ref CN) (.type "BaseException") = some true) (xg : PySem.W.findIn K (.ref CN) "__getattribute__" = some (some (.builtin "BaseException.__getattribute__"))) (xn : PySem.W.findIn K (.ref CN) "__getattr__" = some none) (xcl : PySem.W.clsIn K CN = some cdXc) (xex : PySem.W.excIn K CN [.type "ValueError", .type "Exception", .type "BaseException", .type "object"] "ValueError.__new__" = true) (aLE : PySem.W.nsIn K mainGlobals "LeastError" = some (some (.ref CL))) (xle : PySem.W.exmOne K (.ref CN) (.ref CL) = some true) (xnw : PySem.W.kitOne K (.ref CN) (.ref CN) = some true) (nVE : PySem.W.nsIn K mainGlobals "ValueError" = some none) (xve : PySem.W.kitOne K (.ref CN) (.type "ValueError") = some true) (aX0 : PySem.W.nsIn K mainGlobals "NoChange" = some (some (.ref CXo0))) (xo0 : PySem.W.kitOne K (.ref CN) (.ref CXo0) = some false) (aX1 : PySem.W.nsIn K mainGlobals "NoText" = some (some (.ref CXo1))) (xo1 : PySem.W.kitOne K (.ref CN) (.ref CXo1) = some false) (aX2 : PySem.W.nsIn K mainGlobals "NoWish" = some (some (.ref CXo2))) (xo2 : PySem.W.kitOne K (.ref CN) (.ref CXo2) = some false) (aX3 : PySem.W.nsIn K mainGlobals "TooGreat" = some (some (.ref CXo3))) (xo3 : PySem.W.kitOne K (.ref CN) (.ref CXo3) = some false) (aSh : PySem.W.nsIn K mainGlobals "Shelf" = some (some (.ref CS))) (iSh : PySem.W.findIn K (.ref CS) "__init__" = some (some (.ref fSI))) (fSh : PySem.W.isFn K (.ref fSI) = true) (lSh : K.lookup fSI = some ⟨ocSh, odSh, .func (PySem.W.fnOf "__init__" "Shelf.__init__" (defArgs sShI) (defBody sShI) (defScope sShI) .none kVSh dcSh pmSh anSh cdSh ctSh), slSh⟩) (cSh : PySem.W.codeIn K cdSh "Shelf.__init__" = true) (kSh : PySem.W.keepIn K (.ref fSI) = true) (pgSh : PySem.W.plainGet K CS Str.empty = true) (hdSh : PySem.W.hasDictIn K CS = true) (poSh : PySem.W.plainOver K CS = true) (saSh : PySem.W.findIn K (.ref CS) "__setattr__" = some (some (.builtin "object.__setattr__"))) (mkSh : PySem.W.makesIn K CS = true) (kcSh : PySem.W.keepIn K (.ref CS) = true) (nZSh : PySem.W.findIn K (.ref CS) "size" = some none) (nSSh : PySem.W.findIn K (.ref CS) "stock" = some none) (nMSh : PySem.W.findIn K (.ref CS) "made" = some none) :
    ∃ fd : FuncData, (∀ (s : Shared) (v : Value), BindsTo s fd ⟨[v], []⟩ [("_law_script", v)]) ∧ ∀ base : Heap, K.In base → base.Ns mainGlobals mg → FnOk P w K mg base CX0 7 fa fd ["_law_script"] (spC K 1 CLawB) := by
  have e := hfa.symm.trans (PySem.W.mg_of X G aL)
  cases e
  have zrange := PySem.W.mg_none_of X G nrange
  have ztuple := PySem.W.mg_none_of X G ntuple
  have zlist := PySem.W.mg_none_of X G nlist
  have zlen := PySem.W.mg_none_of X G nlen
  have zenumerate := PySem.W.mg_none_of X G nenumerate
  have zisinstance := PySem.W.mg_none_of X G nisinstance
  have byself : ∃ ad, mg "BY_ITSELF" = some (.ref ad) ∧ ∀ H : Hp, SqT K H ad [V.str "not", V.str "up", V.str "down"] := ⟨_, PySem.W.mg_of X G aBY, fun H => .inr ⟨_, _, _, lBY, rfl, rfl, Nat.le_of_ble_eq_true rfl, byself_vals⟩⟩
  have xk : Xk75 K mg CN := ⟨⟨xa, xm, xs, xg, xn, by rw [xcl]; rfl⟩, xex, ⟨CL, PySem.W.mg_of X G aLE, xle⟩, ⟨PySem.W.mg_of X G aCN, xnw⟩, ⟨PySem.W.mg_none_of X G nVE, xve⟩, ⟨CXo0, PySem.W.mg_of X G aX0, xo0⟩, ⟨CXo1, PySem.W.mg_of X G aX1, xo1⟩, ⟨CXo2, PySem.W.mg_of X G aX2, xo2⟩, ⟨CXo3, PySem.W.mg_of X G aX3, xo3⟩⟩
  have shT : ShCls K mg CS := ⟨⟨pgSh, hdSh, poSh, saSh⟩, nZSh, nSSh, nMSh, PySem.W.mg_of X G aSh⟩
  have shM : Mk K CS fSI := ⟨mkSh, iSh, fSh, kcSh⟩
  have shF := fun_mk (st := sShI) lSh cSh kSh
  have FC := fun_mk (st := sCount) lC cC kC
  have mC := PySem.W.mg_of X G aC
  have FEa := fun_mk (st := sEach) lEa cEa kEa
  have mEa := PySem.W.mg_of X G aEa
  have FFi := fun_mk (st := sFill) lFi cFi kFi
  have mFi := PySem.W.mg_of X G aFi
  have FI := fun_mk (st := sItself) lI cI kI
  have mI := PySem.W.mg_of X G aI
  have FA := fun_mk (st := sAnother) lA cA kA
  have mA := PySem.W.mg_of X G aA
  have FN := fun_mk (st := sNewWord) lN cN kN
  have mN := PySem.W.mg_of X G aN
  have FB := fun_mk (st := sWritten) lB cB kB
  have mB := PySem.W.mg_of X G aB
  have FS := fun_mk (st := sStepOn) lS cS kS
  have mS := PySem.W.mg_of X G aS
  have FR := fun_mk (st := sRowOn) lR cR kR
  have mR := PySem.W.mg_of X G aR
  have FTa := fun_mk (st := sTable) lTa cTa kTa
  have mTa := PySem.W.mg_of X G aTa
  have FBo := fun_mk (st := sBoxes) lBo cBo kBo
  have mBo := PySem.W.mg_of X G aBo
  have FWi := fun_mk (st := sWordsIn) lWi cWi kWi
  have mWi := PySem.W.mg_of X G aWi
  have FIw := fun_mk (st := sIsWin) lIw cIw kIw
  have mIw := PySem.W.mg_of X G aIw
  have FWt := fun_mk (st := sWTold) lWt cWt kWt
  have mWt := PySem.W.mg_of X G aWt
  have FFb := fun_mk (st := sFbw) lFb cFb kFb
  have mFb := PySem.W.mg_of X G aFb
  have FWa := funD_mk (st := sWat) lWa cWa kWa tWa
  have mWa := PySem.W.mg_of X G aWa
  have FPf := fun_mk (st := sPfrom) lPf cPf kPf
  have mPf := PySem.W.mg_of X G aPf
  have FPo := funD_mk (st := sPfor) lPo cPo kPo tPo
  have mPo := PySem.W.mg_of X G aPo
  have FWn := fun_mk (st := sWnd) lWn cWn kWn
  have mWn := PySem.W.mg_of X G aWn
  have FRf := fun_mk (st := sRef) lRf cRf kRf
  have mRf := PySem.W.mg_of X G aRf
  have FCa := fun_mk (st := sCellAt) lCa cCa kCa
  have mCa := PySem.W.mg_of X G aCa
  have FCe := fun_mk (st := sCellsQ) lCe cCe kCe
  have mCe := PySem.W.mg_of X G aCe
  have FMi := fun_mk (st := sMixed) lMi cMi kMi
  have mMi := PySem.W.mg_of X G aMi
  have FZ := fun_mk (st := sSize74) lZ cZ kZ
  have mZ := PySem.W.mg_of X G aZ
  have FQ := fun_mk (st := sStepD) lQ cQ kQ
  have mQ := PySem.W.mg_of X G aQ
  have FKi := fun_mk (st := sKitQ) lKi cKi kKi
  have mKi := PySem.W.mg_of X G aKi
  have FRo := fun_mk (st := sRowQ2) lRo cRo kRo
  have mRo := PySem.W.mg_of X G aRo
  have FL := fun_mk (st := sLaw) lL cL kL
  refine ⟨PySem.W.fnOf "law" "law" (defArgs sLaw) (defBody sLaw) (defScope sLaw) .none kVL dcL pmL anL cdL ctL, fun s v => .of_eq rfl, fun base _ _ => ?_⟩
  have GC := ok_count (P := P) (w := w) (base := base) FC zrange mC 
  have GEa := ok_each (P := P) (w := w) (base := base) FEa zrange mEa 
  have GFi := ok_fill (P := P) (w := w) (base := base) FFi zrange mFi GC GEa
  have GI := ok_itself (P := P) (w := w) (base := base) FI  mI 
  have GA := ok_another (P := P) (w := w) (base := base) FA  mA 
  have GN := ok_newword (P := P) (w := w) (base := base) FN byself mN GC GI GA
  have GB := ok_written (P := P) (w := w) (base := base) FB  mB 
  have GS := ok_stepon (P := P) (w := w) (base := base) FS  mS GB GN
  have GR := ok_rowon (P := P) (w := w) (base := base) FR  mR GS
  have GTa := ok_table (P := P) (w := w) (base := base) FTa ztuple mTa GFi GR
  have GBo := ok_boxes (P := P) (w := w) (base := base) FBo zlist zrange mBo 
  have GWi := ok_wordsin (P := P) (w := w) (base := base) FWi  mWi 
  have GIw := ok_iswin75 (P := P) (w := w) (base := base) FIw zlen mIw 
  have GWt := ok_wtold74 (P := P) (w := w) (base := base) FWt ztuple mWt GWi
  have GFb := ok_fbw74 (P := P) (w := w) (base := base) FFb zenumerate mFb GFi
  have GWa := ok_wat75 (P := P) (w := w) (base := base) FWa zlist zenumerate xk mWa GIw GBo GTa GWt GFb GFi
  have GPf := ok_pfrom75 (P := P) (w := w) (base := base) FPf shT mPf GWa
  have GPo := ok_pfor75 (P := P) (w := w) (base := base) FPo shT shM shF mPo GPf
  have GWn := ok_wnd75 (P := P) (w := w) (base := base) FWn  mWn 
  have GRf := ok_ref75 (P := P) (w := w) (base := base) FRf zisinstance xk mRf GWa GPo
  have GCa := ok_cellat (P := P) (w := w) (base := base) FCa zlen mCa 
  have GCe := ok_cellsQ (P := P) (w := w) (base := base) FCe zrange mCe GCa
  have GMi := ok_mixed (P := P) (w := w) (base := base) FMi  mMi 
  have GZ := ok_size74 (P := P) (w := w) (base := base) FZ zlen mZ 
  have GQ := ok_stepD (P := P) (w := w) (base := base) FQ  mQ 
  have GKi := ok_kitQ (P := P) (w := w) (base := base) FKi zrange mKi GCa GMi GQ
  have GRo := ok_rowQ2 (P := P) (w := w) (base := base) FRo ztuple zlen zrange mRo GMi
  exact ok_law FL zlist zlen zrange zisinstance GCa GCe GZ GKi GRo GWn GWa GRf
end K75
open PySem PySem.W PyProof.Rows
theorem PySem.W.Fast.tw10480716786346397600 : True := trivial
theorem PySem.W.Fast.tw10703284673931001877 : True := trivial
theorem PySem.W.Fast.tw11402501376461358405 : True := trivial
theorem PySem.W.Fast.tw11942100541557404291 : True := trivial
theorem PySem.W.Fast.tw12230825195028973751 : True := trivial
theorem PySem.W.Fast.tw1228657740422670817 : True := trivial
theorem PySem.W.Fast.tw12423611382144290970 : True := trivial
theorem PySem.W.Fast.tw12694701344437564734 : True := trivial
theorem PySem.W.Fast.tw13271457634446420666 : True := trivial
theorem PySem.W.Fast.tw1338573606364470690 : True := trivial
theorem PySem.W.Fast.tw14045056080989505322 : True := trivial
theorem PySem.W.Fast.tw1469044154317429248 : True := trivial
theorem PySem.W.Fast.tw1480616003749905172 : True := trivial
theorem PySem.W.Fast.tw14995044604760552178 : True := trivial
theorem PySem.W.Fast.tw15112893384057410626 : True := trivial
theorem PySem.W.Fast.tw15585230420391027581 : True := trivial
theorem PySem.W.Fast.tw15611783612874860256 : True := trivial
theorem PySem.W.Fast.tw16199723670696771730 : True := trivial
theorem PySem.W.Fast.tw17375841138327893782 : True := trivial
theorem PySem.W.Fast.tw17385760397809311837 : True := trivial
theorem PySem.W.Fast.tw17387419007045660488 : True := trivial
theorem PySem.W.Fast.tw17885831939797057875 : True := trivial
theorem PySem.W.Fast.tw1802238690322224113 : True := trivial
theorem PySem.W.Fast.tw18207674557212380015 : True := trivial
theorem PySem.W.Fast.tw18425417061143554486 : True := trivial
theorem PySem.W.Fast.tw1958035274629950902 : True := trivial
theorem PySem.W.Fast.tw2330177786409676658 : True := trivial
theorem PySem.W.Fast.tw2563434334144438921 : True := trivial
theorem PySem.W.Fast.tw3424475044159586000 : True := trivial
theorem PySem.W.Fast.tw3894960605312563488 : True := trivial
theorem PySem.W.Fast.tw3963007877254618739 : True := trivial
theorem PySem.W.Fast.tw3990581758277696777 : True := trivial
theorem PySem.W.Fast.tw414593317966050779 : True := trivial
theorem PySem.W.Fast.tw4571087015589436042 : True := trivial
theorem PySem.W.Fast.tw4733811587684094337 : True := trivial
theorem PySem.W.Fast.tw5536974734783856033 : True := trivial
theorem PySem.W.Fast.tw650708574887036866 : True := trivial
theorem PySem.W.Fast.tw7908844962252181906 : True := trivial
theorem PySem.W.Fast.tw8158396838289182132 : True := trivial
theorem PySem.W.Fast.tw8198570447088424618 : True := trivial
theorem PySem.W.Fast.tw9288600705610203351 : True := trivial
theorem PySem.W.Fast.tw929148180307443637 : True := trivial
theorem PySem.W.Fast.tw9383832500348929631 : True := trivial
theorem PySem.W.Fast.tw960953961447482377 : True := trivial
set_option maxRecDepth 100000 in
set_option maxHeartbeats 0 in
theorem PySem.Challenge.cw_leastrow_k75_no_window_holds : PySem.Challenge.rw_leastrow_k75_no_window.Holds := by
  w_on; o_law; k_head; (case hw => w_witness2)
  k_fill
  refine DL.walkDB (l := PySem.Challenge.rw_leastrow_k75_no_window) (k := 7) (x := "_law_script") rfl rfl ⟨rfl, by decide, by decide, rfl⟩ (fun w h Y => PySem.W.kIn_of Y) ?F
  case F =>
    intro w mg fa h KX G hmg
    refine' K75.all_mk KX G hmg ?aC ?lC ?cC ?kC ?aEa ?lEa ?cEa ?kEa ?aFi ?lFi ?cFi ?kFi ?aI ?lI ?cI ?kI ?aA ?lA ?cA ?kA ?aN ?lN ?cN ?kN ?aB ?lB ?cB ?kB ?aS ?lS ?cS ?kS ?aR ?lR ?cR ?kR ?aTa ?lTa ?cTa ?kTa ?aBo ?lBo ?cBo ?kBo ?aWi ?lWi ?cWi ?kWi ?aIw ?lIw ?cIw ?kIw ?aWt ?lWt ?cWt ?kWt ?aFb ?lFb ?cFb ?kFb ?aWa ?lWa ?cWa ?kWa ?tWa ?aPf ?lPf ?cPf ?kPf ?aPo ?lPo ?cPo ?kPo ?tPo ?aWn ?lWn ?cWn ?kWn ?aRf ?lRf ?cRf ?kRf ?aCa ?lCa ?cCa ?kCa ?aCe ?lCe ?cCe ?kCe ?aMi ?lMi ?cMi ?kMi ?aZ ?lZ ?cZ ?kZ ?aQ ?lQ ?cQ ?kQ ?aKi ?lKi ?cKi ?kKi ?aRo ?lRo ?cRo ?kRo ?aL ?lL ?cL ?kL ?nrange ?ntuple ?nlist ?nlen ?nenumerate ?nisinstance ?aBY ?lBY ?aCN ?xa ?xm ?xs ?xg ?xn ?xcl ?xex ?aLE ?xle ?xnw ?nVE ?xve ?aX0 ?xo0 ?aX1 ?xo1 ?aX2 ?xo2 ?aX3 ?xo3 ?aSh ?iSh ?fSh ?lSh ?cSh ?kSh ?pgSh ?hdSh ?poSh ?saSh ?mkSh ?kcSh ?nZSh ?nSSh ?nMSh
    (case aC => k_is); (case lC => k_is); (case cC => k_is); (case kC => k_is); (case aEa => k_is); (case lEa => k_is); (case cEa => k_is); (case kEa => k_is); (case aFi => k_is); (case lFi => k_is); (case cFi => k_is); (case kFi => k_is); (case aI => k_is); (case lI => k_is); (case cI => k_is); (case kI => k_is); (case aA => k_is); (case lA => k_is); (case cA => k_is); (case kA => k_is); (case aN => k_is); (case lN => k_is); (case cN => k_is); (case kN => k_is); (case aB => k_is); (case lB => k_is); (case cB => k_is); (case kB => k_is); (case aS => k_is); (case lS => k_is); (case cS => k_is); (case kS => k_is); (case aR => k_is); (case lR => k_is); (case cR => k_is); (case kR => k_is); (case aTa => k_is); (case lTa => k_is); (case cTa => k_is); (case kTa => k_is); (case aBo => k_is); (case lBo => k_is); (case cBo => k_is); (case kBo => k_is); (case aWi => k_is); (case lWi => k_is); (case cWi => k_is); (case kWi => k_is); (case aIw => k_is); (case lIw => k_is); (case cIw => k_is); (case kIw => k_is); (case aWt => k_is); (case lWt => k_is); (case cWt => k_is); (case kWt => k_is); (case aFb => k_is); (case lFb => k_is); (case cFb => k_is); (case kFb => k_is); (case aWa => k_is); (case lWa => k_is); (case cWa => k_is); (case kWa => k_is); (case tWa => k_is); (case aPf => k_is); (case lPf => k_is); (case cPf => k_is); (case kPf => k_is); (case aPo => k_is); (case lPo => k_is); (case cPo => k_is); (case kPo => k_is); (case tPo => k_is); (case aWn => k_is); (case lWn => k_is); (case cWn => k_is); (case kWn => k_is); (case aRf => k_is); (case lRf => k_is); (case cRf => k_is); (case kRf => k_is); (case aCa => k_is); (case lCa => k_is); (case cCa => k_is); (case kCa => k_is); (case aCe => k_is); (case lCe => k_is); (case cCe => k_is); (case kCe => k_is); (case aMi => k_is); (case lMi => k_is); (case cMi => k_is); (case kMi => k_is); (case aZ => k_is); (case lZ => k_is); (case cZ => k_is); (case kZ => k_is); (case aQ => k_is); (case lQ => k_is); (case cQ => k_is); (case kQ => k_is); (case aKi => k_is); (case lKi => k_is); (case cKi => k_is); (case kKi => k_is); (case aRo => k_is); (case lRo => k_is); (case cRo => k_is); (case kRo => k_is); (case aL => k_is); (case lL => k_is); (case cL => k_is); (case kL => k_is); (case nrange => k_is); (case ntuple => k_is); (case nlist => k_is); (case nlen => k_is); (case nenumerate => k_is); (case nisinstance => k_is); (case aBY => k_is); (case lBY => k_is); (case aCN => k_is); (case xa => k_is); (case xm => k_is); (case xs => k_is); (case xg => k_is); (case xn => k_is); (case xcl => k_is); (case xex => k_exc); (case aLE => k_is); (case xle => kts_exm); (case xnw => kit_is); (case nVE => k_is); (case xve => kit_is); (case aX0 => k_is); (case xo0 => kit_is); (case aX1 => k_is); (case xo1 => kit_is); (case aX2 => k_is); (case xo2 => kit_is); (case aX3 => k_is); (case xo3 => kit_is); (case aSh => k_is); (case iSh => k_is); (case fSh => k_is); (case lSh => k_is); (case cSh => k_is); (case kSh => k_is); (case pgSh => k_is); (case hdSh => k_is); (case poSh => k_is); (case saSh => k_is); (case mkSh => k_is); (case kcSh => k_is); (case nZSh => k_is); (case nSSh => k_is); (case nMSh => k_is)
