import PyProof.Rows.All
import Wide.All
import OpenK.AllK
import Wide.FinOn
import Lean
import PyProof.EqAt
import PyProof.EqKinds
import PyProof.TupleCall
import PySem.Challenge.RW_leastrow_k34_wishes_of_examples
set_option Elab.async false
set_option linter.all false
set_option maxRecDepth 100000
/-! THE HAND LAYER, for ints, bools, texts, own classes, LISTS and tuples (index, slices, in, append, pop ..), calls, loops. Paste it whole ahead of your own text; what your proof does not reach may be deleted. -/
namespace L2
open PySem PySem.Spec PyProof.Rows

/-- a key: an int or a str -/
abbrev Key := Sum Int Str
def keyIs : Key → Value → Bool
  | .inl k, v => Value.isInt k v
  | .inr x, v => Value.isStrOf x v
def keyH (w : World) : Key → Int
  | .inl k => hashInt k
  | .inr x => hashStr w x
theorem keyIs_shape : ∀ {k : Key} {v : Value}, keyIs k v = true → (∃ i t, k = Sum.inl i ∧ v = Value.int i t) ∨ (∃ x t, k = Sum.inr x ∧ v = Value.str x t)
  | .inl i, v, h => by
    obtain ⟨t, e⟩ := Value.isInt_shape (k := i) (v := v) h
    exact .inl ⟨i, t, rfl, e⟩
  | .inr x, v, h => by
    obtain ⟨t, e⟩ := Value.isStrOf_shape (x := x) (v := v) h
    exact .inr ⟨x, t, rfl, e⟩
theorem keyIs_int (i : Int) (t : Tok) : keyIs (.inl i) (.int i t) = true := by simp [keyIs, Value.isInt]
theorem keyIs_str (x : Str) (t : Tok) : keyIs (.inr x) (.str x t) = true := by simp [keyIs, Value.isStrOf]
theorem key_ll (a b : Int) : decide ((Sum.inl a : Key) = Sum.inl b) = (a == b) := by
  by_cases e : a = b
  · subst e; simp
  · have h : ¬ (Sum.inl a : Key) = Sum.inl b := fun q => e (Sum.inl.inj q)
    rw [decide_eq_false h]
    exact (beq_eq_false_iff_ne.mpr e).symm
theorem key_rr (a b : Str) : decide ((Sum.inr a : Key) = Sum.inr b) = decide (a = b) := by
  by_cases e : a = b
  · subst e; simp
  · have h : ¬ (Sum.inr a : Key) = Sum.inr b := fun q => e (Sum.inr.inj q)
    rw [decide_eq_false h, decide_eq_false e]
theorem key_lr (a : Int) (b : Str) : decide ((Sum.inl a : Key) = Sum.inr b) = false := decide_eq_false (fun q => nomatch q)
theorem key_rl (a : Str) (b : Int) : decide ((Sum.inr a : Key) = Sum.inl b) = false := decide_eq_false (fun q => nomatch q)

def mixKind (prog : Program) (w : World) : PySem.KeyKind prog w Key where
  is := keyIs
  hash := keyH w
  inj := fun v a b ha hb => by
    rcases keyIs_shape ha with ⟨i, t, rfl, rfl⟩ | ⟨x, t, rfl, rfl⟩
    · rcases keyIs_shape hb with ⟨j, u, rfl, e⟩ | ⟨y, u, rfl, e⟩
      · injection e with e1 _; rw [e1]
      · exact nomatch e
    · rcases keyIs_shape hb with ⟨j, u, rfl, e⟩ | ⟨y, u, rfl, e⟩
      · exact nomatch e
      · injection e with e1 _; rw [e1]
  byValue := fun k v h => by
    rcases keyIs_shape h with ⟨i, t, rfl, rfl⟩ | ⟨x, t, rfl, rfl⟩ <;> rfl
  pyHash := fun hv h => by
    rcases keyIs_shape hv with ⟨i, t, rfl, rfl⟩ | ⟨x, t, rfl, rfl⟩
    · exact wpAny_pyHash_int h
    · exact wpAny_pyHash_str h
  eqBool := fun hu hv h => by
    rcases keyIs_shape hu with ⟨i, t, rfl, rfl⟩ | ⟨x, t, rfl, rfl⟩
    · rcases keyIs_shape hv with ⟨j, u, rfl, rfl⟩ | ⟨y, u, rfl, rfl⟩
      · rw [key_ll] at h; exact wpAny_eqBool_int h
      · rw [key_lr] at h; exact SeqAt.EqAt.int_str i t y u _ _ _ _ h
    · rcases keyIs_shape hv with ⟨j, u, rfl, rfl⟩ | ⟨y, u, rfl, rfl⟩
      · rw [key_rl] at h; exact SeqAt.EqAt.str_int x t j u _ _ _ _ h
      · rw [key_rr] at h; exact wpAny_eqBool_str h
  «strs» := fun k x t v h => by
    rcases keyIs_shape h with ⟨i, u, rfl, e⟩ | ⟨y, u, rfl, e⟩
    · exact nomatch e
    · injection e with e1 _
      subst e1
      cases v <;> rfl

theorem mixKind_is (prog : Program) (w : World) (k : Key) (v : Value) : (mixKind prog w).is k v = keyIs k v := rfl
theorem mixKind_int (prog : Program) (w : World) (i : Int) (t : Tok) : (mixKind prog w).is (.inl i) (.int i t) = true := keyIs_int i t
theorem mixKind_str (prog : Program) (w : World) (x : Str) (t : Tok) : (mixKind prog w).is (.inr x) (.str x t) = true := keyIs_str x t
end L2

namespace L2
open PySem PySem.Spec PyProof.Rows

/-- a value, without the heap -/
inductive V where
  | non | bl (b : Bool) | int (i : Int) | str (x : Str) | byt (b : Array UInt8) | flt (b : UInt64) | ref (a : Addr) | ty (n : String)
  deriving DecidableEq

def RelV : V → Value → Prop
  | .non, u => u = Value.none
  | .bl b, u => u = Value.bool b
  | .int i, u => ∃ t, u = Value.int i t
  | .str x, u => ∃ t, u = Value.str x t
  | .byt b, u => ∃ t, u = Value.bytes b t
  | .flt b, u => ∃ t, u = Value.float b t
  | .ref a, u => u = Value.ref a
  | .ty n, u => u = Value.type n

abbrev Vals : List V → List Value → Prop := Paired RelV
theorem Vals.length {xs : List V} {us : List Value} (r : Vals xs us) : xs.length = us.length := Paired.length r
theorem Vals.get : ∀ {xs : List V} {us : List Value} {i : Nat} {x : V}, Vals xs us → xs[i]? = some x → ∃ u, us[i]? = some u ∧ RelV x u
  | _, _, _, _, .nil, e => by simp at e
  | _, _, 0, _, .cons r _, e => by simp at e; subst e; exact ⟨_, rfl, r⟩
  | _, _, i + 1, x, .cons _ t, e => by
    obtain ⟨u, h1, h2⟩ := Vals.get (i := i) (x := x) t (by simpa using e)
    exact ⟨u, by simpa using h1, h2⟩
theorem Vals.set {x : V} {u : Value} (r : RelV x u) : ∀ {xs : List V} {us : List Value} (i : Nat), Vals xs us → Vals (xs.set i x) (us.set i u)
  | _, _, _, .nil => .nil
  | _, _, 0, .cons _ t => .cons r t
  | _, _, i + 1, .cons q t => .cons q (Vals.set r i t)
theorem Vals.append : ∀ {xs ys : List V} {us ws : List Value}, Vals xs us → Vals ys ws → Vals (xs ++ ys) (us ++ ws)
  | _, _, _, _, .nil, s => s
  | _, _, _, _, .cons r t, s => .cons r (Vals.append t s)
theorem Vals.take : ∀ {xs : List V} {us : List Value} (n : Nat), Vals xs us → Vals (xs.take n) (us.take n)
  | _, _, 0, _ => .nil
  | _, _, _ + 1, .nil => .nil
  | _, _, n + 1, .cons r t => .cons r (Vals.take n t)
theorem Vals.drop : ∀ {xs : List V} {us : List Value} (n : Nat), Vals xs us → Vals (xs.drop n) (us.drop n)
  | _, _, 0, r => r
  | _, _, _ + 1, .nil => .nil
  | _, _, n + 1, .cons _ t => Vals.drop n t
def RelO : Option V → Option Value → Prop
  | some v, some u => RelV v u
  | none, none => True
  | _, _ => False
def KV {κ : Type} : List (κ × V) → List (κ × Value) → Prop := Paired fun (p : κ × V) (q : κ × Value) => p.1 = q.1 ∧ RelV p.2 q.2

/-- a key of a dict (00_mix): an int or a text -/
def kV : Key → V
  | .inl i => .int i
  | .inr x => .str x

/-- what stands at a tracked address -/
inductive HO where
  /-- a list -/
  | lst (xs : List V)
  /-- a tuple (never changes) -/
  | tup (xs : List V)
  /-- a dict whose keys are ints and texts; one whose keys are tuples of ints and texts (the empty one is both) -/
  | dK (kvs : List (Key × V)) | dT (kvs : List (List Key × V))
  /-- a set of ints: its members, its size -/
  | set (S : Int → Bool) (n : Nat)
  /-- an instance of the class at C, its dict at dx, its attributes -/
  | ins (C dx : Addr) (fs : List (Str × V))
  /-- the dict of the instance at x -/
  | own (x : Addr)
  /-- the dict of an exception -/
  | xd (fs : List (Str × V))
  /-- a bound method, f of x -/
  | met (f x : Addr)
  /-- a range object lo, lo + 1, .. below hi -/
  | rng (lo hi : Int)
  /-- a thing that is known to the object (the script; a dict while a loop walks it): read, never written while it is so -/
  | frz (o : Obj) (u : HO)
  /-- a code object's table -/
  | tbl (ps : Array Value)
  /-- any other thing, by what is true of its one object (a def of one's own: SetO a S n := HO.ext fun h => ..) -/
  | ext (φ : Heap → Prop)

abbrev Hp := Addr → Option HO
def upd (H : Hp) (a : Addr) (o : HO) : Hp := fun b => if b = a then some o else H b
theorem upd_same {H : Hp} {a : Addr} {o : HO} : upd H a o a = some o := by unfold upd; rw [if_pos rfl]
theorem upd_ne {H : Hp} {a b : Addr} {o : HO} (h : b ≠ a) : upd H a o b = H b := by unfold upd; rw [if_neg h]
theorem ne_of_none {H : Hp} {a b : Addr} {o : HO} (h : H a = some o) (h' : H b = none) : a ≠ b := by
  intro e; subst e; rw [h] at h'; cases h'

def IsTupD (h : Heap) (a : Addr) (items : Array Value) : Prop := ∃ o, h.get? a = some o ∧ o.cls = .type "tuple" ∧ (∃ n, o.data = .seq items n) ∧ o.dict = none
theorem IsTupD.tup {h : Heap} {a : Addr} {items : Array Value} (x : IsTupD h a items) : IsTup h a items := let ⟨o, e, c, d, _⟩ := x; ⟨o, e, c, d⟩
theorem IsTupD.new (h : Heap) (items : Array Value) : IsTupD (h.push { cls := .type "tuple", data := .seq items }) h.objs.size items := ⟨_, Heap.get?_push_size _ rfl, rfl, ⟨_, rfl⟩, rfl⟩
section
variable (P : Program) (w : World)
def ObjOk (H : Hp) (h : Heap) (a : Addr) : HO → Prop
  | .lst xs => xs.length ≤ sizeLine ∧ ∃ (its : List Value) (n : Nat), Vals xs its ∧ h.get? a = some { cls := .type "list", data := .seq its.toArray n }
  | .tup xs => xs.length ≤ sizeLine ∧ ∃ its : List Value, Vals xs its ∧ IsTupD h a its.toArray
  | .dK kvs => kvs.length ≤ sizeLine ∧ (a == sysModules) = false ∧ ∃ vs, KV kvs vs ∧ h.DictOf (mixKind P w) a vs
  | .dT kvs => kvs.length ≤ sizeLine ∧ (a == sysModules) = false ∧ ∃ xs : List (List Key × Addr × Value),
      Paired (fun (p : List Key × V) (q : List Key × Addr × Value) => p.1 = q.1 ∧ H q.2.1 = some (.tup (p.1.map kV)) ∧ RelV p.2 q.2.2) kvs xs ∧
      ∃ o es ep, h.get? a = some o ∧ o.ExactDict ∧ o.data = .dict es ep ∧ es.toList = xs.map (entryOfKey (tupleKind (mixKind P w))) ∧ (xs.map (·.1)).Nodup
  | .set S n => h.SetOf (intKind P w) a S n
  | .ins C dx fs => H dx = some (.own a) ∧ fs.length ≤ 1000 ∧ dx ≠ a ∧ h.get? a = some (PySem.W.instObj C dx) ∧
      ∃ mA, h.Ns1 dx mA ∧ (∀ f, RelO (fs.lookup f) (mA f)) ∧ PySem.Within mA (fs.map (·.1))
  | .own _ => ∃ o, h.get? a = some o
  | .xd fs => ∃ mA, h.Ns1 a mA ∧ ∀ f, RelO (fs.lookup f) (mA f)
  | .rng lo hi => ∃ t u v, h.get? a = some { cls := .type "range", data := .fields #[.int lo t, .int hi u, .int 1 v] }
  | .frz o u => h.get? a = some o ∧ ObjOk H h a u
  | .tbl ps => h.get? a = some { cls := .none, data := .fields ps }
  | .met f x => h.get? a = some (PySem.W.methodObj (.ref f) (.ref x))
  | .ext φ => φ h ∧ (∃ o, h.get? a = some o) ∧ ∀ h1 h2 : Heap, φ h1 → (∀ o, h1.get? a = some o → h2.get? a = some o) → φ h2
/-- the abstract heap is held -/
def HOk (H : Hp) (h : Heap) : Prop := ∀ a o, H a = some o → ObjOk P w H h a o
end

section
variable {P : Program} {w : World} {H H' : Hp} {h h' : Heap} {a : Addr} {o : HO}
theorem ObjOk.lt (x : ObjOk P w H h a o) : a < h.objs.size := by
  cases o with
  | lst xs => obtain ⟨_, _, _, _, e⟩ := x; exact Heap.lt_size e
  | tup xs => obtain ⟨_, _, _, p⟩ := x; exact p.tup.lt
  | dK kvs => obtain ⟨_, _, _, _, o, _, _, e, _⟩ := x; exact Heap.lt_size e
  | dT kvs => obtain ⟨_, _, _, _, o, _, _, e, _⟩ := x; exact Heap.lt_size e
  | set S n => obtain ⟨o, _, _, _, e, _⟩ := x; exact Heap.lt_size e
  | ins C dx fs => obtain ⟨_, _, _, e, _⟩ := x; exact Heap.lt_size e
  | own y => obtain ⟨_, e⟩ := x; exact Heap.lt_size e
  | xd fs => obtain ⟨_, ⟨_, _, _, e, _⟩, _⟩ := x; exact Heap.lt_size e
  | rng lo hi => obtain ⟨_, _, _, e⟩ := x; exact Heap.lt_size e
  | frz ob u => obtain ⟨e, _⟩ := x; exact Heap.lt_size e
  | tbl ps => exact Heap.lt_size (show h.get? a = some _ from x)
  | met f y => exact Heap.lt_size (show h.get? a = some _ from x)
  | ext φ => obtain ⟨_, ⟨_, e⟩, _⟩ := x; exact Heap.lt_size e
theorem Paired.mapP {α β : Type} {F G : α → β → Prop} : ∀ {l₁ : List α} {l₂ : List β}, Paired F l₁ l₂ → (∀ a b, F a b → G a b) → Paired G l₁ l₂
  | _, _, .nil, _ => .nil
  | _, _, .cons r t, f => .cons (f _ _ r) (Paired.mapP t f)
/-- what an object's description leans on: its own object, its own dict, the tuples -/
theorem ObjOk.stay (x : ObjOk P w H h a o) (k : ∀ b u, (b = a ∨ H b = some (.own a)) → h.get? b = some u → h'.get? b = some u)
    (ho : ∀ b, H b = some (.own a) → H' b = some (.own a)) (ht : ∀ b xs, H b = some (.tup xs) → H' b = some (.tup xs)) : ObjOk P w H' h' a o := by
  induction o with
  | lst xs => obtain ⟨z, its, n, r, e⟩ := x; exact ⟨z, its, n, r, k _ _ (.inl rfl) e⟩
  | tup xs => obtain ⟨z, its, r, ob, e, c⟩ := x; exact ⟨z, its, r, ob, k _ _ (.inl rfl) e, c⟩
  | dK kvs => obtain ⟨z, y, vs, r, ob, es, ep, e, c⟩ := x; exact ⟨z, y, vs, r, ob, es, ep, k _ _ (.inl rfl) e, c⟩
  | dT kvs =>
    obtain ⟨z, y, xs, r, ob, es, ep, e, c⟩ := x
    exact ⟨z, y, xs, Paired.mapP r fun p q z => ⟨z.1, ht _ _ z.2.1, z.2.2⟩, ob, es, ep, k _ _ (.inl rfl) e, c⟩
  | set S n => obtain ⟨ob, es, ep, t, e, c⟩ := x; exact ⟨ob, es, ep, t, k _ _ (.inl rfl) e, c⟩
  | ins C dx fs =>
    obtain ⟨d, z, ne, e, mA, ⟨od, es, ep, e2, c⟩, r⟩ := x
    exact ⟨ho _ d, z, ne, k _ _ (.inl rfl) e, mA, ⟨od, es, ep, k _ _ (.inr d) e2, c⟩, r⟩
  | own y => obtain ⟨ob, e⟩ := x; exact ⟨ob, k _ _ (.inl rfl) e⟩
  | xd fs => obtain ⟨mA, ⟨od, es, ep, e, c⟩, r⟩ := x; exact ⟨mA, ⟨od, es, ep, k _ _ (.inl rfl) e, c⟩, r⟩
  | rng lo hi => obtain ⟨t, u, v, e⟩ := x; exact ⟨t, u, v, k _ _ (.inl rfl) e⟩
  | frz ob u ih => obtain ⟨e, q⟩ := x; exact ⟨k _ _ (.inl rfl) e, ih q⟩
  | tbl ps =>
    have e : h.get? a = some { cls := .none, data := .fields ps } := x
    show h'.get? a = some { cls := .none, data := .fields ps }
    exact k a _ (.inl rfl) e
  | met f y =>
    have e : h.get? a = some (PySem.W.methodObj (.ref f) (.ref y)) := x
    show h'.get? a = some (PySem.W.methodObj (.ref f) (.ref y))
    exact k a _ (.inl rfl) e
  | ext φ => obtain ⟨p, ⟨o, e⟩, st⟩ := x; exact ⟨st _ _ p fun o q => k _ _ (.inl rfl) q, ⟨o, k _ _ (.inl rfl) e⟩, st⟩
theorem HOk.lt (x : HOk P w H h) (e : H a = some o) : a < h.objs.size := (x a o e).lt
theorem HOk.fresh (x : HOk P w H h) (e : h.objs.size ≤ a) : H a = none := by
  cases q : H a with
  | none => rfl
  | some u => exact absurd (Nat.lt_of_lt_of_le (x.lt q) e) (Nat.lt_irrefl _)
/-- every object of the heap is kept -/
theorem HOk.kept (x : HOk P w H h) (k : ∀ b u, h.get? b = some u → h'.get? b = some u) : HOk P w H h' := fun a o e =>
  (x a o e).stay (fun b u _ q => k b u q) (fun _ q => q) fun _ _ q => q
/-- a new object is laid and tracked -/
theorem HOk.laid (x : HOk P w H h) (k : ∀ b u, h.get? b = some u → h'.get? b = some u) (hp : h.objs.size ≤ a) (new : ObjOk P w (upd H a o) h' a o) : HOk P w (upd H a o) h' := fun b u e => by
  have hn := x.fresh hp
  by_cases hb : b = a
  · subst hb; rw [upd_same] at e; cases e; exact new
  · rw [upd_ne hb] at e
    exact (x b u e).stay (fun c v _ q => k c v q) (fun c q => by rw [upd_ne (ne_of_none q hn)]; exact q) fun c xs q => by rw [upd_ne (ne_of_none q hn)]; exact q
end

/-- what may be read as u: it is u, or a known u -/
def Rd (H : Hp) (a : Addr) (u : HO) : Prop := H a = some u ∨ ∃ o, H a = some (.frz o u)
theorem Rd.of {H : Hp} {a : Addr} {u : HO} (h : H a = some u) : Rd H a u := .inl h
theorem Rd.ok {P : Program} {w : World} {H : Hp} {h : Heap} {a : Addr} {u : HO} (r : Rd H a u) (x : HOk P w H h) : ObjOk P w H h a u := by
  rcases r with r | ⟨o, r⟩
  · exact x a u r
  · obtain ⟨_, q⟩ := x a _ r
    exact q
/-- what may be written -/
def Mut : Option HO → Prop
  | some (.lst _) => True
  | some (.dK _) => True
  | some (.dT _) => True
  | some (.set _ _) => True
  | some (.ins _ _ _) => True
  | some (.ext _) => True
  | _ => False
section
variable {P : Program} {w : World} {H : Hp} {h h' : Heap} {x e : Addr} {o' : HO}
/-- the object at e is changed: x itself, or the dict of the instance x -/
theorem HOk.write (ok : HOk P w H h) (mu : Mut (H x)) (he : e = x ∨ H e = some (.own x)) (k : ∀ b u, b ≠ e → h.get? b = some u → h'.get? b = some u) (heo : ∃ u, h'.get? e = some u)
    (new : ObjOk P w (upd H x o') h' x o') : HOk P w (upd H x o') h' := fun b u q => by
  have nown : ∀ c y, H c = some (.own y) → c ≠ x := fun c y r z => by subst z; rw [r] at mu; exact mu
  have ntup : ∀ c xs, H c = some (.tup xs) → c ≠ x := fun c xs r z => by subst z; rw [r] at mu; exact mu
  by_cases hb : b = x
  · subst hb; rw [upd_same] at q; cases q; exact new
  · rw [upd_ne hb] at q
    by_cases hbe : b = e
    · have q' : H b = some (.own x) := by
        rcases he with z | z
        · exact absurd (hbe.trans z) hb
        · rw [hbe]; exact z
      rw [q] at q'; cases q'
      obtain ⟨v, hv⟩ := heo
      exact ⟨v, by rw [hbe]; exact hv⟩
    · refine (ok b u q).stay (fun c v hc r => k c v ?_ r) (fun c r => by rw [upd_ne (nown c b r)]; exact r) fun c xs r => by rw [upd_ne (ntup c xs r)]; exact r
      rcases hc with rfl | hc
      · exact hbe
      · rintro rfl
        rcases he with z | z
        · exact nown c b hc z
        · rw [hc] at z; cases z; exact hb rfl
end

/-! ### kept unless tracked; of the frames at fs (the callers') the slots may change (an exception that passes writes there); of the records at ex (iterators) nothing is said -/
structure Un (fs ex : List Addr) (H H' : Hp) (h h' : Heap) : Prop where
  keep : ∀ b o, h.get? b = some o → H b = none → b ∉ fs → b ∉ ex → h'.get? b = some o
  slot : ∀ b o, h.get? b = some o → H b = none → b ∈ fs → b ∉ ex → ∃ sl, h'.get? b = some { o with slots := sl }
  free : ∀ b o, h.get? b = some o → H b = none → b ∉ ex → H' b = none
  there : ∀ b o, h.get? b = some o → b ∉ ex → ∃ o', h'.get? b = some o'
  tups : ∀ b xs, H b = some (.tup xs) → H' b = some (.tup xs)
  frzs : ∀ b o u, H b = some (.frz o u) → H' b = some (.frz o u)
  tbls : ∀ b ps, H b = some (.tbl ps) → ∃ more, H' b = some (.tbl (ps ++ more))
section
variable {fs fs' ex ex' : List Addr} {H H1 H2 : Hp} {h h1 h2 h' : Heap} {a x e : Addr} {o : HO}
theorem Un.any (u : Un fs ex H H1 h h1) {b : Addr} {ob : Obj} (q : h.get? b = some ob) (n : H b = none) (hx : b ∉ ex) : ∃ sl, h1.get? b = some { ob with slots := sl } := by
  by_cases hb : b ∈ fs
  · exact u.slot b ob q n hb hx
  · exact ⟨ob.slots, u.keep b ob q n hb hx⟩
theorem Un.trans (a : Un fs ex H H1 h h1) (b : Un fs ex H1 H2 h1 h2) : Un fs ex H H2 h h2 where
  keep := fun c ob q n hc hx => b.keep c ob (a.keep c ob q n hc hx) (a.free c ob q n hx) hc hx
  slot := fun c ob q n hc hx => by
    obtain ⟨sl, e1⟩ := a.slot c ob q n hc hx
    obtain ⟨sl', e2⟩ := b.slot c _ e1 (a.free c ob q n hx) hc hx
    exact ⟨sl', e2⟩
  free := fun c ob q n hx => by
    obtain ⟨o', e1⟩ := a.there c ob q hx
    exact b.free c o' e1 (a.free c ob q n hx) hx
  there := fun c ob q hx => by
    obtain ⟨o', e1⟩ := a.there c ob q hx
    exact b.there c o' e1 hx
  tups := fun c xs q => b.tups c xs (a.tups c xs q)
  frzs := fun c ob xs q => b.frzs c ob xs (a.frzs c ob xs q)
  tbls := fun c ps q => by
    obtain ⟨m1, e1⟩ := a.tbls c ps q
    obtain ⟨m2, e2⟩ := b.tbls c _ e1
    exact ⟨m1 ++ m2, by rw [e2, Array.append_assoc]⟩
theorem Un.kept (k : ∀ b u, h.get? b = some u → h'.get? b = some u) : Un fs ex H H h h' :=
  ⟨fun b ob q _ _ _ => k b ob q, fun b ob q _ _ _ => ⟨ob.slots, k b ob q⟩, fun _ _ _ n _ => n, fun b ob q _ => ⟨ob, k b ob q⟩, fun _ _ q => q, fun _ _ _ q => q, fun _ ps q => ⟨#[], by rw [q]; simp⟩⟩
theorem Un.refl : Un fs ex H H h h := Un.kept fun _ _ q => q
theorem Un.laid (k : ∀ b u, h.get? b = some u → h'.get? b = some u) (hp : h.objs.size ≤ a) (hn : H a = none) : Un fs ex H (upd H a o) h h' where
  keep := fun b u q _ _ _ => k b u q
  slot := fun b u q _ _ _ => ⟨u.slots, k b u q⟩
  free := fun b u q n _ => by rw [upd_ne (Nat.ne_of_lt (Nat.lt_of_lt_of_le (Heap.lt_size q) hp))]; exact n
  there := fun b u q _ => ⟨u, k b u q⟩
  tups := fun b xs q => by rw [upd_ne (ne_of_none q hn)]; exact q
  frzs := fun b u xs q => by rw [upd_ne (ne_of_none q hn)]; exact q
  tbls := fun b ps q => ⟨#[], by rw [upd_ne (ne_of_none q hn), q]; simp⟩
theorem Un.write (mu : Mut (H x)) (he : e = x ∨ H e = some (.own x)) (k : ∀ b u, b ≠ e → h.get? b = some u → h'.get? b = some u) (heo : ∃ u, h'.get? e = some u) : Un fs ex H (upd H x o) h h' := by
  have hx : ∀ b, H b = none → b ≠ x := fun b n z => by subst z; rw [n] at mu; exact mu
  have hb : ∀ b, H b = none → b ≠ e := fun b n z => by
    subst z
    rcases he with r | r
    · exact hx b n r
    · rw [n] at r; cases r
  have hm : ∀ b u, H b = some u → ¬ Mut (some u) → b ≠ x := fun b u q nm z => by subst z; rw [q] at mu; exact nm mu
  refine ⟨fun b u q n _ _ => k b u (hb b n) q, fun b u q n _ _ => ⟨u.slots, k b u (hb b n) q⟩, fun b u q n _ => by rw [upd_ne (hx b n)]; exact n, fun b u q _ => ?_,
    fun b xs q => by rw [upd_ne (hm b _ q fun z => z)]; exact q, fun b u xs q => by rw [upd_ne (hm b _ q fun z => z)]; exact q, fun b ps q => ⟨#[], by rw [upd_ne (hm b _ q fun z => z), q]; simp⟩⟩
  by_cases hbe : b = e
  · subst hbe; exact heo
  · exact ⟨u, k b u hbe q⟩
theorem Un.mono (u : Un fs ex H H1 h h1) (hs : ∀ b ∈ fs, b ∈ fs') (hx : ∀ b ∈ ex, b ∈ ex') : Un fs' ex' H H1 h h1 :=
  ⟨fun b ob q n hb he => u.keep b ob q n (fun z => hb (hs b z)) fun z => he (hx b z), fun _ _ q n _ he => u.any q n fun z => he (hx _ z), fun b ob q n he => u.free b ob q n fun z => he (hx b z), fun b ob q he => u.there b ob q fun z => he (hx b z), u.tups, u.frzs, u.tbls⟩
end

/-! ### the heap without what is tracked -/
def trk (h : Heap) (H : Hp) : List Addr := (List.range h.objs.size).filter fun a => (H a).isSome
def hidT (h : Heap) (H : Hp) : Heap := PySem.W.hideAll h (trk h H)
theorem hidT_size (h : Heap) (H : Hp) : (hidT h H).objs.size = h.objs.size := PySem.W.hideAll_size _ _
theorem hidT_get {h : Heap} {H : Hp} {b : Addr} {o : Obj} (e : h.get? b = some o) (n : H b = none) : (hidT h H).get? b = some o :=
  PySem.W.hideAll_get _ e fun hm => by
    have q : (H b).isSome = true := (List.mem_filter.mp hm).2
    rw [n] at q; simp at q
theorem of_hidT {h : Heap} {H : Hp} {b : Addr} {o : Obj} (e : (hidT h H).get? b = some o) : h.get? b = some o ∧ H b = none := by
  have e' : h.get? b = some o := PySem.W.of_hideAll (trk h H) e
  refine ⟨e', ?_⟩
  cases q : H b with
  | none => rfl
  | some x =>
    have hm : b ∈ trk h H := List.mem_filter.mpr ⟨List.mem_range.mpr (Heap.lt_size e'), by simp [q]⟩
    have z : (hidT h H).get? b = none := PySem.W.hideAll_none (trk h H) hm
    rw [z] at e; cases e

/-! ### OpenK's ledger, filled with every new object but one -/
def allNews (g h : Heap) (L : Addr) : List (Addr × Obj) := (List.range h.objs.size).filterMap fun a => if a = L ∨ (g.get? a).isSome = true then none else (h.get? a).map fun o => (a, o)
def rest (g h : Heap) (L d : Addr) : List (Addr × Obj) := (allNews g h L).filter fun p => decide (p.1 ≠ d)
end L2

namespace L2
open PySem PySem.Spec PyProof.Rows

/-- the module's facts, over the base: the heap at the law's entry without what is tracked there -/
structure Mod (K : PySem.W.Frag) (mg : Str → Option Value) (base : Heap) : Prop where
  kin : K.In base
  glob : base.Ns mainGlobals mg
  blt : ∃ mb, base.Ns builtinsNs mb ∧ ∀ x : Str, x ≠ "__name__" → mb x = bootBuiltins x
  nolimit : base.NoLimit

/-- the context: a def's body (or a comprehension's block) running. base: fixed through the whole law; s₀, H₀: the entry; outer: the frames whose slots others may change (a def's callers); stack: all frames that run;
   ex: iterators that were made ahead of the entry and are walked here (a comprehension's); fn: the names whose cells were made at the entry (a def: all; a comprehension's block: its own); calm: not within an except suite; pn: pins that every state bears; xe: what is wanted of an exception that leaves the code -/
structure Cx where
  prog : Program
  w : World
  K : PySem.W.Frag
  mg : Str → Option Value
  base : Heap
  A : Around
  N : List Str
  s₀ : Shared
  H₀ : Hp
  env : Env
  outer : List Env
  stack : List Env
  ex : List Addr
  fn : Str → Bool
  calm : Bool
  pn : List (Addr × Obj)
  xe : Value → Shared → Prop
  B₀ : Hp := H₀
  hB : ∀ b o, H₀ b = some o → (∀ xs, o ≠ .lst xs) → B₀ b = some o := by intro b o e _; exact e
/-- the callers' frames -/
def frs (l : List Env) : List Addr := l.filterMap (·.frame)
abbrev Cx.fs (X : Cx) : List Addr := frs X.outer

def Vis (sc : Scope) (x : Str) : Prop := sc.names.lookup x = some .local ∨ sc.names.lookup x = some .cell ∨ sc.names.lookup x = some .free
def Loc (sc : Scope) (x : Str) : Prop := sc.names.lookup x = some .local ∨ sc.names.lookup x = some .cell
def Look (env : Env) (h : Heap) (m : Str → Option Value) (x : Str) (u : Value) : Prop :=
  (env.kindOf x = some .local ∧ m x = some u) ∨ ((env.kindOf x = some .cell ∨ env.kindOf x = some .free) ∧ ∃ c, env.cells.lookup x = some c ∧ h.IsCell c (some u))

structure Cx.Ok (X : Cx) : Prop where
  mod : Mod X.K X.mg X.base
  kind : X.env.scope.kind = .function
  glob : X.env.globals = mainGlobals
  blt : X.env.builtins = builtinsNs
  above : X.s₀.heap.objs.size ≤ X.env.locals
  inj : ∀ x y c, X.env.cells.lookup x = some c → X.env.cells.lookup y = some c → x = y
  has : ∀ x, (X.env.kindOf x = some .cell ∨ X.env.kindOf x = some .free) → ∃ c, X.env.cells.lookup x = some c
  cab : ∀ x c, X.fn x = true → X.env.cells.lookup x = some c → X.s₀.heap.objs.size ≤ c
  hd : X.calm = true → X.A.handled = none
  frames : X.A.frames = some X.stack
  stk : X.stack = X.outer ∨ (X.stack = X.env :: X.outer ∧ X.env.frame = some X.env.locals)
  exf : ∀ b ∈ X.ex, b ≠ X.env.locals ∧ ∀ x c, X.env.cells.lookup x = some c → c ≠ b
  bs : ∀ b o, X.base.get? b = some o → X.s₀.heap.get? b = some o ∧ X.H₀ b = none
  bsz : X.base.objs.size ≤ X.s₀.heap.objs.size
  noex : ∀ b o, X.base.get? b = some o → b ∉ X.ex
  exfs : ∀ b ∈ X.ex, b ∉ X.fs
  funs : X.s₀.heap.FunFrames X.base X.outer
  frf : ∀ b ∈ X.fs, X.H₀ b = none

structure Inv (X : Cx) (pins : List (Addr × Obj)) (σ : List (Option V)) (H : Hp) (s : Shared) : Prop where
  ok : X.Ok
  os : s.os = X.s₀.os
  bare : AllBare s.gens
  base : Un X.fs X.ex X.H₀ H X.s₀.heap s.heap
  loc : ∃ m, s.heap.Ns X.env.locals m ∧ ∀ (i : Nat) (x : Str) (v : V), X.N[i]? = some x → σ[i]? = some (some v) → Vis X.env.scope x → ∃ u, RelV v u ∧ Look X.env s.heap m x u
  cell : ∀ x c, X.env.cells.lookup x = some c → ∃ v, s.heap.IsCell c v
  free : H X.env.locals = none
  freeC : ∀ x c, X.env.cells.lookup x = some c → H c = none
  pin : ∀ p ∈ X.pn ++ pins, s.heap.get? p.1 = some p.2 ∧ H p.1 = none ∧ p.1 ≠ X.env.locals ∧ p.1 ∉ X.fs ∧ ∀ v, p.2.data ≠ .cell v
  hok : HOk X.prog X.w H s.heap
  len : σ.length = X.N.length

section
variable {X : Cx} {pins : List (Addr × Obj)} {σ : List (Option V)} {H H' : Hp} {s : Shared} {h' : Heap}

theorem Cx.Ok.nofr (ok : X.Ok) {b : Addr} {o : Obj} (e : X.base.get? b = some o) : b ∉ X.fs := fun hb => by
  have := (ok.funs.mem hb).1
  rw [e] at this; cases this
theorem Inv.bs (I : Inv X pins σ H s) : ∀ b o, X.base.get? b = some o → s.heap.get? b = some o ∧ H b = none := fun b o e =>
  ⟨I.base.keep b o (I.ok.bs b o e).1 (I.ok.bs b o e).2 (I.ok.nofr e) (I.ok.noex b o e), I.base.free b o (I.ok.bs b o e).1 (I.ok.bs b o e).2 (I.ok.noex b o e)⟩
theorem Inv.bk (I : Inv X pins σ H s) : ∀ b o, X.base.get? b = some o → s.heap.get? b = some o := fun b o e => (I.bs b o e).1
theorem Inv.mod (I : Inv X pins σ H s) : Mod X.K X.mg X.base := I.ok.mod
theorem Inv.kIn (I : Inv X pins σ H s) : X.K.In s.heap := I.ok.mod.kin.keeps I.bk
theorem Inv.nolimit (I : Inv X pins σ H s) : s.heap.NoLimit := I.ok.mod.nolimit.keeps I.bk
/-- the frame over the base: for OpenK's rules (K.In X.base is I.mod.kin) -/
theorem Inv.fr (I : Inv X pins σ H s) : ∃ m, Fr X.base X.env.locals s.heap m :=
  let ⟨m, hn, _⟩ := I.loc
  ⟨m, hn, I.bk, Nat.le_trans I.ok.bsz I.ok.above⟩
theorem Inv.lt (I : Inv X pins σ H s) : X.env.locals < s.heap.objs.size := let ⟨_, hn, _⟩ := I.loc; hn.lt
theorem Inv.sz (I : Inv X pins σ H s) : X.s₀.heap.objs.size ≤ s.heap.objs.size := Nat.le_trans I.ok.above (Nat.le_of_lt I.lt)
theorem Inv.nofs (I : Inv X pins σ H s) {a : Addr} (h : s.heap.objs.size ≤ a) : a ∉ X.fs := fun hb => by
  obtain ⟨_, o, ho, _⟩ := I.ok.funs.mem hb
  exact absurd (Nat.lt_of_lt_of_le (Heap.lt_size ho) (Nat.le_trans I.sz h)) (Nat.lt_irrefl _)
theorem Inv.cne (I : Inv X pins σ H s) : ∀ x c, X.env.cells.lookup x = some c → c ≠ X.env.locals := fun x c e z => by
  obtain ⟨v, o, ho, hd⟩ := I.cell x c e
  obtain ⟨m, ⟨o', es, ep, ho', hd', _⟩, _⟩ := I.loc
  rw [z, ho'] at ho; cases ho; rw [hd'] at hd; cases hd
theorem Inv.funs (I : Inv X pins σ H s) : s.heap.FunFrames X.base X.outer := by
  have all : ∀ (l : List Env), (∀ b ∈ frs l, b ∈ X.fs) → X.s₀.heap.FunFrames X.base l → s.heap.FunFrames X.base l := by
    intro l
    induction l with
    | nil => intro _ _; trivial
    | cons env r ih =>
      intro hs hl
      obtain ⟨hk, ⟨L, o, hf, hn, ho, hd⟩, hr⟩ := hl
      have hL : L ∈ X.fs := hs L (by unfold frs; rw [List.filterMap_cons, hf]; exact List.mem_cons_self)
      obtain ⟨sl, e⟩ := I.base.slot L o ho (I.ok.frf L hL) hL fun z => I.ok.exfs L z hL
      exact ⟨hk, ⟨L, _, hf, hn, e, hd⟩, ih (fun b hb => hs b (by unfold frs; rw [List.filterMap_cons, hf]; exact List.mem_cons_of_mem _ hb)) hr⟩
  exact all X.outer (fun _ hb => hb) I.ok.funs

/-- the frames that run, for a call -/
theorem Inv.stack (I : Inv X pins σ H s) : s.heap.FunFrames X.base X.stack := by
  rcases I.ok.stk with e | ⟨e, hf⟩
  · rw [e]; exact I.funs
  · rw [e]
    obtain ⟨m, hn, _⟩ := I.loc
    refine .cons (by rw [I.ok.kind]; decide) hf hn ?_ I.funs
    exact Heap.get?_none_of_le (Nat.le_trans I.ok.bsz I.ok.above)
theorem Inv.stkSub (I : Inv X pins σ H s) : ∀ b ∈ frs X.stack, b ∈ X.env.locals :: X.fs := fun b hb => by
  rcases I.ok.stk with e | ⟨e, hf⟩
  · rw [e] at hb; exact List.mem_cons_of_mem _ hb
  · rw [e] at hb
    unfold frs at hb
    rw [List.filterMap_cons, hf] at hb
    exact hb
theorem Inv.stkFree (I : Inv X pins σ H s) : ∀ b ∈ frs X.stack, H b = none := fun b hb => by
  rcases List.mem_cons.mp (I.stkSub b hb) with e | hb
  · rw [e]; exact I.free
  · obtain ⟨_, o, ho, _⟩ := I.ok.funs.mem hb
    exact I.base.free b o ho (I.ok.frf b hb) fun z => I.ok.exfs b z hb

/-- THE STEP: the untracked objects but the frame and the records at ch are kept (the callers' frames up to slots), the frame's map is kept, the new abstract heap is held -/
theorem Inv.step {g' : Array GenState} {t' : Nat} {d' : Drawn} {ch : List Addr} (I : Inv X pins σ H s)
    (hch : ∀ b ∈ ch, (b ∈ X.ex ∨ X.s₀.heap.objs.size ≤ b) ∧ b ≠ X.env.locals ∧ (∀ x c, X.env.cells.lookup x = some c → c ≠ b) ∧ ∀ p ∈ X.pn ++ pins, p.1 ≠ b)
    (keep : ∀ b o, b ≠ X.env.locals → b ∉ X.fs → b ∉ ch → s.heap.get? b = some o → H b = none → h'.get? b = some o)
    (slot : ∀ b o, b ≠ X.env.locals → b ∈ X.fs → b ∉ ch → s.heap.get? b = some o → H b = none → ∃ sl, h'.get? b = some { o with slots := sl }) (free : ∀ b o, b ∉ ch → s.heap.get? b = some o → H b = none → H' b = none)
    (there : ∀ b o, b ∉ ch → s.heap.get? b = some o → ∃ o', h'.get? b = some o')
    (tups : ∀ b xs, H b = some (.tup xs) → H' b = some (.tup xs)) (frzs : ∀ b o u, H b = some (.frz o u) → H' b = some (.frz o u)) (tbls : ∀ b ps, H b = some (.tbl ps) → ∃ more, H' b = some (.tbl (ps ++ more)))
    (ns : ∀ m, s.heap.Ns X.env.locals m → h'.Ns X.env.locals m) (hok : HOk X.prog X.w H' h') (hg : AllBare g') :
    Inv X pins σ H' { s with heap := h', gens := g', drawn := d', toks := t' } := by
  have neL : ∀ b o, X.s₀.heap.get? b = some o → b ≠ X.env.locals := fun b o e => Nat.ne_of_lt (Nat.lt_of_lt_of_le (Heap.lt_size e) I.ok.above)
  have neC : ∀ b o, X.s₀.heap.get? b = some o → b ∉ X.ex → b ∉ ch := fun b o e hx hb => by
    rcases (hch b hb).1 with z | z
    · exact hx z
    · exact absurd (Nat.lt_of_lt_of_le (Heap.lt_size e) z) (Nat.lt_irrefl _)
  have cellK : ∀ x c, X.env.cells.lookup x = some c → ∀ v, s.heap.IsCell c v → h'.IsCell c v := fun x c e v ⟨o, ho, hd⟩ => by
    have nch : c ∉ ch := fun z => (hch c z).2.2.1 x c e rfl
    by_cases hc : c ∈ X.fs
    · obtain ⟨sl, q⟩ := slot c o (I.cne x c e) hc nch ho (I.freeC x c e)
      exact ⟨_, q, hd⟩
    · exact ⟨o, keep c o (I.cne x c e) hc nch ho (I.freeC x c e), hd⟩
  refine ⟨I.ok, I.os, hg, ⟨fun b o e n hb hx => ?_, fun b o e n hb hx => ?_, fun b o e n hx => ?_, fun b o e hx => ?_, fun b xs e => tups b xs (I.base.tups b xs e), fun b o xs e => frzs b o xs (I.base.frzs b o xs e), fun b ps e => ?_⟩, ?_, fun x c e => ?_, ?_, fun x c e => ?_, fun p hp => ?_, hok, I.len⟩
  · exact keep b o (neL b o e) hb (neC b o e hx) (I.base.keep b o e n hb hx) (I.base.free b o e n hx)
  · obtain ⟨sl, e1⟩ := I.base.slot b o e n hb hx
    obtain ⟨sl', e2⟩ := slot b _ (neL b o e) hb (neC b o e hx) e1 (I.base.free b o e n hx)
    exact ⟨sl', e2⟩
  · obtain ⟨o', e1⟩ := I.base.there b o e hx
    exact free b o' (neC b o e hx) e1 (I.base.free b o e n hx)
  · obtain ⟨o', e1⟩ := I.base.there b o e hx
    exact there b o' (neC b o e hx) e1
  · obtain ⟨m1, e1⟩ := I.base.tbls b ps e
    obtain ⟨m2, e2⟩ := tbls b _ e1
    exact ⟨m1 ++ m2, by rw [e2, Array.append_assoc]⟩
  · obtain ⟨m, hn, hl⟩ := I.loc
    refine ⟨m, ns m hn, fun i x v e1 e2 e3 => ?_⟩
    obtain ⟨u, r, l⟩ := hl i x v e1 e2 e3
    refine ⟨u, r, ?_⟩
    rcases l with l | ⟨k, c, e, z⟩
    · exact .inl l
    · exact .inr ⟨k, c, e, cellK x c e _ z⟩
  · obtain ⟨v, z⟩ := I.cell x c e
    exact ⟨v, cellK x c e v z⟩
  · obtain ⟨m, ⟨o, _, _, ho, _⟩, _⟩ := I.loc
    exact free _ o (fun z => (hch _ z).2.1 rfl) ho I.free
  · obtain ⟨v, o, ho, hd⟩ := I.cell x c e
    exact free c o (fun z => (hch c z).2.2.1 x c e rfl) ho (I.freeC x c e)
  · obtain ⟨e, n, ne, nf, d⟩ := I.pin p hp
    have nch : p.1 ∉ ch := fun z => (hch p.1 z).2.2.2 p hp rfl
    exact ⟨keep p.1 p.2 ne nf nch e n, free p.1 p.2 nch e n, ne, nf, d⟩
/-- .. where the frame's own object is kept too -/
theorem Inv.un {t' : Nat} (I : Inv X pins σ H s) (u : Un X.fs [] H H' s.heap h') (hok : HOk X.prog X.w H' h') : Inv X pins σ H' { s with heap := h', toks := t' } := by
  obtain ⟨m, ⟨o, es, ep, ho, r⟩, _⟩ := id I.loc
  obtain ⟨sl, hL⟩ := u.any ho I.free (by simp)
  exact I.step (g' := s.gens) (d' := s.drawn) (ch := []) (fun _ z => nomatch z) (fun b o _ hb _ e n => u.keep b o e n hb (by simp)) (fun b o _ hb _ e n => u.slot b o e n hb (by simp)) (fun b o _ e n => u.free b o e n (by simp)) (fun b o _ e => u.there b o e (by simp)) u.tups u.frzs u.tbls (fun m' hm => by
    obtain ⟨o', es', ep', ho', r'⟩ := hm
    rw [ho] at ho'; cases ho'
    exact ⟨_, es', ep', hL, r'⟩) hok I.bare
/-- behind a call (or a comprehension's block): the slots of this frame may have changed too, the records at ch may have turned -/
theorem Inv.call {g' : Array GenState} {t' : Nat} {d' : Drawn} {ch : List Addr} (I : Inv X pins σ H s) (u : Un (frs X.stack) ch H H' s.heap h') (hok : HOk X.prog X.w H' h') (hg : AllBare g')
    (hch : ∀ b ∈ ch, (b ∈ X.ex ∨ X.s₀.heap.objs.size ≤ b) ∧ b ≠ X.env.locals ∧ (∀ x c, X.env.cells.lookup x = some c → c ≠ b) ∧ ∀ p ∈ X.pn ++ pins, p.1 ≠ b) :
    Inv X pins σ H' { s with heap := h', gens := g', drawn := d', toks := t' } := by
  obtain ⟨m, ⟨o, es, ep, ho, r⟩, _⟩ := id I.loc
  obtain ⟨sl, hL⟩ := u.any ho I.free fun z => (hch _ z).2.1 rfl
  exact I.step (ch := ch) hch (fun b o hL hb hc e n => u.keep b o e n (fun z => (List.mem_cons.mp (I.stkSub b z)).elim hL hb) hc) (fun b o _ _ hc e n => u.any e n hc) (fun b o hc e n => u.free b o e n hc) (fun b o hc e => u.there b o e hc) u.tups u.frzs u.tbls (fun m' hm => by
    obtain ⟨o', es', ep', ho', r'⟩ := hm
    rw [ho] at ho'; cases ho'
    exact ⟨_, es', ep', hL, r'⟩) hok hg
/-- an untracked record of ours (an iterator) has turned -/
theorem Inv.turned {t' : Nat} {it : Addr} (I : Inv X pins σ H s) (k : ∀ b o, b ≠ it → s.heap.get? b = some o → h'.get? b = some o) (hn : H it = none) (hL : it ≠ X.env.locals)
    (h1 : it ∈ X.ex ∨ X.s₀.heap.objs.size ≤ it) (h2 : ∀ x c, X.env.cells.lookup x = some c → c ≠ it) (h3 : ∀ p ∈ X.pn ++ pins, p.1 ≠ it) : Inv X pins σ H { s with heap := h', toks := t' } := by
  have nit : ∀ b u, H b = some u → b ≠ it := fun b u e z => by rw [z, hn] at e; cases e
  refine I.step (g' := s.gens) (d' := s.drawn) (ch := [it]) (fun b hb => ?_) (fun b o _ _ hc e _ => k b o (fun z => hc (by simp [z])) e) (fun b o _ _ hc e _ => ⟨o.slots, k b o (fun z => hc (by simp [z])) e⟩) (fun _ _ _ _ n => n)
    (fun b o hc e => ⟨o, k b o (fun z => hc (by simp [z])) e⟩) (fun _ _ e => e) (fun _ _ _ e => e) (fun b ps e => ⟨#[], by rw [e]; simp⟩) (fun m hm => ?_) (fun b u e => ?_) I.bare
  · have e : b = it := by simpa using hb
    subst e
    exact ⟨h1, hL, h2, h3⟩
  · obtain ⟨o, es, ep, ho, r⟩ := hm
    exact ⟨o, es, ep, k _ o (Ne.symm hL) ho, r⟩
  · refine (I.hok b u e).stay (fun c v hc q => k c v ?_ q) (fun _ q => q) fun _ _ q => q
    rcases hc with z | z
    · rw [z]; exact nit b u e
    · exact nit c _ z
theorem Inv.tok (I : Inv X pins σ H s) (t : Nat) : Inv X pins σ H { s with toks := t } := I.un (h' := s.heap) (t' := t) Un.refl I.hok
/-- all objects kept -/
theorem Inv.kept {t' : Nat} (I : Inv X pins σ H s) (k : ∀ b u, s.heap.get? b = some u → h'.get? b = some u) : Inv X pins σ H { s with heap := h', toks := t' } := I.un (Un.kept k) (I.hok.kept k)
/-- a new object laid and tracked -/
theorem Inv.laid {a : Addr} {o : HO} {t' : Nat} (I : Inv X pins σ H s) (k : ∀ b u, s.heap.get? b = some u → h'.get? b = some u) (hp : s.heap.objs.size ≤ a) (new : ObjOk X.prog X.w (upd H a o) h' a o) :
    Inv X pins σ (upd H a o) { s with heap := h', toks := t' } := I.un (Un.laid k hp (I.hok.fresh hp)) (I.hok.laid k hp new)
/-- an object written -/
theorem Inv.write {x e : Addr} {o : HO} {t' : Nat} (I : Inv X pins σ H s) (mu : Mut (H x)) (he : e = x ∨ H e = some (.own x)) (k : ∀ b u, b ≠ e → s.heap.get? b = some u → h'.get? b = some u) (heo : ∃ u, h'.get? e = some u)
    (new : ObjOk X.prog X.w (upd H x o) h' x o) : Inv X pins σ (upd H x o) { s with heap := h', toks := t' } := I.un (Un.write mu he k heo) (I.hok.write mu he k heo new)
theorem Inv.pins_of {pins' : List (Addr × Obj)} (I : Inv X pins σ H s) (h : ∀ p ∈ pins', s.heap.get? p.1 = some p.2 ∧ H p.1 = none ∧ p.1 ≠ X.env.locals ∧ p.1 ∉ X.fs ∧ ∀ v, p.2.data ≠ .cell v) : Inv X pins' σ H s :=
  ⟨I.ok, I.os, I.bare, I.base, I.loc, I.cell, I.free, I.freeC, fun p hp => (List.mem_append.mp hp).elim (fun z => I.pin p (List.mem_append_left _ z)) (h p), I.hok, I.len⟩

theorem nodup_ix {N : List Str} (hN : N.Nodup) {i j : Nat} {x : Str} (a : N[i]? = some x) (b : N[j]? = some x) : i = j := by
  obtain ⟨h1, e1⟩ := List.getElem?_eq_some_iff.mp a
  obtain ⟨h2, e2⟩ := List.getElem?_eq_some_iff.mp b
  exact (List.getElem_inj hN).mp (e1.trans e2.symm)

/-- a name is stored; what changed -/
theorem store_ok2 {M : Model} {A : Around} {E : Value → Shared → Prop} {i : Nat} {x : Str} {v : V} {u : Value} {Q : Unit → Shared → Prop} (I : Inv X pins σ H s) (hN : X.N.Nodup) (hi : X.N[i]? = some x) (hx : Loc X.env.scope x) (r : RelV v u)
    (h : ∀ s', Inv X pins (σ.set i (some v)) H s' → (∃ a, Heap.SameBut a s.heap s'.heap ∧ (a = X.env.locals ∨ X.env.cells.lookup x = some a)) → Q () s') (hf : X.fn x = true ∨ X.env.scope.names.lookup x = some .local := by first | exact .inl rfl | exact .inr rfl | assumption) : wpAny M A (storeName X.env x u) Q E s := by
  obtain ⟨m, hn, hl⟩ := id I.loc
  have hcls : (X.env.scope.kind == .class || (X.env.scope.kind == .module && X.env.locals != X.env.globals)) = false := by rw [I.ok.kind]; rfl
  have hiσ : i < σ.length := by rw [I.len]; exact (List.getElem?_eq_some_iff.mp hi).1
  have cne := I.cne
  have tracked : ∀ {a : Addr} {h' : Heap}, (∃ o, s.heap.get? a = some o ∧ H a = none) → Heap.SameBut a s.heap h' → HOk X.prog X.w H h' := fun {a h'} ha hs b ob e => by
    obtain ⟨_, _, hfree⟩ := ha
    refine (I.hok b ob e).stay (fun c w' hc q => (hs.2 c ?_).trans q) (fun _ q => q) fun _ _ q => q
    rintro rfl
    rcases hc with rfl | hc
    · rw [hfree] at e; cases e
    · rw [hfree] at hc; cases hc
  rcases hx with hk | hk
  · refine wpAny_storeName_local hk hn (fun h' hn' hs => ?_) hcls
    obtain ⟨oL, _, _, hoL, _⟩ := id hn
    refine h _ ⟨I.ok, I.os, I.bare, ⟨fun b o e n hb hx => ?_, fun b o e n hb hx => ?_, I.base.free, fun b o e hx => ?_, I.base.tups, I.base.frzs, I.base.tbls⟩, ⟨_, hn', fun j y v' e1 e2 e3 => ?_⟩, fun y c e => ?_, I.free, I.freeC, fun p hp => ?_, tracked ⟨oL, hoL, I.free⟩ hs, by simpa using I.len⟩ ⟨_, hs, .inl rfl⟩
    · exact (hs.2 b (Nat.ne_of_lt (Nat.lt_of_lt_of_le (Heap.lt_size e) I.ok.above))).trans (I.base.keep b o e n hb hx)
    · obtain ⟨sl, e1⟩ := I.base.slot b o e n hb hx
      exact ⟨sl, (hs.2 b (Nat.ne_of_lt (Nat.lt_of_lt_of_le (Heap.lt_size e) I.ok.above))).trans e1⟩
    · obtain ⟨o', e1⟩ := I.base.there b o e hx
      exact ⟨o', (hs.2 b (Nat.ne_of_lt (Nat.lt_of_lt_of_le (Heap.lt_size e) I.ok.above))).trans e1⟩
    · by_cases hj : j = i
      · subst hj
        rw [hi] at e1; cases e1
        rw [List.getElem?_set_self hiσ] at e2
        cases e2
        exact ⟨u, r, .inl ⟨hk, by simp⟩⟩
      · rw [List.getElem?_set_ne (Ne.symm hj)] at e2
        obtain ⟨u', r', q⟩ := hl j y v' e1 e2 e3
        refine ⟨u', r', ?_⟩
        rcases q with ⟨k, e⟩ | ⟨k, c, e, z⟩
        · refine .inl ⟨k, ?_⟩
          have : y ≠ x := fun e => hj (nodup_ix hN e1 (e ▸ hi))
          simp [this, e]
        · exact .inr ⟨k, c, e, z.sameBut hs (cne y c e)⟩
    · obtain ⟨w', z⟩ := I.cell y c e
      exact ⟨w', z.sameBut hs (cne y c e)⟩
    · obtain ⟨e, n, ne, nf, d⟩ := I.pin p hp
      exact ⟨(hs.2 p.1 ne).trans e, n, ne, nf, d⟩
  · have hfn : X.fn x = true := by
      rcases hf with z | z
      · exact z
      · rw [z] at hk; cases hk
    obtain ⟨c, hc⟩ := I.ok.has x (.inl hk)
    obtain ⟨w', z⟩ := I.cell x c hc
    refine wpAny_storeName_cell I.ok.kind hk hc z (fun h' hc' hs => ?_)
    obtain ⟨oc, hoc, hocd⟩ := id z
    refine h { s with heap := h' } ⟨I.ok, I.os, I.bare, ⟨fun b o e n hb hx => ?_, fun b o e n hb hx => ?_, I.base.free, fun b o e hx => ?_, I.base.tups, I.base.frzs, I.base.tbls⟩, ⟨m, hn.sameBut hs (Ne.symm (cne x c hc)), fun j y v' e1 e2 e3 => ?_⟩, fun y c' e => ?_, I.free, I.freeC, fun p hp => ?_, tracked ⟨oc, hoc, I.freeC x c hc⟩ hs, by simpa using I.len⟩ ⟨c, hs, .inr hc⟩
    · exact (hs.2 b (Nat.ne_of_lt (Nat.lt_of_lt_of_le (Heap.lt_size e) (I.ok.cab x c hfn hc)))).trans (I.base.keep b o e n hb hx)
    · obtain ⟨sl, e1⟩ := I.base.slot b o e n hb hx
      exact ⟨sl, (hs.2 b (Nat.ne_of_lt (Nat.lt_of_lt_of_le (Heap.lt_size e) (I.ok.cab x c hfn hc)))).trans e1⟩
    · obtain ⟨o', e1⟩ := I.base.there b o e hx
      exact ⟨o', (hs.2 b (Nat.ne_of_lt (Nat.lt_of_lt_of_le (Heap.lt_size e) (I.ok.cab x c hfn hc)))).trans e1⟩
    · by_cases hj : j = i
      · subst hj
        rw [hi] at e1; cases e1
        rw [List.getElem?_set_self hiσ] at e2
        cases e2
        exact ⟨u, r, .inr ⟨.inl hk, c, hc, hc'⟩⟩
      · rw [List.getElem?_set_ne (Ne.symm hj)] at e2
        obtain ⟨u', r', q⟩ := hl j y v' e1 e2 e3
        refine ⟨u', r', ?_⟩
        rcases q with q | ⟨k, c', e, z'⟩
        · exact .inl q
        · refine .inr ⟨k, c', e, z'.sameBut hs ?_⟩
          rintro rfl
          exact hj (nodup_ix hN e1 (I.ok.inj _ _ _ e hc ▸ hi))
    · by_cases hcc : c' = c
      · subst hcc; exact ⟨_, hc'⟩
      · obtain ⟨w2, z2⟩ := I.cell y c' e
        exact ⟨w2, z2.sameBut hs hcc⟩
    · obtain ⟨e, n, ne, nf, d⟩ := I.pin p hp
      refine ⟨(hs.2 p.1 ?_).trans e, n, ne, nf, d⟩
      intro q
      rw [q, hoc] at e
      have q' : oc = p.2 := Option.some.inj e
      exact d w' (by rw [← q']; exact hocd)
theorem store_ok {M : Model} {A : Around} {E : Value → Shared → Prop} {i : Nat} {x : Str} {v : V} {u : Value} {Q : Unit → Shared → Prop} (I : Inv X pins σ H s) (hN : X.N.Nodup) (hi : X.N[i]? = some x) (hx : Loc X.env.scope x) (r : RelV v u)
    (h : ∀ s', Inv X pins (σ.set i (some v)) H s' → Q () s') (hf : X.fn x = true ∨ X.env.scope.names.lookup x = some .local := by first | exact .inl rfl | exact .inr rfl | assumption) : wpAny M A (storeName X.env x u) Q E s :=
  store_ok2 I hN hi hx r (fun s' I' _ => h s' I') hf
/-- behind a call or a block, the state as it is -/
theorem Inv.call' {s' : Shared} {ch : List Addr} (I : Inv X pins σ H s) (ho : s'.os = s.os) (u : Un (frs X.stack) ch H H' s.heap s'.heap) (hok : HOk X.prog X.w H' s'.heap) (hg : AllBare s'.gens)
    (hch : ∀ b ∈ ch, (b ∈ X.ex ∨ X.s₀.heap.objs.size ≤ b) ∧ b ≠ X.env.locals ∧ (∀ x c, X.env.cells.lookup x = some c → c ≠ b) ∧ ∀ p ∈ X.pn ++ pins, p.1 ≠ b) : Inv X pins σ H' s' := by
  obtain ⟨h', g', d', t', o'⟩ := s'
  have e : o' = s.os := ho
  subst e
  exact I.call (g' := g') (t' := t') (d' := d') u hok hg hch
end

/-! ### the judgements -/
/-- an exception: its class, its own dict's address (where it has one), the abstract heap behind it -/
abbrev XK := Value → Option Addr → Hp → Prop
abbrev St := List (Option V)
abbrev VK := V → Hp → Prop
/-- an expression's reading; a test's; an argument list's -/
abbrev TE := St → Hp → VK → Prop
abbrev TT := St → Hp → (Bool → Hp → Prop) → Prop
abbrev TA := St → Hp → (List V → Hp → Prop) → Prop
/-- what is wanted behind a statement -/
structure Ends where
  nx : St → Hp → Prop
  rt : VK
  bk : St → Hp → Prop := fun _ _ => False
  ct : St → Hp → Prop := fun _ _ => False
abbrev TS := Ends → St → Hp → Prop

def EP (X : Cx) (pins : List (Addr × Obj)) (σ : St) (Q : VK) (u : Value) (s' : Shared) : Prop := ∃ v H', Inv X pins σ H' s' ∧ RelV v u ∧ Q v H'
def TP (X : Cx) (pins : List (Addr × Obj)) (σ : St) (Q : Bool → Hp → Prop) (b : Bool) (s' : Shared) : Prop := ∃ H', Inv X pins σ H' s' ∧ Q b H'
def AP (X : Cx) (pins : List (Addr × Obj)) (σ : St) (Q : List V → Hp → Prop) (us : List Value) (s' : Shared) : Prop := ∃ vs H', Inv X pins σ H' s' ∧ Vals vs us ∧ Q vs H'
def SP (X : Cx) (pins : List (Addr × Obj)) (D : Ends) (f : Flow) (s' : Shared) : Prop :=
  match f with
  | .next => ∃ σ' H', Inv X pins σ' H' s' ∧ D.nx σ' H'
  | .brk => ∃ σ' H', Inv X pins σ' H' s' ∧ D.bk σ' H'
  | .cont => ∃ σ' H', Inv X pins σ' H' s' ∧ D.ct σ' H'
  | .ret u => ∃ v σ' H', Inv X pins σ' H' s' ∧ RelV v u ∧ D.rt v H'

def PE (X : Cx) (e : Expr) (t : TE) : Prop :=
  ∀ (pins : List (Addr × Obj)) (s : Shared) (σ : St) (H : Hp) (Q : VK), Inv X pins σ H s → t σ H Q → wpAny (model X.prog X.w) X.A (eval e X.env) (EP X pins σ Q) X.xe s
def PT (X : Cx) (e : Expr) (t : TT) : Prop :=
  ∀ (pins : List (Addr × Obj)) (s : Shared) (σ : St) (H : Hp) (Q : Bool → Hp → Prop), Inv X pins σ H s → t σ H Q → wpAny (model X.prog X.w) X.A (isTrue e X.env (eval e X.env)) (TP X pins σ Q) X.xe s
/-- a test whatever its 'whole' is (and, or) -/
def PW (X : Cx) (e : Expr) (t : TT) : Prop :=
  ∀ (whole : Sem Value) (pins : List (Addr × Obj)) (s : Shared) (σ : St) (H : Hp) (Q : Bool → Hp → Prop), Inv X pins σ H s → t σ H Q → wpAny (model X.prog X.w) X.A (isTrue e X.env whole) (TP X pins σ Q) X.xe s
theorem PW.pt {X : Cx} {e : Expr} {t : TT} (h : PW X e t) : PT X e t := h _
/-- an argument list (no star), from the left -/
def PA (X : Cx) (es : List Expr) (t : TA) : Prop :=
  ∀ (pos : Pos) (pins : List (Addr × Obj)) (s : Shared) (σ : St) (H : Hp) (Q : List V → Hp → Prop), Inv X pins σ H s → t σ H Q → wpAny (model X.prog X.w) X.A (spliced (backTo pos (starEach es X.env))) (AP X pins σ Q) X.xe s
def PS (X : Cx) (st : Stmt) (t : TS) : Prop :=
  ∀ (pins : List (Addr × Obj)) (s : Shared) (σ : St) (H : Hp) (D : Ends), Inv X pins σ H s → t D σ H → wpAny (model X.prog X.w) X.A (exec st X.env) (SP X pins D) X.xe s
def PSs (X : Cx) (st : List Stmt) (t : TS) : Prop :=
  ∀ (pins : List (Addr × Obj)) (s : Shared) (σ : St) (H : Hp) (D : Ends), Inv X pins σ H s → t D σ H → wpAny (model X.prog X.w) X.A (execs st X.env) (SP X pins D) X.xe s
/-- weaken the end -/
theorem thn {α : Type} {t : Sem α} {Q Q' : α → Shared → Prop} {M : Model} {A : Around} {E : Value → Shared → Prop} {s : Shared} (h : wpAny M A t Q E s) (hQ : ∀ a s, Q a s → Q' a s) : wpAny M A t Q' E s := wpAny_mono h hQ fun _ _ x => x
end L2

namespace L2
open PySem PySem.Spec PyProof.Rows
section
variable {X : Cx}

/-! ### names and constants -/
def tVar (i : Nat) : TE := fun σ H Q => ∃ v, σ[i]? = some (some v) ∧ Q v H
def tC (v : V) : TE := fun _ H Q => Q v H
theorem pe_var {i : Nat} {x : Str} {pos : Pos} (hN : X.N[i]? = some x) (hv : Vis X.env.scope x) (hd : (x == ("__debug__" : Str)) = false := by decide) (hcd : (x == ("__classdict__" : Str)) = false := by decide) : PE X (.Name x pos) (tVar i) := by
  intro pins s σ H Q I h
  obtain ⟨v, e, h⟩ := h
  obtain ⟨m, hn, hl⟩ := I.loc
  obtain ⟨u, r, l⟩ := hl i x v hN e hv
  have fin : EP X pins σ Q u s := ⟨v, H, I, r, h⟩
  rcases l with ⟨hk, hm⟩ | ⟨hk, c, hc, hcell⟩
  · exact wpAny_Name (wpAny_loadName_local I.ok.kind hk hn hm fin) hd
  · rcases hk with hk | hk
    · exact wpAny_Name (wpAny_loadName_cell I.ok.kind hk hc hcell fin) hd
    · exact wpAny_Name (wpAny_loadName_free I.ok.kind hk hc hcell fin hcd) hd
theorem pe_int {i j pos} : PE X (.Constant (.int i) j pos) (tC (.int i)) := fun _ _ _ H _ I h => wpAny_Constant_int ⟨.int i, H, I.tok _, ⟨_, rfl⟩, h⟩
theorem pe_bl {b j pos} : PE X (.Constant (.bool b) j pos) (tC (.bl b)) := fun _ _ _ H _ I h => Constant_bool ⟨.bl b, H, I, rfl, h⟩
theorem pe_non {j pos} : PE X (.Constant .none j pos) (tC .non) := fun _ _ _ H _ I h => Constant_none ⟨.non, H, I, rfl, h⟩
theorem pe_str {x j pos} : PE X (.Constant (.str x) j pos) (tC (.str x)) := fun _ _ _ H _ I h => Calls.Constant_str ⟨.str x, H, I.tok _, ⟨_, rfl⟩, h⟩

/-- a global name of the def -/
def Gl (X : Cx) (x : Str) : Prop := X.env.kindOf x = some .globalImplicit
theorem ld_glob {E : Value → Shared → Prop} {pins : List (Addr × Obj)} {s : Shared} {σ : St} {H : Hp} {x : Str} {u : Value} {pos : Pos} {Q : Value → Shared → Prop} (I : Inv X pins σ H s) (hg : Gl X x) (hm : X.mg x = some u) (h : Q u s)
    (hd : (x == ("__debug__" : Str)) = false := by decide) : wpAny (model X.prog X.w) X.A (eval (.Name x pos) X.env) Q E s :=
  Calls.Name_function_global I.ok.kind hg (Calls.loadGlobal_global (by rw [I.ok.glob]; exact I.mod.glob.keeps I.bk) hm h) hd
theorem ld_blt {E : Value → Shared → Prop} {pins : List (Addr × Obj)} {s : Shared} {σ : St} {H : Hp} {x : Str} {u : Value} {pos : Pos} {Q : Value → Shared → Prop} (I : Inv X pins σ H s) (hg : Gl X x) (hm : X.mg x = none) (hv : bootBuiltins x = some u) (h : Q u s)
    (hn : x ≠ "__name__" := by decide) (hd : (x == ("__debug__" : Str)) = false := by decide) : wpAny (model X.prog X.w) X.A (eval (.Name x pos) X.env) Q E s := by
  obtain ⟨mb, h1, h2⟩ := I.mod.blt
  exact Calls.Name_function_global I.ok.kind hg (Calls.loadGlobal_builtin (by rw [I.ok.glob]; exact I.mod.glob.keeps I.bk) hm (by rw [I.ok.blt]; exact h1.keeps I.bk) ((h2 x hn).trans hv) h) hd
/-- a module's constant, a class, a function, as a value -/
theorem pe_glob {x : Str} {v : V} {u : Value} {pos : Pos} (hg : Gl X x) (hm : X.mg x = some u) (r : RelV v u) (hd : (x == ("__debug__" : Str)) = false := by decide) : PE X (.Name x pos) (tC v) :=
  fun _ _ _ H _ I h => ld_glob I hg hm ⟨v, H, I, r, h⟩ hd
theorem pe_bltn {x : Str} {v : V} {u : Value} {pos : Pos} (hg : Gl X x) (hm : X.mg x = none) (hv : bootBuiltins x = some u) (r : RelV v u) (hn : x ≠ "__name__" := by decide) (hd : (x == ("__debug__" : Str)) = false := by decide) : PE X (.Name x pos) (tC v) :=
  fun _ _ _ H _ I h => ld_blt I hg hm hv ⟨v, H, I, r, h⟩ hn hd

/-! ### arithmetic -/
/-- two ints -/
def t2I (ta tb : TE) (k : Int → Int → Hp → Prop) : St → Hp → Prop := fun σ H => ta σ H fun x H1 => tb σ H1 fun y H2 => ∃ i j, x = .int i ∧ y = .int j ∧ k i j H2
variable {a b : Expr} {ta tb : TE} {pos : Pos}
def tCmp (p : Int → Int → Bool) (ta tb : TE) : TE := fun σ H Q => t2I ta tb (fun i j H2 => Q (.bl (p i j)) H2) σ H
abbrev tLt : TE → TE → TE := tCmp fun i j => decide (i < j)
abbrev tLe : TE → TE → TE := tCmp fun i j => decide (i ≤ j)
abbrev tGt : TE → TE → TE := tCmp fun i j => decide (j < i)
abbrev tGe : TE → TE → TE := tCmp fun i j => decide (j ≤ i)
abbrev tEqI : TE → TE → TE := tCmp fun i j => decide (i = j)
abbrev tNeI : TE → TE → TE := tCmp fun i j => !decide (i = j)
/-- a comparison as a value, as a test -/
def tB (t : TE) : TT := fun σ H Q => t σ H fun x H1 => ∃ c, x = .bl c ∧ Q c H1
/-- an expression whose value is a bool, as a test -/
theorem pt_val {e : Expr} {t : TE} (h : PE X e t) (he : ∀ whole, isTrue e X.env whole = (do let v ← whole; standAt e.pos; holding [v] (truthy v)) := by intro _; rfl) : PT X e (tB t) := by
  intro pins s σ H Q I hw
  refine isTrue_plain (thn (h pins s σ H _ I hw) fun v s1 ⟨x, H1, I1, r1, q1⟩ => ?_) (he _)
  obtain ⟨d, rfl, q⟩ := q1
  cases r1
  exact wpAny_truthy_bool ⟨H1, I1, q⟩

/-! ### and, or, not -/
variable {tA tB' : TT} {rest : List Expr}
def tAnd (t u : TT) : TT := fun σ H Q => t σ H fun c H1 => if c = true then u σ H1 Q else Q false H1
def tOr (t u : TT) : TT := fun σ H Q => t σ H fun c H1 => if c = true then Q true H1 else u σ H1 Q
def tNot (t : TT) : TT := fun σ H Q => t σ H fun c H1 => Q (!c) H1
theorem pw_and1 (ha : PT X a tA) : PW X (.BoolOp .And [a] pos) tA := by
  intro wh pins s σ H Q I h
  refine isTrue_and (thn (ha pins s σ H Q I h) fun c s1 e => ?_)
  cases c with
  | true => exact isTrue_and_nil e
  | false => exact e
theorem pw_or1 (ha : PT X a tA) : PW X (.BoolOp .Or [a] pos) tA := by
  intro wh pins s σ H Q I h
  refine isTrue_or (thn (ha pins s σ H Q I h) fun c s1 e => ?_)
  cases c with
  | false => exact isTrue_or_nil e
  | true => exact e
theorem pw_and (ha : PT X a tA) (hb : PW X (.BoolOp .And (b :: rest) pos) tB') : PW X (.BoolOp .And (a :: b :: rest) pos) (tAnd tA tB') := by
  intro wh pins s σ H Q I h
  refine isTrue_and (thn (ha pins s σ H _ I h) fun c s1 ⟨H1, I1, q1⟩ => ?_)
  cases c with
  | true => exact hb wh pins s1 σ H1 Q I1 q1
  | false => exact ⟨H1, I1, q1⟩
theorem pw_or (ha : PT X a tA) (hb : PW X (.BoolOp .Or (b :: rest) pos) tB') : PW X (.BoolOp .Or (a :: b :: rest) pos) (tOr tA tB') := by
  intro wh pins s σ H Q I h
  refine isTrue_or (thn (ha pins s σ H _ I h) fun c s1 ⟨H1, I1, q1⟩ => ?_)
  cases c with
  | true => exact ⟨H1, I1, q1⟩
  | false => exact hb wh pins s1 σ H1 Q I1 q1
theorem pt_not (ha : PT X a tA) : PT X (.UnaryOp .Not a pos) (tNot tA) := by
  intro pins s σ H Q I h
  exact isTrue_not (ha pins s σ H (fun c H1 => Q (!c) H1) I h)
/-- .. as values (bools) -/
def tAndV (ta tb : TE) : TE := fun σ H Q => ta σ H fun x H1 => ∃ c, x = .bl c ∧ if c = true then tb σ H1 Q else Q (.bl false) H1
def tOrV (ta tb : TE) : TE := fun σ H Q => ta σ H fun x H1 => ∃ c, x = .bl c ∧ if c = true then Q (.bl true) H1 else tb σ H1 Q
def tNotV (ta : TE) : TE := fun σ H Q => ta σ H fun x H1 => ∃ c, x = .bl c ∧ Q (.bl (!c)) H1
theorem pe_one {op} {t : TE} (h : PE X a t) : PE X (.BoolOp op [a] pos) t := fun pins s σ H Q I hw => BoolOp_one (h pins s σ H Q I hw)
theorem pe_and (ha : PE X a ta) (hb : PE X (.BoolOp .And (b :: rest) pos) tb) : PE X (.BoolOp .And (a :: b :: rest) pos) (tAndV ta tb) := by
  intro pins s σ H Q I h
  refine BoolOp_and (thn (ha pins s σ H _ I h) fun v s1 ⟨x, H1, I1, r1, q1⟩ => ?_)
  obtain ⟨c, rfl, q1⟩ := q1
  cases r1
  refine wpAny_truthy_bool ?_
  cases c with
  | true => exact hb pins s1 σ H1 Q I1 q1
  | false => exact ⟨.bl false, H1, I1, rfl, q1⟩
theorem pe_or (ha : PE X a ta) (hb : PE X (.BoolOp .Or (b :: rest) pos) tb) : PE X (.BoolOp .Or (a :: b :: rest) pos) (tOrV ta tb) := by
  intro pins s σ H Q I h
  refine BoolOp_or (thn (ha pins s σ H _ I h) fun v s1 ⟨x, H1, I1, r1, q1⟩ => ?_)
  obtain ⟨c, rfl, q1⟩ := q1
  cases r1
  refine wpAny_truthy_bool ?_
  cases c with
  | false => exact hb pins s1 σ H1 Q I1 q1
  | true => exact ⟨.bl true, H1, I1, rfl, q1⟩
theorem pe_not (ha : PE X a ta) : PE X (.UnaryOp .Not a pos) (tNotV ta) := by
  intro pins s σ H Q I h
  refine UnaryOp_ (thn (ha pins s σ H _ I h) fun v s1 ⟨x, H1, I1, r1, q1⟩ => ?_)
  obtain ⟨c, rfl, q1⟩ := q1
  cases r1
  exact not_of (wpAny_truthy_bool ⟨.bl (!c), H1, I1, rfl, q1⟩)
end
end L2

namespace L2
open PySem PySem.Spec PyProof.Rows

/-! ### a list, a tuple that is read: tracked, frozen, or an object of the module -/
def SqL (K : PySem.W.Frag) (H : Hp) (a : Addr) (xs : List V) : Prop :=
  Rd H a (.lst xs) ∨
    ∃ (o : Obj) (its : Array Value) (n : Nat), K.lookup a = some o ∧ o.cls = .type "list" ∧ o.dict = none ∧ o.data = .seq its n ∧ its.size ≤ sizeLine ∧ Vals xs its.toList
def SqT (K : PySem.W.Frag) (H : Hp) (a : Addr) (xs : List V) : Prop :=
  Rd H a (.tup xs) ∨
    ∃ (o : Obj) (its : Array Value) (n : Nat), K.lookup a = some o ∧ o.cls = .type "tuple" ∧ o.data = .seq its n ∧ its.size ≤ sizeLine ∧ Vals xs its.toList
def absV : Value → Option V
  | .none => some .non
  | .bool b => some (.bl b)
  | .int i _ => some (.int i)
  | .str x _ => some (.str x)
  | .bytes b _ => some (.byt b)
  | .float b _ => some (.flt b)
  | .ref a => some (.ref a)
  | .type n => some (.ty n)
  | _ => none
theorem RelV.abs {x : V} {u : Value} (r : RelV x u) : absV u = some x := by
  cases x with
  | non => cases r; rfl
  | bl _ => cases r; rfl
  | int _ => obtain ⟨t, rfl⟩ := r; rfl
  | str _ => obtain ⟨t, rfl⟩ := r; rfl
  | byt _ => obtain ⟨t, rfl⟩ := r; rfl
  | flt _ => obtain ⟨t, rfl⟩ := r; rfl
  | ref _ => cases r; rfl
  | ty _ => cases r; rfl
theorem RelV.inj {x y : V} {u : Value} (r : RelV x u) (q : RelV y u) : x = y := Option.some.inj (r.abs.symm.trans q.abs)
theorem Vals.inj : ∀ {xs ys : List V} {us : List Value}, Vals xs us → Vals ys us → xs = ys
  | _, _, _, .nil, .nil => rfl
  | _, _, _, .cons r t, .cons r' t' => by rw [r.inj r', Vals.inj t t']
section
variable {X : Cx} {pins : List (Addr × Obj)} {σ : St} {H : Hp} {s : Shared} {a : Addr} {xs ys : List V}
theorem SqL.of {K : PySem.W.Frag} (h : H a = some (.lst xs)) : SqL K H a xs := .inl (.inl h)
theorem SqT.of {K : PySem.W.Frag} (h : H a = some (.tup xs)) : SqT K H a xs := .inl (.inl h)
theorem Inv.list (I : Inv X pins σ H s) (h : SqL X.K H a xs) : ∃ its : List Value, Vals xs its ∧ PlainL s.heap a its.toArray ∧ xs.length ≤ sizeLine := by
  rcases h with h | ⟨o, its, n, hk, hc, hd, hs, hz, r⟩
  · obtain ⟨z, its, n, r, e⟩ := h.ok I.hok
    exact ⟨its, r, ⟨_, n, e, rfl, rfl, rfl⟩, z⟩
  · refine ⟨its.toList, r, ⟨o, n, I.kIn a o hk, hc, hd, by simpa using hs⟩, ?_⟩
    have e := r.length
    simp only [Array.length_toList] at e
    omega
theorem Inv.tuple (I : Inv X pins σ H s) (h : SqT X.K H a xs) : ∃ its : List Value, Vals xs its ∧ IsTup s.heap a its.toArray ∧ xs.length ≤ sizeLine := by
  rcases h with h | ⟨o, its, n, hk, hc, hs, hz, r⟩
  · obtain ⟨z, its, r, p⟩ := h.ok I.hok
    exact ⟨its, r, p.tup, z⟩
  · refine ⟨its.toList, r, ⟨o, I.kIn a o hk, hc, n, by simpa using hs⟩, ?_⟩
    have e := r.length
    simp only [Array.length_toList] at e
    omega
theorem Inv.list_inj (I : Inv X pins σ H s) (h : SqL X.K H a xs) (h' : SqL X.K H a ys) : xs = ys := by
  obtain ⟨its, r, ⟨o, n, e, _, _, d⟩, _⟩ := I.list h
  obtain ⟨its', r', ⟨o', n', e', _, _, d'⟩, _⟩ := I.list h'
  rw [e] at e'; cases e'
  rw [d] at d'
  injection d' with d1 _
  have : its = its' := by simpa using congrArg Array.toList d1
  subst this
  exact r.inj r'
theorem Inv.tuple_inj (I : Inv X pins σ H s) (h : SqT X.K H a xs) (h' : SqT X.K H a ys) : xs = ys := by
  obtain ⟨its, r, ⟨o, e, _, n, d⟩, _⟩ := I.tuple h
  obtain ⟨its', r', ⟨o', e', _, n', d'⟩, _⟩ := I.tuple h'
  rw [e] at e'; cases e'
  rw [d] at d'
  injection d' with d1 _
  have : its = its' := by simpa using congrArg Array.toList d1
  subst this
  exact r.inj r'
end

/-! ### another wish about exceptions -/
abbrev Cx.wish (X : Cx) (E : Value → Shared → Prop) : Cx := { X with xe := E }
/-- no exception leaves -/
abbrev Cx.nox (X : Cx) : Cx := X.wish fun _ _ => False
theorem Cx.Ok.wish {X : Cx} (ok : X.Ok) (E : Value → Shared → Prop) : (X.wish E).Ok :=
  ⟨ok.mod, ok.kind, ok.glob, ok.blt, ok.above, ok.inj, ok.has, ok.cab, ok.hd, ok.frames, ok.stk, ok.exf, ok.bs, ok.bsz, ok.noex, ok.exfs, ok.funs, ok.frf⟩
theorem Cx.Ok.unwish {X : Cx} {E : Value → Shared → Prop} (ok : (X.wish E).Ok) : X.Ok :=
  ⟨ok.mod, ok.kind, ok.glob, ok.blt, ok.above, ok.inj, ok.has, ok.cab, ok.hd, ok.frames, ok.stk, ok.exf, ok.bs, ok.bsz, ok.noex, ok.exfs, ok.funs, ok.frf⟩
section
variable {X : Cx} {pins : List (Addr × Obj)} {σ : St} {H : Hp} {s : Shared} {E : Value → Shared → Prop}
theorem Inv.wish (I : Inv X pins σ H s) (E : Value → Shared → Prop) : Inv (X.wish E) pins σ H s := ⟨I.ok.wish E, I.os, I.bare, I.base, I.loc, I.cell, I.free, I.freeC, I.pin, I.hok, I.len⟩
theorem Inv.unwish (I : Inv (X.wish E) pins σ H s) : Inv X pins σ H s := ⟨I.ok.unwish, I.os, I.bare, I.base, I.loc, I.cell, I.free, I.freeC, I.pin, I.hok, I.len⟩
theorem SP.unwish {D : Ends} {f : Flow} {s' : Shared} (h : SP (X.wish E) pins D f s') : SP X pins D f s' := by
  cases f with
  | next => obtain ⟨σ', H', I, q⟩ := h; exact ⟨σ', H', I.unwish, q⟩
  | brk => obtain ⟨σ', H', I, q⟩ := h; exact ⟨σ', H', I.unwish, q⟩
  | cont => obtain ⟨σ', H', I, q⟩ := h; exact ⟨σ', H', I.unwish, q⟩
  | ret u => obtain ⟨v, σ', H', I, r, q⟩ := h; exact ⟨v, σ', H', I.unwish, r, q⟩
theorem PE.nox {e : Expr} {t : TE} (h : PE X.nox e t) : PE X e t := fun pins s σ H Q I hw =>
  wpAny_mono (h pins s σ H Q (I.wish _) hw) (fun _ _ ⟨v, H', I', r, q⟩ => ⟨v, H', I'.unwish, r, q⟩) fun _ _ z => False.elim z
theorem PT.nox {e : Expr} {t : TT} (h : PT X.nox e t) : PT X e t := fun pins s σ H Q I hw =>
  wpAny_mono (h pins s σ H Q (I.wish _) hw) (fun _ _ ⟨H', I', q⟩ => ⟨H', I'.unwish, q⟩) fun _ _ z => False.elim z
theorem PSs.nox {st : List Stmt} {t : TS} (h : PSs X.nox st t) : PSs X st t := fun pins s σ H D I hw =>
  wpAny_mono (h pins s σ H D (I.wish _) hw) (fun _ _ q => q.unwish) fun _ _ z => False.elim z
end

/-! ### blocks and small statements -/
section
variable {X : Cx} {st : Stmt} {rest : List Stmt} {t u : TS} {e : Expr} {te : TE} {pos : Pos}
def tNext : TS := fun D σ H => D.nx σ H
def tSeq (t u : TS) : TS := fun D σ H => t { D with nx := u D } σ H
theorem pss_nil : PSs X [] tNext := fun _ _ σ H _ I h => wpAny_execs_nil ⟨σ, H, I, h⟩
theorem pss_cons (h1 : PS X st t) (h2 : PSs X rest u) : PSs X (st :: rest) (tSeq t u) := by
  intro pins s σ H D I h
  refine wpAny_execs_cons (thn (h1 pins s σ H { D with nx := u D } I h) fun f s1 q => ?_)
  cases f with
  | next =>
    obtain ⟨σ', H', I', q⟩ := q
    exact h2 pins s1 σ' H' D I' q
  | ret v => exact q
  | brk => exact q
  | cont => exact q
theorem pss_one (h1 : PS X st t) : PSs X [st] t := by
  intro pins s σ H D I h
  refine wpAny_execs_cons (thn (h1 pins s σ H D I h) fun f s1 q => ?_)
  cases f with
  | next => exact wpAny_execs_nil q
  | ret v => exact q
  | brk => exact q
  | cont => exact q
/-- in a def's body nothing is shown -/
theorem Inv.quiet {pins : List (Addr × Obj)} {σ : St} {H : Hp} {s : Shared} (I : Inv X pins σ H s) : interactive X.env = false := by simp [interactive, I.ok.kind]
/-- an expression whose value is dropped -/
def tDrop (te : TE) : TS := fun D σ H => te σ H fun _ H1 => D.nx σ H1
theorem ps_expr (he : PE X e te) (hs : swapsWith e none pos.line X.env = pure false := by rfl) : PS X (.Expr e pos) (tDrop te) := by
  intro pins s σ H D I h
  exact wpAny_Expr_any (thn (he pins s σ H _ I h) fun v s1 ⟨x, H1, I1, r1, q1⟩ => ⟨σ, H1, I1, q1⟩) I.quiet hs
def tRet (te : TE) : TS := fun D σ H => te σ H D.rt
theorem ps_ret (he : PE X e te) : PS X (.Return (some e) pos) (tRet te) := by
  intro pins s σ H D I h
  exact wpAny_Return_some (thn (he pins s σ H _ I h) fun v s1 ⟨x, H1, I1, r1, q1⟩ => ⟨x, σ, H1, I1, r1, q1⟩)
def tIfS (c : TT) (t u : TS) : TS := fun D σ H => c σ H fun b H1 => if b = true then t D σ H1 else u D σ H1
theorem ps_if {c : Expr} {a b : List Stmt} {tc : TT} (hc : PT X c tc) (ha : PSs X a t) (hb : PSs X b u) : PS X (.If c a b pos) (tIfS tc t u) := by
  intro pins s σ H D I h
  refine wpAny_If (thn (hc pins s σ H _ I h) fun d s1 ⟨H1, I1, q1⟩ => ?_)
  cases d with
  | true => exact ha pins s1 σ H1 D I1 q1
  | false => exact hb pins s1 σ H1 D I1 q1
end

/-! ### targets -/
abbrev TG := V → St → Hp → (St → Hp → Prop) → Prop
abbrev TGs := List V → St → Hp → (St → Hp → Prop) → Prop
def PG (X : Cx) (target : Expr) (t : TG) : Prop :=
  ∀ (pins : List (Addr × Obj)) (s : Shared) (σ : St) (H : Hp) (v : V) (u : Value) (Q : St → Hp → Prop), Inv X pins σ H s → RelV v u → t v σ H Q →
    wpAny (model X.prog X.w) X.A (assign target X.env u) (fun _ s' => ∃ σ' H', Inv X pins σ' H' s' ∧ Q σ' H') X.xe s
/-- several targets, one after another -/
def PGs (X : Cx) (ts : List Expr) (t : TGs) : Prop :=
  ∀ (pins : List (Addr × Obj)) (s : Shared) (σ : St) (H : Hp) (vs : List V) (us : List Value) (Q : St → Hp → Prop), Inv X pins σ H s → Vals vs us → t vs σ H Q →
    wpAny (model X.prog X.w) X.A (assignInOrder ((assignEach ts X.env).map (·.2)) us) (fun _ s' => ∃ σ' H', Inv X pins σ' H' s' ∧ Q σ' H') X.xe s
/-- o[i] = v, by values -/
abbrev TSet := V → V → V → Hp → (Hp → Prop) → Prop
def PSet (X : Cx) (t : TSet) : Prop :=
  ∀ (pins : List (Addr × Obj)) (s : Shared) (σ : St) (H : Hp) (o i v : V) (ov iv u : Value) (Q : Hp → Prop), Inv X pins σ H s → RelV o ov → RelV i iv → RelV v u → t o i v H Q →
    wpAny (model X.prog X.w) X.A (setItem ov iv u) (fun _ s' => ∃ H', Inv X pins σ H' s' ∧ Q H') X.xe s
/-- a op= b, by values -/
abbrev TIp := V → V → Hp → VK → Prop
section
variable {X : Cx} {pos : Pos}
def gName (i : Nat) : TG := fun v σ H Q => Q (σ.set i (some v)) H
theorem pg_name {i : Nat} {x : Str} (hN : X.N.Nodup) (hi : X.N[i]? = some x) (hx : Loc X.env.scope x) (hf : X.fn x = true ∨ X.env.scope.names.lookup x = some .local := by first | exact .inl rfl | exact .inr rfl | assumption) : PG X (.Name x pos) (gName i) := by
  intro pins s σ H v u Q I r h
  exact wpAny_assign_Name (store_ok I hN hi hx r (fun s' I' => ⟨_, H, I', h⟩) hf)
def gNil : TGs := fun vs σ H Q => vs = [] ∧ Q σ H
def gCons (t : TG) (u : TGs) : TGs := fun vs σ H Q => ∃ v r, vs = v :: r ∧ t v σ H fun σ' H' => u r σ' H' Q
theorem pgs_nil : PGs X [] gNil := by
  intro pins s σ H vs us Q I r h
  obtain ⟨e, h⟩ := h
  subst e
  cases r
  exact assignInOrder_nil ⟨σ, H, I, h⟩
theorem pgs_cons {e : Expr} {es : List Expr} {t : TG} {u : TGs} (h1 : PG X e t) (h2 : PGs X es u)
    (hs : (assignEach (e :: es) X.env).map (·.2) = assign e X.env :: (assignEach es X.env).map (·.2) := by rfl) : PGs X (e :: es) (gCons t u) := by
  intro pins s σ H vs us Q I r h
  obtain ⟨v, vr, e1, h⟩ := h
  subst e1
  cases r with
  | cons r rr =>
    rw [hs]
    refine assignInOrder_cons (thn (h1 pins s σ H _ _ _ I r h) fun _ s1 ⟨σ1, H1, I1, q1⟩ => ?_)
    exact h2 pins s1 σ1 H1 _ _ Q I1 rr q1
/-- (a, b, ..) = a tuple of that length -/
def gTup (K : PySem.W.Frag) (n : Nat) (t : TGs) : TG := fun v σ H Q => ∃ a xs, v = .ref a ∧ SqT K H a xs ∧ xs.length = n ∧ t xs σ H Q
theorem pg_tup {es : List Expr} {k : Nat} {t : TGs} {n : Nat} (hc : X.calm = true) (h : PGs X es t)
    (hn : (assignEach es X.env).length = n := by rfl) (hst : (assignEach es X.env).findIdx? (·.1) = none := by rfl) : PG X (.Tuple es k pos) (gTup X.K n t) := by
  intro pins s σ H v u Q I r hw
  obtain ⟨a, xs, e1, hq, hl, hw⟩ := hw
  subst e1
  cases r
  obtain ⟨its, rv, ht, hz⟩ := I.tuple hq
  refine assign_Tuple_tuple (I.ok.hd hc) ht (by simp [hn, ← hl, rv.length]) hst fun h' hx => ?_
  have I1 : Inv X pins σ H { s with heap := h' } := I.kept (t' := s.toks) fun b o e => hx b o (Nat.ne_of_lt (Heap.lt_size e)) e
  exact h pins _ σ H xs _ Q I1 (by simpa using rv) hw
/-- o[i] = .. -/
def gSub (to ti : TE) (t : TSet) : TG := fun v σ H Q => to σ H fun o H1 => ti σ H1 fun i H2 => t o i v H2 fun H3 => Q σ H3
theorem pg_sub {o i : Expr} {to ti : TE} {t : TSet} (ho : PE X o to) (hi : PE X i ti) (hs : PSet X t)
    (ha : ∀ v, assign (.Subscript o i pos) X.env v = (do
      let ov ← holding [v] (eval o X.env)
      let iv ← holding [v, ov] (eval i X.env)
      standAt pos
      holding [v, ov, iv] (setItem ov iv v)
      release [v, ov, iv] []) := by intro _; rfl) : PG X (.Subscript o i pos) (gSub to ti t) := by
  intro pins s σ H v u Q I r h
  rw [ha]
  refine wpAny_bind (wpAny_holding (thn (ho pins s σ H _ I h) fun ov s1 ⟨x, H1, I1, r1, q1⟩ => ?_))
  refine wpAny_bind (wpAny_holding (thn (hi pins s1 σ H1 _ I1 q1) fun iv s2 ⟨y, H2, I2, r2, q2⟩ => ?_))
  refine wpAny_bind (wpAny_standAt (wpAny_bind (wpAny_holding (thn (hs pins s2 σ H2 x y v ov iv u _ I2 r1 r2 r q2) fun _ s3 ⟨H3, I3, q3⟩ => ?_))))
  exact wpAny_release ⟨σ, H3, I3, q3⟩
/-- target = value -/
def tAsg (te : TE) (g : TG) : TS := fun D σ H => te σ H fun x H1 => g x σ H1 D.nx
theorem ps_asg {tg e : Expr} {te : TE} {g : TG} (he : PE X e te) (hg : PG X tg g) (hs : swapsWithSole [tg] e pos.line X.env = pure false := by rfl) (hw : swappedStores [tg] e X.env = pure none := by rfl)
    (h1 : (assignEach [tg] X.env).map (·.2) = [assign tg X.env] := by rfl) : PS X (.Assign [tg] e pos) (tAsg te g) := by
  intro pins s σ H D I h
  refine wpAny_Assign_stores (thn (he pins s σ H _ I h) fun v s1 ⟨x, H1, I1, r1, q1⟩ => ?_) hs hw
  rw [h1]
  exact thn (hg pins s1 σ H1 x v _ I1 r1 q1) fun _ s2 q => q
/-- name = value -/
theorem ps_set {i : Nat} {x : Str} {e : Expr} {te : TE} {pos' : Pos} (hN : X.N.Nodup) (hi : X.N[i]? = some x) (hx : Loc X.env.scope x) (he : PE X e te) (hs : swapsWith e (some (.Name x pos')) pos.line X.env = pure false := by rfl) (hf : X.fn x = true ∨ X.env.scope.names.lookup x = some .local := by first | exact .inl rfl | exact .inr rfl | assumption) :
    PS X (.Assign [.Name x pos'] e pos) (tAsg te (gName i)) := by
  intro pins s σ H D I h
  refine wpAny_Assign_Name (thn (he pins s σ H _ I h) fun v s1 ⟨y, H1, I1, r1, q1⟩ => ?_) hs
  exact store_ok I1 hN hi hx r1 (fun s2 I2 => ⟨_, H1, I2, q1⟩) hf
end

/-! ### while -/
section
variable {X : Cx} {pos : Pos}
end

/-! ### what a loop or a comprehension walks -/
/-- at turn i: it yields x (the heap may grow), or it stops -/
structure It where
  go : Nat → Hp → Prop
  yld : Nat → Hp → V → Hp → Prop
  stop : Nat → Hp → Prop
/-- the iterator's own objects may turn: they are not the frame's, not pinned, younger than the entry (or a comprehension's own) -/
def FpOk (X : Cx) (pins : List (Addr × Obj)) (H : Hp) (b : Addr) : Prop :=
  H b = none ∧ b ≠ X.env.locals ∧ b ∉ X.fs ∧ (b ∈ X.ex ∨ X.s₀.heap.objs.size ≤ b) ∧ (∀ x c, X.env.cells.lookup x = some c → c ≠ b) ∧ ∀ p ∈ X.pn ++ pins, p.1 ≠ b
theorem Inv.fpOk {X : Cx} {pins : List (Addr × Obj)} {σ : St} {H H' : Hp} {s : Shared} {b : Addr} (I : Inv X pins σ H s) (hb : s.heap.objs.size ≤ b) (hn : H' b = none) : FpOk X pins H' b := by
  refine ⟨hn, Nat.ne_of_gt (Nat.lt_of_lt_of_le I.lt hb), I.nofs hb, .inr (Nat.le_trans I.sz hb), fun x c e z => ?_, fun p hp z => ?_⟩
  · obtain ⟨v, q⟩ := I.cell x c e
    exact absurd (Nat.lt_of_lt_of_le q.lt (by rw [z]; exact hb)) (Nat.lt_irrefl _)
  · exact absurd (Nat.lt_of_lt_of_le (Heap.lt_size (I.pin p hp).1) (by rw [z]; exact hb)) (Nat.lt_irrefl _)
structure Turn (P : Program) (w : World) (K : PySem.W.Frag) (tg : Expr) (J : It) (fp : List Addr) (it : Addr) (tn : Nat → Heap → Prop) : Prop where
  mem : it ∈ fp
  obj : ∀ i h, tn i h → ∀ b ∈ fp, ∃ o, h.get? b = some o ∧ ∀ v, o.data ≠ .cell v
  keep : ∀ i h h', tn i h → (∀ b ∈ fp, ∀ o, h.get? b = some o → h'.get? b = some o) → tn i h'
  item : ∀ (X : Cx), X.prog = P → X.w = w → X.K = K → X.calm = true → ∀ (i : Nat) (pins : List (Addr × Obj)) (s : Shared) (σ : St) (H : Hp) (E : Value → Shared → Prop), Inv X pins σ H s → (∀ b ∈ fp, FpOk X pins H b) → tn i s.heap → J.go i H →
    wpAny (model P w) X.A (pyNext (.ref it)) (fun r s1 => ∃ u, r = some u ∧
      wpAny (model P w) X.A (letOwnedTupleGo tg (.ref it) u) (fun _ s2 => ∃ x H', Inv X pins σ H' s2 ∧ RelV x u ∧ J.yld i H x H' ∧ tn (i + 1) s2.heap ∧ ∀ b ∈ fp, H' b = none) E s1) E s
  done : ∀ (X : Cx), X.prog = P → X.w = w → X.K = K → X.calm = true → ∀ (i : Nat) (pins : List (Addr × Obj)) (s : Shared) (σ : St) (H : Hp) (E : Value → Shared → Prop), Inv X pins σ H s → (∀ b ∈ fp, FpOk X pins H b) → tn i s.heap → J.stop i H →
    wpAny (model P w) X.A (pyNext (.ref it)) (fun r s1 => r = none ∧ Inv X pins σ H s1) E s
  self : ∀ (A : Around) (i : Nat) (s : Shared) (Q : Value → Shared → Prop) (E : Value → Shared → Prop), tn i s.heap → Q (.ref it) s → wpAny (model P w) A (pyIter (.ref it)) Q E s
abbrev TI := St → Hp → (It → Hp → Prop) → Prop
/-- an iterator has come -/
def PIE (X : Cx) (pins : List (Addr × Obj)) (σ : St) (tg : Expr) (R : It → Hp → Prop) (itv : Value) (s2 : Shared) : Prop :=
  ∃ (it : Addr) (fp : List Addr) (tn : Nat → Heap → Prop) (J : It) (H' : Hp), itv = .ref it ∧ Inv X pins σ H' s2 ∧ Turn X.prog X.w X.K tg J fp it tn ∧ tn 0 s2.heap ∧ (∀ b ∈ fp, FpOk X pins H' b) ∧ R J H'
def PI (X : Cx) (tg iter : Expr) (wi : TI) : Prop :=
  ∀ (pins : List (Addr × Obj)) (s : Shared) (σ : St) (H : Hp) (R : It → Hp → Prop), Inv X pins σ H s → wi σ H R →
    wpAny (model X.prog X.w) X.A (eval iter X.env) (fun v s1 => wpAny (model X.prog X.w) X.A (pyIter v) (PIE X pins σ tg R) X.xe s1) X.xe s

/-- the step ahead of the store is nothing for an iterator that keeps no tuple -/
theorem go_of {M : Model} {A : Around} {E : Value → Shared → Prop} {s : Shared} {tg : Expr} {it : Addr} {u : Value} {o : Obj} {n : String} {vs : Array Value} {Q : Unit → Shared → Prop} (ho : s.heap.get? it = some o) (hc : o.cls = .type n) (hd : o.data = .fields vs)
    (hn : ["enumerate", "zip", "dict_itemiterator", "dict_reverseitemiterator", "odict_iterator", "itertools.zip_longest", "itertools.pairwise"].contains n = false) (hQ : Q () s) : wpAny M A (letOwnedTupleGo tg (.ref it) u) Q E s := by
  unfold letOwnedTupleGo
  cases tg <;> first
    | exact wpAny_pure hQ
    | (cases u <;> first
        | exact wpAny_pure hQ
        | (refine wpAny_bind (wpAny_load ho ?_)
           rw [hc, hd]
           show wpAny M A (if (["enumerate", "zip", "dict_itemiterator", "dict_reverseitemiterator", "odict_iterator", "itertools.zip_longest", "itertools.pairwise"].contains n && vs[0]? == some (rawInt _)) = true then _ else _) Q E s
           rw [if_neg (by intro h; rw [hn, Bool.false_and] at h; cases h)]
           exact wpAny_pure hQ))

/-- the list at a, as it stands at each turn (a loop may append to it) -/
def Itl (K : PySem.W.Frag) (a : Addr) : It :=
  ⟨fun i H => ∃ xs x, SqL K H a xs ∧ xs[i]? = some x, fun i H x H' => H' = H ∧ ∀ xs, SqL K H a xs → xs[i]? = some x, fun i H => ∃ xs, SqL K H a xs ∧ xs.length ≤ i⟩
def Itt (K : PySem.W.Frag) (a : Addr) : It :=
  ⟨fun i H => ∃ xs x, SqT K H a xs ∧ xs[i]? = some x, fun i H x H' => H' = H ∧ ∀ xs, SqT K H a xs → xs[i]? = some x, fun i H => ∃ xs, SqT K H a xs ∧ xs.length ≤ i⟩
/-- lo, lo + 1, .. (n of them) -/
def Itr (lo : Int) (n : Nat) : It := ⟨fun i _ => i < n, fun i H x H' => H' = H ∧ x = .int (lo + i), fun i _ => n ≤ i⟩
theorem turn_list {P : Program} {w : World} {K : PySem.W.Frag} {tg : Expr} (a it : Addr) : Turn P w K tg (Itl K a) [it] it (fun i h => h.IsListIter it a i) where
  mem := by simp
  obj := fun i h st b hb => by
    have e : b = it := by simpa using hb
    subst e
    obtain ⟨o, e, c, d⟩ := st
    exact ⟨o, e, fun v z => by rw [d] at z; cases z⟩
  keep := fun i h h' st k => st.at fun o e => k it (by simp) o e
  item := by
    intro X hP hw hK hc i pins s σ H E I hf st hg
    subst hP hw hK
    obtain ⟨xs, x, hq, hx⟩ := hg
    obtain ⟨its, rv, p, hz⟩ := I.list hq
    obtain ⟨u, hu, ru⟩ := rv.get hx
    obtain ⟨f0, f1, f2, f3, f4, f5⟩ := hf it (by simp)
    refine wpAny_pyNext_list_item st p.isList (x := u) (by simpa using hu) fun h' st' sb => ?_
    have I1 : Inv X pins σ H { s with heap := h' } := I.turned (t' := s.toks) (fun b o hb e => (sb.2 b hb).trans e) f0 f1 f3 f4 f5
    obtain ⟨o, e, c, d⟩ := id st'
    exact ⟨u, rfl, go_of (s := { s with heap := h' }) e c d (by decide) ⟨x, H, I1, ru, ⟨rfl, fun ys hy => by rw [I.list_inj hy hq]; exact hx⟩, st', fun b hb => (hf b hb).1⟩⟩
  done := by
    intro X hP hw hK hc i pins s σ H E I hf st hg
    subst hP hw hK
    obtain ⟨xs, hq, hx⟩ := hg
    obtain ⟨its, rv, p, hz⟩ := I.list hq
    obtain ⟨f0, f1, f2, f3, f4, f5⟩ := hf it (by simp)
    have hl := rv.length
    exact wpAny_pyNext_list_end (I.ok.hd hc) st p.isList (by simp; omega) fun h' eb => ⟨rfl, I.turned (t' := s.toks) (fun b o hb e => eb b o hb e) f0 f1 f3 f4 f5⟩
  self := fun _ _ _ _ _ st h => wpAny_pyIter_listiter st h
theorem turn_tuple {P : Program} {w : World} {K : PySem.W.Frag} {tg : Expr} (a it : Addr) : Turn P w K tg (Itt K a) [it] it (fun i h => h.IsTupleIter it a i) where
  mem := by simp
  obj := fun i h st b hb => by
    have e : b = it := by simpa using hb
    subst e
    obtain ⟨o, e, c, d⟩ := st
    exact ⟨o, e, fun v z => by rw [d] at z; cases z⟩
  keep := fun i h h' st k => st.at fun o e => k it (by simp) o e
  item := by
    intro X hP hw hK hc i pins s σ H E I hf st hg
    subst hP hw hK
    obtain ⟨xs, x, hq, hx⟩ := hg
    obtain ⟨its, rv, p, hz⟩ := I.tuple hq
    obtain ⟨u, hu, ru⟩ := rv.get hx
    obtain ⟨f0, f1, f2, f3, f4, f5⟩ := hf it (by simp)
    refine wpAny_pyNext_tuple_item st (show s.heap.IsTuple a its.toArray from p) (x := u) (by simpa using hu) fun h' st' sb => ?_
    have I1 : Inv X pins σ H { s with heap := h' } := I.turned (t' := s.toks) (fun b o hb e => (sb.2 b hb).trans e) f0 f1 f3 f4 f5
    obtain ⟨o, e, c, d⟩ := id st'
    exact ⟨u, rfl, go_of (s := { s with heap := h' }) e c d (by decide) ⟨x, H, I1, ru, ⟨rfl, fun ys hy => by rw [I.tuple_inj hy hq]; exact hx⟩, st', fun b hb => (hf b hb).1⟩⟩
  done := by
    intro X hP hw hK hc i pins s σ H E I hf st hg
    subst hP hw hK
    obtain ⟨xs, hq, hx⟩ := hg
    obtain ⟨its, rv, p, hz⟩ := I.tuple hq
    obtain ⟨f0, f1, f2, f3, f4, f5⟩ := hf it (by simp)
    have hl := rv.length
    exact wpAny_pyNext_tuple_end (I.ok.hd hc) st (show s.heap.IsTuple a its.toArray from p) (by simp; omega) fun h' eb => ⟨rfl, I.turned (t' := s.toks) (fun b o hb e => eb b o hb e) f0 f1 f3 f4 f5⟩
  self := fun _ _ _ _ _ st h => wpAny_pyIter_tupleiter st h
theorem turn_range {P : Program} {w : World} {K : PySem.W.Frag} {tg : Expr} (it : Addr) (lo : Int) (n : Nat) : Turn P w K tg (Itr lo n) [it] it (fun i h => IsRangeIter h it (lo + (i : Nat) * 1) ((n : Int) - (i : Nat)) 1) where
  mem := by simp
  obj := fun i h st b hb => by
    have e : b = it := by simpa using hb
    subst e
    exact ⟨_, st, fun v z => by
      have z' : Data.fields _ = Data.cell v := z
      cases z'⟩
  keep := fun i h h' st k => k it (by simp) _ st
  item := by
    intro X hP hw hK hc i pins s σ H E I hf st hg
    subst hP hw hK
    obtain ⟨f0, f1, f2, f3, f4, f5⟩ := hf it (by simp)
    have W := Walks.range (prog := X.prog) (w := X.w) (I.ok.hd hc) it lo 1 n
    refine W.item i s _ _ hg st fun v h' tk hv st' kk => ?_
    obtain ⟨t, rfl⟩ := hv
    have I1 : Inv X pins σ H { s with heap := h', toks := tk } := I.turned (fun b o hb e => kk b o (by simpa using hb) e) f0 f1 f3 f4 f5
    refine ⟨_, rfl, go_of (s := { s with heap := h', toks := tk }) (n := "range_iterator") st' rfl rfl (by decide) ⟨.int (lo + i), H, I1, ⟨t, ?_⟩, ⟨rfl, rfl⟩, st', fun b hb => (hf b hb).1⟩⟩
    rw [Int.mul_one]
  done := by
    intro X hP hw hK hc i pins s σ H E I hf st hg
    subst hP hw hK
    obtain ⟨f0, f1, f2, f3, f4, f5⟩ := hf it (by simp)
    exact wpAny_pyNext_range_end (I.ok.hd hc) st (by have : n ≤ i := hg; omega) fun h' eb => ⟨rfl, I.turned (t' := s.toks) (fun b o hb e => eb b o hb e) f0 f1 f3 f4 f5⟩
  self := fun _ _ _ _ _ st h => wpAny_pyIter_rangeiter st h
end L2

namespace L2
open PySem PySem.Spec PyProof.Rows
section
variable {X : Cx} {tg : Expr}
def iList (K : PySem.W.Frag) (tl : TE) : TI := fun σ H R => tl σ H fun x H1 => ∃ a, x = .ref a ∧ (∃ xs, SqL K H1 a xs) ∧ R (Itl K a) H1
def iTup (K : PySem.W.Frag) (tl : TE) : TI := fun σ H R => tl σ H fun x H1 => ∃ a, x = .ref a ∧ (∃ xs, SqT K H1 a xs) ∧ R (Itt K a) H1
theorem pi_list {l : Expr} {tl : TE} (hl : PE X l tl) : PI X tg l (iList X.K tl) := by
  intro pins s σ H R I h
  refine thn (hl pins s σ H _ I h) fun v s1 ⟨x, H1, I1, r1, q1⟩ => ?_
  obtain ⟨a, e, ⟨xs, hq⟩, q⟩ := q1
  subst e
  cases r1
  obtain ⟨its, rv, p, hz⟩ := I1.list hq
  refine wpAny_pyIter_list p.isList ?_
  refine ⟨s1.heap.objs.size, [s1.heap.objs.size], _, _, H1, rfl, I1.kept (t' := s1.toks) fun b o e => Heap.get?_push_of_some _ e, turn_list a _, ⟨_, Heap.get?_push_size _ rfl, rfl, rfl⟩, fun b hb => ?_, q⟩
  have e : b = s1.heap.objs.size := by simpa using hb
  subst e
  exact I1.fpOk (Nat.le_refl _) (I1.hok.fresh (Nat.le_refl _))
theorem pi_tup {l : Expr} {tl : TE} (hl : PE X l tl) : PI X tg l (iTup X.K tl) := by
  intro pins s σ H R I h
  refine thn (hl pins s σ H _ I h) fun v s1 ⟨x, H1, I1, r1, q1⟩ => ?_
  obtain ⟨a, e, ⟨xs, hq⟩, q⟩ := q1
  subst e
  cases r1
  obtain ⟨its, rv, p, hz⟩ := I1.tuple hq
  refine wpAny_pyIter_tuple (show s1.heap.IsTuple a its.toArray from p) ?_
  refine ⟨s1.heap.objs.size, [s1.heap.objs.size], _, _, H1, rfl, I1.kept (t' := s1.toks) fun b o e => Heap.get?_push_of_some _ e, turn_tuple a _, ⟨_, Heap.get?_push_size _ rfl, rfl, rfl⟩, fun b hb => ?_, q⟩
  have e : b = s1.heap.objs.size := by simpa using hb
  subst e
  exact I1.fpOk (Nat.le_refl _) (I1.hok.fresh (Nat.le_refl _))
/-- a range object just made, walked -/
theorem range_it {pins : List (Addr × Obj)} {σ : St} {H : Hp} {s : Shared} {R : It → Hp → Prop} {E : Value → Shared → Prop} {lo hi : Int} {t u v : Tok} {tk : Nat} (I : Inv X pins σ H s) (h1 : -(2 ^ 62) ≤ lo) (h2 : lo < 2 ^ 62) (h3 : -(2 ^ 62) ≤ hi) (h4 : hi < 2 ^ 62)
    (q : R (Itr lo (hi - lo).toNat) H) : wpAny (model X.prog X.w) X.A (pyIter (.ref s.heap.objs.size)) (PIE X pins σ tg R) E { s with heap := s.heap.push { cls := .type "range", data := .fields #[.int lo t, .int hi u, .int 1 v] }, toks := tk } := by
  refine wpAny_pyIter_range (IsRange.new ..) (small_one h1 h2 h3 h4) ?_
  have I1 : Inv X pins σ H { s with heap := s.heap.push { cls := .type "range", data := .fields #[.int lo t, .int hi u, .int 1 v] }, toks := tk } := I.kept fun b o e => Heap.get?_push_of_some _ e
  refine ⟨(s.heap.push { cls := .type "range", data := .fields #[.int lo t, .int hi u, .int 1 v] }).objs.size, [(s.heap.push { cls := .type "range", data := .fields #[.int lo t, .int hi u, .int 1 v] }).objs.size], _, _, H, rfl,
    I1.kept (t' := tk) fun b o e => Heap.get?_push_of_some _ e, turn_range _ lo (hi - lo).toNat, ?_, fun b hb => ?_, q⟩
  · have e1 : lo + ((0 : Nat) : Int) * 1 = lo := by simp
    have e2 : (((hi - lo).toNat : Nat) : Int) - ((0 : Nat) : Int) = Builtin.Range.rangeSize lo hi 1 := by rw [rangeSize_one]; split <;> omega
    show IsRangeIter _ _ (lo + ((0 : Nat) : Int) * 1) ((((hi - lo).toNat : Nat) : Int) - ((0 : Nat) : Int)) 1
    rw [e1, e2]
    exact Heap.get?_push_size _ rfl
  · have e : b = (s.heap.push { cls := .type "range", data := .fields #[.int lo t, .int hi u, .int 1 v] }).objs.size := by simpa using hb
    subst e
    exact I1.fpOk (Nat.le_refl _) (I1.hok.fresh (Nat.le_refl _))
def iRng1 (ta : TA) : TI := fun σ H R => ta σ H fun vs H1 => ∃ j : Int, vs = [.int j] ∧ -(2 ^ 62) ≤ j ∧ j < 2 ^ 62 ∧ R (Itr 0 j.toNat) H1
theorem pi_range1 {a : Expr} {ta : TA} {p pos : Pos} (hg : Gl X "range") (hm : X.mg "range" = none) (ha : PA X [a] ta) (hs : starEach [a] X.env = [(false, eval a X.env)] := by rfl) : PI X tg (.Call (.Name "range" p) [a] [] pos) (iRng1 ta) := by
  intro pins s σ H R I h
  refine Call_ (ld_blt I hg hm boot_range (PyProof.Rows.callWith_type1 (thn (ha pos pins s σ H _ I h) fun us s1 ⟨vs, H1, I1, r1, q1⟩ => ?_) hs rfl))
  obtain ⟨j, e, q1, q2, q⟩ := q1
  subst e
  cases r1 with
  | cons r rr =>
    cases rr
    obtain ⟨t, rfl⟩ := r
    exact call_range_1 (range_it I1 (by omega) (by omega) q1 q2 (by simpa using q))
/-! ### for -/
/-- W: the invariant by the turn and a measure; N: what the body is to reach -/
def tFor (wi : TI) (g : TG) (tb : TS) : TS := fun D σ H => wi σ H fun J H1 => ∃ W : Nat → Nat → St → Hp → Prop, (∃ m, W 0 m σ H1) ∧ ∀ i m σ H, W i m σ H →
  (J.stop i H ∧ D.nx σ H) ∨ (J.go i H ∧ ∃ N : St → Hp → Prop, (∀ σ' H', N σ' H' → ∃ m', m' < m ∧ W (i + 1) m' σ' H') ∧ ∀ x H', J.yld i H x H' → g x σ H' fun σ2 H2 => tb { D with nx := N, ct := N, bk := D.nx } σ2 H2)
/-- the records at fp as they stand -/
def pinsAt (fp : List Addr) (h : Heap) : List (Addr × Obj) := fp.filterMap fun b => (h.get? b).map fun o => (b, o)
theorem mem_pinsAt {fp : List Addr} {h : Heap} {b : Addr} {o : Obj} (hb : b ∈ fp) (e : h.get? b = some o) : (b, o) ∈ pinsAt fp h := List.mem_filterMap.mpr ⟨b, hb, by rw [e]; rfl⟩
theorem of_pinsAt {fp : List Addr} {h : Heap} {p : Addr × Obj} (hp : p ∈ pinsAt fp h) : p.1 ∈ fp ∧ h.get? p.1 = some p.2 := by
  obtain ⟨b, hb, e⟩ := List.mem_filterMap.mp hp
  cases q : h.get? b with
  | none => rw [q] at e; cases e
  | some o =>
    rw [q] at e
    have e' : (b, o) = p := Option.some.inj e
    subst e'
    exact ⟨hb, q⟩
theorem Inv.pinned {pins : List (Addr × Obj)} {σ : St} {H : Hp} {s : Shared} {fp : List Addr} (I : Inv X pins σ H s) (hf : ∀ b ∈ fp, FpOk X pins H b) (ho : ∀ b ∈ fp, ∃ o, s.heap.get? b = some o ∧ ∀ v, o.data ≠ .cell v) : Inv X (pins ++ pinsAt fp s.heap) σ H s :=
  I.pins_of fun p hp => (List.mem_append.mp hp).elim (fun z => I.pin p (List.mem_append_right _ z)) fun z => by
    obtain ⟨hb, e⟩ := of_pinsAt z
    obtain ⟨f0, f1, f2, _⟩ := hf p.1 hb
    obtain ⟨o, e', d⟩ := ho p.1 hb
    rw [e] at e'; cases e'
    exact ⟨e, f0, f1, f2, d⟩
theorem Inv.unpinned {pins pl : List (Addr × Obj)} {σ : St} {H : Hp} {s : Shared} (I : Inv X (pins ++ pl) σ H s) : Inv X pins σ H s := I.pins_of fun p hp => I.pin p (List.mem_append_right _ (List.mem_append_left _ hp))
theorem ps_for {iter : Expr} {body : List Stmt} {wi : TI} {g : TG} {tb : TS} {pos : Pos} (hp : PassesOwn (model X.prog X.w) X.A X.env X.xe) (hc : X.calm = true) (hi : PI X tg iter wi) (hg : PG X tg g) (hb : PSs X body tb)
    (hs : ∀ x, foldedSetIterable iter X.env x = pure x := by intro _; rfl) : PS X (.For tg iter body [] pos) (tFor wi g tb) := by
  intro pins s σ H D I h
  refine wpAny_For (thn (hi pins s σ H _ I h) fun v s1 h1 => thn h1 fun itv s2 h2 => ?_) hs
  obtain ⟨it, fp, tn, J, H2, e, I2, T, st2, f2, W, ⟨m0, w0⟩, turn⟩ := h2
  subst e
  -- what stays true of the iterator's objects through the loop
  have stat : ∀ {H' : Hp}, (∀ b ∈ fp, H' b = none) → ∀ b ∈ fp, FpOk X pins H' b := fun hn b hb => ⟨hn b hb, (f2 b hb).2⟩
  refine codeAny_forLoop_any (fun n s' => ∃ i σ' H', Inv X pins σ' H' s' ∧ tn i s'.heap ∧ (∀ b ∈ fp, H' b = none) ∧ W i n σ' H') ?_ m0 ⟨0, σ, H2, I2, st2, fun b hb => (f2 b hb).1, w0⟩
  rintro n s3 ⟨i, σ3, H3, I3, st3, fr3, w3⟩
  rcases turn i n σ3 H3 w3 with ⟨stop, qn⟩ | ⟨go, N, hN, step⟩
  · refine wpAny_passesOwn hp (thn (T.done X rfl rfl rfl hc i pins s3 σ3 H3 X.xe I3 (stat fr3) st3 stop) fun r s4 ⟨hr, I4⟩ => ?_)
    subst hr
    exact wpAny_execs_nil ⟨σ3, H3, I4, qn⟩
  · refine wpAny_passesOwn hp (thn (T.item X rfl rfl rfl hc i pins s3 σ3 H3 X.xe I3 (stat fr3) st3 go) fun r s4 ⟨u, hr, h4⟩ => ?_)
    subst hr
    refine wpAny_passesOwn hp (thn h4 fun _ s5 ⟨x, H5, I5, r5, y5, st5, fr5⟩ => ?_)
    have I5' := I5.pinned (stat fr5) (T.obj _ _ st5)
    refine wpAny_passesOwn hp (thn (hg _ s5 σ3 H5 x u _ I5' r5 (step x H5 y5)) fun _ s6 ⟨σ6, H6, I6, q6⟩ => ?_)
    refine wpAny_passesOwn hp (thn (hb _ s6 σ6 H6 _ I6 q6) fun f s7 q7 => ?_)
    have again : ∀ {σ7 : St} {H7 : Hp}, Inv X (pins ++ pinsAt fp s5.heap) σ7 H7 s7 → N σ7 H7 → ∃ m, m < n ∧ ∃ i σ' H', Inv X pins σ' H' s7 ∧ tn i s7.heap ∧ (∀ b ∈ fp, H' b = none) ∧ W i m σ' H' := fun {σ7 H7} I7 n7 => by
      obtain ⟨m', hm, w7⟩ := hN σ7 H7 n7
      refine ⟨m', hm, i + 1, σ7, H7, I7.unpinned, T.keep _ _ _ st5 fun b hb o e => (I7.pin (b, o) (List.mem_append_right _ (List.mem_append_right _ (mem_pinsAt hb e)))).1, fun b hb => ?_, w7⟩
      obtain ⟨o, e, d⟩ := T.obj _ _ st5 b hb
      exact (I7.pin (b, o) (List.mem_append_right _ (List.mem_append_right _ (mem_pinsAt hb e)))).2.1
    cases f with
    | next => obtain ⟨σ7, H7, I7, n7⟩ := q7; exact again I7 n7
    | cont => obtain ⟨σ7, H7, I7, n7⟩ := q7; exact again I7 n7
    | brk => obtain ⟨σ7, H7, I7, q7⟩ := q7; exact ⟨σ7, H7, I7.unpinned, q7⟩
    | ret v => obtain ⟨x7, σ7, H7, I7, r7, q7⟩ := q7; exact ⟨x7, σ7, H7, I7.unpinned, r7, q7⟩
end

end L2

namespace L2
open PySem PySem.Spec PyProof.Rows

abbrev R2 := V → V → Hp → VK → Prop
/-- a two-place operation on values: f is binaryOp op, inplaceOp op or compareOp op -/
def OpR (X : Cx) (f : Value → Value → Sem Value) (r : R2) : Prop :=
  ∀ (pins : List (Addr × Obj)) (s : Shared) (σ : St) (H : Hp) (x y : V) (v u : Value) (Q : VK), Inv X pins σ H s → RelV x v → RelV y u → r x y H Q →
    wpAny (model X.prog X.w) X.A (f v u) (EP X pins σ Q) X.xe s
/-- a one-place operation -/
def UnR (X : Cx) (f : Value → Sem Value) (r : V → Hp → VK → Prop) : Prop :=
  ∀ (pins : List (Addr × Obj)) (s : Shared) (σ : St) (H : Hp) (x : V) (v : Value) (Q : VK), Inv X pins σ H s → RelV x v → r x H Q →
    wpAny (model X.prog X.w) X.A (f v) (EP X pins σ Q) X.xe s
/-- a call of a value that is known (a builtin, a type) with values -/
def CallR (X : Cx) (f : Value) (r : List V → Hp → VK → Prop) : Prop :=
  ∀ (pins : List (Addr × Obj)) (s : Shared) (σ : St) (H : Hp) (xs : List V) (us : List Value) (Q : VK), Inv X pins σ H s → Vals xs us → r xs H Q →
    wpAny (model X.prog X.w) X.A (call f us) (EP X pins σ Q) X.xe s
def tOp (r : R2) (ta tb : TE) : TE := fun σ H Q => ta σ H fun x H1 => tb σ H1 fun y H2 => r x y H2 Q
def tUn (r : V → Hp → VK → Prop) (ta : TE) : TE := fun σ H Q => ta σ H fun x H1 => r x H1 Q
/-- ints in, under C, and a value out -/
def rI (C : Int → Int → Prop) (g : Int → Int → V) : R2 := fun x y H Q => ∃ i j, x = .int i ∧ y = .int j ∧ C i j ∧ Q (g i j) H
def rI0 (g : Int → Int → V) : R2 := fun x y H Q => ∃ i j, x = .int i ∧ y = .int j ∧ Q (g i j) H
def rU (g : Int → V) : V → Hp → VK → Prop := fun x H Q => ∃ i, x = .int i ∧ Q (g i) H

section
variable {X : Cx} {a b c : Expr} {ta tb tc : TE} {pos : Pos}

theorem binT (ha : PE X a ta) (hb : PE X b tb) {pins : List (Addr × Obj)} {s : Shared} {σ : St} {H : Hp} {R : V → V → Hp → Prop} (I : Inv X pins σ H s)
    (h : ta σ H fun x H1 => tb σ H1 fun y H2 => R x y H2) {Q : Value → Shared → Prop} {f : Value → Value → Sem Value}
    (hf : ∀ v u s2 x y H2, Inv X pins σ H2 s2 → RelV x v → RelV y u → R x y H2 → wpAny (model X.prog X.w) X.A (f v u) Q X.xe s2) :
    wpAny (model X.prog X.w) X.A (eval a X.env) (fun v s₁ => wpAny (model X.prog X.w) X.A (eval b X.env) (fun u s₂ => wpAny (model X.prog X.w) X.A (f v u) Q X.xe s₂) X.xe s₁) X.xe s := by
  refine thn (ha pins s σ H _ I h) fun v s1 ⟨x, H1, I1, r1, q1⟩ => ?_
  refine thn (hb pins s1 σ H1 _ I1 q1) fun u s2 ⟨y, H2, I2, r2, q2⟩ => ?_
  exact hf v u s2 x y H2 I2 r1 r2 q2

theorem pe_op {op : Operator} {r : R2} (ho : OpR X (binaryOp op) r) (ha : PE X a ta) (hb : PE X b tb) : PE X (.BinOp a op b pos) (tOp r ta tb) := by
  intro pins s σ H Q I h
  exact wpAny_BinOp (binT ha hb I h fun v u s2 x y H2 I2 rx ry q => ho pins s2 σ H2 x y v u Q I2 rx ry q)
theorem pe_un {op : UnaryOp} {r : V → Hp → VK → Prop} (ho : UnR X (unaryOp op) r) (ha : PE X a ta) : PE X (.UnaryOp op a pos) (tUn r ta) := by
  intro pins s σ H Q I h
  exact UnaryOp_ (thn (ha pins s σ H _ I h) fun v s1 ⟨x, H1, I1, r1, q1⟩ => ho pins s1 σ H1 x v Q I1 r1 q1)
/-! ### ints -/
theorem opI {f : Value → Value → Sem Value} {C : Int → Int → Prop} {g : Int → Int → Int}
    (rule : ∀ (i j : Int) (t u : Tok) (s : Shared) (Q : Value → Shared → Prop) (E : Value → Shared → Prop), C i j → Q (.int (g i j) s.toks) { s with toks := s.toks + 1 } → wpAny (model X.prog X.w) X.A (f (.int i t) (.int j u)) Q E s) :
    OpR X f (rI C fun i j => .int (g i j)) := by
  intro pins s σ H x y v u Q I rx ry h
  obtain ⟨i, j, rfl, rfl, hc, q⟩ := h
  obtain ⟨t, rfl⟩ := rx
  obtain ⟨t', rfl⟩ := ry
  exact rule i j t t' s _ _ hc ⟨.int (g i j), H, I.tok _, ⟨_, rfl⟩, q⟩
theorem opI0 {f : Value → Value → Sem Value} {g : Int → Int → Int}
    (rule : ∀ (i j : Int) (t u : Tok) (s : Shared) (Q : Value → Shared → Prop) (E : Value → Shared → Prop), Q (.int (g i j) s.toks) { s with toks := s.toks + 1 } → wpAny (model X.prog X.w) X.A (f (.int i t) (.int j u)) Q E s) :
    OpR X f (rI0 fun i j => .int (g i j)) := by
  intro pins s σ H x y v u Q I rx ry h
  obtain ⟨i, j, rfl, rfl, q⟩ := h
  obtain ⟨t, rfl⟩ := rx
  obtain ⟨t', rfl⟩ := ry
  exact rule i j t t' s _ _ ⟨.int (g i j), H, I.tok _, ⟨_, rfl⟩, q⟩
theorem opB0 {f : Value → Value → Sem Value} {g : Int → Int → Bool}
    (rule : ∀ (i j : Int) (t u : Tok) (s : Shared) (Q : Value → Shared → Prop) (E : Value → Shared → Prop), Q (.bool (g i j)) s → wpAny (model X.prog X.w) X.A (f (.int i t) (.int j u)) Q E s) :
    OpR X f (rI0 fun i j => .bl (g i j)) := by
  intro pins s σ H x y v u Q I rx ry h
  obtain ⟨i, j, rfl, rfl, q⟩ := h
  obtain ⟨t, rfl⟩ := rx
  obtain ⟨t', rfl⟩ := ry
  exact rule i j t t' s _ _ ⟨.bl (g i j), H, I, rfl, q⟩

def CMul (i j : Int) : Prop := (-(2 ^ 64) < i ∧ i < 2 ^ 64) ∨ (-(2 ^ 64) < j ∧ j < 2 ^ 64)
theorem CMul.ok {i j : Int} (h : CMul i j) : IntMulOk i j := by
  rcases h with ⟨h1, h2⟩ | ⟨h1, h2⟩
  · exact .of_left (intBits_le_64 h1 h2)
  · exact .of_right (intBits_le_64 h1 h2)
theorem op_add : OpR X (binaryOp .Add) (rI0 fun i j => .int (i + j)) := opI0 fun _ _ _ _ _ _ _ q => add_int q
/-- % by a positive divisor of any size -/
theorem op_mod : OpR X (binaryOp .Mod) (rI (fun _ j => 0 < j) fun i j => .int (i % j)) := opI fun i j _ _ _ _ _ hc q => by
  have h1 : (0 : Int) < j := hc
  exact mod_int' (by omega) (by rw [Int.fmod_eq_emod_of_nonneg i (by omega)]; exact q)
theorem unI {f : Value → Sem Value} {g : Int → Int}
    (rule : ∀ (i : Int) (t : Tok) (s : Shared) (Q : Value → Shared → Prop) (E : Value → Shared → Prop), Q (.int (g i) s.toks) { s with toks := s.toks + 1 } → wpAny (model X.prog X.w) X.A (f (.int i t)) Q E s) :
    UnR X f (rU fun i => .int (g i)) := by
  intro pins s σ H x v Q I rx h
  obtain ⟨i, rfl, q⟩ := h
  obtain ⟨t, rfl⟩ := rx
  exact rule i t s _ _ ⟨.int (g i), H, I.tok _, ⟨_, rfl⟩, q⟩
theorem un_neg : UnR X (unaryOp .USub) (rU fun i => .int (-i)) := unI fun _ _ _ _ _ q => neg_int q
end

/-! ### comparisons -/
/-- the scalars that == tells apart as data does -/
def scal : V → V → Bool
  | .non, .non => true | .non, .int _ => true | .int _, .non => true | .non, .bl _ => true | .bl _, .non => true | .non, .str _ => true | .str _, .non => true
  | .int _, .int _ => true | .bl _, .bl _ => true | .str _, .str _ => true | .byt _, .byt _ => true
  | .int _, .str _ => true | .str _, .int _ => true | .bl _, .str _ => true | .str _, .bl _ => true
  | _, _ => false
def rEq : R2 := fun x y H Q => scal x y = true ∧ Q (.bl (decide (x = y))) H
def rNe : R2 := fun x y H Q => scal x y = true ∧ Q (.bl (!decide (x = y))) H

theorem dec_int {i j : Int} : decide (V.int i = V.int j) = (i == j) := by
  rw [Bool.eq_iff_iff]
  simp
theorem dec_bl {i j : Bool} : decide (V.bl i = V.bl j) = (i == j) := by
  rw [Bool.eq_iff_iff]
  simp
theorem dec_str {i j : Str} : decide (V.str i = V.str j) = (i == j) := by
  rw [Bool.eq_iff_iff]
  simp
theorem dec_byt {i j : Array UInt8} : decide (V.byt i = V.byt j) = (i.toList == j.toList) := by
  rw [Bool.eq_iff_iff]
  cases i
  cases j
  simp

section
variable {X : Cx} {a b c : Expr} {ta tb tc : TE} {pos : Pos}
theorem fin_bl {pins : List (Addr × Obj)} {σ : St} {H : Hp} {s : Shared} {Q : VK} {k k' : Bool} (I : Inv X pins σ H s) (q : Q (.bl k) H) (e : k = k') : EP X pins σ Q (.bool k') s := by
  subst e
  exact ⟨.bl k, H, I, rfl, q⟩
theorem op_eq : OpR X (compareOp .Eq) rEq := by
  intro pins s σ H x y v u Q I rx ry h
  obtain ⟨hs, q⟩ := h
  cases x with
  | non =>
    cases rx
    cases y with
    | non => cases ry; exact PySem.EqNone.eq_none_none (fin_bl I q (by simp))
    | bl j => cases ry; exact PySem.EqNone.eq_none_bool (fin_bl I q (by simp))
    | int j => obtain ⟨t', rfl⟩ := ry; exact PySem.EqNone.eq_none_int (fin_bl I q (by simp))
    | str j => obtain ⟨t', rfl⟩ := ry; exact PySem.EqNone.eq_none_str (fin_bl I q (by simp))
    | _ => exact absurd (show false = true from hs) Bool.false_ne_true
  | bl i =>
    cases rx
    cases y with
    | non => cases ry; exact PySem.EqNone.eq_bool_none (fin_bl I q (by simp))
    | bl j => cases ry; exact eq_bool (fin_bl I q dec_bl)
    | str j => obtain ⟨t', rfl⟩ := ry; exact PySem.EqMixed.eq_bool_str (fin_bl I q (by simp))
    | _ => exact absurd (show false = true from hs) Bool.false_ne_true
  | int i =>
    obtain ⟨t, rfl⟩ := rx
    cases y with
    | non => cases ry; exact PySem.EqNone.eq_int_none (fin_bl I q (by simp))
    | int j => obtain ⟨t', rfl⟩ := ry; exact eq_int (fin_bl I q dec_int)
    | str j => obtain ⟨t', rfl⟩ := ry; exact PySem.EqMixed.eq_int_str (fin_bl I q (by simp))
    | _ => exact absurd (show false = true from hs) Bool.false_ne_true
  | str i =>
    obtain ⟨t, rfl⟩ := rx
    cases y with
    | non => cases ry; exact PySem.EqNone.eq_str_none (fin_bl I q (by simp))
    | bl j => cases ry; exact PySem.EqMixed.eq_str_bool (fin_bl I q (by simp))
    | int j => obtain ⟨t', rfl⟩ := ry; exact PySem.EqMixed.eq_str_int (fin_bl I q (by simp))
    | str j => obtain ⟨t', rfl⟩ := ry; exact eq_str (fin_bl I q dec_str)
    | _ => exact absurd (show false = true from hs) Bool.false_ne_true
  | byt i =>
    obtain ⟨t, rfl⟩ := rx
    cases y with
    | byt j => obtain ⟨t', rfl⟩ := ry; exact PySem.W.eq_bytes (fin_bl I q dec_byt)
    | _ => exact absurd (show false = true from hs) Bool.false_ne_true
  | _ => cases y <;> exact absurd (show false = true from hs) Bool.false_ne_true
theorem op_ne : OpR X (compareOp .NotEq) rNe := by
  intro pins s σ H x y v u Q I rx ry h
  obtain ⟨hs, q⟩ := h
  cases x with
  | non =>
    cases rx
    cases y with
    | non => cases ry; exact PySem.EqNone.ne_none_none (fin_bl I q (by simp))
    | bl j => cases ry; exact PySem.EqNone.ne_none_bool (fin_bl I q (by simp))
    | int j => obtain ⟨t', rfl⟩ := ry; exact PySem.EqNone.ne_none_int (fin_bl I q (by simp))
    | str j => obtain ⟨t', rfl⟩ := ry; exact PySem.EqNone.ne_none_str (fin_bl I q (by simp))
    | _ => exact absurd (show false = true from hs) Bool.false_ne_true
  | bl i =>
    cases rx
    cases y with
    | non => cases ry; exact PySem.EqNone.ne_bool_none (fin_bl I q (by simp))
    | bl j => cases ry; exact ne_bool (fin_bl I q (congrArg not dec_bl))
    | str j => obtain ⟨t', rfl⟩ := ry; exact PySem.EqMixed.ne_bool_str (fin_bl I q (by simp))
    | _ => exact absurd (show false = true from hs) Bool.false_ne_true
  | int i =>
    obtain ⟨t, rfl⟩ := rx
    cases y with
    | non => cases ry; exact PySem.EqNone.ne_int_none (fin_bl I q (by simp))
    | int j => obtain ⟨t', rfl⟩ := ry; exact ne_int (fin_bl I q (congrArg not dec_int))
    | str j => obtain ⟨t', rfl⟩ := ry; exact PySem.EqMixed.ne_int_str (fin_bl I q (by simp))
    | _ => exact absurd (show false = true from hs) Bool.false_ne_true
  | str i =>
    obtain ⟨t, rfl⟩ := rx
    cases y with
    | non => cases ry; exact PySem.EqNone.ne_str_none (fin_bl I q (by simp))
    | bl j => cases ry; exact PySem.EqMixed.ne_str_bool (fin_bl I q (by simp))
    | int j => obtain ⟨t', rfl⟩ := ry; exact PySem.EqMixed.ne_str_int (fin_bl I q (by simp))
    | str j => obtain ⟨t', rfl⟩ := ry; exact ne_str (fin_bl I q (congrArg not dec_str))
    | _ => exact absurd (show false = true from hs) Bool.false_ne_true
  | byt i =>
    obtain ⟨t, rfl⟩ := rx
    cases y with
    | byt j => obtain ⟨t', rfl⟩ := ry; exact PySem.W.ne_bytes (fin_bl I q (congrArg not dec_byt))
    | _ => exact absurd (show false = true from hs) Bool.false_ne_true
  | _ => cases y <;> exact absurd (show false = true from hs) Bool.false_ne_true

theorem op_lt : OpR X (compareOp .Lt) (rI0 fun i j => .bl (decide (i < j))) := opB0 fun _ _ _ _ _ _ _ q => lt_int q
/-- is None, is not None: the right side a value none -/
theorem op_isN : OpR X (compareOp .Is) (fun x y H Q => y = .non ∧ Q (.bl (decide (x = .non))) H) := by
  intro pins s σ H x y v u Q I rx ry h
  obtain ⟨rfl, q⟩ := h
  cases ry
  refine is_none_gen (fin_bl I q ?_)
  cases x <;> first
    | (cases rx; rfl)
    | (obtain ⟨t, rfl⟩ := rx; rfl)
theorem op_notN : OpR X (compareOp .IsNot) (fun x y H Q => y = .non ∧ Q (.bl (!decide (x = .non))) H) := by
  intro pins s σ H x y v u Q I rx ry h
  obtain ⟨rfl, q⟩ := h
  cases ry
  refine isnot_none_gen (fin_bl I q ?_)
  cases x <;> first
    | (cases rx; rfl)
    | (obtain ⟨t, rfl⟩ := rx; rfl)

/-- two rules for one operation: by cases -/
theorem OpR.or {f : Value → Value → Sem Value} {r r' : R2} (h : OpR X f r) (h' : OpR X f r') : OpR X f (fun x y H Q => r x y H Q ∨ r' x y H Q) := by
  intro pins s σ H x y v u Q I rx ry q
  rcases q with q | q
  · exact h pins s σ H x y v u Q I rx ry q
  · exact h' pins s σ H x y v u Q I rx ry q

theorem nomark (b : Expr) {op : CmpOp} (h : op ≠ .In := by decide) (h2 : op ≠ .NotIn := by decide) : behindInMarks op b = false := by
  have e1 : (op == CmpOp.In) = false := by cases op <;> first | rfl | exact absurd rfl h
  have e2 : (op == CmpOp.NotIn) = false := by cases op <;> first | rfl | exact absurd rfl h2
  cases b <;> simp [behindInMarks, e1, e2]
/-- a comparison as a value; hm: nomark b, or (for in, not in) by with_unfolding_all rfl -/
theorem pe_cmpR {op : CmpOp} {r : R2} (ho : OpR X (compareOp op) r) (ha : PE X a ta) (hb : PE X b tb) (hm : behindInMarks op b = false) : PE X (.Compare a [op] [b] pos) (tOp r ta tb) := by
  intro pins s σ H Q I h
  exact wpAny_Compare1 (binT ha hb I h fun v u s2 x y H2 I2 rx ry q => ho pins s2 σ H2 x y v u Q I2 rx ry q) hm
/-- a reading of a value as a test -/
def tTest (t : TE) : TT := fun σ H Q => t σ H fun x H' => ∃ k, x = .bl k ∧ Q k H'
theorem pt_cmpR {op : CmpOp} {r : R2} (ho : OpR X (compareOp op) r) (ha : PE X a ta) (hb : PE X b tb) (hm : behindInMarks op b = false) : PT X (.Compare a [op] [b] pos) (tTest (tOp r ta tb)) := by
  intro pins s σ H Q I h
  refine wpAny_isTrue_Compare1 (thn (ha pins s σ H _ I h) fun v s1 ⟨x, H1, I1, r1, q1⟩ => thn (hb pins s1 σ H1 _ I1 q1) fun u s2 ⟨y, H2, I2, r2, q2⟩ =>
    thn (ho pins s2 σ H2 x y v u _ I2 r1 r2 q2) fun c s3 ⟨z, H3, I3, r3, k, e, q3⟩ => ?_) hm
  subst e
  cases r3
  exact wpAny_truthy_bool ⟨H3, I3, q3⟩
theorem line63 : (sizeLine : Nat) < 2 ^ 63 := by rw [sizeLine_eq]; decide
/-! ### scalar builtins, by CallR -/
theorem vals1 {x : V} {us : List Value} (r : Vals [x] us) : ∃ u, us = [u] ∧ RelV x u := by
  cases r with
  | cons r1 r2 => cases r2; exact ⟨_, rfl, r1⟩
theorem vals2 {x y : V} {us : List Value} (r : Vals [x, y] us) : ∃ u w', us = [u, w'] ∧ RelV x u ∧ RelV y w' := by
  cases r with
  | cons r1 r2 =>
    cases r2 with
    | cons r3 r4 => cases r4; exact ⟨_, _, rfl, r1, r3⟩
end
end L2

namespace L2
open PySem PySem.Spec PyProof.Rows

/-! ### an instance, its attributes a map -/
structure ObjM (h : Heap) (x dx C : Addr) (mA : Str → Option Value) : Prop where
  obj : h.get? x = some (PySem.W.instObj C dx)
  ns : h.Ns1 dx mA
  ne : dx ≠ x

theorem lookIn_ns {h : Heap} {dx : Addr} {mA : Str → Option Value} (n : h.Ns1 dx mA) : ∃ od, h.get? dx = some od ∧ ∀ name, PySem.W.lookIn name od = some (mA name) := by
  obtain ⟨o, es, ep, ho, hd, hk, _, hm⟩ := n
  refine ⟨o, ho, fun name => ?_⟩
  have e := hm name
  unfold nsFind findBy at e
  rw [← Array.find?_toList] at e
  unfold PySem.W.lookIn
  rw [hd]
  dsimp only
  split
  · rename_i y q
    rw [q] at e
    exact congrArg some e
  · rename_i q
    rw [q] at e
    have a : es.toList.any (·.refKey) = false := by
      rw [List.any_eq_false]
      intro y hy
      obtain ⟨z, t, hkey⟩ := hk y (Array.mem_toList_iff.mp hy)
      simp [DictEntry.refKey, hkey]
    have a' : ¬ es.toList.any (·.refKey) = true := by rw [a]; exact Bool.false_ne_true
    rw [if_neg a']
    exact congrArg some e

theorem ObjM.look {h : Heap} {x dx C : Addr} {mA : Str → Option Value} (I : ObjM h x dx C mA) : ∃ od, PySem.W.InstAt h x (PySem.W.instObj C dx) C (some od) ∧ ∀ name, PySem.W.lookIn name od = some (mA name) :=
  let ⟨od, ho, hl⟩ := lookIn_ns I.ns
  ⟨od, ⟨I.obj, rfl, rfl, ho⟩, hl⟩

section
variable {prog : Program} {w : World} {A : Around} {E : Value → Shared → Prop} {s : Shared} {K : PySem.W.Frag} {x dx C f : Addr} {mA : Str → Option Value} {name : Str} {v : Value}

end

theorem RelO.some_of {v : V} {o : Option Value} (r : RelO (some v) o) : ∃ u, o = some u ∧ RelV v u := by
  cases o with
  | none => exact (show False from r).elim
  | some u => exact ⟨u, rfl, r⟩
section
variable {P : Program} {w : World} {H H' : Hp} {h h' : Heap} {a C dx : Addr} {fs fs' : List (Str × V)}
theorem ins_get (hok : HOk P w H h) (e : H a = some (.ins C dx fs)) : ∃ mA, ObjM h a dx C mA ∧ (∀ f, RelO (fs.lookup f) (mA f)) ∧ PySem.Within mA (fs.map (·.1)) ∧ fs.length ≤ 1000 ∧ H dx = some (.own a) := by
  obtain ⟨d, z, ne, ob, mA, n, r, q⟩ := (show ObjOk P w H h a (.ins C dx fs) from hok a _ e)
  exact ⟨mA, ⟨ob, n, ne⟩, r, q, z, d⟩
end

/-! ### what of the text a class must have -/
structure Cls (K : PySem.W.Frag) (C : Addr) : Prop where
  pg : PySem.W.plainGet K C Str.empty = true
  hd : PySem.W.hasDictIn K C = true
  po : PySem.W.plainOver K C = true
  sa : PySem.W.findIn K (.ref C) "__setattr__" = some (some (.builtin "object.__setattr__"))
theorem Cls.get {K : PySem.W.Frag} {C : Addr} (c : Cls K C) (f : Str) : PySem.W.plainGet K C f = true := c.pg
/-- a constant of the class -/
structure Con (K : PySem.W.Frag) (C : Addr) (f : Str) (v : V) (u : Value) : Prop where
  at_ : PySem.W.findIn K (.ref C) f = some (some u)
  rel : RelV v u
  get : PySem.W.specialIn K u "__get__" = some none
  cp : PySem.W.copiedNames.contains f = false
/-- a method: a plain def of the class or of one above it -/
structure Meth (K : PySem.W.Frag) (C : Addr) (m : Str) (f : Addr) : Prop where
  at_ : PySem.W.findIn K (.ref C) m = some (some (.ref f))
  fn : PySem.W.isFn K (.ref f) = true
  kp : PySem.W.keepIn K (.ref f) = true

section
variable {X : Cx} {pins : List (Addr × Obj)} {σ : St} {H : Hp} {s : Shared} {a C dx : Addr} {fs : List (Str × V)} {f : Str} {v : V} {A : Around} {E : Value → Shared → Prop}

/-- a new instance, tracked, without attributes -/
theorem Inv.made (I : Inv X pins σ H s) : Inv X pins σ (upd (upd H s.heap.objs.size (.own (s.heap.objs.size + 1))) (s.heap.objs.size + 1) (.ins C s.heap.objs.size []))
    { s with heap := (s.heap.push PySem.W.emptyDict).push (PySem.W.instObj C s.heap.objs.size) } := by
  have e1 : (s.heap.push PySem.W.emptyDict).get? s.heap.objs.size = some PySem.W.emptyDict := Heap.get?_push_size s.heap rfl
  have e2 : ((s.heap.push PySem.W.emptyDict).push (PySem.W.instObj C s.heap.objs.size)).get? (s.heap.objs.size + 1) = some (PySem.W.instObj C s.heap.objs.size) := by
    have := Heap.get?_push_size (s.heap.push PySem.W.emptyDict) (o := PySem.W.instObj C s.heap.objs.size) rfl
    rwa [Heap.size_push] at this
  have e3 : (s.heap.push PySem.W.emptyDict).Ns s.heap.objs.size (fun _ => none) := ⟨PySem.W.emptyDict, #[], _, e1, rfl, (fun e he => absurd he (by simp)), fun _ => rfl⟩
  have I1 := I.laid (a := s.heap.objs.size) (o := .own (s.heap.objs.size + 1)) (h' := s.heap.push PySem.W.emptyDict) (t' := s.toks) (fun b u q => Heap.get?_push_of_some _ q) (Nat.le_refl _) ⟨_, e1⟩
  refine I1.laid (a := s.heap.objs.size + 1) (o := .ins C s.heap.objs.size []) (t' := s.toks) (fun b u q => Heap.get?_push_of_some _ q) (Nat.le_of_eq (Heap.size_push _ _)) ?_
  have ne : s.heap.objs.size ≠ s.heap.objs.size + 1 := Nat.ne_of_lt (Nat.lt_succ_self _)
  refine ⟨by rw [upd_ne ne, upd_same], Nat.zero_le _, ne, e2, fun _ => none, (Heap.Ns1.of_empty e3).at fun o q => Heap.get?_push_of_some _ q, fun _ => True.intro, fun y hy => absurd rfl hy⟩

end

section
variable {X : Cx} {o e value : Expr} {f : Str} {pos pos' tpos : Pos} {ta tv : TE}
end

/-! ### isinstance -/
section
variable {X : Cx} {pins : List (Addr × Obj)} {σ : St} {H : Hp} {s : Shared} {A : Around} {E : Value → Shared → Prop} {Q : Value → Shared → Prop} {c : Value} {b : Bool}
/-- the type of a value, as the fragment's deciders take it; for an instance its class -/
inductive TyOf (K : PySem.W.Frag) (H : Hp) : V → Value → Prop where
  | non : TyOf K H .non (.type "NoneType")
  | bl (x : Bool) : TyOf K H (.bl x) (.type "bool")
  | int (i : Int) : TyOf K H (.int i) (.type "int")
  | str (x : Str) : TyOf K H (.str x) (.type "str")
  | flt (x : UInt64) : TyOf K H (.flt x) (.type "float")
  | lst {a : Addr} {xs : List V} (e : H a = some (.lst xs)) : TyOf K H (.ref a) (.type "list")
  | frz {a : Addr} {o : Obj} {xs : List V} (e : H a = some (.frz o (.lst xs))) : TyOf K H (.ref a) (.type "list")
  | tup {a : Addr} {xs : List V} (e : H a = some (.tup xs)) : TyOf K H (.ref a) (.type "tuple")
  | dK {a : Addr} {kvs : List (Key × V)} (e : Rd H a (.dK kvs)) : TyOf K H (.ref a) (.type "dict")
  | dT {a : Addr} {kvs : List (List Key × V)} (e : H a = some (.dT kvs)) : TyOf K H (.ref a) (.type "dict")
  | ins {a C dx : Addr} {fs : List (Str × V)} (e : H a = some (.ins C dx fs)) (cl : Cls K C) (ha : PySem.W.findIn K (.ref C) "__class__" = some (some (.builtin "object.__class__")))
      (hn : PySem.W.specialIn K (.builtin "object.__class__") "__get__" = some (some (.builtin "getset_descriptor.__get__"))) (htk : PySem.W.takesIn K (.builtin "object.__class__") = some true)
      (hm : PySem.W.mroIn K C (.type "object") = some true) : TyOf K H (.ref a) (.ref C)
/-- isinstance(x, c) for one class c, a built-in or an own one: kitOne's answer -/
theorem isinst_ok {x : V} {u t : Value} (I : Inv X pins σ H s) (rx : RelV x u) (ty : TyOf X.K H x t) (e : PySem.W.kitOne X.K t c = some b) (h : ∀ tk, Q (.bool b) { s with toks := tk }) :
    wpAny (model X.prog X.w) A (call (.builtin "isinstance") [u, c]) Q E s := by
  cases ty with
  | non => cases (show u = Value.none from rx); exact PySem.W.kia_one PySem.W.kitx_none I.kIn True.intro e (fun z => nomatch z) h
  | bl y => cases (show u = Value.bool y from rx); exact PySem.W.kia_one PySem.W.kitx_bool I.kIn True.intro e (fun z => nomatch z) h
  | int i => obtain ⟨t, q⟩ := (show ∃ t, u = Value.int i t from rx); cases q; exact PySem.W.kia_one PySem.W.kitx_int I.kIn True.intro e (fun z => nomatch z) h
  | str y => obtain ⟨t, q⟩ := (show ∃ t, u = Value.str y t from rx); cases q; exact PySem.W.kia_one PySem.W.kitx_str I.kIn True.intro e (fun z => nomatch z) h
  | flt y => obtain ⟨t, q⟩ := (show ∃ t, u = Value.float y t from rx); cases q; exact PySem.W.kia_one PySem.W.kitx_float I.kIn True.intro e (fun z => nomatch z) h
  | @lst a xs ea =>
    cases (show u = Value.ref a from rx)
    obtain ⟨_, _, n, _, h1⟩ := (show ObjOk X.prog X.w H s.heap a (.lst xs) from I.hok a _ ea)
    exact PySem.W.kia_one PySem.W.kitx_list I.kIn ⟨_, h1, rfl⟩ e (fun z => nomatch z) h
  | @frz a ob xs ea =>
    cases (show u = Value.ref a from rx)
    obtain ⟨_, _, _, n, _, h1⟩ := (show ObjOk X.prog X.w H s.heap a (.frz ob (.lst xs)) from I.hok a _ ea)
    exact PySem.W.kia_one PySem.W.kitx_list I.kIn ⟨_, h1, rfl⟩ e (fun z => nomatch z) h
  | @tup a xs ea =>
    cases (show u = Value.ref a from rx)
    obtain ⟨_, _, _, p⟩ := (show ObjOk X.prog X.w H s.heap a (.tup xs) from I.hok a _ ea)
    obtain ⟨o, h1, h2, _⟩ := p
    exact PySem.W.kia_one PySem.W.kitx_tuple I.kIn ⟨o, h1, h2⟩ e (fun z => nomatch z) h
  | @dK a kvs ea =>
    cases (show u = Value.ref a from rx)
    obtain ⟨_, _, vs, _, p⟩ := (show ObjOk X.prog X.w H s.heap a (.dK kvs) from ea.ok I.hok)
    obtain ⟨o, es, ep, h1, h2, _⟩ := p
    exact PySem.W.kia_one PySem.W.kitx_dict I.kIn ⟨o, h1, h2.1⟩ e (fun z => nomatch z) h
  | @dT a kvs ea =>
    cases (show u = Value.ref a from rx)
    obtain ⟨_, _, xs, _, o, es, ep, h1, h2, _⟩ := (show ObjOk X.prog X.w H s.heap a (.dT kvs) from I.hok a _ ea)
    exact PySem.W.kia_one PySem.W.kitx_dict I.kIn ⟨o, h1, h2.1⟩ e (fun z => nomatch z) h
  | @ins a C dx fs ea cl ha hn htk hm =>
    cases (show u = Value.ref a from rx)
    obtain ⟨mA, O, _⟩ := ins_get I.hok ea
    obtain ⟨od, J, _⟩ := O.look
    exact PySem.W.kia_one (PySem.W.kitx_own (cl.get _) cl.hd ha hn htk hm) I.kIn J e (fun z => nomatch z) h
end
end L2

namespace L2
open PySem PySem.Spec PyProof.Rows

/-! ### room -/
structure Room (k : Nat) (A : Around) : Prop where
  hd : A.handled = none
  dp : A.depth + 3 * k + 5 < recursionLimit
  un : A.units + 16 * k + 200 < cLine
  gd : A.guards = some []
theorem Room.mono {j k : Nat} {A : Around} (r : Room k A) (h : j ≤ k) : Room j A := ⟨r.hd, by have := r.dp; omega, by have := r.un; omega, r.gd⟩
theorem Room.deeper {k : Nat} {A : Around} (r : Room (k + 1) A) (env : Env) : Room k (A.deeper env) :=
  ⟨r.hd, by have := r.dp; show A.depth + 1 + 3 * k + 5 < _; omega, by have := r.un; show A.units + 3 + 16 * k + 200 < _; omega, r.gd⟩
theorem Room.in1 {k : Nat} {A : Around} (r : Room (k + 1) A) : Room k A.in1 :=
  ⟨r.hd, by have := r.dp; show A.depth + 3 * k + 5 < _; omega, by have := r.un; show A.units + 1 + 16 * k + 200 < _; omega, r.gd⟩
theorem Room.depth {k : Nat} {A : Around} (r : Room k A) : A.depth < recursionLimit := by have := r.dp; omega
theorem Room.units {k : Nat} {A : Around} (r : Room k A) : A.units + 64 < cLine := by have := r.un; omega
/-! ### argument lists and displays -/
def tNil : TA := fun _ H Q => Q [] H
def tCons (ta : TE) (tr : TA) : TA := fun σ H Q => ta σ H fun x H1 => tr σ H1 fun xs H2 => Q (x :: xs) H2
section
variable {X : Cx} {e : Expr} {es : List Expr} {te : TE} {t : TA} {pos : Pos}
theorem pa_nil : PA X [] tNil := fun _ _ _ _ H Q I h => Calls.spliced_nil ⟨[], H, I, .nil, h⟩
theorem pa_cons (ha : PE X e te) (hr : PA X es t) (hs : starEach (e :: es) X.env = (false, eval e X.env) :: starEach es X.env := by rfl) : PA X (e :: es) (tCons te t) := by
  intro pos pins s σ H Q I h
  rw [hs]
  show wpAny _ _ (spliced ((false, eval e X.env) :: backTo pos (starEach es X.env))) _ _ s
  refine Calls.spliced_cons (thn (ha pins s σ H _ I h) fun u s1 ⟨x, H1, I1, r1, q1⟩ => ?_)
  exact thn (hr pos pins s1 σ H1 _ I1 q1) fun us s2 ⟨xs, H2, I2, r2, q2⟩ => ⟨x :: xs, H2, I2, .cons r1 r2, q2⟩

/-- a tuple, a list of written items -/
def tTup (t : TA) : TE := fun σ H Q => t σ H fun xs H1 => xs.length ≤ sizeLine ∧ ∀ p, H1 p = none → Q (.ref p) (upd H1 p (.tup xs))
def tLst (t : TA) : TE := fun σ H Q => t σ H fun xs H1 => xs.length ≤ sizeLine ∧ ∀ p, H1 p = none → Q (.ref p) (upd H1 p (.lst xs))
theorem pe_tup {x1} (h : PA X es t) : PE X (.Tuple es x1 pos) (tTup t) := by
  intro pins s σ H Q I hq
  refine wpAny_Tuple_spliced (thn (h pos pins s σ H _ I hq) fun us s1 ⟨xs, H1, I1, r, z, q⟩ => ⟨by rw [← r.length]; exact z, ?_⟩)
  have hf : H1 s1.heap.objs.size = none := I1.hok.fresh (Nat.le_refl _)
  refine ⟨.ref s1.heap.objs.size, upd H1 s1.heap.objs.size (.tup xs), I1.laid (t' := s1.toks) (fun b u e => Heap.get?_push_of_some _ e) (Nat.le_refl _) ?_, rfl, q _ hf⟩
  exact ⟨z, us, r, IsTupD.new _ _⟩
theorem pe_lst (h : PA X es t) : PE X (.List es pos) (tLst t) := by
  intro pins s σ H Q I hq
  refine wpAny_List_spliced (thn (h pos pins s σ H _ I hq) fun us s1 ⟨xs, H1, I1, r, z, q⟩ => ⟨by rw [← r.length]; exact z, ?_⟩)
  have hf : H1 s1.heap.objs.size = none := I1.hok.fresh (Nat.le_refl _)
  refine ⟨.ref s1.heap.objs.size, upd H1 s1.heap.objs.size (.lst xs), I1.laid (t' := s1.toks) (fun b u e => Heap.get?_push_of_some _ e) (Nat.le_refl _) ?_, rfl, q _ hf⟩
  exact ⟨z, us, 0, r, Heap.get?_push_size _ rfl⟩
end

/-! ### what a def promises -/
/-- a def's promise: the bound arguments in the parameters' order, the heap, the wanted end, the wanted exception -/
abbrev Sp := List V → Hp → VK → XK → Prop
/-- how an exception lies behind a call (file 08 gives it): the callers' frames, abstract heap and state ahead of the call, the wish, the exception, the state -/
abbrev CXT := List Env → Hp → Shared → XK → Value → Shared → Prop

/-- the state at a call -/
structure Env0 (P : Program) (w : World) (K : PySem.W.Frag) (mg : Str → Option Value) (base : Heap) (A : Around) (outer : List Env) (s : Shared) (H : Hp) : Prop where
  frames : A.frames = some outer
  mod : Mod K mg base
  bs : ∀ b o, base.get? b = some o → s.heap.get? b = some o ∧ H b = none
  bsz : base.objs.size ≤ s.heap.objs.size
  funs : s.heap.FunFrames base outer
  frf : ∀ b ∈ frs outer, H b = none
  hok : HOk P w H s.heap
  bare : AllBare s.gens
/-- a call's end -/
def CE (outer : List Env) (P : Program) (w : World) (H : Hp) (s : Shared) (Q : VK) (u : Value) (s' : Shared) : Prop :=
  ∃ v H', s'.os = s.os ∧ AllBare s'.gens ∧ Un (frs outer) [] H H' s.heap s'.heap ∧ HOk P w H' s'.heap ∧ RelV v u ∧ Q v H'
def CR (CX : CXT) (outer : List Env) (P : Program) (w : World) (H : Hp) (s : Shared) (Q : VK) (E : XK) (r : Result) (s' : Shared) : Prop :=
  match r with
  | .ok (.ret u) => CE outer P w H s Q u s'
  | .ok _ => False
  | .error e => CX outer H s E e s'
structure FnOk (P : Program) (w : World) (K : PySem.W.Frag) (mg : Str → Option Value) (base : Heap) (CX : CXT) (k : Nat) (f : Addr) (fd : FuncData) (ps : List Str) (sp : Sp) : Prop where
  len : ∀ vs H Q E, sp vs H Q E → vs.length = ps.length
  run : ∀ (A : Around) (outer : List Env) (s : Shared) (H : Hp) (args : Args) (us : List Value) (vs : List V) (Q : VK) (E : XK), Room k A → Env0 P w K mg base A outer s H → BindsTo s fd args (ps.zip us) → Vals vs us → sp vs H Q E →
    codeAny (model P w) A (.call (.ref f) args) (CR CX outer P w H s Q E) s
theorem FnOk.mono {P : Program} {w : World} {K : PySem.W.Frag} {mg : Str → Option Value} {base : Heap} {CX : CXT} {j k : Nat} {f : Addr} {fd : FuncData} {ps : List Str} {sp : Sp} (F : FnOk P w K mg base CX j f fd ps sp) (h : j ≤ k) :
    FnOk P w K mg base CX k f fd ps sp := ⟨F.len, fun A outer s H args us vs Q E hr => F.run A outer s H args us vs Q E (hr.mono h)⟩
/-- a weaker promise -/
theorem FnOk.imp {P : Program} {w : World} {K : PySem.W.Frag} {mg : Str → Option Value} {base : Heap} {CX : CXT} {k : Nat} {f : Addr} {fd : FuncData} {ps : List Str} {sp sp' : Sp} (F : FnOk P w K mg base CX k f fd ps sp)
    (h : ∀ vs H Q E, sp' vs H Q E → sp vs H Q E) : FnOk P w K mg base CX k f fd ps sp' :=
  ⟨fun vs H Q E q => F.len vs H Q E (h _ _ _ _ q), fun A outer s H args us vs Q E hr he hb hv hs => F.run A outer s H args us vs Q E hr he hb hv (h _ _ _ _ hs)⟩

theorem Env0.in1 {P : Program} {w : World} {K : PySem.W.Frag} {mg : Str → Option Value} {base : Heap} {A : Around} {outer : List Env} {s : Shared} {H : Hp} (e : Env0 P w K mg base A outer s H) :
    Env0 P w K mg base A.in1 outer s H := ⟨e.frames, e.mod, e.bs, e.bsz, e.funs, e.frf, e.hok, e.bare⟩

section
variable {X : Cx} {pins : List (Addr × Obj)} {σ : St} {H : Hp} {s s' : Shared}
/-- from a body: what a callee wants -/
theorem Inv.env0 (I : Inv X pins σ H s) : Env0 X.prog X.w X.K X.mg X.base X.A X.stack s H :=
  ⟨I.ok.frames, I.ok.mod, I.bs, Nat.le_trans I.ok.bsz I.sz, I.stack, I.stkFree, I.hok, I.bare⟩
/-- behind a call -/
theorem Inv.after {Q : VK} {u : Value} (I : Inv X pins σ H s) (h : CE X.stack X.prog X.w H s Q u s') : EP X pins σ Q u s' := by
  obtain ⟨v, H', os, bare, un, hok, r, q⟩ := h
  obtain ⟨hh, g, d, t, os'⟩ := s'
  obtain rfl : os' = s.os := os
  exact ⟨v, H', I.call (h' := hh) (g' := g) (d' := d) (t' := t) (ch := []) un hok bare (fun b z => absurd z (by simp)), r, q⟩
end

/-! ### calls -/
/-- f(..): the written arguments, then the defaults dvs; E: what is wanted of an exception -/
def tCall (sp : Sp) (dvs : List V) (E : XK) (t : TA) : TE := fun σ H Q => t σ H fun vs H1 => sp (vs ++ dvs) H1 Q E
/-- how the parameters are bound: us the positional arguments, kw the keywords' values by name, ds the defaults that fill up -/
def Binds (K : PySem.W.Frag) (fd : FuncData) (ps : List Str) (ds : List Value) : Prop :=
  ∀ (s : Shared) (us : List Value), K.In s.heap → (us ++ ds).length = ps.length → BindsTo s fd ⟨us, []⟩ (ps.zip (us ++ ds))
/-- every parameter is given -/
theorem Binds.all {K : PySem.W.Frag} {fd : FuncData} {ps : List Str} (h : ∀ us : List Value, us.length = ps.length → bindArgs fd ⟨us, []⟩ = pure (ps.zip us)) : Binds K fd ps [] := fun s us _ hl => by
  rw [List.append_nil] at hl ⊢
  exact .of_eq (h us hl)

/-- an exception of a callee reaches what this body wants of exceptions -/
def Passes (CX : CXT) (X : Cx) (E : XK) : Prop := ∀ (pins : List (Addr × Obj)) (σ : St) (H : Hp) (s : Shared) (e : Value) (s' : Shared), Inv X pins σ H s → CX X.stack H s E e s' → X.xe e s'

section
variable {X : Cx} {CX : CXT} {k : Nat} {f C : Addr} {fd : FuncData} {ps : List Str} {sp : Sp} {dvs : List V} {ds : List Value} {E : XK} {x m : Str} {p pos apos : Pos} {e o : Expr} {es : List Expr} {ta : TE} {t : TA}

/-- the callee runs -/
theorem run_fn {pins : List (Addr × Obj)} {σ : St} {H : Hp} {s : Shared} {Q : VK} {us : List Value} {vs : List V} (F : FnOk X.prog X.w X.K X.mg X.base CX k f fd ps sp) (hr : Room k X.A) (hb : Binds X.K fd ps ds) (hd : Vals dvs ds) (hx : Passes CX X E)
    (I : Inv X pins σ H s) (r : Vals vs us) (h : sp (vs ++ dvs) H Q E) : wpAny (model X.prog X.w) X.A (call (.ref f) us) (EP X pins σ Q) X.xe s := by
  have r2 : Vals (vs ++ dvs) (us ++ ds) := r.append hd
  have hl : (us ++ ds).length = ps.length := by rw [← r2.length]; exact F.len _ _ _ _ h
  refine wpAny_call (codeAny_mono (F.run X.A X.stack s H ⟨us, []⟩ (us ++ ds) (vs ++ dvs) Q E hr I.env0 (hb s us I.kIn hl) r2 h) fun r s' hq => ?_)
  cases r with
  | error e => exact hx pins σ H s e s' I hq
  | ok fl =>
    cases fl with
    | ret u => exact I.after hq
    | next => exact False.elim hq
    | brk => exact False.elim hq
    | cont => exact False.elim hq

theorem pe_call (F : FnOk X.prog X.w X.K X.mg X.base CX k f fd ps sp) (hr : Room k X.A) (hg : Gl X x) (hm : X.mg x = some (.ref f)) (hk : PySem.W.keepIn X.K (.ref f) = true) (hb : Binds X.K fd ps ds) (hd : Vals dvs ds) (hx : Passes CX X E)
    (ha : PA X (e :: es) t) (hdb : (x == ("__debug__" : Str)) = false := by decide) (he : starEach (e :: es) X.env = (false, eval e X.env) :: starEach es X.env := by rfl) (hpl : (backTo pos (starEach es X.env)).any (·.1) = false := by rfl) :
    PE X (.Call (.Name x p) (e :: es) [] pos) (tCall sp dvs E t) := by
  intro pins s σ H Q I h
  refine wpAny_Call_Name_kw (ld_glob I hg hm ?_ hdb)
  refine PySem.W.callWith_K (h₀ := X.base) I.ok.mod.kin hk (thn (ha pos pins s σ H _ I h) fun us s1 ⟨vs, H1, I1, r, q⟩ => ⟨I1.kIn, ?_⟩) he hpl
  exact run_fn F hr hb hd hx I1 r q
/-- what a class must have to be made -/
structure Mk (K : PySem.W.Frag) (C f : Addr) : Prop where
  makes : PySem.W.makesIn K C = true
  init : PySem.W.findIn K (.ref C) "__init__" = some (some (.ref f))
  fn : PySem.W.isFn K (.ref f) = true
  kp : PySem.W.keepIn K (.ref C) = true

end

section
variable {X : Cx} {CX : CXT} {k : Nat} {f C : Addr} {fd : FuncData} {ps ks : List Str} {sp : Sp} {E : XK} {x m : Str} {p pos apos kpos : Pos} {e o : Expr} {es : List Expr} {kws : List Keyword} {te ta : TE} {t tk : TA} {nm : Option Str}
/-- how a call with keywords binds: g puts the positional values us and the keywords' values ws (names ks) in the parameters' order, defaults among them -/
structure KBinds (K : PySem.W.Frag) (fd : FuncData) (ps ks : List Str) (g : List Value → List Value → List Value) (gV : List V → List V → List V) : Prop where
  to : ∀ (s : Shared) (us ws : List Value), K.In s.heap → (g us ws).length = ps.length → BindsTo s fd ⟨us, ks.zip ws⟩ (ps.zip (g us ws))
  rel : ∀ {vs : List V} {us : List Value} {zs : List V} {ws : List Value}, Vals vs us → Vals zs ws → Vals (gV vs zs) (g us ws)
variable {g : List Value → List Value → List Value} {gV : List V → List V → List V}
end

/-! ### a def's body keeps its promise -/
/-- names: the parameters first -/
structure FnScope (N P : List Str) (sc : Scope) : Prop where
  kind : sc.kind = .function
  co : sc.isCoroutine = false
  gen : sc.isGenerator = false
  nd : N.Nodup
  pre : N.take P.length = P
  par : ∀ x ∈ P, sc.names.lookup x = some .local ∨ sc.names.lookup x = some .cell
  nofree : ∀ y ∈ sc.names, y.2 ≠ .free

theorem bindL_out {kindOf : Str → Option NameKind} {x : Str} : ∀ {binds : List (Str × Value)} {m : Str → Option Value}, (∀ v, (x, v) ∉ binds) → bindL kindOf binds m x = m x
  | [], _, _ => rfl
  | (n, v) :: r, m, h => by
    unfold bindL
    rw [bindL_out fun w hw => h w (List.mem_cons_of_mem _ hw)]
    split
    · have : x ≠ n := by rintro rfl; exact h v List.mem_cons_self
      simp [this]
    · rfl
theorem bindC_out {kindOf : Str → Option NameKind} {x : Str} : ∀ {binds : List (Str × Value)} {m : Str → Option Value}, (∀ v, (x, v) ∉ binds) → bindC kindOf binds m x = m x
  | [], _, _ => rfl
  | (n, v) :: r, m, h => by
    unfold bindC
    rw [bindC_out fun w hw => h w (List.mem_cons_of_mem _ hw)]
    split
    · rfl
    · have : x ≠ n := by rintro rfl; exact h v List.mem_cons_self
      simp [this]
theorem bindL_get {kindOf : Str → Option NameKind} {x : Str} {v : Value} : ∀ {P : List Str} {vs : List Value} {i : Nat} {m : Str → Option Value}, P.Nodup → P[i]? = some x → vs[i]? = some v → kindOf x = some .local →
    bindL kindOf (P.zip vs) m x = some v
  | [], _, _, _, _, h, _, _ => by simp at h
  | _ :: _, [], _, _, _, _, h, _ => by simp at h
  | p :: P, w :: vs, 0, m, nd, h1, h2, hk => by
    simp at h1 h2; subst h1; subst h2
    show bindL kindOf ((p, w) :: P.zip vs) m p = _
    unfold bindL
    rw [bindL_out fun v hv => (List.nodup_cons.mp nd).1 (List.of_mem_zip hv).1, if_pos hk]
    simp
  | p :: P, w :: vs, i + 1, m, nd, h1, h2, hk => by
    show bindL kindOf ((p, w) :: P.zip vs) m x = _
    unfold bindL
    exact bindL_get (i := i) (List.nodup_cons.mp nd).2 (by simpa using h1) (by simpa using h2) hk
theorem bindC_get {kindOf : Str → Option NameKind} {x : Str} {v : Value} : ∀ {P : List Str} {vs : List Value} {i : Nat} {m : Str → Option Value}, P.Nodup → P[i]? = some x → vs[i]? = some v → kindOf x ≠ some .local →
    bindC kindOf (P.zip vs) m x = some v
  | [], _, _, _, _, h, _, _ => by simp at h
  | _ :: _, [], _, _, _, _, h, _ => by simp at h
  | p :: P, w :: vs, 0, m, nd, h1, h2, hk => by
    simp at h1 h2; subst h1; subst h2
    show bindC kindOf ((p, w) :: P.zip vs) m p = _
    unfold bindC
    rw [bindC_out fun v hv => (List.nodup_cons.mp nd).1 (List.of_mem_zip hv).1, if_neg hk]
    simp
  | p :: P, w :: vs, i + 1, m, nd, h1, h2, hk => by
    show bindC kindOf ((p, w) :: P.zip vs) m x = _
    unfold bindC
    exact bindC_get (i := i) (List.nodup_cons.mp nd).2 (by simpa using h1) (by simpa using h2) hk

/-- the names' values at the entry -/
def start (N : List Str) (vs : List V) : St := vs.map some ++ List.replicate (N.length - vs.length) none

/-- the context of a def's body, at its entry; an exception leaves the frame, then lies as CX says -/
def cxOf (CX : CXT) (P : Program) (w : World) (K : PySem.W.Frag) (mg : Str → Option Value) (base : Heap) (N : List Str) (qual : Str) (scope : Scope) (f : Addr) (cd : Value) (A : Around) (outer : List Env) (s : Shared) (H : Hp) (E : XK) : Cx where
  prog := P
  w := w
  K := K
  mg := mg
  base := base
  A := A.deeper (envOfC qual scope s.heap.objs.size f cd)
  N := N
  s₀ := s
  H₀ := H
  env := envOfC qual scope s.heap.objs.size f cd
  outer := outer
  stack := envOfC qual scope s.heap.objs.size f cd :: outer
  ex := []
  calm := true
  fn := fun _ => true
  pn := []
  xe := fun e s' => wpAny (model P w) (A.deeper (envOfC qual scope s.heap.objs.size f cd)) (leaving (envOfC qual scope s.heap.objs.size f cd) e) (fun _ s'' => CX outer H s E e s'') (fun e' s'' => CX outer H s E e' s'') s'

theorem cell_has {sc : Scope} {n : Nat} {x : Str} (h : sc.names.lookup x = some .cell) : ∃ c, (cellsFrom n sc.names []).lookup x = some c := by
  have q := PySem.W.cellsFrom_some sc.names n [] (.inl h)
  exact Option.isSome_iff_exists.mp q

theorem inv_start {CX : CXT} {P : Program} {w : World} {K : PySem.W.Frag} {mg : Str → Option Value} {base : Heap} {N ps : List Str} {qual : Str} {scope : Scope} {f : Addr} {cd : Value} {A : Around} {outer : List Env} {s s1 : Shared} {H : Hp} {E : XK} {us : List Value} {vs : List V}
    (S : FnScope N ps scope) (hd : A.handled = none) (e0 : Env0 P w K mg base A outer s H) (hl : vs.length = ps.length) (r : Vals vs us)
    (x : InCallC s s.heap.objs.size (bindL (envOfC qual scope s.heap.objs.size f cd).kindOf (ps.zip us) fun _ => none) (cellsFrom (s.heap.objs.size + 1) scope.names []) (bindC (envOfC qual scope s.heap.objs.size f cd).kindOf (ps.zip us) fun _ => none) s1) :
    Inv (cxOf CX P w K mg base N qual scope f cd A outer s H E) [] (start N vs) H s1 := by
  have hpl : ps.length ≤ N.length := by have := congrArg List.length S.pre; rw [List.length_take] at this; omega
  obtain ⟨h1, tk, rfl, hk⟩ := x.done
  have noA : ∀ b : Addr, b ∉ (cxOf CX P w K mg base N qual scope f cd A outer s H E).ex := fun b z => absurd (show b ∈ ([] : List Addr) from z) (by simp)
  refine ⟨⟨e0.mod, S.kind, rfl, rfl, Nat.le_refl _, fun y z c h1 h2 => ?_, fun y hy => ?_, fun y c _ h => ?_, fun _ => hd, Around.frames_deeper e0.frames, .inr ⟨rfl, rfl⟩, fun b z => absurd z (noA b), e0.bs, e0.bsz, fun b _ _ => noA b, fun b z => absurd z (noA b), e0.funs, e0.frf⟩,
    rfl, e0.bare, Un.kept hk, ⟨_, x.toInCall.ns, fun i y v h1 h2 h3 => ?_⟩, fun y c h => ⟨_, x.cell y c h⟩, e0.hok.fresh (Nat.le_refl _), fun y c h => ?_, fun p hp => absurd (show p ∈ ([] : List (Addr × Obj)) from hp) (by simp), e0.hok.kept hk, ?_⟩
  · exact name_of_addr x.apart (PySem.mem_of_lookup h1) (PySem.mem_of_lookup h2)
  · have hy : scope.names.lookup y = some .cell ∨ scope.names.lookup y = some .free := hy
    rcases hy with hy | hy
    · exact cell_has hy
    · exact absurd rfl (S.nofree _ (PySem.mem_of_lookup hy))
  · exact Nat.le_of_lt (x.above y c (PySem.mem_of_lookup h))
  · have hi : i < vs.length := by
      unfold start at h2
      by_cases hi : i < vs.length
      · exact hi
      · rw [List.getElem?_append_right (by simpa using hi)] at h2
        rw [List.getElem?_replicate] at h2
        split at h2 <;> cases h2
    have ha : vs[i]? = some v := by
      unfold start at h2
      rw [List.getElem?_append_left (by simpa using hi), List.getElem?_map] at h2
      cases e : vs[i]? with
      | none => rw [e] at h2; cases h2
      | some a => rw [e] at h2; cases h2; rfl
    obtain ⟨u, hu, rv⟩ := r.get ha
    have hp : ps[i]? = some y := by
      rw [← S.pre, List.getElem?_take_of_lt (by omega)]; exact h1
    have ndP : ps.Nodup := by rw [← S.pre]; exact S.nd.sublist (List.take_sublist _ _)
    refine ⟨u, rv, ?_⟩
    rcases S.par y (List.mem_of_getElem? hp) with k | k
    · exact .inl ⟨k, bindL_get ndP hp hu k⟩
    · obtain ⟨c, e⟩ := cell_has (n := s.heap.objs.size + 1) k
      refine .inr ⟨.inl k, c, e, ?_⟩
      have q := x.cell y c e
      rw [bindC_get ndP hp hu (by show scope.names.lookup y ≠ _; rw [k]; decide)] at q
      exact q
  · exact e0.hok.fresh (Nat.le_of_lt (x.above y c (PySem.mem_of_lookup h)))
  · unfold start
    show _ = N.length
    rw [List.length_append, List.length_map, List.length_replicate]
    omega

/-- THE RULE: a def (or a method) of the text, by its body. The body's reading t is chosen for each entry; it is run at the parameters' values -/
theorem fn_of {CX : CXT} {P : Program} {w : World} {K : PySem.W.Frag} {mg : Str → Option Value} {base : Heap} {k : Nat} {f : Addr} {name qual : Str} {params : Arguments} {body : List Stmt} {scope : Scope} {dV kV doc pm cdv ct oc : Value} {an od : Option Addr}
    {osl : Array (Option Value)} {N ps : List Str} {sp : Sp} (lk : K.lookup f = some ⟨oc, od, .func (PySem.W.fnOf name qual params body scope dV kV doc pm an cdv ct), osl⟩) (hcd : PySem.W.codeIn K cdv qual = true) (S : FnScope N ps scope)
    (len : ∀ vs H Q E, sp vs H Q E → vs.length = ps.length)
    (hbody : ∀ (A : Around) (outer : List Env) (s : Shared) (H : Hp) (vs : List V) (Q : VK) (E : XK), Room k (A.deeper (envOfC qual scope s.heap.objs.size f cdv)) → sp vs H Q E →
      ∃ t, PSs (cxOf CX P w K mg base N qual scope f cdv A outer s H E) body t ∧ t { nx := fun _ H' => Q .non H', rt := Q } (start N vs) H) :
    FnOk P w K mg base CX (k + 1) f (PySem.W.fnOf name qual params body scope dV kV doc pm an cdv ct) ps sp := by
  refine ⟨len, fun A outer s H args us vs Q E hr e0 hb r hsp => ?_⟩
  have hl := len _ _ _ _ hsp
  have KX : K.In s.heap := e0.mod.kin.keeps fun b o e => (e0.bs b o e).1
  have lim : s.heap.NoLimit := e0.mod.nolimit.keeps fun b o e => (e0.bs b o e).1
  have hkind : ∀ y ∈ ps.zip us, scope.names.lookup y.1 = some .local ∨ (scope.names.lookup y.1 = some .cell ∧ ((cellsFrom (s.heap.objs.size + 1) scope.names []).lookup y.1).isSome = true) := fun ⟨n, v⟩ hy => by
    rcases S.par n (List.of_mem_zip hy).1 with q | q
    · exact .inl q
    · exact .inr ⟨q, PySem.W.cellsFrom_some _ _ _ (.inl q)⟩
  refine codeAny_call_function hr.depth (KX _ _ lk) rfl S.co S.gen rfl (PySem.W.codeRec_of KX hcd) (hb _ _ _ _ ?_)
  refine wpAny_newFunctionEnv_cells S.kind hkind fun env he s1 x => ?_
  subst he
  refine ⟨lim.keeps x.toInCall.keep, codeAny_func ?_⟩
  obtain ⟨t, ht, hq⟩ := hbody A outer s H vs Q E (hr.deeper _) hsp
  have I : Inv (cxOf CX P w K mg base N qual scope f cdv A outer s H E) [] (start N vs) H s1 := inv_start S hr.hd e0 hl r x
  refine wpAny_mono (ht [] s1 (start N vs) H _ I hq) (fun fl s' hs => ?_) fun e s' hs => hs
  have fin : ∀ {σ' : St} {H' : Hp} {v : V} {u : Value}, Inv (cxOf CX P w K mg base N qual scope f cdv A outer s H E) [] σ' H' s' → RelV v u → Q v H' → CE outer P w H s Q u s' :=
    fun {σ' H' v u} J rv q => ⟨v, H', J.os, J.bare, J.base, J.hok, rv, q⟩
  cases fl with
  | ret u =>
    obtain ⟨v, σ', H', J, rv, q⟩ := hs
    exact fin J rv q
  | next =>
    obtain ⟨σ', H', J, q⟩ := hs
    exact fin (v := V.non) (u := Value.none) J rfl q
  | brk =>
    obtain ⟨_, _, _, q⟩ := hs
    exact False.elim q
  | cont =>
    obtain ⟨_, _, _, q⟩ := hs
    exact False.elim q
end L2

namespace L2
open PySem PySem.Spec PyProof.Rows
section
variable {X : Cx} {x : Str} {p pos : Pos} {e : Expr} {es : List Expr} {t : TA} {id T : String} {r : List V → Hp → VK → Prop}

def tCB (r : List V → Hp → VK → Prop) (t : TA) : TE := fun σ H Q => t σ H fun vs H1 => r vs H1 Q
/-- f(e, ..), f a built-in function -/
theorem pe_callB (hc : CallR X (.builtin id) r) (hg : Gl X x) (hm : X.mg x = none) (hv : bootBuiltins x = some (.builtin id)) (ha : PA X (e :: es) t) (hn : x ≠ "__name__" := by decide) (hdb : (x == ("__debug__" : Str)) = false := by decide)
    (he : starEach (e :: es) X.env = (false, eval e X.env) :: starEach es X.env := by rfl) (hpl : (backTo pos (starEach es X.env)).any (·.1) = false := by rfl) : PE X (.Call (.Name x p) (e :: es) [] pos) (tCB r t) := by
  intro pins s σ H Q I h
  refine wpAny_Call_Name_kw (ld_blt I hg hm hv ?_ hn hdb)
  exact PyProof.Rows.callWith_builtin1 (thn (ha pos pins s σ H _ I h) fun us s1 ⟨vs, H1, I1, r1, q1⟩ => hc pins s1 σ H1 vs us Q I1 r1 q1) he hpl
/-- T(e, ..), T a built-in type -/
theorem pe_callTy (hc : CallR X (.type T) r) (hg : Gl X x) (hm : X.mg x = none) (hv : bootBuiltins x = some (.type T)) (ha : PA X (e :: es) t) (hn : x ≠ "__name__" := by decide) (hdb : (x == ("__debug__" : Str)) = false := by decide)
    (he : starEach (e :: es) X.env = (false, eval e X.env) :: starEach es X.env := by rfl) (hpl : (backTo pos (starEach es X.env)).any (·.1) = false := by rfl) : PE X (.Call (.Name x p) (e :: es) [] pos) (tCB r t) := by
  intro pins s σ H Q I h
  refine wpAny_Call_Name_kw (ld_blt I hg hm hv ?_ hn hdb)
  exact PyProof.Rows.callWith_type1 (thn (ha pos pins s σ H _ I h) fun us s1 ⟨vs, H1, I1, r1, q1⟩ => hc pins s1 σ H1 vs us Q I1 r1 q1) he hpl
end
end L2

namespace HT
open PySem PyProof.Rows

/-- t < u of tuples of ints -/
def lexLt : List Int → List Int → Bool
  | [], [] => false
  | [], _ :: _ => true
  | _ :: _, [] => false
  | x :: xs, y :: ys => if x = y then lexLt xs ys else decide (x < y)
section
open PySem.SeqAt
open PySem.AutoSeq1 (wpAny_loadPart')
open PySem.MeetsSeq PySem.MeetsSeq2 PySem.MeetsSeq3

end

section
variable {prog : Program} {w : World} {A : Around} {E : Value → Shared → Prop} {s : Shared}

/-- t + u, t not empty -/
theorem cat_tup {t b : Addr} {vs ws : List Value} {Q : Value → Shared → Prop} (ht : IsTup s.heap t vs.toArray) (hb : IsTup s.heap b ws.toArray) (hv : vs ≠ [])
    (h1 : ws = [] → Q (.ref t) s) (h2 : ws ≠ [] → Q (.ref s.heap.objs.size) { s with heap := s.heap.push { cls := .type "tuple", data := .seq (vs ++ ws).toArray } })
    (hsz : vs.length + ws.length ≤ sizeLine) : wpAny (model prog w) A (binaryOp .Add (.ref t) (.ref b)) Q E s := by
  obtain ⟨⟨cls, dd, data, sl⟩, ho, hc, n, hd⟩ := id ht
  obtain ⟨⟨cls2, dd2, data2, sl2⟩, ho2, hc2, n2, hd2⟩ := id hb
  simp only at hc hd hc2 hd2
  subst hc hd hc2 hd2
  have e : vs.toArray ++ ws.toArray = (vs ++ ws).toArray := by simp
  by_cases hw : ws = []
  · exact concat_meets ⟨_, ho, rfl⟩ ⟨_, ho2, rfl⟩ noFill_tuple_add seq_tuple_add PySem.F.slot_tuple_add PySem.F.entry_tuple_add (PySem.F.args_tuple_add_2 _ _)
      (tuple_addW1 t b vs.toArray ws.toArray n n2 dd dd2 sl sl2 (by simpa using hv) (by simp [hw])) ⟨ho, ho2, h1 hw⟩
  · refine concat_meets ⟨_, ho, rfl⟩ ⟨_, ho2, rfl⟩ noFill_tuple_add seq_tuple_add PySem.F.slot_tuple_add PySem.F.entry_tuple_add (PySem.F.args_tuple_add_2 _ _)
      (tuple_addW2 t b vs.toArray ws.toArray n n2 dd dd2 sl sl2 (by simpa using hv) (by simpa using hw) (by rw [List.size_toArray, List.size_toArray]; exact hsz)) ⟨ho, ho2, ?_⟩
    rw [e]
    exact h2 hw

/-! ### t[a:b], not the whole -/
/-- a slice's bound as a place among n (d where it is left out) -/
def sIx (n d : Nat) : Option Int → Nat
  | none => d
  | some v => if v < 0 then (v + (n : Int)).toNat else min v.toNat n
theorem sIx_none (n d : Nat) : sIx n d none = d := rfl
theorem sIx_nat (n d k : Nat) : sIx n d (some (k : Int)) = min k n := by
  show (if (k : Int) < 0 then ((k : Int) + (n : Int)).toNat else min (k : Int).toNat n) = min k n
  rw [if_neg (by omega), Int.toNat_natCast]
end
end HT

namespace L2
open PySem PySem.Spec PyProof.Rows

/-! ### the parts of a slice -/
abbrev TO := St → Hp → (Option Int → Hp → Prop) → Prop
/-- a slice's part (left out, or an int) -/
def PO (X : Cx) (e : Option Expr) (t : TO) : Prop :=
  ∀ (pins : List (Addr × Obj)) (s : Shared) (σ : St) (H : Hp) (Q : Option Int → Hp → Prop), Inv X pins σ H s → t σ H Q →
    wpAny (model X.prog X.w) X.A (evalPart e X.env) (fun u s' => ∃ o H', Inv X pins σ H' s' ∧ IsPart u o ∧ Q o H') X.xe s
def tNoPart : TO := fun _ H Q => Q none H
def tPart (t : TE) : TO := fun σ H Q => t σ H fun x H1 => ∃ i, x = .int i ∧ Q (some i) H1

section
variable {X : Cx} {e : Expr} {te : TE} {lo hi : Option Expr} {tl th : TO} {pos p2 : Pos}

theorem po_none : PO X none tNoPart := by
  intro pins s σ H Q I h
  rw [evalPart_none]
  exact wpAny_pure ⟨none, H, I, .none, h⟩
theorem po_some (h : PE X e te) : PO X (some e) (tPart te) := by
  intro pins s σ H Q I hw
  rw [evalPart_some]
  refine thn (h pins s σ H _ I hw) fun u s1 ⟨x, H1, I1, r1, q1⟩ => ?_
  obtain ⟨i, rfl, q⟩ := q1
  obtain ⟨t, rfl⟩ := r1
  exact ⟨some i, H1, I1, .int i t, q⟩

/-- what a slice of a value is, by values: the slice object stands at sl -/
def SlR (X : Cx) (r : V → Option Int → Option Int → Hp → VK → Prop) : Prop :=
  ∀ (pins : List (Addr × Obj)) (s : Shared) (σ : St) (H : Hp) (x : V) (v vl vu : Value) (lo hi : Option Int) (sl : Addr) (Q : VK), Inv X pins σ H s → RelV x v → s.heap.IsSliceOf sl vl vu .none → IsPart vl lo → IsPart vu hi → r x lo hi H Q →
    ∃ T id, typeLookup (.type T) "__getitem__" = pure (some (.builtin id)) ∧ s.TypeIs v T ∧ wpAny (model X.prog X.w) X.A (getItem v (.ref sl)) (EP X pins σ Q) X.xe s
theorem SlR.or {r r' : V → Option Int → Option Int → Hp → VK → Prop} (h : SlR X r) (h' : SlR X r') : SlR X (fun x lo hi H Q => r x lo hi H Q ∨ r' x lo hi H Q) := by
  intro pins s σ H x v vl vu lo hi sl Q I rx hs pl pu q
  rcases q with q | q
  · exact h pins s σ H x v vl vu lo hi sl Q I rx hs pl pu q
  · exact h' pins s σ H x v vl vu lo hi sl Q I rx hs pl pu q
def tSl (r : V → Option Int → Option Int → Hp → VK → Prop) (te : TE) (tl th : TO) : TE := fun σ H Q => te σ H fun x H1 => tl σ H1 fun l H2 => th σ H2 fun u H3 => r x l u H3 Q
/-- a[lo:hi], any a -/
theorem pe_slice {r : V → Option Int → Option Int → Hp → VK → Prop} (hr : SlR X r) (he : PE X e te) (hl : PO X lo tl) (hu : PO X hi th) : PE X (.Subscript e (.Slice lo hi none p2) pos) (tSl r te tl th) := by
  intro pins s σ H Q I h
  refine Subscript_ (thn (he pins s σ H _ I h) fun v s1 ⟨x, H1, I1, r1, q1⟩ => ?_)
  refine wpAny_Slice (thn (hl pins s1 σ H1 _ I1 q1) fun vl s2 ⟨l, H2, I2, pl, q2⟩ => thn (hu pins s2 σ H2 _ I2 q2) fun vu s3 ⟨u, H3, I3, pu, q3⟩ => ?_)
  rw [evalPart_none]
  refine wpAny_pure ?_
  have I4 : Inv X pins σ H3 { s3 with heap := s3.heap.push { cls := .type "slice", data := .fields #[vl, vu, .none] } } := I3.kept (t' := s3.toks) fun b ob q => Heap.get?_push_of_some _ q
  obtain ⟨T, id, hT, ht, hg⟩ := hr pins { s3 with heap := s3.heap.push { cls := .type "slice", data := .fields #[vl, vu, .none] } } σ H3 x v vl vu l u s3.heap.objs.size Q I4 r1 (Heap.IsSliceOf.new ..) pl pu q3
  show wpAny (model X.prog X.w) X.A (subscriptTail e (.Slice lo hi none p2) v (.ref s3.heap.objs.size)) (EP X pins σ Q) X.xe { s3 with heap := s3.heap.push { cls := .type "slice", data := .fields #[vl, vu, .none] } }
  exact tail_any (ops := [.ref s3.heap.objs.size, v]) ht hT hg (by with_unfolding_all rfl)

/-- the items of xs[lo:hi] -/
def cutV (xs : List V) (lo hi : Option Int) : List V := (xs.drop (HT.sIx xs.length 0 lo)).take (HT.sIx xs.length xs.length hi - HT.sIx xs.length 0 lo)
theorem cutV_length (xs : List V) (lo hi : Option Int) : (cutV xs lo hi).length ≤ xs.length := by
  unfold cutV
  rw [List.length_take, List.length_drop]
  omega
/-- t + u, t not empty: u empty gives t itself -/
def rCatT (K : PySem.W.Frag) : R2 := fun x y H Q => ∃ a b xs ys, x = .ref a ∧ y = .ref b ∧ SqT K H a xs ∧ SqT K H b ys ∧ xs ≠ [] ∧ xs.length + ys.length ≤ sizeLine ∧
  (ys = [] → Q (.ref a) H) ∧ (ys ≠ [] → ∀ p, H p = none → Q (.ref p) (upd H p (.tup (xs ++ ys))))
theorem Vals.nil_iff {xs : List V} {us : List Value} (r : Vals xs us) : us = [] ↔ xs = [] := by
  cases r with
  | nil => simp
  | cons _ _ => simp
theorem op_catT : OpR X (binaryOp .Add) (rCatT X.K) := by
  intro pins s σ H x y v u Q I rx ry h
  obtain ⟨a, b, xs, ys, rfl, rfl, ha, hb, hx, hz, q1, q2⟩ := h
  cases rx
  cases ry
  obtain ⟨its, r1, p1, _⟩ := I.tuple ha
  obtain ⟨its2, r2, p2, _⟩ := I.tuple hb
  refine HT.cat_tup p1 p2 (fun z => hx (r1.nil_iff.mp z)) (fun z => ⟨.ref a, H, I, rfl, q1 (r2.nil_iff.mp z)⟩) (fun z => ?_) (by rw [← r1.length, ← r2.length]; exact hz)
  refine ⟨.ref s.heap.objs.size, _, I.laid (t' := s.toks) (o := .tup (xs ++ ys)) (fun b ob q => Heap.get?_push_of_some _ q) (Nat.le_refl _) ?_, rfl, q2 (fun w => z (r2.nil_iff.mpr w)) _ (I.hok.fresh (Nat.le_refl _))⟩
  exact ⟨by rw [List.length_append]; exact hz, _, r1.append r2, IsTupD.new _ _⟩
end
end L2

namespace L2
open PySem PySem.Spec PyProof.Rows

/-! ### places -/
/-- the place that an index of any sign means -/
def ixN (n : Nat) (i : Int) : Option Nat := if 0 ≤ i then (if i < n then some i.toNat else none) else if -(n : Int) ≤ i then some (i + n).toNat else none
def atI {α : Type} (xs : List α) (i : Int) : Option α := (ixN xs.length i).bind fun j => xs[j]?
theorem ixN_seq {n : Nat} {i : Int} {j : Nat} (h : ixN n i = some j) : seqIndex? i n = some j ∧ j < n ∧ -(n : Int) ≤ i ∧ i < n := by
  unfold ixN at h
  by_cases h0 : 0 ≤ i
  · rw [if_pos h0] at h
    by_cases h1 : i < n
    · rw [if_pos h1] at h
      have e : i.toNat = j := Option.some.inj h
      exact ⟨by rw [seqIndex_of h0 h1, e], by omega, by omega, h1⟩
    · rw [if_neg h1] at h; cases h
  · rw [if_neg h0] at h
    by_cases h1 : -(n : Int) ≤ i
    · rw [if_pos h1] at h
      have e : (i + n).toNat = j := Option.some.inj h
      exact ⟨by rw [seqIndex_neg (by omega) h1, e], by omega, h1, by omega⟩
    · rw [if_neg h1] at h; cases h
theorem atI_get {α : Type} {xs : List α} {i : Int} {v : α} (h : atI xs i = some v) : ∃ j, seqIndex? i xs.length = some j ∧ xs[j]? = some v ∧ j < xs.length ∧ -(xs.length : Int) ≤ i ∧ i < xs.length := by
  unfold atI at h
  cases e : ixN xs.length i with
  | none => rw [e] at h; cases h
  | some j =>
    rw [e] at h
    obtain ⟨h1, h2, h3, h4⟩ := ixN_seq e
    exact ⟨j, h1, h, h2, h3, h4⟩
theorem atI_nat {α : Type} {xs : List α} {j : Nat} {v : α} (h : xs[j]? = some v) : atI xs (j : Int) = some v := by
  have hj : j < xs.length := (List.getElem?_eq_some_iff.mp h).1
  have e : ixN xs.length (j : Int) = some j := by
    unfold ixN
    rw [if_pos (by omega), if_pos (by omega)]; simp
  unfold atI; rw [e]; exact h
/-! ### what may be subscripted -/
/-- what stands as an index of a plain subscript -/
def PlainIx (b : Expr) : Prop := ∀ o i, subscripted b false o i = operate [o, i] (getItem o i)
/-- a subscript by values -/
def IxR (X : Cx) (r : R2) : Prop :=
  ∀ (value slice : Expr) (pins : List (Addr × Obj)) (s : Shared) (σ : St) (H : Hp) (x y : V) (v u : Value) (Q : VK), Inv X pins σ H s → RelV x v → RelV y u → r x y H Q →
    subscripted slice false v u = operate [v, u] (getItem v u) → wpAny (model X.prog X.w) X.A (subscriptTail value slice v u) (EP X pins σ Q) X.xe s
/-- a call of a builtin's method by values: the receiver, the arguments -/
def MtR (X : Cx) (id : String) (r : V → List V → Hp → VK → Prop) : Prop :=
  ∀ (pins : List (Addr × Obj)) (s : Shared) (σ : St) (H : Hp) (x : V) (xs : List V) (v : Value) (us : List Value) (Q : VK), Inv X pins σ H s → RelV x v → Vals xs us → r x xs H Q →
    wpAny (model X.prog X.w) X.A (call (.builtin id) (v :: us)) (EP X pins σ Q) X.xe s
section
variable {X : Cx} {a b : Expr} {ta tb : TE} {pos : Pos}
theorem IxR.or {r r' : R2} (h : IxR X r) (h' : IxR X r') : IxR X (fun x y H Q => r x y H Q ∨ r' x y H Q) := by
  intro value slice pins s σ H x y v u Q I rx ry q hs
  rcases q with q | q
  · exact h value slice pins s σ H x y v u Q I rx ry q hs
  · exact h' value slice pins s σ H x y v u Q I rx ry q hs
theorem MtR.or {id : String} {r r' : V → List V → Hp → VK → Prop} (h : MtR X id r) (h' : MtR X id r') : MtR X id (fun x xs H Q => r x xs H Q ∨ r' x xs H Q) := by
  intro pins s σ H x xs v us Q I rx rs q
  rcases q with q | q
  · exact h pins s σ H x xs v us Q I rx rs q
  · exact h' pins s σ H x xs v us Q I rx rs q
/-- a[b] -/
theorem pe_ix {r : R2} (hr : IxR X r) (ha : PE X a ta) (hb : PE X b tb) (hs : PlainIx b) : PE X (.Subscript a b pos) (tOp r ta tb) := by
  intro pins s σ H Q I h
  exact Subscript_ (binT ha hb I h fun v u s2 x y H2 I2 rx ry q => hr a b pins s2 σ H2 x y v u Q I2 rx ry q (hs _ _))

def rIxL (K : PySem.W.Frag) : R2 := fun x y H Q => ∃ p xs i v, x = .ref p ∧ y = .int i ∧ SqL K H p xs ∧ atI xs i = some v ∧ Q v H
def rIxT (K : PySem.W.Frag) : R2 := fun x y H Q => ∃ p xs i v, x = .ref p ∧ y = .int i ∧ SqT K H p xs ∧ atI xs i = some v ∧ Q v H
theorem ix_list : IxR X (rIxL X.K) := by
  intro value slice pins s σ H x y v u Q I rx ry h hs
  obtain ⟨p, xs, i, z, rfl, rfl, hq, he, q⟩ := h
  cases rx
  obtain ⟨t, rfl⟩ := ry
  obtain ⟨its, r, pl, hz⟩ := I.list hq
  obtain ⟨j, h1, h2, h3, h4, h5⟩ := atI_get he
  obtain ⟨w, ew, rw'⟩ := r.get h2
  have hl := r.length
  have hn := line63
  have fin : EP X pins σ Q w s := ⟨z, H, I, rw', q⟩
  by_cases h0 : 0 ≤ i
  · have hj : i.toNat = j := by
      rw [seqIndex_of h0 h5] at h1
      exact Option.some.inj h1
    exact item_listR pl.isList h0 (by omega) (by rw [hj]; simpa using ew) fin hs
  · have hj : (i + (its.toArray.size : Int)).toNat = j := by
      rw [seqIndex_neg (by omega) h4] at h1
      rw [List.size_toArray, ← hl]
      exact Option.some.inj h1
    exact subscriptTail_builtinR (x := w) pl.isList.typeIs slot_list_getitem.lookup
      (wpAny_getItem_list_neg (Q := fun r s' => r = w ∧ EP X pins σ Q r s') pl.isList (by omega) (by rw [List.size_toArray] <;> omega) (by omega) (by rw [hj]; simpa using ew) ⟨rfl, fin⟩) hs
theorem ix_tup : IxR X (rIxT X.K) := by
  intro value slice pins s σ H x y v u Q I rx ry h hs
  obtain ⟨p, xs, i, z, rfl, rfl, hq, he, q⟩ := h
  cases rx
  obtain ⟨t, rfl⟩ := ry
  obtain ⟨its, r, pl, hz⟩ := I.tuple hq
  obtain ⟨j, h1, h2, h3, h4, h5⟩ := atI_get he
  obtain ⟨w, ew, rw'⟩ := r.get h2
  have hl := r.length
  have hn := line63
  have fin : EP X pins σ Q w s := ⟨z, H, I, rw', q⟩
  exact subscriptTail_builtinR (x := w) pl.typeIs slot_tuple_getitem.lookup
    (getItem_tuple (j := j) (Q := fun r s' => r = w ∧ EP X pins σ Q r s') pl (by omega) (by omega) (by rw [List.size_toArray, ← hl]; exact h1) (by simpa using ew) ⟨rfl, fin⟩) hs
/-! ### xs[i] = v, any sign -/
/-- the list's object behind a store -/
theorem mapSeq_set (its : List Value) (n j : Nat) (u : Value) : Obj.mapSeq (·.setIfInBounds j u) { cls := .type "list", data := .seq its.toArray n } = { cls := .type "list", data := .seq (its.set j u).toArray n } := by
  simp [Obj.mapSeq]
theorem Inv.lst {pins : List (Addr × Obj)} {σ : St} {H : Hp} {s : Shared} {p : Addr} {xs : List V} (I : Inv X pins σ H s) (h : H p = some (.lst xs)) :
    ∃ (its : List Value) (n : Nat), Vals xs its ∧ s.heap.get? p = some { cls := .type "list", data := .seq its.toArray n } ∧ xs.length ≤ sizeLine := by
  obtain ⟨z, its, n, r, e⟩ := I.hok p _ h
  exact ⟨its, n, r, e, z⟩
/-- the list at p is written by an update of its object -/
theorem Inv.lstUpd {pins : List (Addr × Obj)} {σ : St} {H : Hp} {s : Shared} {p : Addr} {xs ys : List V} {its its' : List Value} {n n' : Nat} {f : Obj → Obj} (I : Inv X pins σ H s) (h : H p = some (.lst xs))
    (ho : s.heap.get? p = some { cls := .type "list", data := .seq its.toArray n }) (hf : f { cls := .type "list", data := .seq its.toArray n } = { cls := .type "list", data := .seq its'.toArray n' }) (r : Vals ys its') (hz : ys.length ≤ sizeLine) (t : Nat) :
    Inv X pins σ (upd H p (.lst ys)) { s with heap := s.heap.update p f, toks := t } := by
  have e : (s.heap.update p f).get? p = some { cls := .type "list", data := .seq its'.toArray n' } := by
    rw [Heap.get?_update_self f ho (by rw [hf] <;> rfl), hf]
  refine I.write (x := p) (e := p) (by rw [h]; trivial) (.inl rfl) (fun b u hb q => (Heap.get?_update_other _ _ (Ne.symm hb)).trans q) ⟨_, e⟩ ?_
  exact ⟨hz, its', n', r, e⟩
def rSetL : V → V → V → Hp → (Hp → Prop) → Prop := fun o i v H Q => ∃ p xs k j, o = .ref p ∧ i = .int k ∧ H p = some (.lst xs) ∧ ixN xs.length k = some j ∧ Q (upd H p (.lst (xs.set j v)))
theorem set_list : PSet X rSetL := by
  intro pins s σ H o i v ov iv u Q I ro ri rv h
  obtain ⟨p, xs, k, j, rfl, rfl, hp, hj, q⟩ := h
  cases ro
  obtain ⟨t, rfl⟩ := ri
  obtain ⟨its, n, r, ho, hz⟩ := I.lst hp
  obtain ⟨h1, h2, h3, h4⟩ := ixN_seq hj
  have hl := r.length
  have hn := line63
  have I' : Inv X pins σ (upd H p (.lst (xs.set j v))) { s with heap := s.heap.update p (Obj.mapSeq (·.setIfInBounds j u)) } :=
    I.lstUpd hp ho (mapSeq_set its n j u) (r.set rv j) (by rw [List.length_set]; exact hz) s.toks
  by_cases h0 : 0 ≤ k
  · have hk : k.toNat = j := by
      rw [seqIndex_of h0 h4] at h1
      exact Option.some.inj h1
    exact PySem.W.ki_setAt ho h0 (by omega) (by rw [List.size_toArray, ← hl]; exact h4) (by rw [hk]; exact ⟨_, I', q⟩)
  · have hk : (k + (its.toArray.size : Int)).toNat = j := by
      rw [seqIndex_neg (by omega) h3] at h1
      rw [List.size_toArray, ← hl]
      exact Option.some.inj h1
    exact PySem.W.ki_setBack ho (by omega) (by rw [List.size_toArray, ← hl]; exact h3) (by omega) (by rw [hk]; exact ⟨_, I', q⟩)

/-! ### slices -/
theorem slice_bounds (lo hi : Option Int) (n : Nat) : (sliceBounds lo hi none n).1 = ((HT.sIx n 0 lo : Nat) : Int) ∧ (sliceBounds lo hi none n).2.1 = ((HT.sIx n n hi : Nat) : Int) ∧ (sliceBounds lo hi none n).2.2 = 1 := by
  refine ⟨?_, ?_, rfl⟩
  · cases lo with
    | none => simp [sliceBounds, HT.sIx]
    | some i =>
      simp only [sliceBounds, HT.sIx, Option.getD_none, show (1 : Int) > 0 by decide, if_true]
      by_cases h : i < 0
      · simp only [h, if_true] <;> omega
      · simp only [h, if_false] <;> omega
  · cases hi with
    | none => simp [sliceBounds, HT.sIx]
    | some i =>
      simp only [sliceBounds, HT.sIx, Option.getD_none, show (1 : Int) > 0 by decide, if_true]
      by_cases h : i < 0
      · simp only [h, if_true] <;> omega
      · simp only [h, if_false] <;> omega
theorem slicePick_cut (its : List Value) (lo hi : Option Int) : slicePick its.toArray lo hi none = ((its.drop (HT.sIx its.length 0 lo)).take (HT.sIx its.length its.length hi - HT.sIx its.length 0 lo)).toArray := by
  obtain ⟨h1, h2, h3⟩ := slice_bounds lo hi its.toArray.size
  unfold slicePick
  rw [h1, h2, h3]
  simp only [sliceRange_one, pick_run, List.size_toArray] <;> rfl
/-- xs[lo:hi] of a list: a new list -/
def rSlL (K : PySem.W.Frag) : V → Option Int → Option Int → Hp → VK → Prop := fun x lo hi H Q => ∃ a xs, x = .ref a ∧ SqL K H a xs ∧ ∀ p, H p = none → Q (.ref p) (upd H p (.lst (cutV xs lo hi)))
theorem sl_list : SlR X (rSlL X.K) := by
  intro pins s σ H x v vl vu lo hi sl Q I rx hs pl pu h
  obtain ⟨a, xs, rfl, hx, q⟩ := h
  cases rx
  obtain ⟨its, r, ht, hz⟩ := I.list hx
  have hlen := r.length
  refine ⟨"list", _, slot_list_getitem.lookup, ht.isList.typeIs, ?_⟩
  refine wpAny_getItem_list_slice ht.isList hs pl pu .none (by simp) ?_ (by rw [List.size_toArray] <;> omega)
  rw [slicePick_cut, ← hlen]
  refine ⟨.ref s.heap.objs.size, _, I.laid (t' := s.toks) (o := .lst (cutV xs lo hi)) (fun b ob q => Heap.get?_push_of_some _ q) (Nat.le_refl _) ?_, rfl, q _ (I.hok.fresh (Nat.le_refl _))⟩
  exact ⟨Nat.le_trans (cutV_length xs lo hi) hz, _, 0, (r.drop (HT.sIx xs.length 0 lo)).take (HT.sIx xs.length xs.length hi - HT.sIx xs.length 0 lo), Heap.get?_push_size _ rfl⟩

/-! ### in, not in: flat items -/
def flatV : V → Bool
  | .non => true
  | .bl _ => true
  | .int _ => true
  | .str _ => true
  | _ => false
/-- == of flat values -/
def eqV : V → V → Bool
  | .non, .non => true
  | .bl a, .bl b => a == b
  | .bl a, .int b => (if a then 1 else 0) == b
  | .int a, .bl b => a == (if b then 1 else 0)
  | .int a, .int b => a == b
  | .str a, .str b => a == b
  | _, _ => false
theorem eqAt_V {A : Around} {s : Shared} {y x : V} {u v : Value} (ry : RelV y u) (rx : RelV x v) (fy : flatV y = true) (fx : flatV x = true) : SeqAt.EqAt A s u v (eqV y x) := by
  cases y with
  | non =>
    cases ry
    cases x with
    | non => cases rx; exact SeqAt.EqAt.same _
    | bl b => cases rx; exact SeqAt.EqAt.none_bool b
    | int b => obtain ⟨t, rfl⟩ := rx; exact SeqAt.EqAt.none_int b t
    | str b => obtain ⟨t, rfl⟩ := rx; exact SeqAt.EqAt.none_str b t
    | _ => exact absurd (show false = true from fx) Bool.false_ne_true
  | bl a =>
    cases ry
    cases x with
    | non => cases rx; exact SeqAt.EqAt.bool_none a
    | bl b => cases rx; exact SeqAt.EqAt.bool_bool a b
    | int b => obtain ⟨t, rfl⟩ := rx; exact SeqAt.EqAt.bool_int a b t
    | str b => obtain ⟨t, rfl⟩ := rx; exact SeqAt.EqAt.bool_str a b t
    | _ => exact absurd (show false = true from fx) Bool.false_ne_true
  | int a =>
    obtain ⟨t', rfl⟩ := ry
    cases x with
    | non => cases rx; exact SeqAt.EqAt.int_none a t'
    | bl b => cases rx; exact SeqAt.EqAt.int_bool a t' b
    | int b => obtain ⟨t, rfl⟩ := rx; exact SeqAt.EqAt.int_int a t' b t
    | str b => obtain ⟨t, rfl⟩ := rx; exact SeqAt.EqAt.int_str a t' b t
    | _ => exact absurd (show false = true from fx) Bool.false_ne_true
  | str a =>
    obtain ⟨t', rfl⟩ := ry
    cases x with
    | non => cases rx; exact SeqAt.EqAt.str_none a t'
    | bl b => cases rx; exact SeqAt.EqAt.str_bool a t' b
    | int b => obtain ⟨t, rfl⟩ := rx; exact SeqAt.EqAt.str_int a t' b t
    | str b => obtain ⟨t, rfl⟩ := rx; exact SeqAt.EqAt.str_str a t' b t
    | _ => exact absurd (show false = true from fx) Bool.false_ne_true
  | _ => exact absurd (show false = true from fy) Bool.false_ne_true
/-! ### len, list(x), tuple(x) of any list or tuple that is read -/
theorem call_len_seq : CallR X (.builtin "len") (fun xs H Q => ∃ p ys, xs = [.ref p] ∧ (SqL X.K H p ys ∨ SqT X.K H p ys) ∧ Q (.int ys.length) H) := by
  intro pins s σ H xs us Q I r h
  obtain ⟨p, ys, rfl, hq, q⟩ := h
  obtain ⟨u, rfl, rx⟩ := vals1 r
  cases rx
  have hn := line63
  rcases hq with hq | hq
  · obtain ⟨its, r', pl, hz⟩ := I.list hq
    have hlen := r'.length
    exact Calls.call_len_list pl.isList (by simp only [List.size_toArray] <;> omega) ⟨.int ys.length, H, I.tok _, ⟨s.toks + 1, by rw [List.size_toArray, hlen]⟩, q⟩
  · obtain ⟨its, r', pl, hz⟩ := I.tuple hq
    have hlen := r'.length
    exact len_tuple pl (by simp only [List.size_toArray] <;> omega) ⟨.int ys.length, H, I.tok _, ⟨s.toks + 1, by rw [List.size_toArray, hlen]⟩, q⟩
theorem CallR.or {f : Value} {r r' : List V → Hp → VK → Prop} (h : CallR X f r) (h' : CallR X f r') : CallR X f (fun xs H Q => r xs H Q ∨ r' xs H Q) := by
  intro pins s σ H xs us Q I rs q
  rcases q with q | q
  · exact h pins s σ H xs us Q I rs q
  · exact h' pins s σ H xs us Q I rs q
theorem call_list_of : CallR X (.type "list") (fun xs H Q => ∃ p ys, xs = [.ref p] ∧ (SqL X.K H p ys ∨ SqT X.K H p ys) ∧ ∀ l, H l = none → Q (.ref l) (upd H l (.lst ys))) := by
  intro pins s σ H xs us Q I r h
  obtain ⟨p, ys, rfl, hq, q⟩ := h
  obtain ⟨u, rfl, rx⟩ := vals1 r
  cases rx
  have fin : ∀ (its : List Value), Vals ys its → ys.length ≤ sizeLine → ∀ (h' : Heap) (c' : Nat), (∀ b o', s.heap.get? b = some o' → h'.get? b = some o') →
      h'.get? s.heap.objs.size = some { cls := .type "list", dict := none, data := .seq its.toArray c', slots := #[] } → EP X pins σ Q (.ref s.heap.objs.size) { s with heap := h' } := fun its r' hz h' c' kp e =>
    ⟨.ref s.heap.objs.size, _, I.laid (t' := s.toks) kp (Nat.le_refl _) (show ObjOk X.prog X.w _ h' _ (.lst ys) from ⟨hz, its, c', r', e⟩), rfl, q _ (I.hok.fresh (Nat.le_refl _))⟩
  rcases hq with hq | hq
  · obtain ⟨its, r', pl, hz⟩ := I.list hq
    have hlen := r'.length
    obtain ⟨o, ho, hc, n, hd⟩ := pl.isList
    exact call_list_seq p (.inl rfl) ho hc hd (fun h' c' kp e => fin its r' hz h' c' kp e) (by simp only [List.size_toArray] <;> omega)
  · obtain ⟨its, r', pl, hz⟩ := I.tuple hq
    have hlen := r'.length
    obtain ⟨o, ho, hc, n, hd⟩ := pl
    exact call_list_seq p (.inr rfl) ho hc hd (fun h' c' kp e => fin its r' hz h' c' kp e) (by simp only [List.size_toArray] <;> omega)
theorem call_tuple_of : CallR X (.type "tuple") (fun xs H Q => ∃ p ys, xs = [.ref p] ∧ ((SqL X.K H p ys ∧ ∀ l, H l = none → Q (.ref l) (upd H l (.tup ys))) ∨ (SqT X.K H p ys ∧ Q (.ref p) H))) := by
  intro pins s σ H xs us Q I r h
  obtain ⟨p, ys, rfl, h⟩ := h
  obtain ⟨u, rfl, rx⟩ := vals1 r
  cases rx
  rcases h with ⟨hq, q⟩ | ⟨hq, q⟩
  · obtain ⟨its, r', pl, hz⟩ := I.list hq
    have hlen := r'.length
    refine call_tuple_list pl.isList (fun h' kp => ?_) (by simp only [List.size_toArray] <;> omega)
    have I1 : Inv X pins σ H { s with heap := h' } := I.kept (t' := s.toks) kp
    have I2 : Inv X pins σ (upd H h'.objs.size (.tup ys)) { s with heap := h'.push { cls := .type "tuple", data := .seq its.toArray } } :=
      I1.laid (t' := s.toks) (fun b o e => Heap.get?_push_of_some _ e) (Nat.le_refl _) (show ObjOk X.prog X.w _ _ _ (.tup ys) from ⟨hz, its, r', IsTupD.new _ _⟩)
    exact ⟨.ref h'.objs.size, _, I2, rfl, q _ (I1.hok.fresh (Nat.le_refl _))⟩
  · obtain ⟨its, r', pl, hz⟩ := I.tuple hq
    exact call_tuple_same pl ⟨.ref p, H, I, rfl, q⟩

/-! ### the call of a builtin's method: o.m(..) -/
/-- the value is of that builtin type -/
def tyV (K : PySem.W.Frag) (T : String) (x : V) (H : Hp) : Prop := match x with
  | .str _ => T = "str"
  | .int _ => T = "int"
  | .ref p => (T = "list" ∧ ∃ xs, SqL K H p xs) ∨ (T = "tuple" ∧ ∃ o, K.lookup p = some o ∧ o.cls = .type "tuple" ∧ o.dict = none) ∨
      (T = "dict" ∧ ((∃ kvs, H p = some (.dK kvs)) ∨ ∃ kvs, H p = some (.dT kvs))) ∨ (T = "set" ∧ ∃ S n, H p = some (.set S n))
  | _ => False
theorem tyV_is {pins : List (Addr × Obj)} {σ : St} {H : Hp} {s : Shared} {T : String} {x : V} {v : Value} (I : Inv X pins σ H s) (r : RelV x v) (ty : tyV X.K T x H) :
    s.TypeIs v T ∧ ∀ a, v = .ref a → ∃ ob, s.heap.get? a = some ob ∧ ob.dict = none := by
  cases x with
  | str z =>
    obtain ⟨t, rfl⟩ := r
    cases (show T = "str" from ty)
    exact ⟨typeIs_str s z t, fun _ e => nomatch e⟩
  | int i =>
    obtain ⟨t, rfl⟩ := r
    cases (show T = "int" from ty)
    exact ⟨typeIs_int s i t, fun _ e => nomatch e⟩
  | ref p =>
    cases r
    rcases ty with ⟨rfl, xs, hq⟩ | ⟨rfl, o, hk, hc, hd⟩ | ⟨rfl, hk⟩ | ⟨rfl, S, n, hk⟩
    · obtain ⟨its, _, pl, _⟩ := I.list hq
      refine ⟨pl.isList.typeIs, fun a e => ?_⟩
      cases e
      obtain ⟨o, n, e, c, hd, _⟩ := pl
      exact ⟨o, e, hd⟩
    · refine ⟨⟨o, I.kIn p o hk, hc⟩, fun a e => ?_⟩
      cases e
      exact ⟨o, I.kIn _ o hk, hd⟩
    · have z : ∃ o, s.heap.get? p = some o ∧ o.ExactDict := by
        rcases hk with ⟨kvs, hk⟩ | ⟨kvs, hk⟩
        · obtain ⟨_, _, _, _, o, _, _, e, ex, _⟩ := I.hok p _ hk
          exact ⟨o, e, ex⟩
        · obtain ⟨_, _, _, _, o, _, _, e, ex, _⟩ := I.hok p _ hk
          exact ⟨o, e, ex⟩
      obtain ⟨o, e, ex⟩ := z
      refine ⟨⟨o, e, ex.1⟩, fun a e2 => ?_⟩
      cases e2
      exact ⟨o, e, ex.2.1⟩
    · obtain ⟨o, _, _, _, e, ex, _⟩ := I.hok p _ hk
      refine ⟨⟨o, e, ex.1⟩, fun a e2 => ?_⟩
      cases e2
      exact ⟨o, e, ex.2.1⟩
  | _ => exact False.elim ty
def tBM0 (K : PySem.W.Frag) (T : String) (r : V → List V → Hp → VK → Prop) (to : TE) : TE := fun σ H Q => to σ H fun x H1 => tyV K T x H1 ∧ r x [] H1 Q
def tBM (K : PySem.W.Frag) (T : String) (r : V → List V → Hp → VK → Prop) (to : TE) (t : TA) : TE := fun σ H Q => to σ H fun x H1 => tyV K T x H1 ∧ t σ H1 fun xs H2 => r x xs H2 Q
variable {o e : Expr} {es : List Expr} {to : TE} {t : TA} {name : Str} {apos cpos : Pos} {T id : String} {r : V → List V → Hp → VK → Prop}
theorem pe_bm0 (pa : PlainAttrs T) (slot : Slot T name id) (hty : typeOf (.builtin id) = pure (.type "method_descriptor")) (hm : MtR X id r) (ho : PE X o to)
    (hbase : attributeBase o name X.env (eval o X.env) = eval o X.env := by rfl) (hline : (apos.endLine == cpos.line) = true := by rfl) : PE X (.Call (.Attribute o name apos) [] [] cpos) (tBM0 X.K T r to) := by
  intro pins s σ H Q I h
  refine wpAny_Call_method0_late hbase hline (thn (ho pins s σ H _ I h) fun v s1 ⟨x, H1, I1, r1, ty, q1⟩ => ?_)
  obtain ⟨h1, h2⟩ := tyV_is I1 r1 ty
  exact ⟨T, id, pa, slot, hty, h1, h2, Calls.callWith_builtin rfl (PySem.evalArgs_none (hm pins s1 σ H1 x [] v [] Q I1 r1 .nil q1))⟩
theorem pe_bm (pa : PlainAttrs T) (slot : Slot T name id) (hty : typeOf (.builtin id) = pure (.type "method_descriptor")) (hm : MtR X id r) (ho : PE X o to) (ha : PA X (e :: es) t)
    (hbase : attributeBase o name X.env (eval o X.env) = eval o X.env := by rfl)
    (hfew : ((backTo cpos (starEach (e :: es) X.env)).all (fun x => !x.1) && (backToKw cpos (keywordEach [] X.env)).all (fun x => x.1.isSome)
      && decide ((e :: es).length + ([] : List Keyword).length + (if ([] : List Keyword).isEmpty then 0 else 1) < 30)) = true := by rfl)
    (hline : (apos.endLine == cpos.line) = true := by rfl) (hs : starEach (e :: es) X.env = (false, eval e X.env) :: starEach es X.env := by rfl) (hplain : (backTo cpos (starEach es X.env)).any (·.1) = false := by rfl) :
    PE X (.Call (.Attribute o name apos) (e :: es) [] cpos) (tBM X.K T r to t) := by
  intro pins s σ H Q I h
  refine wpAny_Call_method_late hbase hfew hline rfl (thn (ho pins s σ H _ I h) fun v s1 ⟨x, H1, I1, r1, ty, q1⟩ => ?_)
  obtain ⟨h1, h2⟩ := tyV_is I1 r1 ty
  refine ⟨T, id, pa, slot, hty, h1, h2, ?_⟩
  have hA := ha cpos pins s1 σ H1 _ I1 q1
  rw [hs] at hA ⊢
  refine Calls.callWith_builtin (by show (false || (backTo cpos (starEach es X.env)).any (·.1)) = false; rw [hplain] <;> rfl) (Calls.evalArgs_plain ?_)
  exact thn hA fun us s2 ⟨vs, H2, I2, r2, q2⟩ => hm pins s2 σ H2 x vs v us Q I2 r1 r2 q2
/- xs.append(e), list.index on a module's tuple .. are MtR facts of 06m -/
end
end L2

namespace L2
open PySem PySem.Spec PyProof.Rows

def MtM (X : Cx) (id : String) (r : V → List V → Hp → VK → Prop) : Prop :=
  ∀ (pins : List (Addr × Obj)) (s : Shared) (σ : St) (H : Hp) (x : V) (xs : List V) (v : Value) (us : List Value) (Q : VK), Inv X pins σ H s → RelV x v → Vals xs us → r x xs H Q →
    wpAny (model X.prog X.w) X.A (call (.builtin id) (v :: us)) (EP X pins σ Q) X.xe s

/-! ### lists of values -/
theorem Vals.one : ∀ {x : V} {us : List Value}, Vals [x] us → ∃ u, us = [u] ∧ RelV x u
  | _, _, .cons r .nil => ⟨_, rfl, r⟩
theorem Vals.two : ∀ {x y : V} {us : List Value}, Vals [x, y] us → ∃ u v, us = [u, v] ∧ RelV x u ∧ RelV y v
  | _, _, _, .cons r (.cons q .nil) => ⟨_, _, rfl, r, q⟩
theorem Vals.zero : ∀ {us : List Value}, Vals [] us → us = []
  | _, .nil => rfl
theorem Vals.dropLast {xs : List V} {us : List Value} (h : Vals xs us) : Vals xs.dropLast us.dropLast := by
  induction h with
  | nil => exact .nil
  | cons r t ih =>
    cases t with
    | nil => exact .nil
    | cons q t' => exact .cons r ih
theorem Vals.reverse {xs : List V} {us : List Value} (h : Vals xs us) : Vals xs.reverse us.reverse := by
  induction h with
  | nil => exact .nil
  | cons r t ih => rw [List.reverse_cons, List.reverse_cons]; exact Vals.append ih (.cons r .nil)
theorem Vals.rep {xs : List V} {us : List Value} (h : Vals xs us) : ∀ k : Nat, Vals (List.replicate k xs).flatten (List.replicate k us).flatten
  | 0 => .nil
  | k + 1 => by
    rw [List.replicate_succ, List.replicate_succ, List.flatten_cons, List.flatten_cons]
    exact Vals.append h (Vals.rep h k)
theorem foldl_rep (its : List Value) : ∀ (k : Nat) (acc : List Value),
    List.foldl (fun x1 x2 => x1 ++ x2) acc.toArray (List.replicate k its.toArray) = (acc ++ (List.replicate k its).flatten).toArray
  | 0, acc => by simp
  | k + 1, acc => by
    have e : acc.toArray ++ its.toArray = (acc ++ its).toArray := by simp
    have e2 : (acc ++ its) ++ (List.replicate k its).flatten = acc ++ (List.replicate (k + 1) its).flatten := by
      rw [List.replicate_succ, List.flatten_cons, List.append_assoc]
    rw [← e2, ← foldl_rep its k (acc ++ its), ← e, List.replicate_succ, List.foldl_cons]

section
variable {X : Cx} {pins : List (Addr × Obj)} {σ : St} {H : Hp} {s : Shared} {l b : Addr} {xs ys zs : List V}

/-! ### the two steps: a tracked list is rewritten, a new list is laid -/
theorem Inv.lset {its its' : List Value} {n : Nat} {f : Array Value → Array Value} {t' : Nat} (I : Inv X pins σ H s) (hH : H l = some (.lst xs))
    (e : s.heap.get? l = some { cls := .type "list", data := .seq its.toArray n }) (hf : f its.toArray = its'.toArray) (hv : Vals ys its') (hz : ys.length ≤ sizeLine) :
    Inv X pins σ (upd H l (.lst ys)) { s with heap := s.heap.update l (Obj.mapSeq f), toks := t' } := by
  have q := PySem.IsL.update e f
  rw [hf] at q
  refine I.write (x := l) (e := l) (by rw [hH]; exact trivial) (.inl rfl) (fun b' u hb hu => (Heap.get?_update_other s.heap (Obj.mapSeq f) (Ne.symm hb)).trans hu) ⟨_, q⟩ ?_
  exact ⟨hz, its', _, hv, q⟩
theorem Inv.lnew {its : List Value} {t' : Nat} (I : Inv X pins σ H s) (hv : Vals ys its) (hz : ys.length ≤ sizeLine) :
    Inv X pins σ (upd H s.heap.objs.size (.lst ys)) { s with heap := s.heap.push { cls := .type "list", data := .seq its.toArray }, toks := t' } :=
  I.laid (fun _ _ q => Heap.get?_push_of_some _ q) (Nat.le_refl _) ⟨hz, its, 0, hv, Heap.get?_push_size _ rfl⟩
theorem Inv.fresh (I : Inv X pins σ H s) : H s.heap.objs.size = none := I.hok.fresh (Nat.le_refl _)
theorem Inv.lstM (I : Inv X pins σ H s) (hH : H l = some (.lst xs)) : xs.length ≤ sizeLine ∧ ∃ (its : List Value) (n : Nat), Vals xs its ∧ xs.length = its.length ∧ s.heap.get? l = some { cls := .type "list", data := .seq its.toArray n } := by
  obtain ⟨z, its, n, r, e⟩ := I.hok l _ hH
  exact ⟨z, its, n, r, r.length, e⟩

theorem notLongL {n : Nat} (h : n ≤ sizeLine) : Builtin.List.listTooLong n = false := by
  unfold Builtin.List.listTooLong
  exact decide_eq_false (by omega)
end

section
variable {X : Cx}

/-! ### methods -/
def rAppend : V → List V → Hp → VK → Prop := fun x vs H Q => ∃ l xs y, x = .ref l ∧ vs = [y] ∧ H l = some (.lst xs) ∧ xs.length < sizeLine ∧ Q .non (upd H l (.lst (xs ++ [y])))
theorem mt_append : MtM X "list.append" rAppend := by
  intro pins s σ H x vs v us Q I rx rv h
  obtain ⟨l, xs, y, rfl, rfl, hH, hz, q⟩ := h
  cases rx
  obtain ⟨u, rfl, ru⟩ := rv.one
  obtain ⟨z, its, n, r, hl, e⟩ := I.lstM hH
  refine call_meets F.slot_list_append ⟨_, e, rfl⟩ F.entry_list_append (F.args_list_append_2 _ _) (PySem.list_append l its.toArray n u (by rw [List.size_toArray]; omega)) ⟨e, ?_⟩
  refine ⟨.non, _, I.lset (its' := its ++ [u]) hH e (by simp) (r.append (.cons ru .nil)) ?_, rfl, q⟩
  rw [List.length_append, List.length_singleton]
  omega

def rExtend : V → List V → Hp → VK → Prop := fun x vs H Q => ∃ l b xs zs, x = .ref l ∧ vs = [.ref b] ∧ H l = some (.lst xs) ∧ H b = some (.lst zs) ∧ xs.length + zs.length ≤ sizeLine ∧ Q .non (upd H l (.lst (xs ++ zs)))
theorem mt_extend : MtM X "list.extend" rExtend := by
  intro pins s σ H x vs v us Q I rx rv h
  obtain ⟨l, b, xs, zs, rfl, rfl, hH, hB, hz, q⟩ := h
  cases rx
  obtain ⟨u, rfl, ru⟩ := rv.one
  cases ru
  obtain ⟨z, its, n, r, hl, e⟩ := I.lstM hH
  obtain ⟨z2, its2, n2, r2, hl2, e2⟩ := I.lstM hB
  have hsz : its.toArray.size + its2.toArray.size ≤ sizeLine := by rw [List.size_toArray, List.size_toArray]; omega
  have hlong : ¬ (!its.toArray.isEmpty && Builtin.List.listTooLong (its.toArray.size + its2.toArray.size)) = true := by
    rw [notLongL hsz, Bool.and_false]
    exact Bool.false_ne_true
  refine call_meets F.slot_list_extend ⟨_, e, rfl⟩ F.entry_list_extend (F.args_list_extend_2 _ _)
    (AutoSeq1.list_extend_list_list_0 l its.toArray n b its2.toArray n2 hlong (by rw [List.size_toArray]; omega) (by omega)) ⟨e, e2, ?_⟩
  refine ⟨.non, _, I.lset (its' := its ++ its2) hH e (by simp) (r.append r2) ?_, rfl, q⟩
  rw [List.length_append]
  omega

def rClear : V → List V → Hp → VK → Prop := fun x vs H Q => ∃ l xs, x = .ref l ∧ vs = [] ∧ H l = some (.lst xs) ∧ Q .non (upd H l (.lst []))
theorem mt_clear : MtM X "list.clear" rClear := by
  intro pins s σ H x vs v us Q I rx rv h
  obtain ⟨l, xs, rfl, rfl, hH, q⟩ := h
  cases rx
  have hus := rv.zero
  subst hus
  obtain ⟨z, its, n, r, hl, e⟩ := I.lstM hH
  refine call_meets F.slot_list_clear ⟨_, e, rfl⟩ F.entry_list_clear (F.args_list_clear_1 _) (AutoSeq1.list_clear_list_0 l its.toArray n (by rw [List.size_toArray]; omega)) ⟨e, ?_⟩
  exact ⟨.non, _, I.lset (its' := []) (ys := []) hH e rfl .nil (Nat.zero_le _), rfl, q⟩

/-! ### list + list, list += list, list * int -/
def rCat : R2 := fun x y H Q => ∃ l b xs zs, x = .ref l ∧ y = .ref b ∧ H l = some (.lst xs) ∧ H b = some (.lst zs) ∧ xs.length + zs.length ≤ sizeLine ∧ ∀ p, H p = none → Q (.ref p) (upd H p (.lst (xs ++ zs)))
theorem op_cat : OpR X (binaryOp .Add) rCat := by
  intro pins s σ H x y v u Q I rx ry h
  obtain ⟨l, b, xs, zs, rfl, rfl, hH, hB, hz, q⟩ := h
  cases rx
  cases ry
  obtain ⟨z, its, n, r, hl, e⟩ := I.lstM hH
  obtain ⟨z2, its2, n2, r2, hl2, e2⟩ := I.lstM hB
  refine PySem.P.add_list e e2 ?_ (by rw [List.size_toArray, List.size_toArray]; omega)
  have ea : its.toArray ++ its2.toArray = (its ++ its2).toArray := by simp
  rw [ea]
  exact ⟨.ref _, _, I.lnew (t' := s.toks) (r.append r2) (by rw [List.length_append]; omega), rfl, q _ I.fresh⟩
/-- a list times an int (a negative one is nothing) -/
def rRep : R2 := fun x y H Q => ∃ l k xs, x = .ref l ∧ y = .int k ∧ H l = some (.lst xs) ∧ -(2 ^ 63) ≤ k ∧ k < 2 ^ 63 ∧ xs.length * k.toNat ≤ sizeLine ∧
  ∀ p, H p = none → Q (.ref p) (upd H p (.lst (List.replicate k.toNat xs).flatten))
theorem len_rep {α : Type} (xs : List α) (k : Nat) : (List.replicate k xs).flatten.length = k * xs.length := by
  induction k with
  | zero => simp
  | succ k ih => rw [List.replicate_succ, List.flatten_cons, List.length_append, ih, Nat.succ_mul, Nat.add_comm]
theorem op_rep : OpR X (binaryOp .Mult) rRep := by
  intro pins s σ H x y v u Q I rx ry h
  obtain ⟨l, k, xs, rfl, rfl, hH, h1, h2, hz, q⟩ := h
  cases rx
  obtain ⟨t, rfl⟩ := ry
  obtain ⟨z, its, n, r, hl, e⟩ := I.lstM hH
  have hlen : its.toArray.size * k.toNat ≤ sizeLine := by rw [List.size_toArray, ← hl]; exact hz
  have hcap : ¬ its.toArray.size * k.toNat > (2 ^ 63 - 1) / 8 := by
    have : (sizeLine : Nat) ≤ (2 ^ 63 - 1) / 8 := by decide
    omega
  have hfit : ¬ (!Builtin.List.listFitsIndex k) = true := by
    rw [fitsIndex_both h1 h2]
    exact Bool.false_ne_true
  have hlong : ¬ Builtin.List.listTooLong (its.toArray.size * k.toNat) = true := by
    rw [notLongL hlen]
    exact Bool.false_ne_true
  have hnew : List.foldl (fun x1 x2 => x1 ++ x2) #[] (List.replicate (if its.toArray.isEmpty = true then 0 else k.toNat) its.toArray) = (List.replicate k.toNat its).flatten.toArray := by
    have f0 : ∀ m : Nat, List.foldl (fun x1 x2 => x1 ++ x2) #[] (List.replicate m its.toArray) = (List.replicate m its).flatten.toArray := fun m => by
      have := foldl_rep its m []
      rw [List.nil_append] at this
      exact this
    rw [f0]
    cases its with
    | nil => simp
    | cons a r' => rw [if_neg (by simp)]
  refine wpAny_binaryOp_repeat_ref (T := "list") (U := "int") (by decide) ⟨_, e, rfl⟩ (fun s' => typeIs_int s' k t) noFill_list_mul F.fills_int_mul F.slot_int_rmul repeat_list F.slot_int_index.lookup
    (call_meets F.slot_int_rmul (typeIs_int s k t) F.entry_int_rmul (F.args_int_rmul_2 _ _) (int___rmul___int_list k t l its.toArray n)
      ⟨e, rfl, ⟨_, e, rfl⟩, call_meets F.slot_list_mul ⟨_, e, rfl⟩ F.entry_list_mul (F.args_list_mul_2 _ _) (AutoListH.list___mul___list_int_3 l its.toArray n k t hfit hcap hlong) ⟨e, ?_⟩⟩)
  rw [hnew]
  exact ⟨.ref _, _, I.lnew (t' := s.toks) (r.rep k.toNat) (by rw [len_rep, Nat.mul_comm]; exact hz), rfl, q _ I.fresh⟩

end

/-! ### xs[a:b] = ys -/
section
variable {prog : Program} {w : World} {A : Around} {E : Value → Shared → Prop} {s : Shared}
set_option maxRecDepth 100000 in
end

section
variable {X : Cx}
end
end L2
namespace L2
open PySem PySem.Spec PyProof.Rows

/-! ### lists of pairs as tables -/
section
variable {κ : Type} [DecidableEq κ]
def valV (kvs : List (κ × V)) (k : κ) : Option V := (kvs.find? fun kv => decide (kv.1 = k)).map (·.2)
/-- in its place, or at the end -/
def putK (kvs : List (κ × V)) (k : κ) (v : V) : List (κ × V) :=
  if (kvs.any fun kv => decide (kv.1 = k)) = true then kvs.map (fun kv => if kv.1 = k then (kv.1, v) else kv) else kvs ++ [(k, v)]
def dropK (kvs : List (κ × V)) (k : κ) : List (κ × V) := kvs.filter fun kv => decide (kv.1 ≠ k)

theorem valV_pos {p : κ × V} {r : List (κ × V)} {k : κ} (e : p.1 = k) : valV (p :: r) k = some p.2 := by simp [valV, List.find?_cons, e]
theorem valV_neg {p : κ × V} {r : List (κ × V)} {k : κ} (e : ¬ p.1 = k) : valV (p :: r) k = valV r k := by simp [valV, List.find?_cons, e]
theorem valV_any (k : κ) : ∀ kvs : List (κ × V), (kvs.any fun kv => decide (kv.1 = k)) = (valV kvs k).isSome
  | [] => rfl
  | p :: r => by
    rw [List.any_cons]
    by_cases e : p.1 = k
    · simp only [valV_pos e, decide_eq_true e, Bool.true_or, Option.isSome_some]
    · rw [valV_neg e, decide_eq_false e, Bool.false_or]; exact valV_any k r
theorem putK_new {kvs : List (κ × V)} {k : κ} (v : V) (h : valV kvs k = none) : putK kvs k v = kvs ++ [(k, v)] := by
  unfold putK
  rw [valV_any, h]
  exact if_neg (by decide)

theorem RelO.isSome_eq {o : Option V} {u : Option Value} (r : RelO o u) : o.isSome = u.isSome := by
  cases o with
  | none => cases u with
    | none => rfl
    | some _ => exact (show False from r).elim
  | some _ => cases u with
    | none => exact (show False from r).elim
    | some _ => rfl
theorem RelO.getD {o : Option V} {u : Option Value} {d : V} {d' : Value} (r : RelO o u) (rd : RelV d d') : RelV (o.getD d) (u.getD d') := by
  cases o with
  | none => cases u with
    | none => exact rd
    | some _ => exact (show False from r).elim
  | some _ => cases u with
    | none => exact (show False from r).elim
    | some _ => exact r

/-- raw tables of the same keys -/
theorem KV.val {kvs : List (κ × V)} {vs : List (κ × Value)} (r : KV kvs vs) (k : κ) : RelO (valV kvs k) (valueAt vs k) := by
  unfold KV at r
  induction r with
  | nil => exact True.intro
  | @cons p q ps qs h t ih =>
    obtain ⟨h1, h2⟩ := h
    by_cases e : p.1 = k
    · have e' : q.1 = k := h1.symm.trans e
      have b : valueAt (q :: qs) k = some q.2 := by simp [valueAt, List.find?_cons, e']
      rw [valV_pos e, b]; exact h2
    · have e' : ¬ q.1 = k := fun z => e (h1.trans z)
      have b : valueAt (q :: qs) k = valueAt qs k := by simp [valueAt, List.find?_cons, e']
      rw [valV_neg e, b]; exact ih
theorem KV.any {kvs : List (κ × V)} {vs : List (κ × Value)} (r : KV kvs vs) (k : κ) : (kvs.any fun kv => decide (kv.1 = k)) = vs.any fun kv => decide (kv.1 = k) := by
  unfold KV at r
  induction r with
  | nil => rfl
  | cons h t ih => rw [List.any_cons, List.any_cons, ih, h.1]
theorem KV.repl {kvs : List (κ × V)} {vs : List (κ × Value)} (r : KV kvs vs) (k : κ) {y : V} {u : Value} (ry : RelV y u) :
    KV (kvs.map fun kv => if kv.1 = k then (kv.1, y) else kv) (vs.map fun kv => if kv.1 = k then (kv.1, u) else kv) := by
  unfold KV at r ⊢
  induction r with
  | nil => exact .nil
  | @cons p q ps qs h t ih =>
    rw [List.map_cons, List.map_cons]
    refine .cons ?_ ih
    obtain ⟨h1, h2⟩ := h
    by_cases e : p.1 = k
    · rw [if_pos e, if_pos (h1.symm.trans e)]; exact ⟨h1, ry⟩
    · rw [if_neg e, if_neg (fun z => e (h1.trans z))]; exact ⟨h1, h2⟩
theorem KV.put {kvs : List (κ × V)} {vs : List (κ × Value)} (r : KV kvs vs) (k : κ) {y : V} {u : Value} (ry : RelV y u) : KV (putK kvs k y) (stored vs k u) := by
  unfold putK stored
  rw [r.any k]
  by_cases e : (vs.any fun kv => decide (kv.1 = k)) = true
  · rw [if_pos e, if_pos e]; exact r.repl k ry
  · rw [if_neg e, if_neg e]; exact Paired.snoc r ⟨rfl, ry⟩
theorem KV.drop {kvs : List (κ × V)} {vs : List (κ × Value)} (r : KV kvs vs) (k : κ) : KV (dropK kvs k) (without vs k) := by
  unfold KV at r ⊢
  unfold dropK without
  induction r with
  | nil => exact .nil
  | @cons p q ps qs h t ih =>
    obtain ⟨h1, h2⟩ := h
    rw [List.filter_cons, List.filter_cons]
    by_cases e : p.1 = k
    · have a : ¬ decide (p.1 ≠ k) = true := by simp [e]
      have b : ¬ decide (q.1 ≠ k) = true := by simp [h1.symm.trans e]
      rw [if_neg a, if_neg b]; exact ih
    · have e' : ¬ q.1 = k := fun z => e (h1.trans z)
      have a : decide (p.1 ≠ k) = true := by simp [e]
      have b : decide (q.1 ≠ k) = true := by simp [e']
      rw [if_pos a, if_pos b]; exact .cons ⟨h1, h2⟩ ih
theorem KV.keys {kvs : List (κ × V)} {vs : List (κ × Value)} (r : KV kvs vs) : kvs.map (·.1) = vs.map (·.1) := by
  unfold KV at r
  induction r with
  | nil => rfl
  | cons h t ih => rw [List.map_cons, List.map_cons, ih, h.1]
theorem KV.length {kvs : List (κ × V)} {vs : List (κ × Value)} (r : KV kvs vs) : kvs.length = vs.length := Paired.length r
end


/-! ### a tracked dict, its keys ints and texts or tuples of these -/
theorem kV_is {P : Program} {w : World} {k : Key} {u : Value} (r : RelV (kV k) u) : (mixKind P w).is k u = true := by
  cases k with
  | inl i => obtain ⟨t, e⟩ := (show ∃ t, u = Value.int i t from r); subst e; exact mixKind_int P w i t
  | inr x => obtain ⟨t, e⟩ := (show ∃ t, u = Value.str x t from r); subst e; exact mixKind_str P w x t
theorem items_are {P : Program} {w : World} : ∀ {ks : List Key} {us : List Value}, Vals (ks.map kV) us → ItemsAre (mixKind P w) ks us
  | [], _, r => by rw [List.map_nil] at r; cases r; exact .nil
  | k :: ks, _, r => by
    rw [List.map_cons] at r
    cases r with
    | cons h t => exact .cons (kV_is h) (items_are t)

/-- raw entries of a dict with tuple keys -/
abbrev KT (H : Hp) : List (List Key × V) → List (List Key × Addr × Value) → Prop := Paired fun p q => p.1 = q.1 ∧ H q.2.1 = some (.tup (p.1.map kV)) ∧ RelV p.2 q.2.2
theorem KT.val {H : Hp} {kvs : List (List Key × V)} {xs : List (List Key × Addr × Value)} (r : KT H kvs xs) (k : List Key) : RelO (valV kvs k) ((atKey xs k).map (·.2)) := by
  induction r with
  | nil => exact True.intro
  | @cons p q ps qs h t ih =>
    obtain ⟨h1, _, h2⟩ := h
    by_cases e : p.1 = k
    · have e' : q.1 = k := h1.symm.trans e
      have b : atKey (q :: qs) k = some q.2 := by simp [atKey, List.find?_cons, e']
      rw [valV_pos e, b]; exact h2
    · have e' : ¬ q.1 = k := fun z => e (h1.trans z)
      have b : atKey (q :: qs) k = atKey qs k := by simp [atKey, List.find?_cons, e']
      rw [valV_neg e, b]; exact ih
theorem KT.repl {H : Hp} {kvs : List (List Key × V)} {xs : List (List Key × Addr × Value)} (r : KT H kvs xs) (k : List Key) {y : V} {u : Value} (ry : RelV y u) :
    KT H (kvs.map fun kv => if kv.1 = k then (kv.1, y) else kv) (xs.map (putAt k u)) := by
  induction r with
  | nil => exact .nil
  | @cons p q ps qs h t ih =>
    rw [List.map_cons, List.map_cons]
    refine .cons ?_ ih
    obtain ⟨h1, h2, h3⟩ := h
    unfold putAt
    by_cases e : p.1 = k
    · rw [if_pos e, if_pos (h1.symm.trans e)]; exact ⟨h1, h2, ry⟩
    · rw [if_neg e, if_neg (fun z => e (h1.trans z))]; exact ⟨h1, h2, h3⟩
theorem KT.put {H : Hp} {kvs : List (List Key × V)} {xs : List (List Key × Addr × Value)} (r : KT H kvs xs) (k : List Key) {b : Addr} {y : V} {u : Value} (hb : H b = some (.tup (k.map kV))) (ry : RelV y u) :
    KT H (putK kvs k y) (storedH xs k b u) := by
  have e : (kvs.any fun kv => decide (kv.1 = k)) = (atKey xs k).isSome := by
    rw [valV_any, (r.val k).isSome_eq, Option.isSome_map]
  unfold putK storedH
  rw [e]
  by_cases q : (atKey xs k).isSome = true
  · rw [if_pos q, if_pos q]; exact r.repl k ry
  · rw [if_neg q, if_neg q]; exact Paired.snoc r ⟨rfl, hb, ry⟩
theorem KT.keeps {H H' : Hp} {kvs : List (List Key × V)} {xs : List (List Key × Addr × Value)} (r : KT H kvs xs) (ht : ∀ b ys, H b = some (.tup ys) → H' b = some (.tup ys)) : KT H' kvs xs :=
  Paired.mapP r fun _ _ z => ⟨z.1, ht _ _ z.2.1, z.2.2⟩

section
variable {P : Program} {w : World} {H : Hp} {h : Heap} {a : Addr}
theorem rd_of {u : HO} (ok : HOk P w H h) (e : Rd H a u) : ObjOk P w H h a u := e.ok ok
theorem dk_rd {kvs : List (Key × V)} (ok : HOk P w H h) (e : Rd H a (.dK kvs)) : kvs.length ≤ sizeLine ∧ (a == sysModules) = false ∧ ∃ vs, KV kvs vs ∧ h.DictOf (mixKind P w) a vs :=
  show ObjOk P w H h a (.dK kvs) from rd_of ok e
theorem dk_of {kvs : List (Key × V)} (ok : HOk P w H h) (e : H a = some (.dK kvs)) : kvs.length ≤ sizeLine ∧ (a == sysModules) = false ∧ ∃ vs, KV kvs vs ∧ h.DictOf (mixKind P w) a vs := dk_rd ok (.inl e)
/-- a tracked tuple of ints and texts is a key -/
theorem key_of {ks : List Key} (ok : HOk P w H h) (e : H a = some (.tup (ks.map kV))) : (tupleKind (mixKind P w)).is h ks a := by
  obtain ⟨_, its, r, o, h1, h2, ⟨n, h3⟩, _⟩ := (show ObjOk P w H h a (.tup (ks.map kV)) from ok a _ e)
  exact ⟨o, its.toArray, n, h1, h2, h3, by simpa using items_are r⟩
theorem dt_rd {kvs : List (List Key × V)} (ok : HOk P w H h) (e : Rd H a (.dT kvs)) : kvs.length ≤ sizeLine ∧ (a == sysModules) = false ∧
    ∃ xs, KT H kvs xs ∧ h.DictOfH (tupleKind (mixKind P w)) a xs := by
  obtain ⟨z, y, xs, r, o, es, ep, h1, h2, h3, h4, h5⟩ := (show ObjOk P w H h a (.dT kvs) from rd_of ok e)
  refine ⟨z, y, xs, r, o, es, ep, h1, h2, h3, h4, fun x hx => ?_, h5⟩
  have all : ∀ {l : List (List Key × V)} {m : List (List Key × Addr × Value)}, KT H l m → ∀ x ∈ m, (tupleKind (mixKind P w)).is h x.1 x.2.1 := by
    intro l m q
    induction q with
    | nil => intro x hx; exact nomatch hx
    | @cons p q ps qs hq t ih =>
      intro x hx
      rcases List.mem_cons.mp hx with e | hx
      · subst e
        exact key_of ok (by rw [← hq.1]; exact hq.2.1)
      · exact ih x hx
  exact all r x hx
end

/-- what the dict at a holds at the key y -/
def DGet (H : Hp) (a : Addr) (y : V) (r : Option V) : Prop :=
  (∃ kvs k, Rd H a (.dK kvs) ∧ y = kV k ∧ r = valV kvs k) ∨ ∃ kvs k b, Rd H a (.dT kvs) ∧ y = .ref b ∧ H b = some (.tup (k.map kV)) ∧ r = valV kvs k
/-- the heap behind a[y] = v -/
def DPut (H : Hp) (a : Addr) (y v : V) (H' : Hp) : Prop :=
  (∃ kvs k, H a = some (.dK kvs) ∧ y = kV k ∧ kvs.length < sizeLine ∧ H' = upd H a (.dK (putK kvs k v))) ∨
  ∃ kvs k b, H a = some (.dT kvs) ∧ y = .ref b ∧ H b = some (.tup (k.map kV)) ∧ kvs.length < sizeLine ∧ H' = upd H a (.dT (putK kvs k v))
theorem DGet.k {H : Hp} {a : Addr} {kvs : List (Key × V)} {k : Key} (e : H a = some (.dK kvs)) : DGet H a (kV k) (valV kvs k) := .inl ⟨kvs, k, .inl e, rfl, rfl⟩
theorem DGet.t {H : Hp} {a b : Addr} {kvs : List (List Key × V)} {k : List Key} (e : H a = some (.dT kvs)) (eb : H b = some (.tup (k.map kV))) : DGet H a (.ref b) (valV kvs k) := .inr ⟨kvs, k, b, .inl e, rfl, eb, rfl⟩
theorem DPut.k {H : Hp} {a : Addr} {kvs : List (Key × V)} {k : Key} {v : V} (e : H a = some (.dK kvs)) (hl : kvs.length < sizeLine) : DPut H a (kV k) v (upd H a (.dK (putK kvs k v))) := .inl ⟨kvs, k, e, rfl, hl, rfl⟩
theorem DPut.t {H : Hp} {a b : Addr} {kvs : List (List Key × V)} {k : List Key} {v : V} (e : H a = some (.dT kvs)) (eb : H b = some (.tup (k.map kV))) (hl : kvs.length < sizeLine) :
    DPut H a (.ref b) v (upd H a (.dT (putK kvs k v))) := .inr ⟨kvs, k, b, e, rfl, eb, hl, rfl⟩


section
variable {X : Cx} {pins : List (Addr × Obj)} {σ : St} {H : Hp} {s : Shared} {a : Addr} {y v : V} {u r : Value} {o : Option V} {A : Around} {E : Value → Shared → Prop}

theorem Inv.big (I : Inv X pins σ H s) : sysModules < s.heap.objs.size := by
  have h : mainGlobals < s.heap.objs.size := (I.mod.glob.keeps I.bk).lt
  exact Nat.lt_trans (by decide) h

/-- d[y], there -/
theorem d_getItem {Q : Value → Shared → Prop} (hu : A.units + 1 < cLine) (I : Inv X pins σ H s) (g : DGet H a y (some v)) (ry : RelV y u) (h : ∀ w' s', Inv X pins σ H s' → RelV v w' → Q w' s') :
    wpAny (model X.prog X.w) A (getItem (.ref a) u) Q E s := by
  rcases g with ⟨kvs, k, e, ey, l⟩ | ⟨kvs, k, b, e, ey, eb, l⟩
  · subst ey
    obtain ⟨z, hd, vs, rel, dd⟩ := dk_rd I.hok e
    obtain ⟨w', hw, rw'⟩ := RelO.some_of (v := v) (o := valueAt vs k) (by rw [l]; exact rel.val k)
    exact wpAny_getItem_of (kV_is ry) dd.mapOf hw (h w' _ (I.tok _) rw')
  · subst ey
    cases (show u = Value.ref b from ry)
    obtain ⟨z, hd, xs, rel, dd⟩ := dt_rd I.hok e
    obtain ⟨w', hw, rw'⟩ := RelO.some_of (v := v) (o := (atKey xs k).map (·.2)) (by rw [l]; exact rel.val k)
    obtain ⟨p, hp, hp2⟩ := Option.map_eq_some_iff.mp hw
    refine wpAny_getItem_heap (tupleKind_room_in1 hu) (key_of I.hok eb) dd hp ?_
    rw [hp2]
    exact h w' _ (I.tok _) rw'
/-- a dict's object is replaced -/
theorem d_write {h' : Heap} {t' : Nat} {ob : HO} (I : Inv X pins σ H s) (mu : Mut (H a)) (hs : Heap.SameBut a s.heap h') (he : ∃ q, h'.get? a = some q) (new : ObjOk X.prog X.w (upd H a ob) h' a ob) :
    Inv X pins σ (upd H a ob) { s with heap := h', toks := t' } :=
  I.write (x := a) (e := a) mu (.inl rfl) (fun b q hb z => (hs.2 b hb).trans z) he new
theorem dk_new {P : Program} {w : World} {H' : Hp} {h' : Heap} {kvs : List (Key × V)} {vs : List (Key × Value)} (z : kvs.length ≤ sizeLine) (hd : (a == sysModules) = false) (rel : KV kvs vs) (dd : h'.DictOf (mixKind P w) a vs) :
    ObjOk P w H' h' a (.dK kvs) := ⟨z, hd, vs, rel, dd⟩
end

section
variable {X : Cx} {pins : List (Addr × Obj)} {σ : St} {H : Hp} {s : Shared} {a : Addr} {kvs : List (Key × V)} {k : Key} {u : Value} {A : Around} {E : Value → Shared → Prop}
end


/-! ### readings and rules -/
/-- the element of a subscription, not a slice -/
def NoSl (i : Expr) : Prop := ∀ ov iv, subscripted i false ov iv = operate [ov, iv] (getItem ov iv)
theorem subD_of {prog : Program} {w : World} {A : Around} {E : Value → Shared → Prop} {s : Shared} {env : Env} {value slice : Expr} {pos : Pos} {T id : String} {Q : Value → Shared → Prop}
    (hl : typeLookup (.type T) "__getitem__" = pure (some (.builtin id))) (hs : NoSl slice)
    (h : wpAny (model prog w) A (eval value env) (fun o s₁ => wpAny (model prog w) A (eval slice env) (fun i s₂ => s₂.TypeIs o T ∧ wpAny (model prog w) A (getItem o i) Q E s₂) E s₁) E s) :
    wpAny (model prog w) A (eval (.Subscript value slice pos) env) Q E s := by
  refine Subscript_ (wpAny_mono h (fun o s₁ h₁ => wpAny_mono h₁ (fun i s₂ h₂ => ?_) fun _ _ x => x) fun _ _ x => x)
  obtain ⟨hT, h₂⟩ := h₂
  unfold subscriptTail
  refine wpAny_bind ?_
  rw [getitemInPython_of_ne hT.not_modules]
  refine wpAny_bind (wpAny_specialOf hT hl ?_)
  have fin : wpAny (model prog w) A (subscripted slice false o i) (fun r s₃ => wpAny (model prog w) A (letTemporaryGo value o r >>= fun _ => pure r) Q E s₃) E s₂ := by
    rw [hs o i]
    exact wpAny_operating (wpAny_mono h₂ (fun r s₃ h₃ => wpAny_bind (wpAny_letTemporaryGo (wpAny_pure h₃))) fun _ _ x => x)
  first
    | exact wpAny_pure (wpAny_bind fin)
    | exact wpAny_bind (wpAny_pure (wpAny_bind fin))
    | exact wpAny_bind fin

theorem dict_typeIs {X : Cx} {pins : List (Addr × Obj)} {σ : St} {H : Hp} {s : Shared} {a : Addr} {y : V} {o : Option V} (I : Inv X pins σ H s) (g : DGet H a y o) : s.TypeIs (.ref a) "dict" := by
  rcases g with ⟨kvs, k, e, _, _⟩ | ⟨kvs, k, b, e, _, _, _⟩
  · obtain ⟨_, _, vs, _, dd⟩ := dk_rd I.hok e
    exact dd.typeIs
  · obtain ⟨_, _, xs, _, dd⟩ := dt_rd I.hok e
    exact dd.typeIs
/-- d[y] -/
def tDGet (td ty : TE) : TE := fun σ H Q => td σ H fun x H1 => ty σ H1 fun y H2 => ∃ a v, x = .ref a ∧ DGet H2 a y (some v) ∧ Q v H2
section
variable {X : Cx} {o i e value : Expr} {pos pos' tpos : Pos} {td ty tv : TE}
theorem pe_dget (hu : X.A.units + 1 < cLine) (ho : PE X o td) (hi : PE X i ty) (hs : NoSl i) : PE X (.Subscript o i pos) (tDGet td ty) := by
  intro pins s σ H Q I h
  refine subD_of PySem.F.slot_dict_getitem.lookup hs (thn (ho pins s σ H _ I h) fun u s1 ⟨x, H1, I1, rx, q1⟩ => thn (hi pins s1 σ H1 _ I1 q1) fun iv s2 ⟨y, H2, I2, ry, a, v, ex, g, q2⟩ => ?_)
  subst ex
  obtain rfl : u = Value.ref a := rx
  exact ⟨dict_typeIs I2 g, d_getItem hu I2 g ry fun w' s3 I3 rw' => ⟨v, H2, I3, rw', q2⟩⟩
end


/-! ### displays -/
theorem dk_empty {P : Program} {w : World} {H : Hp} (h : Heap) (hb : sysModules < h.objs.size) : ObjOk P w H (h.push { cls := .type "dict", data := .dict #[] }) h.objs.size (.dK []) :=
  ⟨Nat.zero_le _, beq_eq_false_iff_ne.mpr (Ne.symm (Nat.ne_of_lt hb)), [], .nil, Heap.DictOf.new h⟩
/-- {}, to be a dict of the kind that is wanted -/
def tDNewK : TE := fun _ H Q => ∀ p, H p = none → Q (.ref p) (upd H p (.dK []))
section
variable {X : Cx} {pos : Pos}
theorem pe_dnewK : PE X (.Dict [] [] pos) tDNewK := fun pins s σ H Q I h =>
  wpAny_Dict_empty ⟨.ref s.heap.objs.size, _, I.laid (a := s.heap.objs.size) (o := .dK []) (t' := s.toks) (fun _ _ q => Heap.get?_push_of_some _ q) (Nat.le_refl _) (dk_empty s.heap I.big), rfl, h _ (I.hok.fresh (Nat.le_refl _))⟩
end

abbrev VV : List (V × V) → List (Value × Value) → Prop := Paired fun p q => RelV p.1 q.1 ∧ RelV p.2 q.2
def mergeK (kvs more : List (Key × V)) : List (Key × V) := more.foldl (fun acc kv => putK acc kv.1 kv.2) kvs
theorem KV.merge : ∀ {more : List (Key × V)} {rs : List (Key × Value)} {kvs : List (Key × V)} {vs : List (Key × Value)}, KV more rs → KV kvs vs → KV (mergeK kvs more) (merged vs rs) := by
  intro more rs kvs vs r
  unfold KV at r
  induction r generalizing kvs vs with
  | nil => intro q; exact q
  | @cons p q ps qs h t ih =>
    intro r0
    have e : KV (putK kvs p.1 p.2) (stored vs q.1 q.2) := by
      have := r0.put p.1 h.2
      rw [← h.1]; exact this
    exact ih e
/-! ### methods -/
/-- a method call o.m(e) of a built-in, with one argument: what must be seen of the text -/
structure M1 (X : Cx) (o : Expr) (m : Str) (apos : Pos) (e : Expr) (cpos : Pos) : Prop where
  base : attributeBase o m X.env (eval o X.env) = eval o X.env
  few : ((backTo cpos (starEach [e] X.env)).all (fun x => !x.1) && (backToKw cpos (keywordEach [] X.env)).all (fun x => x.1.isSome)
    && decide (([e] : List Expr).length + ([] : List Keyword).length + (if ([] : List Keyword).isEmpty then 0 else 1) < 30)) = true
  line : (apos.endLine == cpos.line) = true
  trees : backTo cpos (starEach [e] X.env) = [(false, eval e X.env)]
structure M2 (X : Cx) (o : Expr) (m : Str) (apos : Pos) (e f : Expr) (cpos : Pos) : Prop where
  base : attributeBase o m X.env (eval o X.env) = eval o X.env
  few : ((backTo cpos (starEach [e, f] X.env)).all (fun x => !x.1) && (backToKw cpos (keywordEach [] X.env)).all (fun x => x.1.isSome)
    && decide (([e, f] : List Expr).length + ([] : List Keyword).length + (if ([] : List Keyword).isEmpty then 0 else 1) < 30)) = true
  line : (apos.endLine == cpos.line) = true
  trees : backTo cpos (starEach [e, f] X.env) = [(false, eval e X.env), (false, eval f X.env)]

section
variable {X : Cx} {pins : List (Addr × Obj)} {σ : St} {H : Hp} {s : Shared} {a : Addr} {y d : V} {u r : Value} {o : Option V} {A : Around} {E : Value → Shared → Prop}
end

section
variable {X : Cx} {o e f : Expr} {apos cpos : Pos} {td ty tx : TE}
end

/-! ### dict(d): a copy -/
section
variable {X : Cx} {pins : List (Addr × Obj)} {σ : St} {H : Hp} {s : Shared} {a : Addr} {kvs : List (Key × V)} {A : Around} {E : Value → Shared → Prop}
end


section
variable {X : Cx} {pins : List (Addr × Obj)} {σ : St} {H : Hp} {s : Shared} {a : Addr} {y : V} {u : Value} {A : Around} {E : Value → Shared → Prop}
end
end L2
namespace Att
open PySem PySem.W PySem.Calls PyProof.Rows

/-! ### the script -/
theorem ints_of_wellAll {P : Params} {h : Heap} : ∀ (ns : List Int) (vs : List Value), WellAll P h vs (ns.map WData.int) → IntsAre vs ns := by
  intro ns
  induction ns with
  | nil =>
    intro vs w
    rw [List.map_nil] at w
    cases w
    exact .nil
  | cons n ns ih =>
    intro vs w
    rw [List.map_cons] at w
    cases w with
    | cons a b =>
      cases a
      exact .cons _ _ (ih _ b)

theorem script_of {l : OpenLaw} {n : Nat} (hn : l.most = some n) {P : Params} {h : Heap} {args : List WData} {vals : List Value}
    (hpre : l.row.toRowW.claim.pre args = true) (hwl : WellAll P h vals args) :
    ∃ a vs ns, vals = [Value.ref a] ∧ args = [WData.list (ns.map WData.int)] ∧ h.get? a = some { cls := .type "list", data := .seq vs.toArray } ∧ IntsAre vs ns ∧ ns.length ≤ n := by
  have hsh : WShape.hasAll [] args [.list .int] = true := (pre_splitW hpre).1
  have hc : l.pre.holds [] { args := args } = true := (pre_splitW hpre).2
  obtain ⟨d, r, rfl, h1, h2⟩ := hasAllW_cons hsh
  obtain rfl := hasAllW_nil h2
  obtain ⟨xs, rfl, h3⟩ := hasW_list h1
  obtain ⟨ns, rfl⟩ := items_int h3
  have hlen : ns.length ≤ n := by
    unfold OpenLaw.pre at hc
    have h4 : (WTm.not (.lt (.lit (.int (n : Int))) (.len (.arg 0)))).holds [] { args := [.list (ns.map .int)] } = true := by
      have h4 := (holds_andW hc).1
      rw [hn] at h4
      exact h4
    have h5 := condW_of h4 (w_not (w_lt w_lit (w_len_list (w_arg rfl))))
    rw [List.length_map] at h5
    refine Nat.le_of_not_lt fun q => ?_
    have q' : (n : Int) < ((ns.length : Nat) : Int) := by omega
    first
      | (rw [decide_eq_true q'] at h5; exact absurd h5 (by decide))
      | (simp at h5; omega)
  cases hwl with
  | cons w1 w2 =>
    cases w2
    cases w1 with
    | list ho hall => exact ⟨_, _, ns, rfl, rfl, ho, ints_of_wellAll ns _ hall, hlen⟩

theorem post_true (l : OpenLaw) (args : List WData) : l.row.toRowW.claim.post args (.bool true) args = true :=
  postW_of (r := l.row.toRowW) (X := (true == true))
    (show WShape.has [] (.bool true) .bool = true by first | rfl | decide | simp [WShape.has, WShape.arms, WShape.armsAll])
    (show (WTm.eq .res (.lit (.bool true))).value [] { args := args, res := some (.bool true), after := args } = some (.bool (true == true)) from w_eq_bool (w_res rfl) w_lit) rfl

/-- the same from a codeAny of the CALL (for a layer whose function contracts speak of calls) -/
theorem attach_call {l : OpenLaw} {n : Nat} {q : Program} {loose : List Str} {XP : (Str → Option Value) → Heap → Prop} {YP : World → Heap → Prop} {d : DefRec}
    (hn : l.most = some n) (hdf : d.params.defaults = [])
    (call : ∀ (w : World) (s₀ s₁ : Shared) (mg mb : Str → Option Value) (fa : Addr) (o : Obj) (pm cd doc : Value) (a : Addr) (vs : List Value) (ns : List Int),
      Ground q loose [] XP w s₀ mg mb s₁.heap → YP w s₁.heap →
      s₁.heap.get? fa = some o → o.data = .func (docDef d.name d.params d.body d.scope pm cd doc) → s₁.heap.CodeRec cd d.name → mg d.name = some (.ref fa) →
      s₁.heap.get? a = some { cls := .type "list", data := .seq vs.toArray } → IntsAre vs ns → ns.length ≤ n → s₁.gens = #[] →
      codeAny (model l.prog w) callerA (.call (.ref fa) ⟨[.ref a], []⟩) (fun r s' => r = .ok (.ret (.bool true)) ∧ OldK s₁.heap s'.heap ∧ s'.os = s₁.os ∧ AllBare s'.gens) s₁) :
    WalkO q loose XP YP l.row.toRowW d [] (fun f vs => PySem.call f vs) := by
  intro w s₀ s₁ mg mb G Y fa o pm cd doc dV kV ho hd hcd hD hmg hg args vals as hpre hlay hrd hwl hlo
  obtain rfl : dV = .none := Dflts.none hD hdf
  obtain rfl : kV = .none := Dflts.noKw hD
  obtain ⟨a, vs, ns, rfl, rfl, hobj, hints, hlen⟩ := script_of hn hpre hwl
  refine enter_call (codeAny_mono (call w s₀ s₁ mg mb fa o pm cd doc a vs ns G Y ho (fd_plain hd) hcd hmg hobj hints hlen hg) fun r s' hq => ?_)
  obtain ⟨rfl, h2, h3, h4⟩ := hq
  exact ⟨.inl ⟨.bool true, .bool true, [], rfl, fun _ => rfl, .bool true, post_true l _, fun _ => ⟨List.Pairwise.nil, fun _ hm => (nomatch hm)⟩⟩, h2, h3, h4⟩

/-! ### rules over ANY heap (no ledger) from facts about the written part K: the library's own take a ledger (News) for what they write -/
section
variable {prog : Program} {w : World} {A : Around} {E : Value → Shared → Prop} {s : Shared} {K : Frag}

def ledger (h : Heap) (L d : Addr) : List (Addr × Obj) := (List.range h.objs.size).filterMap fun a => if a = L ∨ a = d then none else (h.get? a).map fun o => (a, o)
end
end Att

namespace L2
open PySem PySem.Spec PyProof.Rows

theorem vals_ints : ∀ {vs : List Value} {ns : List Int}, IntsAre vs ns → Vals (ns.map V.int) vs
  | _, _, .nil => .nil
  | _, _, .cons n t h => .cons ⟨t, rfl⟩ (vals_ints h)

/-- nothing is tracked but the script, known to the object (or it is an object of the module) -/
def Only (H : Hp) : Prop := ∀ b, H b = none ∨ ∃ o xs, H b = some (.frz o (.lst xs))

/-- THE HEAD: the law's promise, at the heap behind the top. F, the promise of the law's def, may use that base is part of the heap (so K.In base, base.Ns mainGlobals mg stand in Mod) -/
theorem law_call {P : Program} {w : World} {K : PySem.W.Frag} {mg mb : Str → Option Value} {CX : CXT} {k : Nat} {fa a : Addr} {fd : FuncData} {x : Str} {sp : Sp} {s₁ : Shared} {vs : List Value} {ns : List Int}
    (KX : K.In s₁.heap) (hns : s₁.heap.Ns mainGlobals mg) (hb : s₁.heap.Ns builtinsNs mb) (hbb : ∀ x : Str, x ≠ "__name__" → mb x = bootBuiltins x) (hlim : s₁.heap.NoLimit) (hg : s₁.gens = #[])
    (ha : s₁.heap.get? a = some { cls := .type "list", data := .seq vs.toArray }) (hi : IntsAre vs ns) (hl : ns.length ≤ sizeLine) (hr : Room k callerA)
    (F : ∀ base : Heap, K.In base → base.Ns mainGlobals mg → FnOk P w K mg base CX k fa fd [x] sp) (hbind : ∀ (s : Shared) (u : Value), BindsTo s fd ⟨[u], []⟩ [(x, u)])
    (hsp : ∀ H : Hp, Only H → SqL K H a (ns.map V.int) → sp [.ref a] H (fun v _ => v = .bl true) fun _ _ _ => False)
    (hCX : ∀ H e s', CX [] H s₁ (fun _ _ _ => False) e s' → False) :
    codeAny (model P w) callerA (.call (.ref fa) ⟨[.ref a], []⟩) (fun r s' => r = .ok (.ret (.bool true)) ∧ OldK s₁.heap s'.heap ∧ s'.os = s₁.os ∧ AllBare s'.gens) s₁ := by
  have rv := vals_ints hi
  have lenV := hi.length
  -- from an abstract heap in which nothing but the script may be tracked
  have core : ∀ H : Hp, Only H → SqL K H a (ns.map V.int) → HOk P w H s₁.heap → (∀ b, H b ≠ none → b = a) → (H a ≠ none → K.lookup a = none) →
      codeAny (model P w) callerA (.call (.ref fa) ⟨[.ref a], []⟩) (fun r s' => r = .ok (.ret (.bool true)) ∧ OldK s₁.heap s'.heap ∧ s'.os = s₁.os ∧ AllBare s'.gens) s₁ := by
    intro H hO hS hok hA hK
    have base_of : ∀ {b : Addr} {o : Obj}, s₁.heap.get? b = some o → H b = none → (hidT s₁.heap H).get? b = some o := fun e n => hidT_get e n
    have noA : ∀ {b : Addr} {o : Obj} {es : Array DictEntry} {ep : Nat}, s₁.heap.get? b = some o → o.data = .dict es ep → H b = none := fun {b o es ep} e d => by
      cases q : H b with
      | none => rfl
      | some u =>
        have e' : b = a := hA b (by rw [q]; simp)
        subst e'
        rw [ha] at e; cases e
        have d' : Data.seq vs.toArray _ = Data.dict es ep := d
        cases d'
    have nsK : ∀ {b : Addr} {m : Str → Option Value}, s₁.heap.Ns b m → (hidT s₁.heap H).Ns b m := fun {b m} ⟨o, es, ep, e, d, r⟩ => ⟨o, es, ep, base_of e (noA e d), d, r⟩
    have hKb : K.In (hidT s₁.heap H) := fun b o e => base_of (KX b o e) (by
      cases q : H b with
      | none => rfl
      | some u =>
        have e' : b = a := hA b (by rw [q]; simp)
        subst e'
        rw [hK (by rw [q]; simp)] at e; cases e)
    have hM : Mod K mg (hidT s₁.heap H) := ⟨hKb, nsK hns, ⟨mb, nsK hb, hbb⟩, let ⟨mc, h1, h2⟩ := hlim; ⟨mc, nsK h1, h2⟩⟩
    have e0 : Env0 P w K mg (hidT s₁.heap H) callerA [] s₁ H := ⟨rfl, hM, fun b o e => of_hidT e, Nat.le_of_eq (hidT_size _ _), trivial, fun b hb => absurd (show b ∈ ([] : List Addr) from hb) (by simp), hok, .of_eq hg⟩
    refine codeAny_mono ((F _ hKb (nsK hns)).run callerA [] s₁ H ⟨[.ref a], []⟩ [.ref a] [.ref a] _ _ hr e0 (hbind s₁ (.ref a)) (.cons rfl .nil) (hsp H hO hS)) fun r s' h => ?_
    cases r with
    | error e => exact (hCX H e s' h).elim
    | ok fl =>
      cases fl with
      | next => exact False.elim h
      | brk => exact False.elim h
      | cont => exact False.elim h
      | ret u =>
        obtain ⟨v, H', os, bare, un, hok', r', q⟩ := h
        have q' : v = .bl true := q
        subst q'
        obtain rfl : u = Value.bool true := r'
        refine ⟨rfl, OldK.of_keep fun b o e => ?_, os, bare⟩
        cases q : H b with
        | none => exact un.keep b o e q (by intro z; exact absurd (show b ∈ ([] : List Addr) from z) (by simp)) (by simp)
        | some u =>
          rcases hO b with z | ⟨ob, xs, z⟩
          · rw [q] at z; cases z
          · have z2 := un.frzs b ob _ z
            obtain ⟨e1, _⟩ := hok b _ z
            obtain ⟨e2, _⟩ := hok' b _ z2
            rw [e] at e1; cases e1
            exact e2
  cases hk : K.lookup a with
  | some o =>
    -- the script is one of the module's own objects
    have e := KX a o hk
    rw [ha] at e
    cases e
    refine core (fun _ => none) (fun _ => .inl rfl) (.inr ⟨_, vs.toArray, _, hk, rfl, rfl, rfl, by rw [List.size_toArray, lenV]; exact hl, by simpa using rv⟩) (fun b u z => by have z' : (none : Option HO) = some u := z; cases z') (fun b z => absurd rfl z) fun z => absurd rfl z
  | none =>
    refine core (fun b => if b = a then some (.frz { cls := .type "list", data := .seq vs.toArray } (.lst (ns.map V.int))) else none) (fun b => ?_) (.inl (.inr ⟨{ cls := .type "list", data := .seq vs.toArray }, if_pos rfl⟩)) (fun b u z => ?_) (fun b z => ?_) fun _ => hk
    · by_cases hb : b = a
      · exact .inr ⟨_, _, if_pos hb⟩
      · exact .inl (if_neg hb)
    · by_cases hb : b = a
      · have z' := (if_pos hb).symm.trans z
        cases z'
        subst hb
        exact ⟨ha, by rw [List.length_map]; exact hl, vs, _, rv, ha⟩
      · have z' := (if_neg hb).symm.trans z
        cases z'
    · by_cases hb : b = a
      · exact hb
      · exact absurd (if_neg hb) z
end L2

namespace L2
open PySem PySem.Spec PyProof.Rows

abbrev KOf {K : PySem.W.Frag} {h : Heap} (_ : K.In h) : PySem.W.Frag := K

/-- the goal that k_head leaves (case hc), from the law's promise. F gives the function object fd (K's own) once, then the promise over every base -/
theorem walk_of {l : PySem.W.OpenLaw} {n k : Nat} {q : Program} {loose : List Str} {XP : (Str → Option Value) → Heap → Prop} {YP : World → Heap → Prop} {d : DefRec} {K : Params → PySem.W.Frag} {CX : World → CXT} {sp : World → Sp} {x : Str}
    (hn : l.most = some n) (hn2 : n ≤ sizeLine) (hdf : d.params.defaults = []) (hr : Room k callerA)
    (hY : ∀ (w : World) (h : Heap), YP w h → (K w.params).In h)
    (F : ∀ (w : World) (mg : Str → Option Value) (fa : Addr) (h : Heap), (K w.params).In h → h.Ns mainGlobals mg → mg d.name = some (.ref fa) →
      ∃ fd : FuncData, (∀ (s : Shared) (u : Value), BindsTo s fd ⟨[u], []⟩ [(x, u)]) ∧
        ∀ base : Heap, (K w.params).In base → base.Ns mainGlobals mg → FnOk l.prog w (K w.params) mg base (CX w) k fa fd [x] (sp w))
    (hsp : ∀ (w : World) (H : Hp) (a : Addr) (ns : List Int), ns.length ≤ n → Only H → SqL (K w.params) H a (ns.map V.int) → sp w [.ref a] H (fun v _ => v = .bl true) fun _ _ _ => False)
    (hCX : ∀ (w : World) (H : Hp) (s : Shared) (e : Value) (s' : Shared), CX w [] H s (fun _ _ _ => False) e s' → False) :
    PySem.W.WalkO q loose XP YP l.row.toRowW d [] (fun f vs => PySem.call f vs) := by
  refine Att.attach_call hn hdf fun w s₀ s₁ mg mb fa o pm cd doc a vs ns G Y ho hd hcd hmg hobj hints hlen hg => ?_
  have KX := hY w _ Y
  obtain ⟨fd, hb, hF⟩ := F w mg fa _ KX G.T.g hmg
  exact law_call KX G.T.g G.T.b G.T.builtins G.T.nolimit hg hobj hints (Nat.le_trans hlen hn2) hr hF hb (fun H hO hS => hsp w H a ns hlen hO hS) fun H e s' => hCX w H s₁ e s'
end L2
/-! SHORT WORDS over the layer: a def of the text, its body, what a loop and a test want. -/
namespace L2
open PySem PySem.Spec PyProof.Rows

def defArgs (s : Stmt) : Arguments := match s with
  | .FunctionDef _ a _ _ _ _ _ _ _ _ => a
  | _ => { posonlyargs := [], args := [], vararg := none, kwonlyargs := [], kw_defaults := [], kwarg := none, defaults := [] }
def defBody (s : Stmt) : List Stmt := match s with
  | .FunctionDef _ _ b _ _ _ _ _ _ _ => b
  | _ => []
def defScope (s : Stmt) : Scope := match s with
  | .FunctionDef _ _ _ _ _ _ sc _ _ _ => sc
  | _ => { kind := .function, names := [], isGenerator := false, isCoroutine := false }

/-! ### no exception leaves a def -/
abbrev CX0 : CXT := fun _ _ _ _ _ _ => False
abbrev E0 : XK := fun _ _ _ => False
theorem pass0 {X : Cx} : Passes CX0 X E0 := fun _ _ _ _ _ _ _ h => h.elim

/-! ### a def (or method) of the text as it stands behind the top -/
structure Fun (K : PySem.W.Frag) (x qual : Str) (st : Stmt) (f : Addr) (fd : FuncData) : Prop where
  ex : ∃ (oc : Value) (od : Option Addr) (kV doc pm : Value) (an : Option Addr) (cdv ct : Value) (osl : Array (Option Value)),
    fd = PySem.W.fnOf x qual (defArgs st) (defBody st) (defScope st) .none kV doc pm an cdv ct ∧ K.lookup f = some ⟨oc, od, .func fd, osl⟩ ∧ PySem.W.codeIn K cdv qual = true
  kp : PySem.W.keepIn K (.ref f) = true
section
variable {P : Program} {w : World} {K : PySem.W.Frag} {mg : Str → Option Value} {base : Heap}
/-- THE RULE for a def: its body as a term of rules, and the reading of that term -/
theorem Fun.ok {x qual : Str} {st : Stmt} {f : Addr} {fd : FuncData} {N ps : List Str} {k : Nat} {sp : Sp} (F : Fun K x qual st f fd) (S : FnScope N ps (defScope st)) (len : ∀ vs H Q E, sp vs H Q E → vs.length = ps.length)
    (hbody : ∀ (cdv : Value) (A : Around) (outer : List Env) (s : Shared) (H : Hp) (vs : List V) (Q : VK) (E : XK), Room k (A.deeper (envOfC qual (defScope st) s.heap.objs.size f cdv)) → sp vs H Q E →
      ∃ t, PSs (cxOf CX0 P w K mg base N qual (defScope st) f cdv A outer s H E).nox (defBody st) t ∧ t { nx := fun _ H' => Q .non H', rt := Q } (start N vs) H) : FnOk P w K mg base CX0 (k + 1) f fd ps sp := by
  obtain ⟨oc, od, kV, doc, pm, an, cdv, ct, osl, rfl, lk, hcd⟩ := F.ex
  refine fn_of lk hcd S len fun A outer s H vs Q E hr hsp => ?_
  obtain ⟨t, h, q⟩ := hbody cdv A outer s H vs Q E hr hsp
  exact ⟨t, h.nox, q⟩
/-- how its arguments bind (no defaults): h is «fun _ _ _ _ _ _ us hl => match us, hl with | [_, _], _ => rfl», one _ a parameter -/
theorem Fun.binds {x qual : Str} {st : Stmt} {f : Addr} {fd : FuncData} {ps : List Str} (F : Fun K x qual st f fd)
    (h : ∀ (kV doc pm : Value) (an : Option Addr) (cdv ct : Value) (us : List Value), us.length = ps.length → bindArgs (PySem.W.fnOf x qual (defArgs st) (defBody st) (defScope st) .none kV doc pm an cdv ct) ⟨us, []⟩ = pure (ps.zip us)) : Binds K fd ps [] := by
  obtain ⟨oc, od, kV, doc, pm, an, cdv, ct, osl, rfl, lk, hcd⟩ := F.ex
  exact .all (h kV doc pm an cdv ct)
theorem fun_mk {x qual : Str} {st : Stmt} {f : Addr} {oc : Value} {od an : Option Addr} {osl : Array (Option Value)} {kV doc pm cdv ct : Value} (l : K.lookup f = some ⟨oc, od, .func (PySem.W.fnOf x qual (defArgs st) (defBody st) (defScope st) .none kV doc pm an cdv ct), osl⟩)
    (c : PySem.W.codeIn K cdv qual = true) (k : PySem.W.keepIn K (.ref f) = true) : Fun K x qual st f (PySem.W.fnOf x qual (defArgs st) (defBody st) (defScope st) .none kV doc pm an cdv ct) := ⟨⟨oc, od, kV, doc, pm, an, cdv, ct, osl, rfl, l, c⟩, k⟩
end
theorem small1000 {n : Nat} (h : n ≤ 1000) : n < sizeLine := Nat.lt_of_le_of_lt h (by decide)

/-! ### expressions in short: the name that stands in the i-th slot -/
section
variable {X : Cx}
theorem pv (i : Nat) {x : Str} {pos : Pos} (hN : X.N[i]? = some x := by rfl) (hv : Vis X.env.scope x := by first | exact Or.inl rfl | exact Or.inr (Or.inl rfl) | exact Or.inr (Or.inr rfl)) (hd : (x == ("__debug__" : Str)) = false := by decide)
    (hcd : (x == ("__classdict__" : Str)) = false := by decide) : PE X (.Name x pos) (tVar i) := pe_var hN hv hd hcd
end

/-! ### tests -/
theorem iteF {A B : Prop} (h : B) : if false = true then A else B := by
  rw [if_neg Bool.false_ne_true]
  exact h
theorem iteT {A B : Prop} (h : A) : if true = true then A else B := by
  rw [if_pos rfl]
  exact h
/-! ### heaps -/
/-- all that was tracked is as it was -/
def Same (H H' : Hp) : Prop := ∀ b o, H b = some o → H' b = some o
theorem Same.refl (H : Hp) : Same H H := fun _ _ h => h
theorem Same.trans {H H1 H2 : Hp} (a : Same H H1) (b : Same H1 H2) : Same H H2 := fun c o h => b c o (a c o h)
theorem Same.free {H H' : Hp} (e : Same H H') {l : Addr} (h : H' l = Option.none) : H l = Option.none := by
  cases q : H l with
  | none => rfl
  | some o =>
    rw [e l o q] at h
    cases h
theorem Same.seq {K : PySem.W.Frag} {H H' : Hp} {a : Addr} {xs : List V} (e : Same H H') (h : SqL K H a xs) : SqL K H' a xs := by
  rcases h with (h | ⟨o, h⟩) | h
  · exact .inl (.inl (e _ _ h))
  · exact .inl (.inr ⟨o, e _ _ h⟩)
  · exact .inr h

end L2

namespace L2
open PySem PySem.Spec PyProof.Rows

/-! ### the meaning itself as a reading -/
def wE (X : Cx) (e : Expr) : TE := fun σ H Q => ∀ (pins : List (Addr × Obj)) (s : Shared), Inv X pins σ H s → wpAny (model X.prog X.w) X.A (eval e X.env) (EP X pins σ Q) X.xe s
def wT (X : Cx) (e : Expr) : TT := fun σ H Q => ∀ (pins : List (Addr × Obj)) (s : Shared), Inv X pins σ H s → wpAny (model X.prog X.w) X.A (isTrue e X.env (eval e X.env)) (TP X pins σ Q) X.xe s
def wW (X : Cx) (e : Expr) : TT := fun σ H Q => ∀ (whole : Sem Value) (pins : List (Addr × Obj)) (s : Shared), Inv X pins σ H s → wpAny (model X.prog X.w) X.A (isTrue e X.env whole) (TP X pins σ Q) X.xe s
def wA (X : Cx) (es : List Expr) : TA := fun σ H Q => ∀ (pos : Pos) (pins : List (Addr × Obj)) (s : Shared), Inv X pins σ H s → wpAny (model X.prog X.w) X.A (spliced (backTo pos (starEach es X.env))) (AP X pins σ Q) X.xe s
def wS (X : Cx) (st : Stmt) : TS := fun D σ H => ∀ (pins : List (Addr × Obj)) (s : Shared), Inv X pins σ H s → wpAny (model X.prog X.w) X.A (exec st X.env) (SP X pins D) X.xe s
def wSs (X : Cx) (sts : List Stmt) : TS := fun D σ H => ∀ (pins : List (Addr × Obj)) (s : Shared), Inv X pins σ H s → wpAny (model X.prog X.w) X.A (execs sts X.env) (SP X pins D) X.xe s
def wG (X : Cx) (tg : Expr) : TG := fun v σ H Q => ∀ (pins : List (Addr × Obj)) (s : Shared) (u : Value), Inv X pins σ H s → RelV v u →
    wpAny (model X.prog X.w) X.A (assign tg X.env u) (fun _ s' => ∃ σ' H', Inv X pins σ' H' s' ∧ Q σ' H') X.xe s
def wI (X : Cx) (tg iter : Expr) : TI := fun σ H R => ∀ (pins : List (Addr × Obj)) (s : Shared), Inv X pins σ H s →
    wpAny (model X.prog X.w) X.A (eval iter X.env) (fun v s1 => wpAny (model X.prog X.w) X.A (pyIter v) (PIE X pins σ tg R) X.xe s1) X.xe s
section
variable {X : Cx} {e : Expr} {es : List Expr} {st : Stmt} {sts : List Stmt} {tg iter : Expr} {σ : St} {H : Hp}
theorem pe_w : PE X e (wE X e) := fun pins s _ _ _ I h => h pins s I
theorem pt_w : PT X e (wT X e) := fun pins s _ _ _ I h => h pins s I
theorem pw_w : PW X e (wW X e) := fun w pins s _ _ _ I h => h w pins s I
theorem pa_w : PA X es (wA X es) := fun pos pins s _ _ _ I h => h pos pins s I
theorem ps_w : PS X st (wS X st) := fun pins s _ _ _ I h => h pins s I
theorem pss_w : PSs X sts (wSs X sts) := fun pins s _ _ _ I h => h pins s I
theorem pg_w : PG X tg (wG X tg) := fun pins s _ _ _ u _ I r h => h pins s u I r
theorem pi_w : PI X tg iter (wI X tg iter) := fun pins s _ _ _ I h => h pins s I
theorem PE.to {t : TE} {Q : VK} (h : PE X e t) (q : t σ H Q) : wE X e σ H Q := fun pins s I => h pins s σ H Q I q
theorem PT.to {t : TT} {Q : Bool → Hp → Prop} (h : PT X e t) (q : t σ H Q) : wT X e σ H Q := fun pins s I => h pins s σ H Q I q
theorem PW.to {t : TT} {Q : Bool → Hp → Prop} (h : PW X e t) (q : t σ H Q) : wW X e σ H Q := fun w pins s I => h w pins s σ H Q I q
theorem PA.to {t : TA} {Q : List V → Hp → Prop} (h : PA X es t) (q : t σ H Q) : wA X es σ H Q := fun pos pins s I => h pos pins s σ H Q I q
theorem PS.to {t : TS} {D : Ends} (h : PS X st t) (q : t D σ H) : wS X st D σ H := fun pins s I => h pins s σ H D I q
theorem PSs.to {t : TS} {D : Ends} (h : PSs X sts t) (q : t D σ H) : wSs X sts D σ H := fun pins s I => h pins s σ H D I q
theorem wE.imp {Q Q' : VK} (h : wE X e σ H Q) (k : ∀ v H', Q v H' → Q' v H') : wE X e σ H Q' := fun pins s I => thn (h pins s I) fun u s' ⟨v, H', I', r, q⟩ => ⟨v, H', I', r, k v H' q⟩
theorem wT.imp {Q Q' : Bool → Hp → Prop} (h : wT X e σ H Q) (k : ∀ v H', Q v H' → Q' v H') : wT X e σ H Q' := fun pins s I => thn (h pins s I) fun u s' ⟨H', I', q⟩ => ⟨H', I', k u H' q⟩
theorem wW.imp {Q Q' : Bool → Hp → Prop} (h : wW X e σ H Q) (k : ∀ v H', Q v H' → Q' v H') : wW X e σ H Q' := fun w pins s I => thn (h w pins s I) fun u s' ⟨H', I', q⟩ => ⟨H', I', k u H' q⟩
theorem wA.imp {Q Q' : List V → Hp → Prop} (h : wA X es σ H Q) (k : ∀ v H', Q v H' → Q' v H') : wA X es σ H Q' := fun pos pins s I => thn (h pos pins s I) fun u s' ⟨v, H', I', r, q⟩ => ⟨v, H', I', r, k v H' q⟩
theorem SP.imp {pins : List (Addr × Obj)} {D D' : Ends} {f : Flow} {s : Shared} (h : SP X pins D f s) (k1 : ∀ σ H, D.nx σ H → D'.nx σ H) (k2 : ∀ v H, D.rt v H → D'.rt v H) (k3 : ∀ σ H, D.bk σ H → D'.bk σ H) (k4 : ∀ σ H, D.ct σ H → D'.ct σ H) : SP X pins D' f s := by
  cases f with
  | next => obtain ⟨σ', H', I, q⟩ := h; exact ⟨σ', H', I, k1 _ _ q⟩
  | brk => obtain ⟨σ', H', I, q⟩ := h; exact ⟨σ', H', I, k3 _ _ q⟩
  | cont => obtain ⟨σ', H', I, q⟩ := h; exact ⟨σ', H', I, k4 _ _ q⟩
  | ret u => obtain ⟨v, σ', H', I, r, q⟩ := h; exact ⟨v, σ', H', I, r, k2 _ _ q⟩
theorem wSs.imp {D D' : Ends} (h : wSs X sts D σ H) (k1 : ∀ σ H, D.nx σ H → D'.nx σ H) (k2 : ∀ v H, D.rt v H → D'.rt v H) (k3 : ∀ σ H, D.bk σ H → D'.bk σ H) (k4 : ∀ σ H, D.ct σ H → D'.ct σ H) : wSs X sts D' σ H :=
  fun pins s I => thn (h pins s I) fun f s' q => q.imp k1 k2 k3 k4
theorem wG.imp {v : V} {Q Q' : St → Hp → Prop} (h : wG X tg v σ H Q) (k : ∀ σ' H', Q σ' H' → Q' σ' H') : wG X tg v σ H Q' := fun pins s u I r => thn (h pins s u I r) fun _ s' ⟨σ', H', I', q⟩ => ⟨σ', H', I', k _ _ q⟩
end

/-! ### an untracked object of ours becomes a tracked one; tracked ones are laid aside -/
section
variable {X : Cx} {pins : List (Addr × Obj)} {σ : St} {H F : Hp} {s : Shared}
theorem HOk.track {P : Program} {w : World} {h : Heap} {a : Addr} {o : HO} (ok : HOk P w H h) (hn : H a = none) (new : ObjOk P w (upd H a o) h a o) : HOk P w (upd H a o) h := fun b u e => by
  by_cases hb : b = a
  · subst hb
    rw [upd_same] at e
    cases e
    exact new
  · rw [upd_ne hb] at e
    exact (ok b u e).stay (fun _ _ _ q => q) (fun c q => by rw [upd_ne (ne_of_none q hn)]; exact q) fun c xs q => by rw [upd_ne (ne_of_none q hn)]; exact q
theorem Inv.track {a : Addr} {o : HO} (I : Inv X pins σ H s) (hn : H a = none) (h0 : X.s₀.heap.objs.size ≤ a) (hL : a ≠ X.env.locals) (hc : ∀ x c, X.env.cells.lookup x = some c → c ≠ a)
    (hp : ∀ p ∈ X.pn ++ pins, p.1 ≠ a) (new : ObjOk X.prog X.w (upd H a o) s.heap a o) : Inv X pins σ (upd H a o) s := by
  refine ⟨I.ok, I.os, I.bare, ⟨I.base.keep, I.base.slot, fun b u e n hx => ?_, I.base.there, fun b xs e => ?_, fun b u xs e => ?_, fun b ps e => ?_⟩, I.loc, I.cell, ?_, fun x c e => ?_, fun p hp' => ?_, I.hok.track hn new, I.len⟩
  · rw [upd_ne (Nat.ne_of_lt (Nat.lt_of_lt_of_le (Heap.lt_size e) h0))]
    exact I.base.free b u e n hx
  · have q := I.base.tups b xs e
    rw [upd_ne (ne_of_none q hn)]
    exact q
  · have q := I.base.frzs b u xs e
    rw [upd_ne (ne_of_none q hn)]
    exact q
  · obtain ⟨m, q⟩ := I.base.tbls b ps e
    exact ⟨m, by rw [upd_ne (ne_of_none q hn)]; exact q⟩
  · rw [upd_ne (Ne.symm hL)]
    exact I.free
  · rw [upd_ne (hc x c e)]
    exact I.freeC x c e
  · obtain ⟨e, n, r⟩ := I.pin p hp'
    exact ⟨e, by rw [upd_ne (hp p hp')]; exact n, r⟩

/-- what hangs on no other tracked object -/
def SmpO : HO → Prop
  | .lst _ => True
  | .tup _ => True
  | .dK _ => True
  | .frz _ (.lst _) => True
  | .frz _ (.dK _) => True
  | .ext _ => True
  | _ => False
def Smp (H : Hp) : Prop := ∀ b o, H b = some o → SmpO o
theorem ObjOk.smp {P : Program} {w : World} {h : Heap} {a : Addr} {o : HO} (z : SmpO o) (x : ObjOk P w H h a o) : ObjOk P w F h a o := by
  cases o with
  | lst xs => exact x
  | tup xs => exact x
  | dK kvs => exact x
  | frz ob u => cases u with
    | lst xs => exact x
    | dK kvs => exact x
    | _ => exact absurd z (fun q => q)
  | ext φ => exact x
  | _ => exact absurd z (fun q => q)
theorem Smp.sub (h : Smp H) (s : Same F H) : Smp F := fun b o e => h b o (s b o e)
/-- a smaller heap, that has all of the entry's -/
theorem Inv.less (I : Inv X pins σ H s) (hF : Same F H) (h0 : Same X.B₀ F) (hs : Smp F) : Inv X pins σ F s := by
  refine ⟨I.ok, I.os, I.bare, ⟨I.base.keep, I.base.slot, fun b u e n hx => hF.free (I.base.free b u e n hx), I.base.there, fun b xs e => h0 _ _ (X.hB _ _ e (fun _ z => by cases z)), fun b u xs e => h0 _ _ (X.hB _ _ e (fun _ z => by cases z)), fun b ps e => ⟨#[], ?_⟩⟩, I.loc, I.cell, hF.free I.free, fun x c e => hF.free (I.freeC x c e), fun p hp => ?_, fun b o e => (I.hok b o (hF b o e)).smp (hs b o e), I.len⟩
  · have q := h0 _ _ (X.hB _ _ e (fun _ z => by cases z))
    rw [q]
    simp
  · obtain ⟨e, n, r⟩ := I.pin p hp
    exact ⟨e, hF.free n, r⟩
end

/-! ### comprehensions -/
def clo (cells : List (Str × Addr)) : List (Str × NameKind) → List (Str × Addr) → List (Str × Addr)
  | [], cs => cs
  | (n, k) :: r, cs => clo cells r (if (k == NameKind.free) = true then (n, (cells.lookup n).getD 0) :: cs else cs)
theorem closure_go {env : Env} : ∀ (names : List (Str × NameKind)) (cs : List (Str × Addr)), (∀ y ∈ names, y.2 = .free → ∃ c, env.cells.lookup y.1 = some c) →
    (forIn names cs (fun (x : Str × NameKind) (r : List (Str × Addr)) => if (x.2 == NameKind.free) = true then (do let c ← cellOf env x.1; pure (ForInStep.yield ((x.1, c) :: r))) else pure (ForInStep.yield r)) : Sem (List (Str × Addr))) = pure (clo env.cells names cs)
  | [], cs, _ => rfl
  | (n, k) :: r, cs, h => by
    rw [List.forIn_cons]
    by_cases hk : (k == NameKind.free) = true
    · obtain ⟨c, hc⟩ := h (n, k) List.mem_cons_self (by simpa using hk)
      have e : cellOf env n = pure c := by
        unfold cellOf
        have hc' : env.cells.lookup n = some c := hc
        rw [hc']
      simp only [hk, if_true, e, pure_bind, clo]
      have hc' : env.cells.lookup n = some c := hc
      rw [hc']
      exact closure_go r _ fun y hy => h y (List.mem_cons_of_mem _ hy)
    · simp only [hk, Bool.false_eq_true, if_false, pure_bind, clo]
      exact closure_go r _ fun y hy => h y (List.mem_cons_of_mem _ hy)
theorem closure_eq {env : Env} {scope : Scope} (h : ∀ y ∈ scope.names, y.2 = .free → ∃ c, env.cells.lookup y.1 = some c) : closureFor scope env = pure (clo env.cells scope.names []) := by
  simp only [closureFor]
  have e := closure_go (env := env) scope.names [] h
  simp only [bind_pure] 
  exact e
theorem clo_look (cells : List (Str × Addr)) : ∀ (names : List (Str × NameKind)) (cs : List (Str × Addr)) (x : Str) (c : Addr), (clo cells names cs).lookup x = some c → cs.lookup x = some c ∨ ((x, NameKind.free) ∈ names ∧ c = (cells.lookup x).getD 0)
  | [], cs, x, c, h => .inl h
  | (n, k) :: r, cs, x, c, h => by
    rcases clo_look cells r _ x c h with q | ⟨q1, q2⟩
    · by_cases hk : (k == NameKind.free) = true
      · rw [if_pos hk, List.lookup_cons] at q
        have ek : k = .free := by simpa using hk
        by_cases hx : (x == n) = true
        · simp only [hx] at q
          have e : x = n := by simpa using hx
          subst e
          exact .inr ⟨by rw [ek]; exact List.mem_cons_self, (Option.some.inj q).symm⟩
        · have hx' : (x == n) = false := by simpa using hx
          simp only [hx'] at q
          exact .inl q
      · rw [if_neg hk] at q
        exact .inl q
    · exact .inr ⟨List.mem_cons_of_mem _ q1, q2⟩
theorem clo_has (cells : List (Str × Addr)) : ∀ (names : List (Str × NameKind)) (cs : List (Str × Addr)) (x : Str), (x, NameKind.free) ∈ names ∨ (∃ c, cs.lookup x = some c) → ∃ c, (clo cells names cs).lookup x = some c
  | [], cs, x, h => h.elim (fun z => nomatch z) fun z => z
  | (n, k) :: r, cs, x, h => by
    refine clo_has cells r _ x ?_
    by_cases hk : (k == NameKind.free) = true
    · rw [if_pos hk]
      by_cases hx : (x == n) = true
      · exact .inr ⟨(cells.lookup n).getD 0, by rw [List.lookup_cons]; simp only [hx]⟩
      · have hx' : (x == n) = false := by simpa using hx
        rcases h with q | ⟨c, q⟩
        · rcases List.mem_cons.mp q with z | z
          · cases z
            exact absurd (by simp) hx
          · exact .inl z
        · exact .inr ⟨c, by rw [List.lookup_cons]; simp only [hx']; exact q⟩
    · rw [if_neg hk]
      rcases h with q | q
      · rcases List.mem_cons.mp q with z | z
        · cases z
          exact absurd rfl hk
        · exact .inl z
      · exact .inr q
theorem relabel_kind {env : Env} : ∀ {names : List (Str × NameKind)} {x : Str}, ((names.map fun (n, k) => if (k == NameKind.free && env.scope.kind == .function && env.kindOf n == some .cell) then (n, NameKind.cell) else (n, k)).lookup x = some .cell ∨
      (names.map fun (n, k) => if (k == NameKind.free && env.scope.kind == .function && env.kindOf n == some .cell) then (n, NameKind.cell) else (n, k)).lookup x = some .free) → names.lookup x = some .cell ∨ names.lookup x = some .free
  | [], x, h => by simp at h
  | (n, k) :: r, x, h => by
    have ih := @relabel_kind env r x
    rw [List.map_cons] at h
    rw [List.lookup_cons]
    by_cases hc : (k == NameKind.free && env.scope.kind == .function && env.kindOf n == some .cell) = true
    · simp only [hc, if_true, List.lookup_cons] at h
      cases hx : x == n with
      | true =>
        have hk : k = .free := by
          have := hc
          simp only [Bool.and_eq_true, beq_iff_eq] at this
          exact this.1.1
        exact .inr (by rw [hk])
      | false =>
        simp only [hx] at h ⊢
        exact ih h
    · have hc' : (k == NameKind.free && env.scope.kind == .function && env.kindOf n == some .cell) = false := by simpa using hc
      simp only [hc', Bool.false_eq_true, if_false, List.lookup_cons] at h
      cases hx : x == n with
      | true =>
        simp only [hx] at h ⊢
        exact h
      | false =>
        simp only [hx] at h ⊢
        exact ih h
theorem comp_loop {prog : Program} {w : World} {A : Around} {R : Result → Shared → Prop} {s : Shared} {elt target iter : Expr} {ifs : List Expr} {scope : Scope} {pos : Pos} {it acc : Value} {env : Env} (Ξ : Value → Shared → Prop) (hΞ : ∀ e s, Ξ e s → notedBy (model prog w) A env (fun e s' => R (.error e) s') e s) (J : Nat → Shared → Prop)
    (turn : ∀ n s, J n s → wpAny (model prog w) A (pyNext it) (fun r s₁ => match r with
      | none => R (.ok .next) s₁
      | some v => wpAny (model prog w) A (letOwnedTupleGo target it v) (fun _ s₂ => wpAny (model prog w) A (assign target env v) (fun _ s₃ =>
          wpAny (model prog w) A (forIn ifs true fun c r => if r = true then do let ok ← isTrue c env (eval c env); pure (ForInStep.yield ok) else pure (ForInStep.yield r)) (fun ok s₄ =>
            if ok = true then wpAny (model prog w) A (eval elt env) (fun x s₅ => wpAny (model prog w) A (call (.builtin "list.append") [acc, x]) (fun _ s₆ => ∃ m, m < n ∧ J m s₆) Ξ s₅) Ξ s₄
            else ∃ m, m < n ∧ J m s₄) Ξ s₃) Ξ s₂) Ξ s₁) Ξ s)
    (n : Nat) (h : J n s) : codeAny (model prog w) A (.compLoop (.ListComp elt [⟨target, iter, ifs, 0⟩] scope pos) 0 it acc env) R s := by
  refine codeAny_loop rfl J (fun n s hI => ?_) n h
  show wpAny _ A ((compTurn (.ListComp elt [⟨target, iter, ifs, 0⟩] scope pos) 0 it acc env).onRaise (fun x => do noteFrame x env; theTreesLotGoes x)) _ _ s
  refine wpAny_noted ?_
  rw [compTurn_list]
  refine wpAny_bind (wpAny_standAt (wpAny_bind (wpAny_mono (turn n s hI) (fun r s₁ h₁ => ?_) fun e s z => hΞ e s z)))
  cases r with
  | none => exact wpAny_pure h₁
  | some v =>
    refine wpAny_bind (wpAny_mono h₁ (fun _ s₂ h₂ => ?_) fun e s z => hΞ e s z)
    refine wpAny_bind (wpAny_mono h₂ (fun _ s₃ h₃ => ?_) fun e s z => hΞ e s z)
    refine wpAny_bind (wpAny_mono h₃ (fun ok s₄ h₄ => ?_) fun e s z => hΞ e s z)
    cases ok with
    | false => exact wpAny_pure ⟨rfl, h₄⟩
    | true => exact wpAny_bind (wpAny_bind (wpAny_mono h₄ (fun x s₅ h₅ => wpAny_bind (wpAny_mono h₅ (fun _ s₆ h₆ => wpAny_pure (wpAny_pure ⟨rfl, h₆⟩)) fun e s z => hΞ e s z)) fun e s z => hΞ e s z))

def wIfs (X : Cx) (ifs : List Expr) : TT := fun σ H Q => ∀ (pins : List (Addr × Obj)) (s : Shared), Inv X pins σ H s →
  wpAny (model X.prog X.w) X.A (forIn ifs true fun c r => if r = true then do let ok ← isTrue c X.env (eval c X.env); pure (ForInStep.yield ok) else pure (ForInStep.yield r)) (TP X pins σ Q) X.xe s
theorem wIfs_nil {X : Cx} {σ : St} {H : Hp} {Q : Bool → Hp → Prop} (h : Q true H) : wIfs X [] σ H Q := fun _ _ I => wpAny_tests_nil ⟨H, I, h⟩
theorem wIfs_one {X : Cx} {c : Expr} {σ : St} {H : Hp} {Q : Bool → Hp → Prop} (h : wT X c σ H Q) : wIfs X [c] σ H Q := fun pins s I => wpAny_tests_one (h pins s I)
/-- a comprehension's block running -/
def cxB (X : Cx) (N : List Str) (scope : Scope) (cl : List (Str × Addr)) (C : Addr) (ex : List Addr) (s : Shared) (H : Hp) : Cx :=
  { prog := X.prog, w := X.w, K := X.K, mg := X.mg, base := X.base, A := X.A, N := N, s₀ := s, H₀ := H, env := compEnvC scope cl C X.env, outer := X.stack, stack := X.stack, ex := ex, fn := fun _ => false, calm := true, pn := [], xe := fun _ _ => False }
/-- the same, where an exception may leave the block -/
def cxBx (X : Cx) (N : List Str) (scope : Scope) (cl : List (Str × Addr)) (C : Addr) (ex : List Addr) (s : Shared) (H : Hp) (ξ : Value → Shared → Prop) : Cx := { cxB X N scope cl C ex s H with xe := ξ }
/-- the outer names that the block knows: cap tells for each of the block's names its slot outside -/
def capt (cap : List (Option Nat)) (σ : St) : St := cap.map fun o => o.bind fun k => (σ[k]?).join
/-- what is asked of the names, by looking -/
def compNames (scope sc : Scope) : Bool := scope.names.all fun y => (!(y.2 == NameKind.free) || sc.names.lookup y.1 == some NameKind.cell) && !(y.2 == NameKind.cell) && (!(y.2 == NameKind.local) || scope.names.lookup y.1 == some NameKind.local)
def capNames (N M : List Str) (scope sc : Scope) (cap : List (Option Nat)) : Bool := cap.length == N.length && (cap.zip N).all fun y => match y.1 with
  | none => true
  | some k => M[k]? == some y.2 && sc.names.lookup y.2 == some NameKind.cell && scope.names.lookup y.2 == some NameKind.free
theorem lookup_relabel_free {env : Env} (hf : env.scope.kind = .function) : ∀ {names : List (Str × NameKind)} {x : Str}, names.lookup x = some .free → env.kindOf x = some .cell →
    (names.map fun (n, k) => if (k == NameKind.free && env.scope.kind == .function && env.kindOf n == some .cell) then (n, NameKind.cell) else (n, k)).lookup x = some .cell
  | [], x, h, _ => by simp at h
  | (n, k) :: r, x, h, hc => by
    rw [List.map_cons]
    cases hx : x == n with
    | true =>
      have e : x = n := by simpa using hx
      subst e
      rw [List.lookup_cons] at h
      simp only [beq_self_eq_true] at h
      have ek : k = .free := Option.some.inj h
      subst ek
      have hb : (NameKind.free == NameKind.free && env.scope.kind == .function && env.kindOf x == some .cell) = true := by rw [hf, hc]; rfl
      show List.lookup x ((if (NameKind.free == NameKind.free && env.scope.kind == .function && env.kindOf x == some .cell) = true then (x, NameKind.cell) else (x, NameKind.free)) :: _) = _
      rw [if_pos hb, List.lookup_cons]
      simp only [beq_self_eq_true]
    | false =>
      rw [List.lookup_cons] at h
      simp only [hx] at h
      have ih := lookup_relabel_free hf (names := r) h hc
      by_cases hb : (k == NameKind.free && env.scope.kind == .function && env.kindOf n == some .cell) = true
      · simp only [hb, if_true, List.lookup_cons, hx]
        exact ih
      · have hb' : (k == NameKind.free && env.scope.kind == .function && env.kindOf n == some .cell) = false := by simpa using hb
        simp only [hb', Bool.false_eq_true, if_false, List.lookup_cons, hx]
        exact ih
theorem Inv.low {X : Cx} {pins : List (Addr × Obj)} {σ : St} {H : Hp} {s : Shared} (I : Inv X pins σ H s) : ∀ b ∈ frs X.stack, b < s.heap.objs.size := fun b hb => by
  obtain ⟨_, o, ho, _⟩ := I.stack.mem hb
  exact Heap.lt_size ho
theorem comp_runX {X : Cx} {pins : List (Addr × Obj)} {σ : St} {H : Hp} {s : Shared} {elt tg iter : Expr} {ifs : List Expr} {scope : Scope} {pos : Pos} {N : List Str} {cap : List (Option Nat)} {g : TG} {tt : TT} {te : TE} {J : It} {fp : List Addr} {it : Addr} {tn : Nat → Heap → Prop} {E : Value → Shared → Prop} {sc : Scope} (ξ : List (Str × Addr) → Addr → Value → Shared → Prop) (ξ' : List (Str × Addr) → Addr → Value → Hp → Shared → Prop)
    (hc : X.calm = true) (hsc : X.env.scope = sc) (hcn : compNames scope sc = true) (hcap : capNames N X.N scope sc cap = true) (hk : scope.kind = .function)
    (I : Inv X pins σ H s) (T : Turn X.prog X.w X.K tg J fp it tn) (st : tn 0 s.heap) (hfp : ∀ b ∈ fp, FpOk X pins H b)
    (hg : ∀ cl C, PG (cxBx X N scope cl C fp s H (ξ cl C)) tg g) (ht : ∀ cl C pi s2 σ2 H2 Q, Inv (cxBx X N scope cl C fp s H (ξ cl C)) pi σ2 H2 s2 → tt σ2 H2 Q → wpAny (model X.prog X.w) X.A (forIn ifs true fun c r => if r = true then do let ok ← isTrue c (compEnvC scope cl C X.env) (eval c (compEnvC scope cl C X.env)); pure (ForInStep.yield ok) else pure (ForInStep.yield r)) (TP (cxBx X N scope cl C fp s H (ξ cl C)) pi σ2 Q) (ξ cl C) s2)
    (he : ∀ cl C, PE (cxBx X N scope cl C fp s H (ξ cl C)) elt te) (W : Nat → Nat → List V → St → Hp → Prop) (m0 : Nat) (w0 : W 0 m0 [] (capt cap σ) H)
    (RR : Value → Addr → Result → Shared → Prop)
    (hξ : ∀ cl C e s', ξ cl C e s' → ∃ pi σb H', Inv (cxBx X N scope cl C fp s H (ξ cl C)) pi σb H' s' ∧ ξ' cl C e H' s')
    (hx : ∀ cl D C e H' s', ξ' cl C e H' s' → H' C = none → X.s₀.heap.objs.size ≤ C → C ≠ X.env.locals → (∀ x c, X.env.cells.lookup x = some c → c ≠ C) → (∀ p ∈ X.pn ++ pins, p.1 ≠ C) → C ∉ frs X.stack → (∃ m, s'.heap.Ns C m) → Inv X pins σ H' s' → notedBy (model X.prog X.w) X.A (compEnvC scope cl C X.env) (fun e s'' => RR (.ref D) C (.error e) s'') e s')
    (turn : ∀ i m ys σb H2, W i m ys σb H2 →
      (J.stop i H2 ∧ ∀ D C s', H2 D = none → H2 C = none → D ≠ C → X.s₀.heap.objs.size ≤ C → C ≠ X.env.locals → (∀ x c, X.env.cells.lookup x = some c → c ≠ C) → (∀ p ∈ X.pn ++ pins, p.1 ≠ C) → C ∉ frs X.stack → (∃ m, s'.heap.Ns C m) → Inv X pins σ (upd H2 D (.lst ys)) s' → RR (.ref D) C (.ok .next) s') ∨
      (J.go i H2 ∧ ys.length < sizeLine ∧ ∃ Nx : List V → St → Hp → Prop, (∀ ys' σ' H', Nx ys' σ' H' → ∃ m', m' < m ∧ W (i + 1) m' ys' σ' H') ∧
        ∀ x H', J.yld i H2 x H' → g x σb H' fun σ2 H3 => tt σ2 H3 fun b H4 => if b = true then te σ2 H4 fun v H5 => Nx (ys ++ [v]) σ2 H5 else Nx ys σ2 H4)) :
    wpAny (model X.prog X.w) X.A (newList []) (fun acc s₃ => wpAny (model X.prog X.w) X.A (newFunctionEnv scope X.env.globals (clo X.env.cells scope.names []) [] X.env.qual none .none (some X.env)) (fun cenv s₄ =>
      codeAny (model X.prog X.w) X.A (.compStart (.ListComp elt [⟨tg, iter, ifs, 0⟩] scope pos) 0 (.ref it) acc { cenv with scope := relabel scope X.env }) (RR acc cenv.locals) s₄) E s₃) E s := by
  -- the names
  have nm : ∀ y ∈ scope.names, (y.2 = NameKind.free → sc.names.lookup y.1 = some NameKind.cell) ∧ y.2 ≠ NameKind.cell ∧ (y.2 = NameKind.local → scope.names.lookup y.1 = some NameKind.local) := fun y hy => by
    have q := List.all_eq_true.mp hcn y hy
    simp only [Bool.and_eq_true, Bool.or_eq_true, Bool.not_eq_true', beq_eq_false_iff_ne, ne_eq, beq_iff_eq] at q
    exact ⟨fun e => q.1.1.resolve_left fun z => z e, q.1.2, fun e => q.2.resolve_left fun z => z e⟩
  have fre : ∀ y ∈ scope.names, y.2 = .free → ∃ c, X.env.cells.lookup y.1 = some c := fun y hy e => I.ok.has y.1 (.inl (by show X.env.scope.names.lookup y.1 = _; rw [hsc]; exact (nm y hy).1 e))
  generalize hcl : clo X.env.cells scope.names [] = cl
  have csub : ∀ x c, cl.lookup x = some c → X.env.cells.lookup x = some c := fun x c e => by
    rw [← hcl] at e
    rcases clo_look _ _ _ _ _ e with z | ⟨z1, z2⟩
    · simp at z
    · obtain ⟨c', q⟩ := fre _ z1 rfl
      rw [q] at z2
      rw [q, z2]
      rfl
  have chas : ∀ x, ((relabel scope X.env).names.lookup x = some .cell ∨ (relabel scope X.env).names.lookup x = some .free) → ∃ c, cl.lookup x = some c := fun x e => by
    rcases relabel_kind e with z | z
    · exact absurd rfl (nm _ (PySem.mem_of_lookup z)).2.1
    · rw [← hcl]
      exact clo_has _ _ _ _ (.inl (PySem.mem_of_lookup z))
  have cexi : ∀ x c, cl.lookup x = some c → c < s.heap.objs.size := fun x c e => by
    obtain ⟨v, o, ho, _⟩ := I.cell x c (csub x c e)
    exact Heap.lt_size ho
  have cexX : ∀ x c, X.env.cells.lookup x = some c → c < s.heap.objs.size := fun x c e => by
    obtain ⟨v, o, ho, _⟩ := I.cell x c e
    exact Heap.lt_size ho
  have pexX : ∀ p ∈ X.pn ++ pins, p.1 < s.heap.objs.size := fun p hp => Heap.lt_size (I.pin p hp).1
  have flow : ∀ b ∈ fp, b < s.heap.objs.size := fun b hb => by
    obtain ⟨o, ho, _⟩ := T.obj 0 _ st b hb
    exact Heap.lt_size ho
  have fstk : ∀ b ∈ fp, b ∉ frs X.stack := fun b hb z => by
    obtain ⟨_, f1, f2, _⟩ := hfp b hb
    rcases List.mem_cons.mp (I.stkSub b z) with q | q
    · exact f1 q
    · exact f2 q
  have hkr : (relabel scope X.env).kind = .function := hk
  refine wpAny_newObj_type (wpAny_newFunctionEnv (fun y hy => (nm y hy).2.1) (by intro y hy; simp at hy) (fun h₁ hns₁ hsb₁ => ?_) hk)
  dsimp only at hns₁ hsb₁ ⊢
  generalize hH2 : s.heap.push { cls := .type "list", dict := none, data := .seq ([] : List Value).toArray } = G2 at hns₁ hsb₁ ⊢
  have hC : G2.objs.size = s.heap.objs.size + 1 := by rw [← hH2, Heap.size_push]
  have hDC : s.heap.objs.size ≠ G2.objs.size := by rw [hC]; exact Nat.ne_of_lt (Nat.lt_succ_self _)
  have hCle : s.heap.objs.size ≤ G2.objs.size := by rw [hC]; exact Nat.le_succ _
  have neC : ∀ b, b < s.heap.objs.size → b ≠ G2.objs.size := fun b hb => by rw [hC]; exact Nat.ne_of_lt (Nat.lt_succ_of_lt hb)
  have old : ∀ b o, s.heap.get? b = some o → h₁.get? b = some o := fun b o e => hsb₁.extBut b o (neC b (Heap.lt_size e)) (Heap.get?_push_of_some _ (hH2 ▸ Heap.get?_push_of_some _ e))
  have hacc : h₁.get? s.heap.objs.size = some { cls := .type "list", dict := none, data := .seq ([] : List Value).toArray } := hsb₁.extBut _ _ hDC (Heap.get?_push_of_some _ (hH2 ▸ Heap.get?_push_size _ rfl))
  have env_eq : ({ newEnv scope G2.objs.size X.env.globals cl X.env.qual none .none (some X.env) 0 with scope := relabel scope X.env } : Env) = compEnvC scope cl G2.objs.size X.env := rfl
  generalize hDD : s.heap.objs.size = D at *
  generalize hCC : G2.objs.size = C at *
  have okX : (cxBx X N scope cl C fp s H (ξ cl C)).Ok := by
    refine ⟨I.mod, hkr, I.ok.glob, I.ok.blt, ?_, fun x y c a b => I.ok.inj x y c (csub x c a) (csub y c b), chas, (fun x c z => nomatch z), fun _ => I.ok.hd hc, I.ok.frames, .inl rfl, fun b hb => ⟨neC b (flow b hb), fun x c e => (hfp b hb).2.2.2.2.1 x c (csub x c e)⟩, I.bs, ?_, fun b o e hb => ?_, fstk, I.stack, I.stkFree⟩
    · show s.heap.objs.size ≤ C
      rw [hDD]; exact hCle
    · exact Nat.le_trans I.ok.bsz I.sz
    · rcases (hfp b hb).2.2.2.1 with z | z
      · exact I.ok.noex b o e z
      · exact absurd (Nat.lt_of_lt_of_le (Heap.lt_size e) (Nat.le_trans I.ok.bsz z)) (Nat.lt_irrefl _)
  have capE : ∀ (i : Nat) (x : Str) (v : V), N[i]? = some x → (capt cap σ)[i]? = some (some v) → ∃ k : Nat, X.N[k]? = some x ∧ σ[k]? = some (some v) ∧ sc.names.lookup x = some .cell ∧ scope.names.lookup x = some .free := fun i x v e1 e2 => by
    unfold capNames at hcap
    rw [Bool.and_eq_true] at hcap
    unfold capt at e2
    rw [List.getElem?_map] at e2
    cases q : cap[i]? with
    | none => rw [q] at e2; cases e2
    | some o =>
      rw [q] at e2
      have e2 : (o.bind fun k => (σ[k]?).join) = some v := Option.some.inj e2
      cases o with
      | none => cases e2
      | some k =>
        have e2 : (σ[k]?).join = some v := e2
        have mz : (some k, x) ∈ cap.zip N := by
          refine List.mem_of_getElem? (i := i) ?_
          rw [List.getElem?_zip_eq_some]
          exact ⟨q, e1⟩
        have z := List.all_eq_true.mp hcap.2 _ mz
        simp only [Bool.and_eq_true, beq_iff_eq] at z
        refine ⟨k, z.1.1, ?_, z.1.2, z.2⟩
        cases w : σ[k]? with
        | none => rw [w] at e2; cases e2
        | some o' =>
          rw [w] at e2
          have e2 : o' = some v := e2
          rw [e2]
  have I0 : Inv (cxBx X N scope cl C fp s H (ξ cl C)) [(D, { cls := .type "list", dict := none, data := .seq ([] : List Value).toArray })] (capt cap σ) H { s with heap := h₁, toks := s.toks + ([] : List (Str × Value)).length } := by
    have dfree : H D = none := I.hok.fresh (Nat.le_of_eq hDD)
    refine ⟨okX, rfl, I.bare, Un.kept old, ⟨_, hns₁, fun i x v e1 e2 e3 => ?_⟩, fun x c e => ?_, I.hok.fresh (by rw [hDD]; exact hCle), fun x c e => I.freeC x c (csub x c e), fun p hp => ?_, I.hok.kept old, ?_⟩
    · obtain ⟨k, q1, q2, q3, q4⟩ := capE i x v e1 e2
      have q3' : X.env.scope.names.lookup x = some .cell := by rw [hsc]; exact q3
      obtain ⟨m, _, hl⟩ := I.loc
      obtain ⟨u, ru, lk⟩ := hl k x v q1 q2 (.inr (.inl q3'))
      refine ⟨u, ru, .inr ⟨.inl (lookup_relabel_free I.ok.kind q4 q3'), ?_⟩⟩
      rcases lk with ⟨z, _⟩ | ⟨_, c, z, ic⟩
      · have z' : X.env.scope.names.lookup x = some .local := z
        rw [q3'] at z'; cases z'
      · obtain ⟨c', hc'⟩ := chas x (.inl (lookup_relabel_free I.ok.kind q4 q3'))
        have := csub x c' hc'
        rw [z] at this
        have ec : c = c' := Option.some.inj this
        subst ec
        obtain ⟨o, ho, hd⟩ := ic
        exact ⟨c, hc', o, old c o ho, hd⟩
    · obtain ⟨v, o, ho, hd⟩ := I.cell x c (csub x c e)
      exact ⟨v, o, old c o ho, hd⟩
    · have hp' : p = (D, { cls := .type "list", dict := none, data := .seq ([] : List Value).toArray }) := by simpa [cxBx, cxB] using hp
      subst hp'
      refine ⟨hacc, dfree, hDC, fun z => ?_, fun v z => by cases z⟩
      have := I.low D z
      rw [hDD] at this
      exact Nat.lt_irrefl _ this
    · show (capt cap σ).length = N.length
      unfold capNames at hcap
      rw [Bool.and_eq_true] at hcap
      unfold capt
      rw [List.length_map]
      simpa using hcap.1
  have dlow : ∀ b, b < D → b ≠ D := fun b hb => Nat.ne_of_lt hb
  have loop : ∀ s₃ : Shared, s₃ = { s with heap := h₁, toks := s.toks + ([] : List (Str × Value)).length } →
      codeAny (model X.prog X.w) X.A (.compLoop (.ListComp elt [⟨tg, iter, ifs, 0⟩] scope pos) 0 (.ref it) (.ref D) (compEnvC scope cl C X.env)) (RR (.ref D) C) s₃ := by
    rintro s₃ rfl
    refine comp_loop (ξ cl C) (fun e s' z => ?_) (fun n s' => ∃ (i : Nat) (ys : List V) (σb : St) (H2 : Hp) (its : List Value) (nn : Nat), Inv (cxBx X N scope cl C fp s H (ξ cl C)) [(D, { cls := .type "list", dict := none, data := .seq its.toArray nn })] σb H2 s' ∧ tn i s'.heap ∧ (∀ b ∈ fp, H2 b = none) ∧ Vals ys its ∧ ys.length ≤ sizeLine ∧ W i n ys σb H2) ?_ m0
      ⟨0, [], capt cap σ, H, [], 0, I0, T.keep 0 _ _ st fun b hb o e => old b o e, fun b hb => (hfp b hb).1, .nil, Nat.zero_le _, w0⟩
    · obtain ⟨pi, σb, H', I', z'⟩ := hξ cl C e s' z
      obtain ⟨m4, ns4, _⟩ := id I'.loc
      have J0 : Inv X pins σ H' s' := I.call' (ch := fp) I'.os I'.base I'.hok I'.bare fun b hb => ⟨(hfp b hb).2.2.2.1, (hfp b hb).2.1, (hfp b hb).2.2.2.2.1, (hfp b hb).2.2.2.2.2⟩
      have hLD : X.env.locals < D := by rw [← hDD]; exact I.lt
      exact hx cl D C e H' s' z' I'.free (Nat.le_trans I.sz (by rw [hDD]; exact hCle)) (Nat.ne_of_gt (Nat.lt_of_lt_of_le hLD hCle)) (fun x c e => neC c (cexX x c e)) (fun p hp => neC _ (pexX p hp)) (fun z => absurd (I.low C z) (by rw [hDD]; exact Nat.not_lt.mpr hCle)) ⟨m4, ns4⟩ J0
    rintro n s3 ⟨i, ys, σ3, H3, its, nn, I3, st3, fr3, rv3, hlen, w3⟩
    have fpX : ∀ {H' : Hp} {its' : List Value} {nn' : Nat}, (∀ b ∈ fp, H' b = none) → ∀ b ∈ fp, FpOk (cxBx X N scope cl C fp s H (ξ cl C)) [(D, { cls := .type "list", dict := none, data := .seq its'.toArray nn' })] H' b := fun {H' its' nn'} hn b hb => by
      refine ⟨hn b hb, neC b (flow b hb), fstk b hb, .inl hb, fun x c e => (hfp b hb).2.2.2.2.1 x c (csub x c e), fun p hp => ?_⟩
      have hp' : p.1 = D := by
        have q : p ∈ ([] : List (Addr × Obj)) ++ [(D, { cls := .type "list", dict := none, data := .seq its'.toArray nn' })] := hp
        rw [List.nil_append, List.mem_singleton] at q
        rw [q]
      rw [hp']
      exact Ne.symm (dlow b (flow b hb))
    rcases turn i n ys σ3 H3 w3 with ⟨stop, fin⟩ | ⟨go, hsz, Nx, hN, step⟩
    · refine thn (T.done (cxBx X N scope cl C fp s H (ξ cl C)) rfl rfl rfl rfl i _ s3 σ3 H3 (ξ cl C) I3 (fpX fr3) st3 stop) fun r s4 ⟨hr, I4⟩ => ?_
      subst hr
      obtain ⟨m4, ns4, _⟩ := id I4.loc
      have J0 : Inv X pins σ H3 s4 := I.call' (ch := fp) I4.os I4.base I4.hok I4.bare fun b hb => ⟨(hfp b hb).2.2.2.1, (hfp b hb).2.1, (hfp b hb).2.2.2.2.1, (hfp b hb).2.2.2.2.2⟩
      obtain ⟨pd, pn, _⟩ := I4.pin (D, _) (List.mem_append_right _ List.mem_cons_self)
      have hLD : X.env.locals < D := by rw [← hDD]; exact I.lt
      refine fin D C s4 pn I4.free hDC (Nat.le_trans I.sz (by rw [hDD]; exact hCle)) (Nat.ne_of_gt (Nat.lt_of_lt_of_le hLD hCle)) (fun x c e => neC c (cexX x c e)) (fun p hp => neC _ (pexX p hp)) (fun z => absurd (I.low C z) (by rw [hDD]; exact Nat.not_lt.mpr hCle)) ⟨m4, ns4⟩ ?_
      refine J0.track pn (by rw [← hDD]; exact I.sz) (Nat.ne_of_gt hLD) (fun x c e => dlow c (cexX x c e)) (fun p hp => dlow _ (pexX p hp)) ?_
      exact ⟨hlen, its, nn, rv3, pd⟩
    · refine thn (T.item (cxBx X N scope cl C fp s H (ξ cl C)) rfl rfl rfl rfl i _ s3 σ3 H3 (ξ cl C) I3 (fpX fr3) st3 go) fun r s4 ⟨u, hr, h4⟩ => ?_
      subst hr
      refine thn h4 fun _ s5 ⟨x, H5, I5, r5, y5, st5, fr5⟩ => ?_
      have I5' := I5.pinned (fpX fr5) (T.obj _ _ st5)
      refine thn (hg cl C _ s5 σ3 H5 x u _ I5' r5 (step x H5 y5)) fun _ s6 ⟨σ6, H6, I6, q6⟩ => ?_
      refine thn (ht cl C _ s6 σ6 H6 _ I6 q6) fun b s7 ⟨H7, I7, q7⟩ => ?_
      have tnK : ∀ {σ7 : St} {H7 : Hp} {s7 : Shared}, Inv (cxBx X N scope cl C fp s H (ξ cl C)) ([(D, { cls := .type "list", dict := none, data := .seq its.toArray nn })] ++ pinsAt fp s5.heap) σ7 H7 s7 → tn (i + 1) s7.heap ∧ ∀ b ∈ fp, H7 b = none := fun {σ7 H7 s7} I7 => by
        refine ⟨T.keep _ _ _ st5 fun b hb o e => (I7.pin (b, o) (List.mem_append_right _ (List.mem_append_right _ (mem_pinsAt hb e)))).1, fun b hb => ?_⟩
        obtain ⟨o, e, d⟩ := T.obj _ _ st5 b hb
        exact (I7.pin (b, o) (List.mem_append_right _ (List.mem_append_right _ (mem_pinsAt hb e)))).2.1
      cases b with
      | false =>
        have q7' : Nx ys σ6 H7 := q7
        obtain ⟨m', hm, w7⟩ := hN _ _ _ q7'
        obtain ⟨t7, f7⟩ := tnK I7
        exact ⟨m', hm, i + 1, ys, σ6, H7, its, nn, I7.unpinned, t7, f7, rv3, hlen, w7⟩
      | true =>
        have q7' : te σ6 H7 fun v H5 => Nx (ys ++ [v]) σ6 H5 := q7
        refine thn (he cl C _ s7 σ6 H7 _ I7 q7') fun y s8 ⟨v, H8, I8, r8, q8⟩ => ?_
        obtain ⟨m', hm, w8⟩ := hN _ _ _ q8
        obtain ⟨pd, pn, pL, pf, pc⟩ := I8.pin (D, { cls := .type "list", dict := none, data := .seq its.toArray nn }) (List.mem_append_right _ (List.mem_append_left _ List.mem_cons_self))
        have hits : its.length = ys.length := rv3.length.symm
        refine wpAny_list_append_plain (items := its.toArray) ⟨nn, pd⟩ (fun h9 pl9 sb9 => ?_) (by rw [List.size_toArray, hits]; exact Nat.le_of_lt hsz)
        obtain ⟨n9, e9⟩ := pl9
        have e9' : h9.get? D = some { cls := .type "list", dict := none, data := .seq (its ++ [y]).toArray n9 } := by
          rw [e9]
          simp
        have I8' : Inv (cxBx X N scope cl C fp s H (ξ cl C)) (pinsAt fp s5.heap) σ6 H8 s8 := I8.pins_of fun p hp => I8.pin p (List.mem_append_right _ (List.mem_append_right _ hp))
        have I9 : Inv (cxBx X N scope cl C fp s H (ξ cl C)) (pinsAt fp s5.heap) σ6 H8 { s8 with heap := h9, toks := s8.toks } := I8'.turned (it := D) (fun b o hb e => sb9.extBut b o hb e) pn hDC (.inr (by rw [← hDD]; exact Nat.le_refl _)) (fun x c e => dlow c (cexi x c e)) fun p hp => by
          have hp' : p ∈ pinsAt fp s5.heap := by simpa [cxBx, cxB] using hp
          exact dlow _ (flow _ (of_pinsAt hp').1)
        have tn9 : tn (i + 1) h9 := T.keep _ _ _ st5 fun b hb o e => (I9.pin (b, o) (List.mem_append_right _ (mem_pinsAt hb e))).1
        have fr9 : ∀ b ∈ fp, H8 b = none := fun b hb => by
          obtain ⟨o, e, d⟩ := T.obj _ _ st5 b hb
          exact (I9.pin (b, o) (List.mem_append_right _ (mem_pinsAt hb e))).2.1
        refine ⟨m', hm, i + 1, ys ++ [v], σ6, H8, its ++ [y], n9, I9.pins_of fun p hp => ?_, tn9, fr9, Vals.append rv3 (.cons r8 .nil), by rw [List.length_append]; exact hsz, w8⟩
        have hp' : p = (D, { cls := .type "list", dict := none, data := .seq (its ++ [y]).toArray n9 }) := List.mem_singleton.mp hp
        subst hp'
        exact ⟨e9', pn, pL, pf, fun v z => by cases z⟩
  exact codeAny_compStart_list (loop _ rfl) (T.self _ 0 _ _ _ (T.keep 0 _ _ st fun b hb o e => old b o e) (loop _ rfl))
theorem comp_run {X : Cx} {pins : List (Addr × Obj)} {σ : St} {H : Hp} {s : Shared} {elt tg iter : Expr} {ifs : List Expr} {scope : Scope} {pos : Pos} {N : List Str} {cap : List (Option Nat)} {g : TG} {tt : TT} {te : TE} {J : It} {fp : List Addr} {it : Addr} {tn : Nat → Heap → Prop} {E : Value → Shared → Prop} {sc : Scope}
    (hc : X.calm = true) (hsc : X.env.scope = sc) (hcn : compNames scope sc = true) (hcap : capNames N X.N scope sc cap = true) (hk : scope.kind = .function)
    (I : Inv X pins σ H s) (T : Turn X.prog X.w X.K tg J fp it tn) (st : tn 0 s.heap) (hfp : ∀ b ∈ fp, FpOk X pins H b)
    (hg : ∀ cl C, PG (cxB X N scope cl C fp s H) tg g) (ht : ∀ cl C pi s2 σ2 H2 Q, Inv (cxB X N scope cl C fp s H) pi σ2 H2 s2 → tt σ2 H2 Q → wpAny (model X.prog X.w) X.A (forIn ifs true fun c r => if r = true then do let ok ← isTrue c (compEnvC scope cl C X.env) (eval c (compEnvC scope cl C X.env)); pure (ForInStep.yield ok) else pure (ForInStep.yield r)) (TP (cxB X N scope cl C fp s H) pi σ2 Q) (fun _ _ => False) s2)
    (he : ∀ cl C, PE (cxB X N scope cl C fp s H) elt te) (W : Nat → Nat → List V → St → Hp → Prop) (m0 : Nat) (w0 : W 0 m0 [] (capt cap σ) H)
    (RR : Value → Addr → Result → Shared → Prop)
    (turn : ∀ i m ys σb H2, W i m ys σb H2 →
      (J.stop i H2 ∧ ∀ D C s', H2 D = none → H2 C = none → D ≠ C → X.s₀.heap.objs.size ≤ C → C ≠ X.env.locals → (∀ x c, X.env.cells.lookup x = some c → c ≠ C) → (∀ p ∈ X.pn ++ pins, p.1 ≠ C) → C ∉ frs X.stack → (∃ m, s'.heap.Ns C m) → Inv X pins σ (upd H2 D (.lst ys)) s' → RR (.ref D) C (.ok .next) s') ∨
      (J.go i H2 ∧ ys.length < sizeLine ∧ ∃ Nx : List V → St → Hp → Prop, (∀ ys' σ' H', Nx ys' σ' H' → ∃ m', m' < m ∧ W (i + 1) m' ys' σ' H') ∧
        ∀ x H', J.yld i H2 x H' → g x σb H' fun σ2 H3 => tt σ2 H3 fun b H4 => if b = true then te σ2 H4 fun v H5 => Nx (ys ++ [v]) σ2 H5 else Nx ys σ2 H4)) :
    wpAny (model X.prog X.w) X.A (newList []) (fun acc s₃ => wpAny (model X.prog X.w) X.A (newFunctionEnv scope X.env.globals (clo X.env.cells scope.names []) [] X.env.qual none .none (some X.env)) (fun cenv s₄ =>
      codeAny (model X.prog X.w) X.A (.compStart (.ListComp elt [⟨tg, iter, ifs, 0⟩] scope pos) 0 (.ref it) acc { cenv with scope := relabel scope X.env }) (RR acc cenv.locals) s₄) E s₃) E s :=
  comp_runX (fun _ _ _ _ => False) (fun _ _ _ _ _ => False) hc hsc hcn hcap hk I T st hfp hg ht he W m0 w0 RR (fun _ _ _ _ z => z.elim) (fun _ _ _ _ _ _ z => z.elim) turn
end L2

namespace DL
open PySem PySem.Spec PyProof.Rows L2
abbrev St := L2.St

/-! ### data -/
inductive D where
  | non | bl (b : Bool) | int (i : Int) | str (x : Str) | tup (ds : List D) | lst (ds : List D) | dic | scr (ns : List Int) | dki (ks : List Key) (ds : List D)
mutual
def Rep (K : PySem.W.Frag) (H : Hp) : D → V → Prop
  | .non, v => v = .non
  | .bl b, v => v = .bl b
  | .int i, v => v = .int i
  | .str x, v => v = .str x
  | .tup ds, v => ∃ a xs, v = .ref a ∧ H a = some (.tup xs) ∧ RepL K H ds xs
  | .lst ds, v => ∃ a xs, v = .ref a ∧ H a = some (.lst xs) ∧ RepL K H ds xs
  | .dic, v => ∃ a, v = .ref a ∧ H a = some (.dK [])
  | .dki ks ds, v => ∃ a xs, v = .ref a ∧ (∃ ob, H a = some (.frz ob (.dK (ks.zip xs)))) ∧ ks.length = ds.length ∧ RepL K H ds xs
  | .scr ns, v => ∃ a, v = .ref a ∧ SqL K H a (ns.map V.int)
def RepL (K : PySem.W.Frag) (H : Hp) : List D → List V → Prop
  | [], xs => xs = []
  | d :: ds, xs => ∃ y ys, xs = y :: ys ∧ Rep K H d y ∧ RepL K H ds ys
end
mutual
theorem Rep.mono {K : PySem.W.Frag} {H H' : Hp} (h : Same H H') : ∀ {d : D} {v : V}, Rep K H d v → Rep K H' d v
  | .non, _, r => by simpa only [Rep] using r
  | .bl _, _, r => by simpa only [Rep] using r
  | .int _, _, r => by simpa only [Rep] using r
  | .str _, _, r => by simpa only [Rep] using r
  | .tup ds, v, r => by
    simp only [Rep] at r ⊢
    obtain ⟨a, xs, e, q, rl⟩ := r
    exact ⟨a, xs, e, h _ _ q, RepL.mono h rl⟩
  | .lst ds, v, r => by
    simp only [Rep] at r ⊢
    obtain ⟨a, xs, e, q, rl⟩ := r
    exact ⟨a, xs, e, h _ _ q, RepL.mono h rl⟩
  | .dki ks ds, v, r => by
    simp only [Rep] at r ⊢
    obtain ⟨a, xs, e, ⟨ob, q⟩, l, rl⟩ := r
    exact ⟨a, xs, e, ⟨ob, h _ _ q⟩, l, RepL.mono h rl⟩
  | .dic, v, r => by
    simp only [Rep] at r ⊢
    obtain ⟨a, e, q⟩ := r
    exact ⟨a, e, h _ _ q⟩
  | .scr ns, v, r => by
    simp only [Rep] at r ⊢
    obtain ⟨a, e, q⟩ := r
    exact ⟨a, e, h.seq q⟩
theorem RepL.mono {K : PySem.W.Frag} {H H' : Hp} (h : Same H H') : ∀ {ds : List D} {xs : List V}, RepL K H ds xs → RepL K H' ds xs
  | [], _, r => by simpa only [RepL] using r
  | d :: ds, xs, r => by
    simp only [RepL] at r ⊢
    obtain ⟨y, ys, e, q, rl⟩ := r
    exact ⟨y, ys, e, Rep.mono h q, RepL.mono h rl⟩
end
theorem RepL.len {K : PySem.W.Frag} {H : Hp} : ∀ {ds : List D} {xs : List V}, RepL K H ds xs → xs.length = ds.length
  | [], _, r => by simp only [RepL] at r; rw [r]; rfl
  | d :: ds, xs, r => by
    simp only [RepL] at r
    obtain ⟨y, ys, rfl, _, q⟩ := r
    simp only [List.length_cons, RepL.len q]
theorem RepL.get {K : PySem.W.Frag} {H : Hp} : ∀ {ds : List D} {xs : List V} {i : Nat} {d : D}, RepL K H ds xs → ds[i]? = some d → ∃ v, xs[i]? = some v ∧ Rep K H d v
  | [], _, i, d, r, e => by simp at e
  | d' :: ds, xs, i, d, r, e => by
    simp only [RepL] at r
    obtain ⟨y, ys, rfl, q, rl⟩ := r
    cases i with
    | zero =>
      simp at e
      subst e
      exact ⟨y, rfl, q⟩
    | succ i =>
      have e' : ds[i]? = some d := by simpa using e
      obtain ⟨v, h1, h2⟩ := RepL.get rl e'
      exact ⟨v, by simpa using h1, h2⟩
theorem RepL.app {K : PySem.W.Frag} {H : Hp} : ∀ {ds es : List D} {xs ys : List V}, RepL K H ds xs → RepL K H es ys → RepL K H (ds ++ es) (xs ++ ys)
  | [], es, xs, ys, r, q => by
    simp only [RepL] at r
    subst r
    exact q
  | d :: ds, es, xs, ys, r, q => by
    simp only [RepL] at r
    obtain ⟨y, zs, rfl, a, rl⟩ := r
    show RepL K H (d :: (ds ++ es)) (y :: (zs ++ ys))
    simp only [RepL]
    exact ⟨y, _, rfl, a, RepL.app rl q⟩
theorem RepL.nil {K : PySem.W.Frag} {H : Hp} : RepL K H [] [] := by simp only [RepL]
theorem RepL.cons {K : PySem.W.Frag} {H : Hp} {d : D} {ds : List D} {x : V} {xs : List V} (a : Rep K H d x) (b : RepL K H ds xs) : RepL K H (d :: ds) (x :: xs) := by
  simp only [RepL]
  exact ⟨x, xs, rfl, a, b⟩
theorem RepL.one {K : PySem.W.Frag} {H : Hp} {d : D} {x : V} (a : Rep K H d x) : RepL K H [d] [x] := .cons a .nil
theorem RepL.uncons {K : PySem.W.Frag} {H : Hp} {d : D} {ds : List D} {xs : List V} (r : RepL K H (d :: ds) xs) : ∃ y ys, xs = y :: ys ∧ Rep K H d y ∧ RepL K H ds ys := by
  simpa only [RepL] using r
theorem RepL.take {K : PySem.W.Frag} {H : Hp} : ∀ {ds : List D} {xs : List V} (n : Nat), RepL K H ds xs → RepL K H (ds.take n) (xs.take n)
  | _, _, 0, _ => by simp only [List.take_zero]; exact .nil
  | [], xs, n + 1, r => by
    simp only [RepL] at r
    subst r
    exact .nil
  | d :: ds, xs, n + 1, r => by
    obtain ⟨y, ys, rfl, a, rl⟩ := r.uncons
    simp only [List.take_succ_cons]
    exact .cons a (RepL.take n rl)
theorem RepL.drop {K : PySem.W.Frag} {H : Hp} : ∀ {ds : List D} {xs : List V} (n : Nat), RepL K H ds xs → RepL K H (ds.drop n) (xs.drop n)
  | _, _, 0, r => by simpa only [List.drop_zero] using r
  | [], xs, n + 1, r => by
    simp only [RepL] at r
    subst r
    exact .nil
  | d :: ds, xs, n + 1, r => by
    obtain ⟨y, ys, rfl, a, rl⟩ := r.uncons
    simp only [List.drop_succ_cons]
    exact RepL.drop n rl
theorem RepL.ints {K : PySem.W.Frag} {H : Hp} : ∀ {ns : List Int} {xs : List V}, RepL K H (ns.map D.int) xs → xs = ns.map V.int
  | [], xs, r => by simpa only [List.map_nil, RepL] using r
  | n :: ns, xs, r => by
    rw [List.map_cons] at r
    obtain ⟨y, ys, rfl, a, rl⟩ := r.uncons
    simp only [Rep] at a
    rw [a, RepL.ints rl]
    rfl
theorem RepL.set {K : PySem.W.Frag} {H : Hp} {d : D} {v : V} (q : Rep K H d v) : ∀ {ds : List D} {xs : List V} (i : Nat), RepL K H ds xs → RepL K H (ds.set i d) (xs.set i v)
  | [], xs, i, r => by
    simp only [RepL] at r
    subst r
    exact .nil
  | d' :: ds, xs, i, r => by
    obtain ⟨y, ys, rfl, a, rl⟩ := r.uncons
    cases i with
    | zero => exact .cons q rl
    | succ i => exact .cons a (RepL.set q i rl)

/-! ### the state of a frame, over data: F is what nobody changes, H all that is tracked -/
inductive Slot where
  | un | val (d : D) | own (l : Addr) (ds : List D) | gh (d : D) (G : V → Hp → Prop) | od (l : Addr) (ks : List Key) (ds : List D) | ox (ls : List Addr) (G : V → Hp → Hp → Prop)
/-- what is ours at l may be written, and is no cell -/
def Wr (l : Addr) : HO → Prop
  | .lst _ => True
  | .dK _ => True
  | .ext φ => ∃ o : Obj, φ = (fun h => h.get? l = some o) ∧ ∀ v, o.data ≠ .cell v
  | _ => False
def SlotOk (K : PySem.W.Frag) (F H : Hp) : Slot → Option V → Prop
  | .un, _ => True
  | .val d, o => ∃ v, o = some v ∧ Rep K F d v
  | .own l ds, o => o = some (.ref l) ∧ F l = none ∧ ∃ xs, H l = some (.lst xs) ∧ RepL K F ds xs
  | .od l ks ds, o => o = some (.ref l) ∧ F l = none ∧ ∃ xs, H l = some (.dK (ks.zip xs)) ∧ ks.length = ds.length ∧ RepL K F ds xs
  | .gh d G, o => ∃ v, o = some v ∧ Rep K F d v ∧ ∀ F', Same F F' → G v F'
  | .ox ls G, o => ∃ v, o = some v ∧ (∀ l ∈ ls, F l = none ∧ ∃ ob, H l = some ob ∧ Wr l ob) ∧ ∀ F' H', Same F F' → (∀ l ∈ ls, ∀ ob, H l = some ob → H' l = some ob) → G v F' H'
def SlotsOk (K : PySem.W.Frag) (F H : Hp) : List Slot → St → Prop
  | [], σ => σ = []
  | z :: zs, σ => ∃ o r, σ = o :: r ∧ SlotOk K F H z o ∧ SlotsOk K F H zs r
def ownL : Slot → List Addr
  | .own l _ => [l]
  | .od l _ _ => [l]
  | .ox ls _ => ls
  | _ => []
def owned (sd : List Slot) : List Addr := sd.flatMap ownL
theorem owned_cons (z : Slot) (zs : List Slot) : owned (z :: zs) = ownL z ++ owned zs := rfl
structure StF (K : PySem.W.Frag) (H₀ F H : Hp) (σ : St) (sd : List Slot) : Prop where
  base : Same H₀ F
  sub : Same F H
  smp : Smp H
  slots : SlotsOk K F H sd σ
  nd : (owned sd).Nodup
section
variable {K : PySem.W.Frag} {H₀ F F' H H' : Hp} {σ : St} {sd : List Slot}
theorem SlotsOk.get : ∀ {sd : List Slot} {σ : St} {i : Nat} {z : Slot}, SlotsOk K F H sd σ → sd[i]? = some z → ∃ o, σ[i]? = some o ∧ SlotOk K F H z o
  | [], _, _, _, _, e => by simp at e
  | z' :: zs, σ, i, z, h, e => by
    obtain ⟨o, r, rfl, a, b⟩ := h
    cases i with
    | zero =>
      simp at e
      subst e
      exact ⟨o, rfl, a⟩
    | succ i =>
      obtain ⟨o', h1, h2⟩ := SlotsOk.get (i := i) b (by simpa using e)
      exact ⟨o', by simpa using h1, h2⟩
theorem SlotsOk.set {z : Slot} {o : Option V} (q : SlotOk K F H z o) : ∀ {sd : List Slot} {σ : St} (i : Nat), SlotsOk K F H sd σ → SlotsOk K F H (sd.set i z) (σ.set i o)
  | [], _, _, h => by
    have h : _ = _ := h
    subst h
    rfl
  | z' :: zs, σ, i, h => by
    obtain ⟨o', r, rfl, a, b⟩ := h
    cases i with
    | zero => exact ⟨o, r, rfl, q, b⟩
    | succ i => exact ⟨o', _, rfl, a, SlotsOk.set q i b⟩
theorem SlotsOk.mono (hF : Same F F') : ∀ {sd : List Slot} {σ : St}, (∀ l ∈ owned sd, F' l = none ∧ ∀ xs, H l = some xs → H' l = some xs) → SlotsOk K F H sd σ → SlotsOk K F' H' sd σ
  | [], _, _, h => h
  | z :: zs, σ, ho, h => by
    obtain ⟨o, r, rfl, a, b⟩ := h
    refine ⟨o, r, rfl, ?_, SlotsOk.mono hF (fun l hl => ho l ?_) b⟩
    · cases z with
      | un => trivial
      | val d => obtain ⟨v, e, q⟩ := a; exact ⟨v, e, q.mono hF⟩
      | gh d G => obtain ⟨v, e, q, g⟩ := a; exact ⟨v, e, q.mono hF, fun F2 s2 => g F2 (hF.trans s2)⟩
      | own l ds =>
        obtain ⟨e, n, xs, q, rl⟩ := a
        have := ho l (by simp [owned_cons, ownL])
        exact ⟨e, this.1, xs, this.2 _ q, rl.mono hF⟩
      | od l ks ds =>
        obtain ⟨e, n, xs, q, ln, rl⟩ := a
        have := ho l (by simp [owned_cons, ownL])
        exact ⟨e, this.1, xs, this.2 _ q, ln, rl.mono hF⟩
      | ox ls G =>
        obtain ⟨v, e, h, g⟩ := a
        have ho' : ∀ l ∈ ls, F' l = none ∧ ∀ xs, H l = some xs → H' l = some xs := fun l hl => ho l (List.mem_append_left _ hl)
        exact ⟨v, e, fun l hl => ⟨(ho' l hl).1, let ⟨ob, q, w⟩ := (h l hl).2; ⟨ob, (ho' l hl).2 _ q, w⟩⟩, fun F2 H2 s2 k => g F2 H2 (hF.trans s2) fun l hl ob q => k l hl ob ((ho' l hl).2 _ q)⟩
    · exact List.mem_append_right _ hl
theorem SlotsOk.owns : ∀ {sd : List Slot} {σ : St} {l : Addr}, SlotsOk K F H sd σ → l ∈ owned sd → F l = none ∧ ∃ ob, H l = some ob ∧ Wr l ob
  | [], _, _, _, e => by simp [owned] at e
  | z :: zs, σ, l, h, e => by
    obtain ⟨o, r, rfl, a, b⟩ := h
    rcases List.mem_append.mp (show l ∈ ownL z ++ owned zs from e) with e | e
    · cases z with
      | un => cases e
      | val d => cases e
      | gh d G => cases e
      | own l' ds =>
        rw [List.mem_singleton.mp e]
        obtain ⟨_, n, xs, q, _⟩ := a
        exact ⟨n, _, q, trivial⟩
      | od l' ks ds =>
        rw [List.mem_singleton.mp e]
        obtain ⟨_, n, xs, q, _⟩ := a
        exact ⟨n, _, q, trivial⟩
      | ox ls G =>
        obtain ⟨v, _, h, _⟩ := a
        exact h l e
    · exact SlotsOk.owns b e
/-- a new thing is laid, known to all -/
theorem StF.lay {p : Addr} {o : HO} (S : StF K H₀ F H σ sd) (hp : H p = none) (ho : SmpO o) : StF K H₀ (upd F p o) (upd H p o) σ sd ∧ Same F (upd F p o) := by
  have fp : F p = none := S.sub.free hp
  have s1 : Same F (upd F p o) := fun b u e => by rw [upd_ne (ne_of_none e fp)]; exact e
  refine ⟨⟨fun b u e => s1 _ _ (S.base _ _ e), fun b u e => ?_, fun b u e => ?_, S.slots.mono s1 fun l hl => ?_, S.nd⟩, s1⟩
  · by_cases h : b = p
    · subst h
      rw [upd_same] at e ⊢
      exact e
    · rw [upd_ne h] at e ⊢
      exact S.sub _ _ e
  · by_cases h : b = p
    · subst h
      rw [upd_same] at e
      cases e
      exact ho
    · rw [upd_ne h] at e
      exact S.smp _ _ e
  · obtain ⟨n, xs, q, _⟩ := S.slots.owns hl
    have hne : l ≠ p := ne_of_none q hp
    exact ⟨by rw [upd_ne hne]; exact n, fun ys e => by rw [upd_ne hne]; exact e⟩
/-- a new list is laid, ours alone -/
theorem StF.layO {p : Addr} {xs : List V} (S : StF K H₀ F H σ sd) (hp : H p = none) : StF K H₀ F (upd H p (.lst xs)) σ sd ∧ F p = none ∧ p ∉ owned sd := by
  have fp : F p = none := S.sub.free hp
  refine ⟨⟨S.base, fun b u e => ?_, fun b u e => ?_, S.slots.mono (Same.refl _) fun l hl => ?_, S.nd⟩, fp, fun hl => ?_⟩
  · rw [upd_ne (ne_of_none e fp)]
    exact S.sub _ _ e
  · by_cases h : b = p
    · subst h
      rw [upd_same] at e
      cases e
      trivial
    · rw [upd_ne h] at e
      exact S.smp _ _ e
  · obtain ⟨n, ys, q, _⟩ := S.slots.owns hl
    have hne : l ≠ p := ne_of_none q hp
    exact ⟨n, fun ys e => by rw [upd_ne hne]; exact e⟩
  · obtain ⟨n, ys, q, _⟩ := S.slots.owns hl
    rw [hp] at q
    cases q
/-- a list of ours is given to all -/
theorem StF.freeze {p : Addr} {xs : List V} (S : StF K H₀ F H σ sd) (hp : H p = some (.lst xs)) (fp : F p = none) (ho : p ∉ owned sd) : StF K H₀ (upd F p (.lst xs)) H σ sd ∧ Same F (upd F p (.lst xs)) := by
  have s1 : Same F (upd F p (.lst xs)) := fun b u e => by rw [upd_ne (ne_of_none e fp)]; exact e
  refine ⟨⟨fun b u e => s1 _ _ (S.base _ _ e), fun b u e => ?_, S.smp, S.slots.mono s1 fun l hl => ?_, S.nd⟩, s1⟩
  · by_cases h : b = p
    · subst h
      rw [upd_same] at e
      rw [hp]
      exact e
    · rw [upd_ne h] at e
      exact S.sub _ _ e
  · obtain ⟨n, ys, q, _⟩ := S.slots.owns hl
    have hne : l ≠ p := fun z => ho (z ▸ hl)
    exact ⟨by rw [upd_ne hne]; exact n, fun ys e => e⟩
theorem SlotsOk.len : ∀ {sd : List Slot} {σ : St}, SlotsOk K F H sd σ → σ.length = sd.length
  | [], _, h => by
    have h : _ = _ := h
    rw [h]
    rfl
  | z :: zs, σ, h => by
    obtain ⟨o, r, rfl, _, b⟩ := h
    simp [SlotsOk.len b]
end

/-! ### results -/
inductive R where
  | val (d : D) | own (ds : List D) | bor (ds : List D) | pr (d : D) (ls : List D) | ox (G : V → List Addr → Hp → Hp → Prop)
def LOk (K : PySem.W.Frag) (F H : Hp) (sd : List Slot) (v : V) (ds : List D) : Prop :=
  ∃ l xs, v = .ref l ∧ H l = some (.lst xs) ∧ RepL K F ds xs ∧ (F l = some (.lst xs) ∨ Slot.own l ds ∈ sd)
def ResOk (K : PySem.W.Frag) (F H : Hp) (sd : List Slot) : R → V → Prop
  | .val d, v => Rep K F d v
  | .own ds, v => ∃ l xs, v = .ref l ∧ F l = none ∧ H l = some (.lst xs) ∧ RepL K F ds xs ∧ l ∉ owned sd
  | .bor ds, v => LOk K F H sd v ds
  | .pr d ls, v => ∃ t l xs y, v = .ref t ∧ F t = some (.tup [y, .ref l]) ∧ Rep K F d y ∧ F l = none ∧ H l = some (.lst xs) ∧ RepL K F ls xs ∧ l ∉ owned sd
  | .ox G, v => ∃ ls : List Addr, ls.Nodup ∧ (∀ l ∈ ls, F l = none ∧ (∃ ob, H l = some ob ∧ Wr l ob) ∧ l ∉ owned sd) ∧ ∀ F' H', Same F F' → (∀ l ∈ ls, ∀ ob, H l = some ob → H' l = some ob) → G v ls F' H'
def R.keeps : R → Prop
  | .own _ => False
  | .pr _ _ => False
  | .ox _ => False
  | _ => True
section
variable {K : PySem.W.Frag} {H₀ F F' H H' : Hp} {σ : St} {sd : List Slot} {r : R} {v : V}
theorem ResOk.keep (hr : r.keeps) (h : ResOk K F H sd r v) (S' : StF K H₀ F' H' σ sd) (s : Same F F') : ResOk K F' H' sd r v := by
  cases r with
  | val d => exact Rep.mono s h
  | own ds => exact hr.elim
  | pr d ls => exact hr.elim
  | ox G => exact hr.elim
  | bor ds =>
    obtain ⟨l, xs, e, hl, rl, q⟩ := h
    rcases q with q | q
    · exact ⟨l, xs, e, S'.sub _ _ (s _ _ q), rl.mono s, .inl (s _ _ q)⟩
    · obtain ⟨i, hi⟩ := List.getElem?_of_mem q
      obtain ⟨o, _, e2, _, ys, h1, h2⟩ := S'.slots.get hi
      exact ⟨l, ys, e, h1, h2, .inr q⟩
end

/-! ### judgements over data -/
structure PEd (X : Cx) (sd : List Slot) (e : Expr) (r : R) : Prop where
  run : ∀ (σ : St) (F H : Hp), StF X.K X.B₀ F H σ sd →
  wE X e σ H fun v H' => ∃ F', StF X.K X.B₀ F' H' σ sd ∧ Same F F' ∧ ResOk X.K F' H' sd r v
instance {X : Cx} {sd : List Slot} {e : Expr} {r : R} : CoeFun (PEd X sd e r) (fun _ => ∀ (σ : St) (F H : Hp), StF X.K X.B₀ F H σ sd →
  wE X e σ H fun v H' => ∃ F', StF X.K X.B₀ F' H' σ sd ∧ Same F F' ∧ ResOk X.K F' H' sd r v) := ⟨PEd.run⟩
structure PTd (X : Cx) (sd : List Slot) (e : Expr) (b : Bool) : Prop where
  run : ∀ (σ : St) (F H : Hp), StF X.K X.B₀ F H σ sd →
  wT X e σ H fun c H' => c = b ∧ ∃ F', StF X.K X.B₀ F' H' σ sd ∧ Same F F'
instance {X : Cx} {sd : List Slot} {e : Expr} {b : Bool} : CoeFun (PTd X sd e b) (fun _ => ∀ (σ : St) (F H : Hp), StF X.K X.B₀ F H σ sd →
  wT X e σ H fun c H' => c = b ∧ ∃ F', StF X.K X.B₀ F' H' σ sd ∧ Same F F') := ⟨PTd.run⟩
structure PWd (X : Cx) (sd : List Slot) (e : Expr) (b : Bool) : Prop where
  run : ∀ (σ : St) (F H : Hp), StF X.K X.B₀ F H σ sd →
  wW X e σ H fun c H' => c = b ∧ ∃ F', StF X.K X.B₀ F' H' σ sd ∧ Same F F'
instance {X : Cx} {sd : List Slot} {e : Expr} {b : Bool} : CoeFun (PWd X sd e b) (fun _ => ∀ (σ : St) (F H : Hp), StF X.K X.B₀ F H σ sd →
  wW X e σ H fun c H' => c = b ∧ ∃ F', StF X.K X.B₀ F' H' σ sd ∧ Same F F') := ⟨PWd.run⟩
inductive RsOk (K : PySem.W.Frag) (F H : Hp) (sd : List Slot) : List R → List V → Prop
  | nil : RsOk K F H sd [] []
  | cons {r v rs vs} : ResOk K F H sd r v → RsOk K F H sd rs vs → RsOk K F H sd (r :: rs) (v :: vs)
structure PAd (X : Cx) (sd : List Slot) (es : List Expr) (rs : List R) : Prop where
  run : ∀ (σ : St) (F H : Hp), StF X.K X.B₀ F H σ sd →
  wA X es σ H fun vs H' => ∃ F', StF X.K X.B₀ F' H' σ sd ∧ Same F F' ∧ RsOk X.K F' H' sd rs vs
instance {X : Cx} {sd : List Slot} {es : List Expr} {rs : List R} : CoeFun (PAd X sd es rs) (fun _ => ∀ (σ : St) (F H : Hp), StF X.K X.B₀ F H σ sd →
  wA X es σ H fun vs H' => ∃ F', StF X.K X.B₀ F' H' σ sd ∧ Same F F' ∧ RsOk X.K F' H' sd rs vs) := ⟨PAd.run⟩
structure EndD where
  nx : List Slot → Prop
  rt : R → Prop
  bk : List Slot → Prop := fun _ => False
  ct : List Slot → Prop := fun _ => False
/-- what is handed back: r as it lies in F and H -/
def RetOk (K : PySem.W.Frag) (H₀ H : Hp) (r : R) (v : V) : Prop := ∃ F, Same H₀ F ∧ Same F H ∧ Smp H ∧ ResOk K F H [] r v
def lft (X : Cx) (F₀ : Hp) (E : EndD) : Ends where
  nx := fun σ H => ∃ sd F, StF X.K X.B₀ F H σ sd ∧ Same F₀ F ∧ E.nx sd
  rt := fun v H => ∃ r, RetOk X.K X.B₀ H r v ∧ E.rt r
  bk := fun σ H => ∃ sd F, StF X.K X.B₀ F H σ sd ∧ Same F₀ F ∧ E.bk sd
  ct := fun σ H => ∃ sd F, StF X.K X.B₀ F H σ sd ∧ Same F₀ F ∧ E.ct sd
structure PSd (X : Cx) (sd : List Slot) (sts : List Stmt) (E : EndD) : Prop where
  run : ∀ (σ : St) (F H : Hp), StF X.K X.B₀ F H σ sd → wSs X sts (lft X F E) σ H
instance {X : Cx} {sd : List Slot} {sts : List Stmt} {E : EndD} : CoeFun (PSd X sd sts E) (fun _ => ∀ (σ : St) (F H : Hp), StF X.K X.B₀ F H σ sd → wSs X sts (lft X F E) σ H) := ⟨PSd.run⟩
structure PSd1 (X : Cx) (sd : List Slot) (st : Stmt) (E : EndD) : Prop where
  run : ∀ (σ : St) (F H : Hp), StF X.K X.B₀ F H σ sd → wS X st (lft X F E) σ H
instance {X : Cx} {sd : List Slot} {st : Stmt} {E : EndD} : CoeFun (PSd1 X sd st E) (fun _ => ∀ (σ : St) (F H : Hp), StF X.K X.B₀ F H σ sd → wS X st (lft X F E) σ H) := ⟨PSd1.run⟩

section
variable {X : Cx} {sd : List Slot} {e a b c : Expr} {es : List Expr} {pos : Pos} {r ra rb : R} {d : D} {ds : List D}
/-- own things may be looked at as values -/
theorem PEd.val (h : PEd X sd e (.own ds)) : PEd X sd e (.val (.lst ds)) := .mk fun σ F H S => (h σ F H S).imp fun v H' ⟨F', S', s, l, xs, e, n, q, rl, no⟩ => by
  obtain ⟨S2, s2⟩ := S'.freeze q n no
  refine ⟨_, S2, s.trans s2, ?_⟩
  show Rep _ _ _ _
  simp only [Rep]
  exact ⟨l, xs, e, upd_same, rl.mono s2⟩
theorem PEd.bor (h : PEd X sd e (.val (.lst ds))) : PEd X sd e (.bor ds) := .mk fun σ F H S => (h σ F H S).imp fun v H' ⟨F', S', s, q⟩ => by
  have q : Rep _ _ _ _ := q
  simp only [Rep] at q
  obtain ⟨l, xs, e, q, rl⟩ := q
  exact ⟨F', S', s, l, xs, e, S'.sub _ _ q, rl, .inl q⟩

theorem pd_var (i : Nat) {x : Str} (hs : sd[i]? = some (.val d)) (h : PE X (.Name x pos) (tVar i)) : PEd X sd (.Name x pos) (.val d) := .mk fun σ F H S => h.to (by
  obtain ⟨o, h1, v, h2, q⟩ := S.slots.get hs
  exact ⟨v, by rw [h1, h2], F, S, Same.refl _, q⟩)
theorem pd_varB (i : Nat) {x : Str} {l : Addr} (hs : sd[i]? = some (.own l ds)) (h : PE X (.Name x pos) (tVar i)) : PEd X sd (.Name x pos) (.bor ds) := .mk fun σ F H S => h.to (by
  obtain ⟨o, h1, h2, n, xs, q, rl⟩ := S.slots.get hs
  exact ⟨.ref l, by rw [h1, h2], F, S, Same.refl _, l, xs, rfl, q, rl, .inr (List.mem_of_getElem? hs)⟩)
theorem pd_int {i j} : PEd X sd (.Constant (.int i) j pos) (.val (.int i)) := .mk fun σ F H S => pe_int.to ⟨F, S, Same.refl _, by simp only [ResOk, Rep]⟩
theorem pd_bl {i j} : PEd X sd (.Constant (.bool i) j pos) (.val (.bl i)) := .mk fun σ F H S => pe_bl.to ⟨F, S, Same.refl _, by simp only [ResOk, Rep]⟩
theorem pd_non {j} : PEd X sd (.Constant .none j pos) (.val .non) := .mk fun σ F H S => pe_non.to ⟨F, S, Same.refl _, by simp only [ResOk, Rep]⟩
theorem pd_str {i j} : PEd X sd (.Constant (.str i) j pos) (.val (.str i)) := .mk fun σ F H S => pe_str.to ⟨F, S, Same.refl _, by simp only [ResOk, Rep]⟩
/-! argument lists -/
theorem RsOk.keep {K : PySem.W.Frag} {H₀ F F' H H' : Hp} {σ : St} : ∀ {rs : List R} {vs : List V}, (∀ r ∈ rs, r.keeps) → RsOk K F H sd rs vs → StF K H₀ F' H' σ sd → Same F F' → RsOk K F' H' sd rs vs
  | _, _, _, .nil, _, _ => .nil
  | _, _, hk, .cons q t, S, s => .cons (q.keep (hk _ List.mem_cons_self) S s) (RsOk.keep (fun r hr => hk r (List.mem_cons_of_mem _ hr)) t S s)
theorem pad_nil : PAd X sd [] [] := .mk fun σ F H S => pa_nil.to ⟨F, S, Same.refl _, .nil⟩
theorem pad_cons {rs : List R} (h1 : PEd X sd e r) (h2 : PAd X sd es rs) (hk : r.keeps := by trivial) (hs : starEach (e :: es) X.env = (false, eval e X.env) :: starEach es X.env := by rfl) : PAd X sd (e :: es) (r :: rs) := .mk fun σ F H S =>
  (pa_cons pe_w pa_w hs).to ((h1 σ F H S).imp fun v H1 ⟨F1, S1, s1, q1⟩ => (h2 σ F1 H1 S1).imp fun vs H2 ⟨F2, S2, s2, q2⟩ => ⟨F2, S2, s1.trans s2, .cons (q1.keep hk S2 s2) q2⟩)
theorem RsOk.vals {K : PySem.W.Frag} {F H : Hp} : ∀ {ds : List D} {vs : List V}, RsOk K F H sd (ds.map R.val) vs → RepL K F ds vs
  | [], _, .nil => .nil
  | _ :: _, _, .cons q t => .cons q (RsOk.vals t)
/-- a tuple, a list -/
theorem pd_tup {x1} (h : PAd X sd es (ds.map R.val)) (hl : ds.length ≤ 1000) : PEd X sd (.Tuple es x1 pos) (.val (.tup ds)) := .mk fun σ F H S =>
  (pe_tup pa_w).to ((h σ F H S).imp fun vs H1 ⟨F1, S1, s1, q1⟩ => by
    have rl := q1.vals
    refine ⟨by rw [rl.len]; exact Nat.le_of_lt (small1000 hl), fun p hp => ?_⟩
    obtain ⟨S2, s2⟩ := S1.lay (o := .tup vs) hp trivial
    refine ⟨_, S2, s1.trans s2, ?_⟩
    simp only [ResOk, Rep]
    exact ⟨p, vs, rfl, upd_same, rl.mono s2⟩)
theorem pd_lst (h : PAd X sd es (ds.map R.val)) (hl : ds.length ≤ 1000) : PEd X sd (.List es pos) (.own ds) := .mk fun σ F H S =>
  (pe_lst pa_w).to ((h σ F H S).imp fun vs H1 ⟨F1, S1, s1, q1⟩ => by
    have rl := q1.vals
    refine ⟨by rw [rl.len]; exact Nat.le_of_lt (small1000 hl), fun p hp => ?_⟩
    obtain ⟨S2, fp, no⟩ := S1.layO (xs := vs) hp
    exact ⟨_, S2, s1, p, vs, rfl, fp, upd_same, rl, no⟩)
theorem pd_dic : PEd X sd (.Dict [] [] pos) (.val .dic) := .mk fun σ F H S => pe_dnewK.to fun p hp => by
  obtain ⟨S2, s2⟩ := S.lay (o := .dK []) hp trivial
  refine ⟨_, S2, s2, ?_⟩
  simp only [ResOk, Rep]
  exact ⟨p, rfl, upd_same⟩

/-! two-place operations -/
theorem pd_op2 {op : Operator} {r2 : R2} (ho : OpR X (binaryOp op) r2) (ha : PEd X sd a ra) (hb : PEd X sd b rb) (hk : ra.keeps)
    (h : ∀ (σ : St) (F H : Hp) (v u : V) (Q : VK), StF X.K X.B₀ F H σ sd → ResOk X.K F H sd ra v → ResOk X.K F H sd rb u → (∀ w F' H', StF X.K X.B₀ F' H' σ sd → Same F F' → ResOk X.K F' H' sd r w → Q w H') → r2 v u H Q) :
    PEd X sd (.BinOp a op b pos) r := .mk fun σ F H S =>
  (pe_op ho pe_w pe_w).to ((ha σ F H S).imp fun v H1 ⟨F1, S1, s1, q1⟩ => (hb σ F1 H1 S1).imp fun u H2 ⟨F2, S2, s2, q2⟩ =>
    h σ F2 H2 v u _ S2 (q1.keep hk S2 s2) q2 fun w F' H' S' s' q' => ⟨F', S', (s1.trans s2).trans s', q'⟩)
theorem pd_cmp2 {op : CmpOp} {r2 : R2} (ho : OpR X (compareOp op) r2) (ha : PEd X sd a ra) (hb : PEd X sd b rb) (hk : ra.keeps) (hm : behindInMarks op b = false) {k : Bool}
    (h : ∀ (σ : St) (F H : Hp) (v u : V) (Q : VK), StF X.K X.B₀ F H σ sd → ResOk X.K F H sd ra v → ResOk X.K F H sd rb u → (∀ F' H', StF X.K X.B₀ F' H' σ sd → Same F F' → Q (.bl k) H') → r2 v u H Q) :
    PEd X sd (.Compare a [op] [b] pos) (.val (.bl k)) := .mk fun σ F H S =>
  (pe_cmpR ho pe_w pe_w hm).to ((ha σ F H S).imp fun v H1 ⟨F1, S1, s1, q1⟩ => (hb σ F1 H1 S1).imp fun u H2 ⟨F2, S2, s2, q2⟩ =>
    h σ F2 H2 v u _ S2 (q1.keep hk S2 s2) q2 fun F' H' S' s' => ⟨F', S', (s1.trans s2).trans s', by simp only [ResOk, Rep]⟩)
/-- a value that is a bool, as a test -/
theorem ptd_val {k : Bool} (h : PEd X sd e (.val (.bl k))) (he : ∀ whole, isTrue e X.env whole = (do let v ← whole; standAt e.pos; holding [v] (truthy v)) := by intro _; rfl) : PTd X sd e k := .mk fun σ F H S =>
  (pt_val pe_w he).to ((h σ F H S).imp fun v H1 ⟨F1, S1, s1, q1⟩ => by
    simp only [ResOk, Rep] at q1
    exact ⟨k, q1, rfl, F1, S1, s1⟩)
theorem ptd_cmp2 {op : CmpOp} {r2 : R2} (ho : OpR X (compareOp op) r2) (ha : PEd X sd a ra) (hb : PEd X sd b rb) (hk : ra.keeps) (hm : behindInMarks op b = false) {k : Bool}
    (h : ∀ (σ : St) (F H : Hp) (v u : V) (Q : VK), StF X.K X.B₀ F H σ sd → ResOk X.K F H sd ra v → ResOk X.K F H sd rb u → (∀ F' H', StF X.K X.B₀ F' H' σ sd → Same F F' → Q (.bl k) H') → r2 v u H Q) :
    PTd X sd (.Compare a [op] [b] pos) k := .mk fun σ F H S =>
  (pt_cmpR ho pe_w pe_w hm).to ((ha σ F H S).imp fun v H1 ⟨F1, S1, s1, q1⟩ => (hb σ F1 H1 S1).imp fun u H2 ⟨F2, S2, s2, q2⟩ =>
    h σ F2 H2 v u _ S2 (q1.keep hk S2 s2) q2 fun F' H' S' s' => ⟨k, rfl, rfl, F', S', (s1.trans s2).trans s'⟩)
end
end DL

namespace DL
open PySem PySem.Spec PyProof.Rows L2
section
variable {X : Cx} {sd : List Slot} {e a b c : Expr} {es : List Expr} {pos : Pos} {r ra rb : R} {d : D} {ds : List D} {st : Stmt} {rest : List Stmt} {E : EndD}

theorem wS.imp {D D' : Ends} {σ : St} {H : Hp} (h : wS X st D σ H) (k1 : ∀ σ H, D.nx σ H → D'.nx σ H) (k2 : ∀ v H, D.rt v H → D'.rt v H) (k3 : ∀ σ H, D.bk σ H → D'.bk σ H) (k4 : ∀ σ H, D.ct σ H → D'.ct σ H) : wS X st D' σ H :=
  fun pins s I => thn (h pins s I) fun f s' q => q.imp k1 k2 k3 k4

/-! ### tests -/
theorem ptd_not {k : Bool} (h : PTd X sd e k) : PTd X sd (.UnaryOp .Not e pos) (!k) := .mk fun σ F H S => (pt_not pt_w).to ((h σ F H S).imp fun c H' ⟨e, q⟩ => ⟨by rw [e], q⟩)
theorem pwd_and1 {k : Bool} (h : PTd X sd a k) : PWd X sd (.BoolOp .And [a] pos) k := .mk fun σ F H S => (pw_and1 pt_w).to (h σ F H S)
theorem pwd_or1 {k : Bool} (h : PTd X sd a k) : PWd X sd (.BoolOp .Or [a] pos) k := .mk fun σ F H S => (pw_or1 pt_w).to (h σ F H S)
theorem pwd_and {k j : Bool} (h : PTd X sd a k) (h2 : k = true → PWd X sd (.BoolOp .And (b :: es) pos) j) : PWd X sd (.BoolOp .And (a :: b :: es) pos) (k && j) := .mk fun σ F H S =>
  (pw_and pt_w pw_w).to ((h σ F H S).imp fun c H' ⟨e, F', S', s'⟩ => by
    subst e
    cases c with
    | false => exact iteF ⟨rfl, F', S', s'⟩
    | true => exact iteT ((h2 rfl σ F' H' S').imp fun c2 H2 ⟨e2, F2, S2, s2⟩ => ⟨by rw [e2]; rfl, F2, S2, s'.trans s2⟩))
theorem pwd_or {k j : Bool} (h : PTd X sd a k) (h2 : k = false → PWd X sd (.BoolOp .Or (b :: es) pos) j) : PWd X sd (.BoolOp .Or (a :: b :: es) pos) (k || j) := .mk fun σ F H S =>
  (pw_or pt_w pw_w).to ((h σ F H S).imp fun c H' ⟨e, F', S', s'⟩ => by
    subst e
    cases c with
    | true => exact iteT ⟨rfl, F', S', s'⟩
    | false => exact iteF ((h2 rfl σ F' H' S').imp fun c2 H2 ⟨e2, F2, S2, s2⟩ => ⟨by rw [e2]; rfl, F2, S2, s'.trans s2⟩))
theorem PWd.pt {k : Bool} (h : PWd X sd e k) : PTd X sd e k := .mk fun σ F H S => (pw_w).pt.to (h σ F H S)
/-! values: and, or, not of bools -/
theorem pd_one {op} {r : R} (h : PEd X sd a r) : PEd X sd (.BoolOp op [a] pos) r := .mk fun σ F H S => (pe_one pe_w).to (h σ F H S)
theorem pd_and {k j : Bool} (h : PEd X sd a (.val (.bl k))) (h2 : k = true → PEd X sd (.BoolOp .And (b :: es) pos) (.val (.bl j))) : PEd X sd (.BoolOp .And (a :: b :: es) pos) (.val (.bl (k && j))) := .mk fun σ F H S =>
  (pe_and pe_w pe_w).to ((h σ F H S).imp fun v H' ⟨F', S', s', q⟩ => by
    simp only [ResOk, Rep] at q
    subst q
    refine ⟨k, rfl, ?_⟩
    cases k with
    | false => exact iteF ⟨F', S', s', by simp only [ResOk, Rep, Bool.false_and]⟩
    | true => exact iteT ((h2 rfl σ F' H' S').imp fun v2 H2 ⟨F2, S2, s2, q2⟩ => ⟨F2, S2, s'.trans s2, by simpa only [Bool.true_and] using q2⟩))
theorem pd_or {k j : Bool} (h : PEd X sd a (.val (.bl k))) (h2 : k = false → PEd X sd (.BoolOp .Or (b :: es) pos) (.val (.bl j))) : PEd X sd (.BoolOp .Or (a :: b :: es) pos) (.val (.bl (k || j))) := .mk fun σ F H S =>
  (pe_or pe_w pe_w).to ((h σ F H S).imp fun v H' ⟨F', S', s', q⟩ => by
    simp only [ResOk, Rep] at q
    subst q
    refine ⟨k, rfl, ?_⟩
    cases k with
    | true => exact iteT ⟨F', S', s', by simp only [ResOk, Rep, Bool.true_or]⟩
    | false => exact iteF ((h2 rfl σ F' H' S').imp fun v2 H2 ⟨F2, S2, s2, q2⟩ => ⟨F2, S2, s'.trans s2, by simpa only [Bool.false_or] using q2⟩))
theorem pd_not {k : Bool} (h : PEd X sd a (.val (.bl k))) : PEd X sd (.UnaryOp .Not a pos) (.val (.bl (!k))) := .mk fun σ F H S =>
  (pe_not pe_w).to ((h σ F H S).imp fun v H' ⟨F', S', s', q⟩ => by
    simp only [ResOk, Rep] at q
    exact ⟨k, q, F', S', s', by simp only [ResOk, Rep]⟩)
/-! ### ints -/
theorem pd_ii {op : Operator} {g : Int → Int → Int} {i j : Int} (ho : OpR X (binaryOp op) (rI0 fun i j => .int (g i j))) (ha : PEd X sd a (.val (.int i))) (hb : PEd X sd b (.val (.int j))) : PEd X sd (.BinOp a op b pos) (.val (.int (g i j))) :=
  pd_op2 ho ha hb trivial fun σ F H v u Q S q1 q2 k => by
    simp only [ResOk, Rep] at q1 q2
    exact ⟨i, j, q1, q2, k _ F H S (Same.refl _) (by simp only [ResOk, Rep])⟩
theorem pd_iiC {op : Operator} {g : Int → Int → Int} {C : Int → Int → Prop} {i j : Int} (ho : OpR X (binaryOp op) (rI C fun i j => .int (g i j))) (ha : PEd X sd a (.val (.int i))) (hb : PEd X sd b (.val (.int j))) (hc : C i j) : PEd X sd (.BinOp a op b pos) (.val (.int (g i j))) :=
  pd_op2 ho ha hb trivial fun σ F H v u Q S q1 q2 k => by
    simp only [ResOk, Rep] at q1 q2
    exact ⟨i, j, q1, q2, hc, k _ F H S (Same.refl _) (by simp only [ResOk, Rep])⟩
theorem op_mulG : OpR X (binaryOp .Mult) (rI IntMulOk fun i j => .int (i * j)) := opI fun _ _ _ _ _ _ _ hc q => mul_int q hc
theorem op_fdivG : OpR X (binaryOp .FloorDiv) (rI (fun _ j => 0 < j ∧ j.natAbs.log2 < 9000) fun i j => .int (i / j)) := opI fun i j _ _ _ _ _ hc q => by
  have h1 : (0 : Int) < j := hc.1
  exact floordiv_int (by omega) (by rw [Int.fdiv_eq_ediv_of_nonneg i (by omega)]; exact q) (.inl (PyProof.noPylong_of_log2 hc.2))
theorem ptd_cI {op : CmpOp} {g : Int → Int → Bool} {i j : Int} (ho : OpR X (compareOp op) (rI0 fun i j => .bl (g i j))) (ha : PEd X sd a (.val (.int i))) (hb : PEd X sd b (.val (.int j))) (hm : behindInMarks op b = false) : PTd X sd (.Compare a [op] [b] pos) (g i j) :=
  ptd_cmp2 ho ha hb trivial hm fun σ F H v u Q S q1 q2 k => by
    simp only [ResOk, Rep] at q1 q2
    exact ⟨i, j, q1, q2, k F H S (Same.refl _)⟩
/-- == and != of scalars -/
def flt : D → Option V
  | .non => some .non
  | .bl b => some (.bl b)
  | .int i => some (.int i)
  | .str x => some (.str x)
  | _ => none
theorem flt_rep {K : PySem.W.Frag} {H : Hp} {d : D} {x v : V} (h : flt d = some x) (q : Rep K H d v) : v = x := by
  cases d with
  | non => simp only [Rep] at q; simp only [flt] at h; rw [q]; exact Option.some.inj h
  | bl => simp only [Rep] at q; simp only [flt] at h; rw [q]; exact Option.some.inj h
  | int => simp only [Rep] at q; simp only [flt] at h; rw [q]; exact Option.some.inj h
  | str => simp only [Rep] at q; simp only [flt] at h; rw [q]; exact Option.some.inj h
  | tup => simp only [flt] at h; cases h
  | lst => simp only [flt] at h; cases h
  | dic => simp only [flt] at h; cases h
  | dki => simp only [flt] at h; cases h
  | scr => simp only [flt] at h; cases h
theorem ptd_eqS {d1 d2 : D} {x y : V} {k : Bool} (ha : PEd X sd a (.val d1)) (hb : PEd X sd b (.val d2)) (h1 : flt d1 = some x) (h2 : flt d2 = some y) (hs : scal x y = true) (hk : decide (x = y) = k) : PTd X sd (.Compare a [.Eq] [b] pos) k :=
  ptd_cmp2 op_eq ha hb trivial (nomark _) fun σ F H v u Q S q1 q2 kk => by
    have e1 := flt_rep h1 q1
    have e2 := flt_rep h2 q2
    subst e1 e2
    exact ⟨hs, by rw [hk]; exact kk F H S (Same.refl _)⟩
theorem ptd_neS {d1 d2 : D} {x y : V} {k : Bool} (ha : PEd X sd a (.val d1)) (hb : PEd X sd b (.val d2)) (h1 : flt d1 = some x) (h2 : flt d2 = some y) (hs : scal x y = true) (hk : (!decide (x = y)) = k) : PTd X sd (.Compare a [.NotEq] [b] pos) k :=
  ptd_cmp2 op_ne ha hb trivial (nomark _) fun σ F H v u Q S q1 q2 kk => by
    have e1 := flt_rep h1 q1
    have e2 := flt_rep h2 q2
    subst e1 e2
    exact ⟨hs, by rw [hk]; exact kk F H S (Same.refl _)⟩
theorem ptd_eqI {i j : Int} (ha : PEd X sd a (.val (.int i))) (hb : PEd X sd b (.val (.int j))) : PTd X sd (.Compare a [.Eq] [b] pos) (decide (i = j)) := ptd_eqS ha hb rfl rfl rfl (by rw [dec_int, Bool.beq_eq_decide_eq])
theorem ptd_neI {i j : Int} (ha : PEd X sd a (.val (.int i))) (hb : PEd X sd b (.val (.int j))) : PTd X sd (.Compare a [.NotEq] [b] pos) (!decide (i = j)) := ptd_neS ha hb rfl rfl rfl (by rw [dec_int, Bool.beq_eq_decide_eq])
/-! ### items -/
theorem pd_ixT {n : Nat} (ha : PEd X sd a (.val (.tup ds))) (hb : PEd X sd b (.val (.int (n : Int)))) (hd : ds[n]? = some d) (hs : PlainIx b) : PEd X sd (.Subscript a b pos) (.val d) := .mk fun σ F H S =>
  (pe_ix ix_tup pe_w pe_w hs).to ((ha σ F H S).imp fun v H1 ⟨F1, S1, s1, q1⟩ => (hb σ F1 H1 S1).imp fun u H2 ⟨F2, S2, s2, q2⟩ => by
    have q1 := Rep.mono s2 q1
    simp only [ResOk, Rep] at q1 q2
    obtain ⟨p, xs, e1, hp, rl⟩ := q1
    obtain ⟨w, hw, rw'⟩ := rl.get hd
    exact ⟨p, xs, (n : Int), w, e1, q2, .of (S2.sub _ _ hp), atI_nat hw, F2, S2, s1.trans s2, rw'⟩)
theorem pd_ixL {n : Nat} (ha : PEd X sd a (.bor ds)) (hb : PEd X sd b (.val (.int (n : Int)))) (hd : ds[n]? = some d) (hs : PlainIx b) : PEd X sd (.Subscript a b pos) (.val d) := .mk fun σ F H S =>
  (pe_ix ix_list pe_w pe_w hs).to ((ha σ F H S).imp fun v H1 ⟨F1, S1, s1, q1⟩ => (hb σ F1 H1 S1).imp fun u H2 ⟨F2, S2, s2, q2⟩ => by
    obtain ⟨p, xs, e1, hp, rl, _⟩ := ResOk.keep (r := .bor ds) trivial q1 S2 s2
    simp only [ResOk, Rep] at q2
    obtain ⟨w, hw, rw'⟩ := rl.get hd
    exact ⟨p, xs, (n : Int), w, e1, q2, .of hp, atI_nat hw, F2, S2, s1.trans s2, rw'⟩)
/-- the script -/
theorem pd_ixS {ns : List Int} {n : Nat} {z : Int} (ha : PEd X sd a (.val (.scr ns))) (hb : PEd X sd b (.val (.int (n : Int)))) (hd : ns[n]? = some z) (hs : PlainIx b) : PEd X sd (.Subscript a b pos) (.val (.int z)) := .mk fun σ F H S =>
  (pe_ix ix_list pe_w pe_w hs).to ((ha σ F H S).imp fun v H1 ⟨F1, S1, s1, q1⟩ => (hb σ F1 H1 S1).imp fun u H2 ⟨F2, S2, s2, q2⟩ => by
    have q1 := Rep.mono (s2.trans S2.sub) q1
    simp only [ResOk, Rep] at q1 q2
    obtain ⟨p, e1, hp⟩ := q1
    exact ⟨p, _, (n : Int), .int z, e1, q2, hp, atI_nat (by rw [List.getElem?_map, hd]; rfl), F2, S2, s1.trans s2, by simp only [ResOk, Rep]⟩)

/-! ### built-in functions -/
theorem pd_callB {x : Str} {p : Pos} {id : String} {rr : List V → Hp → VK → Prop} {rs : List R} (hc : CallR X (.builtin id) rr) (hg : Gl X x) (hm : X.mg x = none) (hv : bootBuiltins x = some (.builtin id)) (ha : PAd X sd (e :: es) rs)
    (h : ∀ (σ : St) (F H : Hp) (vs : List V) (Q : VK), StF X.K X.B₀ F H σ sd → RsOk X.K F H sd rs vs → (∀ w F' H', StF X.K X.B₀ F' H' σ sd → Same F F' → ResOk X.K F' H' sd r w → Q w H') → rr vs H Q)
    (hn : x ≠ "__name__" := by decide) (hdb : (x == ("__debug__" : Str)) = false := by decide) (he : starEach (e :: es) X.env = (false, eval e X.env) :: starEach es X.env := by rfl) (hpl : (backTo pos (starEach es X.env)).any (·.1) = false := by rfl) :
    PEd X sd (.Call (.Name x p) (e :: es) [] pos) r := .mk fun σ F H S =>
  (pe_callB hc hg hm hv pa_w hn hdb he hpl).to ((ha σ F H S).imp fun vs H1 ⟨F1, S1, s1, q1⟩ => h σ F1 H1 vs _ S1 q1 fun w F' H' S' s' q' => ⟨F', S', s1.trans s', q'⟩)
theorem pd_callTy {x : Str} {p : Pos} {T : String} {rr : List V → Hp → VK → Prop} {rs : List R} (hc : CallR X (.type T) rr) (hg : Gl X x) (hm : X.mg x = none) (hv : bootBuiltins x = some (.type T)) (ha : PAd X sd (e :: es) rs)
    (h : ∀ (σ : St) (F H : Hp) (vs : List V) (Q : VK), StF X.K X.B₀ F H σ sd → RsOk X.K F H sd rs vs → (∀ w F' H', StF X.K X.B₀ F' H' σ sd → Same F F' → ResOk X.K F' H' sd r w → Q w H') → rr vs H Q)
    (hn : x ≠ "__name__" := by decide) (hdb : (x == ("__debug__" : Str)) = false := by decide) (he : starEach (e :: es) X.env = (false, eval e X.env) :: starEach es X.env := by rfl) (hpl : (backTo pos (starEach es X.env)).any (·.1) = false := by rfl) :
    PEd X sd (.Call (.Name x p) (e :: es) [] pos) r := .mk fun σ F H S =>
  (pe_callTy hc hg hm hv pa_w hn hdb he hpl).to ((ha σ F H S).imp fun vs H1 ⟨F1, S1, s1, q1⟩ => h σ F1 H1 vs _ S1 q1 fun w F' H' S' s' q' => ⟨F', S', s1.trans s', q'⟩)
theorem pd_lenL {p : Pos} (hg : Gl X "len") (hm : X.mg "len" = none) (ha : PEd X sd e (.bor ds)) (hst : starEach [e] X.env = (false, eval e X.env) :: starEach [] X.env := by rfl) : PEd X sd (.Call (.Name "len" p) [e] [] pos) (.val (.int ds.length)) :=
  pd_callB (he := hst) call_len_seq hg hm PySem.boot_len (pad_cons ha pad_nil trivial hst) fun σ F H vs Q S q k => by
    cases q with
    | cons q1 q2 =>
      cases q2
      obtain ⟨p, xs, rfl, hp, rl, _⟩ := q1
      refine ⟨p, xs, rfl, .inl (.of hp), k _ F H S (Same.refl _) ?_⟩
      simp only [ResOk, Rep, rl.len]
theorem pd_lenS {p : Pos} {ns : List Int} (hg : Gl X "len") (hm : X.mg "len" = none) (ha : PEd X sd e (.val (.scr ns))) (hst : starEach [e] X.env = (false, eval e X.env) :: starEach [] X.env := by rfl) : PEd X sd (.Call (.Name "len" p) [e] [] pos) (.val (.int ns.length)) :=
  pd_callB (he := hst) call_len_seq hg hm PySem.boot_len (pad_cons ha pad_nil trivial hst) fun σ F H vs Q S q k => by
    cases q with
    | cons q1 q2 =>
      cases q2
      have q1 := Rep.mono S.sub q1
      simp only [Rep] at q1
      obtain ⟨p, rfl, hp⟩ := q1
      refine ⟨p, _, rfl, .inl hp, k _ F H S (Same.refl _) ?_⟩
      simp only [ResOk, Rep, List.length_map]
/-- isinstance -/
def tyD : D → Value
  | .non => .type "NoneType"
  | .bl _ => .type "bool"
  | .int _ => .type "int"
  | .str _ => .type "str"
  | .tup _ => .type "tuple"
  | .lst _ => .type "list"
  | .dic => .type "dict"
  | .dki _ _ => .type "dict"
  | .scr _ => .type "list"
theorem ty_of {K : PySem.W.Frag} {H : Hp} {d : D} {v : V} (h : ∀ ns, d ≠ .scr ns) (q : Rep K H d v) : TyOf K H v (tyD d) := by
  cases d with
  | non => simp only [Rep] at q; subst q; exact .non
  | bl b => simp only [Rep] at q; subst q; exact .bl b
  | int b => simp only [Rep] at q; subst q; exact .int b
  | str b => simp only [Rep] at q; subst q; exact .str b
  | tup ds => simp only [Rep] at q; obtain ⟨a, xs, rfl, h, _⟩ := q; exact .tup h
  | lst ds => simp only [Rep] at q; obtain ⟨a, xs, rfl, h, _⟩ := q; exact .lst h
  | dic => simp only [Rep] at q; obtain ⟨a, rfl, h⟩ := q; exact .dK (.of h)
  | dki ks ds => simp only [Rep] at q; obtain ⟨a, xs, rfl, h, _⟩ := q; exact .dK (.inr h)
  | scr ns => exact absurd rfl (h ns)
theorem call_isin : CallR X (.builtin "isinstance") (fun xs H Q => ∃ x t n k, xs = [x, .ty n] ∧ TyOf X.K H x t ∧ PySem.W.kitOne X.K t (.type n) = some k ∧ Q (.bl k) H) := by
  intro pins s σ H xs us Q I r h
  obtain ⟨x, t, n, k, rfl, ty, e, q⟩ := h
  obtain ⟨u, u', rfl, ru, ru'⟩ := vals2 r
  cases (show u' = Value.type n from ru')
  exact isinst_ok I ru ty e fun tk => ⟨.bl k, H, I.tok tk, rfl, q⟩
theorem pe_type {x : Str} {n : String} {pos : Pos} (hg : Gl X x) (hm : X.mg x = none) (hv : bootBuiltins x = some (.type n)) (hn : x ≠ "__name__" := by decide) (hd : (x == ("__debug__" : Str)) = false := by decide) : PE X (.Name x pos) (tC (.ty n)) := pe_bltn hg hm hv rfl hn hd
theorem pd_isin {x : Str} {n : String} {p p2 : Pos} {k : Bool} (hg : Gl X "isinstance") (hm : X.mg "isinstance" = none) (hgx : Gl X x) (hmx : X.mg x = none) (hv : bootBuiltins x = some (.type n)) (ha : PEd X sd e (.val d)) (hd : ∀ ns, d ≠ .scr ns)
    (hk : PySem.W.kitOne X.K (tyD d) (.type n) = some k) (hn : x ≠ "__name__" := by decide) (hdb : (x == ("__debug__" : Str)) = false := by decide)
    (he : starEach (e :: [.Name x p2]) X.env = (false, eval e X.env) :: starEach [.Name x p2] X.env := by rfl) (hpl : (backTo pos (starEach [.Name x p2] X.env)).any (·.1) = false := by rfl) (hs2 : starEach [.Name x p2] X.env = (false, eval (.Name x p2) X.env) :: starEach [] X.env := by rfl) :
    PEd X sd (.Call (.Name "isinstance" p) [e, .Name x p2] [] pos) (.val (.bl k)) := .mk fun σ F H S =>
  (pe_callB call_isin hg hm boot_isinstance (pa_cons pe_w (pa_cons (pe_type hgx hmx hv hn hdb) pa_nil hs2) he) (by decide) (by decide) he hpl).to ((ha σ F H S).imp fun v H1 ⟨F1, S1, s1, q1⟩ => by
    exact ⟨v, tyD d, n, k, rfl, ty_of hd (Rep.mono S1.sub q1), hk, F1, S1, s1, by simp only [ResOk, Rep]⟩)

/-! ### statements -/
theorem psd_nil (h : E.nx sd) : PSd X sd [] E := .mk fun σ F H S => pss_nil.to ⟨sd, F, S, Same.refl _, h⟩
theorem psd_cons (h : PSd1 X sd st { E with nx := fun sd' => PSd X sd' rest E }) : PSd X sd (st :: rest) E := .mk fun σ F H S =>
  (pss_cons ps_w pss_w).to (wS.imp (h σ F H S) (fun σ' H' ⟨sd', F', S', s', q⟩ => (q σ' F' H' S').imp (fun σ2 H2 ⟨sd2, F2, S2, s2, q2⟩ => ⟨sd2, F2, S2, s'.trans s2, q2⟩) (fun v H2 q2 => q2)
    (fun σ2 H2 ⟨sd2, F2, S2, s2, q2⟩ => ⟨sd2, F2, S2, s'.trans s2, q2⟩) fun σ2 H2 ⟨sd2, F2, S2, s2, q2⟩ => ⟨sd2, F2, S2, s'.trans s2, q2⟩) (fun v H q => q) (fun σ H q => q) fun σ H q => q)
theorem psd_one (h : PSd1 X sd st E) : PSd X sd [st] E := .mk fun σ F H S => (pss_one ps_w).to (h σ F H S)
theorem psd_ret (h : PEd X sd e r) (hr : match r with | .bor _ => False | _ => True) (hE : E.rt r) : PSd1 X sd (.Return (some e) pos) E := .mk fun σ F H S =>
  (ps_ret pe_w).to ((h σ F H S).imp fun v H' ⟨F', S', s', q⟩ => ⟨r, ⟨F', S'.base, S'.sub, S'.smp, by
    cases r with
    | val d => exact q
    | own ds => obtain ⟨l, xs, a, b, c, d, _⟩ := q; exact ⟨l, xs, a, b, c, d, by simp [owned]⟩
    | pr d ls => obtain ⟨t, l, xs, y, a, b, c, d, e, f, _⟩ := q; exact ⟨t, l, xs, y, a, b, c, d, e, f, by simp [owned]⟩
    | ox G => obtain ⟨ls, nd, h, g⟩ := q; exact ⟨ls, nd, fun l hl => ⟨(h l hl).1, (h l hl).2.1, by simp [owned]⟩, g⟩
    | bor ds => exact hr.elim⟩, hE⟩)
theorem psd_retO (i : Nat) {x : Str} {p : Pos} {l : Addr} (hs : sd[i]? = some (.own l ds)) (h : PE X (.Name x p) (tVar i)) (hE : E.rt (.own ds)) : PSd1 X sd (.Return (some (.Name x p)) pos) E := .mk fun σ F H S =>
  (ps_ret h).to (by
    obtain ⟨o, h1, h2, n, xs, q, rl⟩ := S.slots.get hs
    exact ⟨.ref l, by rw [h1, h2], .own ds, ⟨F, S.base, S.sub, S.smp, l, xs, rfl, n, q, rl, by simp [owned]⟩, hE⟩)
theorem psd_if {k : Bool} {a o : List Stmt} (h : PTd X sd c k) (h1 : k = true → PSd X sd a E) (h2 : k = false → PSd X sd o E) : PSd1 X sd (.If c a o pos) E := .mk fun σ F H S =>
  (ps_if pt_w pss_w pss_w).to ((h σ F H S).imp fun k' H' ⟨e, F', S', s'⟩ => by
    have up : ∀ {sts : List Stmt}, PSd X sd sts E → wSs X sts (lft X F E) σ H' := fun h => (h σ F' H' S').imp (fun σ2 H2 ⟨sd2, F2, S2, s2, q2⟩ => ⟨sd2, F2, S2, s'.trans s2, q2⟩) (fun v H2 q2 => q2)
      (fun σ2 H2 ⟨sd2, F2, S2, s2, q2⟩ => ⟨sd2, F2, S2, s'.trans s2, q2⟩) fun σ2 H2 ⟨sd2, F2, S2, s2, q2⟩ => ⟨sd2, F2, S2, s'.trans s2, q2⟩
    subst e
    cases k' with
    | true => exact iteT (up (h1 rfl))
    | false => exact iteF (up (h2 rfl)))
theorem owned_set : ∀ {sd : List Slot} {z : Slot} (i : Nat), (owned sd).Nodup → (∀ l, l ∈ ownL z → l ∉ owned sd ∨ (∃ z', sd[i]? = some z' ∧ l ∈ ownL z')) → (hz : (ownL z).Nodup := by simp [ownL]) → (owned (sd.set i z)).Nodup ∧ ∀ l, l ∈ owned (sd.set i z) → l ∈ owned sd ∨ l ∈ ownL z
  | [], z, i, h, _, _ => ⟨h, fun l hl => .inl hl⟩
  | z' :: zs, z, 0, h, hz, nz => by
    show (ownL z ++ owned zs).Nodup ∧ ∀ l, l ∈ ownL z ++ owned zs → _
    obtain ⟨n1, n2, n3⟩ := List.nodup_append.mp (show (ownL z' ++ owned zs).Nodup from h)
    refine ⟨List.nodup_append.mpr ⟨nz, n2, fun a ha b hb e => ?_⟩, fun l hl => ?_⟩
    · subst e
      rcases hz a ha with y | ⟨z2, e2, y⟩
      · exact y (List.mem_append_right _ hb)
      · have : z' = z2 := by simpa using e2
        subst this
        exact n3 a y a hb rfl
    · rcases List.mem_append.mp hl with y | y
      · exact .inr y
      · exact .inl (List.mem_append_right _ y)
  | z' :: zs, z, i + 1, h, hz, nz => by
    show (ownL z' ++ owned (zs.set i z)).Nodup ∧ ∀ l, l ∈ ownL z' ++ owned (zs.set i z) → _
    obtain ⟨n1, n2, n3⟩ := List.nodup_append.mp (show (ownL z' ++ owned zs).Nodup from h)
    obtain ⟨i1, i2⟩ := owned_set (sd := zs) (z := z) i n2 (fun l hl => by
      rcases hz l hl with y | ⟨z2, e2, y⟩
      · exact .inl fun q => y (List.mem_append_right _ q)
      · exact .inr ⟨z2, by simpa using e2, y⟩) nz
    refine ⟨List.nodup_append.mpr ⟨n1, i1, fun a ha b hb e => ?_⟩, fun l hl => ?_⟩
    · subst e
      rcases i2 a hb with y | y
      · exact n3 a ha a y rfl
      · rcases hz a y with y | ⟨z2, e2, y⟩
        · exact y (List.mem_append_left _ ha)
        · have m : a ∈ owned zs := List.mem_flatMap.mpr ⟨z2, List.mem_of_getElem? (by simpa using e2), y⟩
          exact n3 a ha a m rfl
    · rcases List.mem_append.mp hl with y | y
      · exact .inl (List.mem_append_left _ y)
      · rcases i2 l y with y | y
        · exact .inl (List.mem_append_right _ y)
        · exact .inr y
theorem StF.set {K : PySem.W.Frag} {H₀ F H : Hp} {σ : St} {v : V} (S : StF K H₀ F H σ sd) (i : Nat) (q : Rep K F d v) : StF K H₀ F H (σ.set i (some v)) (sd.set i (.val d)) :=
  ⟨S.base, S.sub, S.smp, S.slots.set (z := .val d) ⟨v, rfl, q⟩ i, (owned_set i S.nd fun l e => by simp [ownL] at e).1⟩
theorem StF.setO {K : PySem.W.Frag} {H₀ F H : Hp} {σ : St} {l : Addr} {xs : List V} (S : StF K H₀ F H σ sd) (i : Nat) (n : F l = none) (h : H l = some (.lst xs)) (q : RepL K F ds xs) (no : l ∉ owned sd) : StF K H₀ F H (σ.set i (some (.ref l))) (sd.set i (.own l ds)) :=
  ⟨S.base, S.sub, S.smp, S.slots.set (z := .own l ds) ⟨rfl, n, xs, h, q⟩ i, (owned_set i S.nd fun l' e => by rw [List.mem_singleton.mp e]; exact .inl no).1⟩
theorem psd_set (i : Nat) {x : Str} {p : Pos} (hN : X.N.Nodup) (hi : X.N[i]? = some x) (hx : Loc X.env.scope x) (h : PEd X sd e (.val d)) (hE : E.nx (sd.set i (.val d))) (hs : swapsWith e (some (.Name x p)) pos.line X.env = pure false := by rfl)
    (hf : X.fn x = true ∨ X.env.scope.names.lookup x = some .local := by first | exact .inl rfl | exact .inr rfl | assumption) : PSd1 X sd (.Assign [.Name x p] e pos) E := .mk fun σ F H S =>
  (ps_set hN hi hx pe_w hs hf).to ((h σ F H S).imp fun v H' ⟨F', S', s', q⟩ => ⟨_, F', S'.set i q, s', hE⟩)
theorem psd_setO (i : Nat) {x : Str} {p : Pos} (hN : X.N.Nodup) (hi : X.N[i]? = some x) (hx : Loc X.env.scope x) (h : PEd X sd e (.own ds)) (hE : ∀ l, E.nx (sd.set i (.own l ds))) (hs : swapsWith e (some (.Name x p)) pos.line X.env = pure false := by rfl)
    (hf : X.fn x = true ∨ X.env.scope.names.lookup x = some .local := by first | exact .inl rfl | exact .inr rfl | assumption) : PSd1 X sd (.Assign [.Name x p] e pos) E := .mk fun σ F H S =>
  (ps_set hN hi hx pe_w hs hf).to ((h σ F H S).imp fun v H' ⟨F', S', s', l, xs, e, n, q, rl, no⟩ => ⟨_, F', by subst e; exact S'.setO i n q rl no, s', hE l⟩)
end
end DL

namespace DL
open PySem PySem.Spec PyProof.Rows L2
section
variable {X : Cx} {sd : List Slot} {e a b c : Expr} {es : List Expr} {pos : Pos} {r ra rb : R} {d : D} {ds : List D} {st : Stmt} {rest : List Stmt} {E : EndD}

/-! ### knowing less -/
def Le : List Slot → List Slot → Prop
  | [], [] => True
  | x :: xs, y :: ys => (y = .un ∨ x = y) ∧ Le xs ys
  | _, _ => False
theorem Le.refl : ∀ (sd : List Slot), Le sd sd
  | [] => trivial
  | _ :: xs => ⟨.inr rfl, Le.refl xs⟩
theorem Le.own : ∀ {sd sd' : List Slot}, Le sd sd' → (owned sd').Sublist (owned sd)
  | [], [], _ => List.Sublist.refl _
  | [], _ :: _, h => h.elim
  | _ :: _, [], h => h.elim
  | x :: xs, y :: ys, h => by
    obtain ⟨h1, h2⟩ := h
    have ih := Le.own h2
    rcases h1 with rfl | rfl
    · exact ih.trans (List.sublist_append_right _ _)
    · exact List.Sublist.append (List.Sublist.refl _) ih
theorem Le.slots {K : PySem.W.Frag} {F H : Hp} : ∀ {sd sd' : List Slot} {σ : St}, Le sd sd' → SlotsOk K F H sd σ → SlotsOk K F H sd' σ
  | [], [], _, _, h => h
  | [], _ :: _, _, h, _ => h.elim
  | _ :: _, [], _, h, _ => h.elim
  | x :: xs, y :: ys, σ, h, q => by
    obtain ⟨h1, h2⟩ := h
    obtain ⟨o, r, rfl, a, b⟩ := q
    refine ⟨o, r, rfl, ?_, Le.slots h2 b⟩
    rcases h1 with rfl | rfl
    · trivial
    · exact a
theorem StF.le {K : PySem.W.Frag} {H₀ F H : Hp} {σ : St} {sd' : List Slot} (S : StF K H₀ F H σ sd) (h : Le sd sd') : StF K H₀ F H σ sd' := ⟨S.base, S.sub, S.smp, h.slots S.slots, S.nd.sublist h.own⟩
theorem psd_le {sd' : List Slot} {sts : List Stmt} (h : Le sd sd') (q : PSd X sd' sts E) : PSd X sd sts E := .mk fun σ F H S => q σ F H (S.le h)
theorem lft_up {F₀ F : Hp} {E : EndD} {σ : St} {H : Hp} {sts : List Stmt} (s : Same F₀ F) (h : wSs X sts (lft X F E) σ H) : wSs X sts (lft X F₀ E) σ H :=
  h.imp (fun σ2 H2 ⟨sd2, F2, S2, s2, q2⟩ => ⟨sd2, F2, S2, s.trans s2, q2⟩) (fun v H2 q2 => q2) (fun σ2 H2 ⟨sd2, F2, S2, s2, q2⟩ => ⟨sd2, F2, S2, s.trans s2, q2⟩) fun σ2 H2 ⟨sd2, F2, S2, s2, q2⟩ => ⟨sd2, F2, S2, s.trans s2, q2⟩
theorem PSd.imp {sts : List Stmt} {E' : EndD} (h : PSd X sd sts E) (k1 : ∀ sd, E.nx sd → E'.nx sd) (k2 : ∀ r, E.rt r → E'.rt r) (k3 : ∀ sd, E.bk sd → E'.bk sd) (k4 : ∀ sd, E.ct sd → E'.ct sd) : PSd X sd sts E' := .mk fun σ F H S =>
  (h σ F H S).imp (fun _ _ ⟨sd2, F2, S2, s2, q2⟩ => ⟨sd2, F2, S2, s2, k1 _ q2⟩) (fun _ _ ⟨r, q, q2⟩ => ⟨r, q, k2 _ q2⟩) (fun _ _ ⟨sd2, F2, S2, s2, q2⟩ => ⟨sd2, F2, S2, s2, k3 _ q2⟩) fun _ _ ⟨sd2, F2, S2, s2, q2⟩ => ⟨sd2, F2, S2, s2, k4 _ q2⟩
theorem le_set_un : ∀ (sd : List Slot) (i : Nat), Le sd (sd.set i .un)
  | [], _ => trivial
  | _ :: xs, 0 => ⟨.inl rfl, Le.refl xs⟩
  | _ :: xs, i + 1 => ⟨.inr rfl, le_set_un xs i⟩
theorem not_ownedZ : ∀ {sd : List Slot} {i : Nat} {l : Addr} {z : Slot}, (owned sd).Nodup → sd[i]? = some z → l ∈ ownL z → l ∉ owned (sd.set i .un)
  | [], _, _, _, _, e, _ => by simp at e
  | y :: zs, 0, l, z, h, e, hl => by
    have : y = z := by simpa using e
    subst this
    obtain ⟨n1, n2, n3⟩ := List.nodup_append.mp (show (ownL y ++ owned zs).Nodup from h)
    exact fun hm => n3 l hl l hm rfl
  | y :: zs, i + 1, l, z, h, e, hl => by
    have e' : zs[i]? = some z := by simpa using e
    obtain ⟨n1, n2, n3⟩ := List.nodup_append.mp (show (ownL y ++ owned zs).Nodup from h)
    have ml : l ∈ owned zs := List.mem_flatMap.mpr ⟨_, List.mem_of_getElem? e', hl⟩
    intro hm
    rcases List.mem_append.mp (show l ∈ ownL y ++ owned (zs.set i .un) from hm) with q | q
    · exact n3 l q l ml rfl
    · exact not_ownedZ n2 e' hl q
theorem not_owned {sd : List Slot} {i : Nat} {l : Addr} {ds : List D} (h : (owned sd).Nodup) (e : sd[i]? = some (.own l ds)) : l ∉ owned (sd.set i .un) := not_ownedZ h e (List.mem_singleton_self l)
theorem set_same {σ : St} {i : Nat} {o : Option V} (h : σ[i]? = some o) : σ.set i o = σ := by
  obtain ⟨hi, e⟩ := List.getElem?_eq_some_iff.mp h
  rw [← e]
  exact List.set_getElem_self hi
theorem set_set (sd : List Slot) (i : Nat) (x y : Slot) : (sd.set i x).set i y = sd.set i y := by simp
/-- a list of ours is written -/
theorem StF.wr {K : PySem.W.Frag} {H₀ F H : Hp} {σ : St} {i : Nat} {l : Addr} {ds' : List D} {xs' : List V} (S : StF K H₀ F H σ sd) (hs : sd[i]? = some (.own l ds)) (rl : RepL K F ds' xs') : StF K H₀ F (upd H l (.lst xs')) σ (sd.set i (.own l ds')) := by
  obtain ⟨o, h1, h2, n, xs, q, _⟩ := S.slots.get hs
  have no := not_owned S.nd hs
  have S0 := S.le (le_set_un sd i)
  refine ⟨S.base, fun b u e => ?_, fun b u e => ?_, ?_, ?_⟩
  · rw [upd_ne (ne_of_none e n)]
    exact S.sub _ _ e
  · by_cases h : b = l
    · subst h
      rw [upd_same] at e
      cases e
      trivial
    · rw [upd_ne h] at e
      exact S.smp _ _ e
  · have q1 : SlotsOk K F (upd H l (.lst xs')) (sd.set i .un) σ := S0.slots.mono (Same.refl _) fun l' hl => by
      obtain ⟨n', ys, q', _⟩ := S0.slots.owns hl
      have hne : l' ≠ l := fun z => no (z ▸ hl)
      exact ⟨n', fun ys e => by rw [upd_ne hne]; exact e⟩
    have q2 := q1.set (z := .own l ds') (o := some (.ref l)) ⟨rfl, n, xs', upd_same, rl⟩ i
    rw [set_set, set_same (by rw [h1, h2])] at q2
    exact q2
  · have := owned_set (z := Slot.own l ds') i S0.nd fun l' e => by rw [List.mem_singleton.mp e]; exact .inl no
    rw [set_set] at this
    exact this.1
theorem psd_frz (i : Nat) {l : Addr} {sts : List Stmt} (hs : sd[i]? = some (.own l ds)) (h : PSd X (sd.set i (.val (.lst ds))) sts E) : PSd X sd sts E := .mk fun σ F H S => by
  obtain ⟨o, h1, h2, n, xs, q, rl⟩ := S.slots.get hs
  have S0 := S.le (le_set_un sd i)
  obtain ⟨S1, s1⟩ := S0.freeze q n (not_owned S.nd hs)
  have S2 := S1.set (d := .lst ds) (v := .ref l) i (by simp only [Rep]; exact ⟨l, xs, rfl, upd_same, rl.mono s1⟩)
  rw [set_set, set_same (by rw [h1, h2])] at S2
  exact lft_up s1 (h σ _ H S2)
theorem psd_append (i : Nat) {x : Str} {p ap cp : Pos} {l : Addr} (hs : sd[i]? = some (.own l ds)) (hx : PE X (.Name x p) (tVar i)) (h : PEd X sd e (.val d)) (hl : ds.length ≤ 1000) (hE : E.nx (sd.set i (.own l (ds ++ [d]))))
    (hst : starEach (e :: []) X.env = (false, eval e X.env) :: starEach [] X.env := by rfl)
    (hm : PE X (.Call (.Attribute (.Name x p) "append" ap) [e] [] cp) (tBM X.K "list" rAppend (tVar i) (tCons (wE X e) tNil)) := by exact pe_bm PySem.F.plainAttrs_list PySem.F.slot_list_append PySem.F.type_list_append mt_append (pv _) (pa_cons pe_w pa_nil))
    (hsw : swapsWith (.Call (.Attribute (.Name x p) "append" ap) [e] [] cp) none pos.line X.env = pure false := by rfl) :
    PSd1 X sd (.Expr (.Call (.Attribute (.Name x p) "append" ap) [e] [] cp) pos) E := .mk fun σ F H S =>
  (ps_expr hm hsw).to (by
    obtain ⟨o, h1, h2, n, xs, q, rl⟩ := S.slots.get hs
    refine ⟨.ref l, by rw [h1, h2], .inl ⟨rfl, xs, .of q⟩, (h σ F H S).imp fun v H1 ⟨F1, S1, s1, q1⟩ => ?_⟩
    obtain ⟨o', h1', h2', n', xs', q', rl'⟩ := S1.slots.get hs
    exact ⟨l, xs', v, rfl, rfl, q', by rw [rl'.len]; exact small1000 hl, _, F1, S1.wr hs (rl'.app (.one q1)), s1, hE⟩)
theorem psd_extend (i : Nat) {x : Str} {p ap cp : Pos} {l : Addr} {ds2 : List D} (hs : sd[i]? = some (.own l ds)) (hx : PE X (.Name x p) (tVar i)) (h : PEd X sd e (.val (.lst ds2))) (hl : ds.length + ds2.length ≤ 1000) (hE : E.nx (sd.set i (.own l (ds ++ ds2))))
    (hst : starEach (e :: []) X.env = (false, eval e X.env) :: starEach [] X.env := by rfl)
    (hm : PE X (.Call (.Attribute (.Name x p) "extend" ap) [e] [] cp) (tBM X.K "list" rExtend (tVar i) (tCons (wE X e) tNil)) := by exact pe_bm PySem.F.plainAttrs_list PySem.F.slot_list_extend PySem.F.type_list_extend mt_extend (pv _) (pa_cons pe_w pa_nil))
    (hsw : swapsWith (.Call (.Attribute (.Name x p) "extend" ap) [e] [] cp) none pos.line X.env = pure false := by rfl) :
    PSd1 X sd (.Expr (.Call (.Attribute (.Name x p) "extend" ap) [e] [] cp) pos) E := .mk fun σ F H S =>
  (ps_expr hm hsw).to (by
    obtain ⟨o, h1, h2, n, xs, q, rl⟩ := S.slots.get hs
    refine ⟨.ref l, by rw [h1, h2], .inl ⟨rfl, xs, .of q⟩, (h σ F H S).imp fun v H1 ⟨F1, S1, s1, q1⟩ => ?_⟩
    obtain ⟨o', h1', h2', n', xs', q', rl'⟩ := S1.slots.get hs
    simp only [ResOk, Rep] at q1
    obtain ⟨b, zs, rfl, hb, rb⟩ := q1
    exact ⟨l, b, xs', zs, rfl, rfl, q', S1.sub _ _ hb, by rw [rl'.len, rb.len]; exact Nat.le_of_lt (small1000 hl), _, F1, S1.wr hs (rl'.app rb), s1, hE⟩)

/-! ### calls -/
def spC (K : PySem.W.Frag) (n : Nat) (C : List D → R → Prop) : Sp := fun vs H Q _ => vs.length = n ∧ Smp H ∧ ∃ ds r, RepL K H ds vs ∧ C ds r ∧ ∀ v H', RetOk K H H' r v → Q v H'
/-- the same, where the caller's lists lie aside -/
def spF (K : PySem.W.Frag) (n : Nat) (C : List D → R → Prop) : Sp := fun vs H Q _ => vs.length = n ∧ Smp H ∧ ∃ F ds r, Same F H ∧ RepL K F ds vs ∧ C ds r ∧ ∀ v F2 F3 H', Same F F2 → Same F2 F3 → Same F3 H' → Same H H' → Smp H' → (∀ b o, H b = some o → F b = none → F3 b = none) → ResOk K F2 F3 [] r v → Q v H'
def merge (F H : Hp) : Hp := fun b => match F b with
  | some o => some o
  | none => H b
theorem merge_l {F H : Hp} : Same F (merge F H) := fun b o e => by unfold merge; rw [e]
theorem merge_n {F H : Hp} {b : Addr} (h : F b = none) : merge F H b = H b := by unfold merge; rw [h]
theorem FnOk.framed {P : Program} {w : World} {K : PySem.W.Frag} {mg : Str → Option Value} {base : Heap} {k n : Nat} {f : Addr} {fd : FuncData} {ps : List Str} {C : List D → R → Prop} (G : FnOk P w K mg base CX0 k f fd ps (spC K n C)) : FnOk P w K mg base CX0 k f fd ps (spF K n C) := by
  refine ⟨fun vs H Q E h => ?_, fun A outer s H args us vs Q E hr e0 hb rv h => ?_⟩
  · obtain ⟨hl, sm, F, ds, r, sF, rl, c, _⟩ := h
    exact G.len vs F (fun _ _ => True) E ⟨hl, sm.sub sF, ds, r, rl, c, fun _ _ _ => trivial⟩
  · obtain ⟨hl, sm, F, ds, r, sF, rl, c, q⟩ := h
    have e1 : Env0 P w K mg base A outer s F := ⟨e0.frames, e0.mod, fun b o e => ⟨(e0.bs b o e).1, sF.free (e0.bs b o e).2⟩, e0.bsz, e0.funs, fun b hb => sF.free (e0.frf b hb), fun b o e => (e0.hok b o (sF b o e)).smp (sm b o (sF b o e)), e0.bare⟩
    refine codeAny_mono (G.run A outer s F args us vs (fun v F3 => RetOk K F F3 r v) E hr e1 hb rv ⟨hl, sm.sub sF, ds, r, rl, c, fun v H' z => z⟩) fun rr s' hrr => ?_
    cases rr with
    | error e => exact hrr
    | ok fl =>
      cases fl with
      | ret u =>
        obtain ⟨v, F3, ho, ha, un, hk, ru, F2, s1, s2, sm3, res⟩ := hrr
        have keepF : ∀ b o, H b = some o → F b = none → F3 b = none := fun b o e n => by
          have lt := e0.hok.lt e
          cases g : s.heap.get? b with
          | none =>
            exfalso
            have ob := e0.hok b o e
            have z := sm b o e
            cases o with
            | lst xs => obtain ⟨_, _, _, _, g'⟩ := ob; rw [g] at g'; cases g'
            | tup xs => obtain ⟨_, _, _, oo, g', _⟩ := ob; rw [g] at g'; cases g'
            | dK kvs => obtain ⟨_, _, _, _, oo, _, _, g', _⟩ := ob; rw [g] at g'; cases g'
            | frz o2 u2 => obtain ⟨g', _⟩ := ob; rw [g] at g'; cases g'
            | ext φ => obtain ⟨_, ⟨oo, g'⟩, _⟩ := ob; rw [g] at g'; cases g'
            | _ => exact z
          | some ob => exact un.free b ob g n (by simp)
        have keepO : ∀ b o, H b = some o → F b = none → ∀ ob, s.heap.get? b = some ob → s'.heap.get? b = some ob := fun b o e n ob g => un.keep b ob g n (fun hb => by have := e0.frf b hb; rw [e] at this; cases this) (by simp)
        have sH : Same H (merge F3 H) := fun b o e => by
          cases g : F b with
          | none => rw [merge_n (keepF b o e g)]; exact e
          | some o' =>
            have := sF b o' g
            rw [e] at this
            cases this
            exact merge_l _ _ (s2 _ _ (s1 _ _ g))
        have smM : Smp (merge F3 H) := fun b o e => by
          cases g : F3 b with
          | some o' => have := merge_l (H := H) b o' g; rw [e] at this; cases this; exact sm3 b o g
          | none => rw [merge_n g] at e; exact sm b o e
        refine ⟨v, merge F3 H, ho, ha, ⟨fun b o g n hb hx => un.keep b o g (sF.free n) hb hx, fun b o g n hb hx => un.slot b o g (sF.free n) hb hx, fun b o g n hx => ?_, un.there, fun b xs e => sH _ _ e, fun b o u e => sH _ _ e, fun b ps e => ⟨#[], by rw [sH _ _ e]; simp⟩⟩, fun b o e => ?_, ru, ?_⟩
        · rw [merge_n (un.free b o g (sF.free n) hx)]
          exact n
        · have z := smM b o e
          cases g : F3 b with
          | some o' =>
            have := merge_l (H := H) b o' g
            rw [e] at this
            cases this
            exact (hk b o g).smp z
          | none =>
            rw [merge_n g] at e
            have n : F b = none := by
              cases g2 : F b with
              | none => rfl
              | some o2 => rw [s2 _ _ (s1 _ _ g2)] at g; cases g
            have st := (e0.hok b o e).smp (F := fun _ => none) z
            have : ObjOk P w (fun _ => none) s'.heap b o := st.stay (fun b2 u hb2 gg => by
              rcases hb2 with rfl | hb2
              · exact keepO _ o e n u gg
              · cases hb2) (fun b2 hb2 => nomatch hb2) fun b2 xs hb2 => nomatch hb2
            exact this.smp z
        · exact q v F2 F3 (merge F3 H) s1 s2 merge_l sH smM keepF res
      | _ => exact hrr
structure Callee (P : Program) (w : World) (K : PySem.W.Frag) (mg : Str → Option Value) (base : Heap) (x : Str) (k n : Nat) (C : List D → R → Prop) : Prop where
  ex : ∃ (f : Addr) (fd : FuncData) (ps : List Str), mg x = some (.ref f) ∧ PySem.W.keepIn K (.ref f) = true ∧ Binds K fd ps [] ∧ FnOk P w K mg base CX0 k f fd ps (spC K n C)
theorem pd_call {x : Str} {p : Pos} {k n : Nat} {C : List D → R → Prop} (G : Callee X.prog X.w X.K X.mg X.base x k n C) (hr : Room k X.A) (hg : Gl X x) (ha : PAd X sd (e :: es) (ds.map R.val)) (hc : C ds r) (hb : match r with | .bor _ => False | _ => True) (hn : ds.length = n)
    (hdb : (x == ("__debug__" : Str)) = false := by decide) (he : starEach (e :: es) X.env = (false, eval e X.env) :: starEach es X.env := by rfl) (hpl : (backTo pos (starEach es X.env)).any (·.1) = false := by rfl) :
    PEd X sd (.Call (.Name x p) (e :: es) [] pos) r := .mk fun σ F H S => by
  obtain ⟨f, fd, ps, hm, hk, bd, G⟩ := G.ex
  refine (pe_call (FnOk.framed G) hr hg hm hk bd .nil pass0 pa_w hdb he hpl).to ((ha σ F H S).imp fun vs H1 ⟨F1, S1, s1, q1⟩ => ?_)
  have rl := q1.vals
  refine ⟨by rw [List.append_nil, rl.len]; exact hn, S1.smp, F1, ds, r, S1.sub, by rw [List.append_nil]; exact rl, hc, fun v F2 F3 H' s2 s3 s4 sH sm kp res => ?_⟩
  have no : ∀ l, l ∈ owned sd → F2 l = none ∧ F3 l = none := fun l hl => by
    obtain ⟨n1, xs, q, _⟩ := S1.slots.owns hl
    have n3 := kp l _ q n1
    exact ⟨s3.free n3, n3⟩
  refine ⟨F2, ⟨fun b o e => s2 _ _ (S1.base _ _ e), s3.trans s4, sm, S1.slots.mono s2 fun l hl => ⟨(no l hl).1, fun ys e => sH _ _ e⟩, S1.nd⟩, s1.trans s2, ?_⟩
  cases r with
  | val d => exact res
  | own ds' =>
    obtain ⟨l, xs, e, n, q, rl', _⟩ := res
    exact ⟨l, xs, e, n, s4 _ _ q, rl', fun hl => by rw [(no l hl).2] at q; cases q⟩
  | pr d ls =>
    obtain ⟨t, l, xs, y, e, f, g, n, q, rl', _⟩ := res
    exact ⟨t, l, xs, y, e, f, g, n, s4 _ _ q, rl', fun hl => by rw [(no l hl).2] at q; cases q⟩
  | ox G =>
    obtain ⟨ls, nd, h, g⟩ := res
    refine ⟨ls, nd, fun l hl => ?_, fun F' H'' sF k => g F' H'' sF fun l hl ob q => k l hl ob (s4 _ _ q)⟩
    obtain ⟨n, ⟨ob, q, w⟩, _⟩ := h l hl
    exact ⟨n, ⟨ob, s4 _ _ q, w⟩, fun hm => by rw [(no l hm).2] at q; cases q⟩
  | bor ds' => exact hb.elim
/-- what an argument is to the callee -/
def R.toD : R → D
  | .val d => d
  | .own ds => .lst ds
  | .bor ds => .lst ds
  | .pr d ls => .tup [d, .lst ls]
  | .ox _ => .non
theorem RsOk.toD {K : PySem.W.Frag} {H₀ F H : Hp} {σ : St} (S : StF K H₀ F H σ sd) {rs : List R} {vs : List V} (hk : ∀ r ∈ rs, r.keeps) (q : RsOk K F H sd rs vs) : RepL K H (rs.map R.toD) vs := by
  induction q with
  | nil => exact .nil
  | @cons r v rs vs q t ih =>
    refine .cons ?_ (ih fun r hr => hk r (List.mem_cons_of_mem _ hr))
    cases r with
    | val d => exact Rep.mono S.sub q
    | own ds => exact (hk _ List.mem_cons_self).elim
    | pr d ls => exact (hk _ List.mem_cons_self).elim
    | ox G => exact (hk _ List.mem_cons_self).elim
    | bor ds =>
      obtain ⟨l, xs, e, hl, rl, _⟩ := q
      simp only [R.toD, Rep]
      exact ⟨l, xs, e, hl, rl.mono S.sub⟩
/-! ### a def -/
def init (n : Nat) (ds : List D) : List Slot := ds.map Slot.val ++ List.replicate (n - ds.length) .un
theorem slots_un {K : PySem.W.Frag} {F H : Hp} : ∀ n : Nat, SlotsOk K F H (List.replicate n .un) (List.replicate n none)
  | 0 => rfl
  | n + 1 => ⟨none, List.replicate n none, rfl, trivial, slots_un n⟩
theorem slots_init {K : PySem.W.Frag} {F H : Hp} {m n : Nat} : ∀ {ds : List D} {vs : List V}, RepL K F ds vs → SlotsOk K F H (ds.map Slot.val ++ List.replicate n .un) (vs.map some ++ List.replicate n none)
  | [], vs, r => by
    simp only [RepL] at r
    subst r
    exact slots_un n
  | d :: ds, vs, r => by
    obtain ⟨y, ys, rfl, a, rl⟩ := r.uncons
    exact ⟨some y, _, rfl, ⟨y, rfl, a⟩, slots_init (m := m) rl⟩
theorem owned_init (n : Nat) : ∀ ds : List D, owned (ds.map Slot.val ++ List.replicate n .un) = []
  | [] => by
    induction n with
    | zero => rfl
    | succ n ih => exact ih
  | _ :: ds => owned_init n ds
theorem def_fn {P : Program} {w : World} {K : PySem.W.Frag} {mg : Str → Option Value} {base : Heap} {x qual : Str} {st : Stmt} {f : Addr} {fd : FuncData} {N ps : List Str} {k : Nat} {C : List D → R → Prop} (F : Fun K x qual st f fd) (S : FnScope N ps (defScope st))
    (body : ∀ (cdv : Value) (A : Around) (outer : List Env) (s : Shared) (H : Hp) (E : XK), Room k (A.deeper (envOfC qual (defScope st) s.heap.objs.size f cdv)) → ∀ ds r, ds.length = ps.length → C ds r →
      PSd (cxOf CX0 P w K mg base N qual (defScope st) f cdv A outer s H E).nox (init N.length ds) (defBody st) { nx := fun _ => r = .val .non, rt := fun r' => r' = r }) : FnOk P w K mg base CX0 (k + 1) f fd ps (spC K ps.length C) := by
  refine F.ok S (fun vs H Q E h => h.1) fun cdv A outer s H vs Q E hr h => ?_
  obtain ⟨hl, sm, ds, r, rl, c, q⟩ := h
  have hds : ds.length = ps.length := by rw [← rl.len]; exact hl
  refine ⟨_, pss_w, ?_⟩
  have hlen : N.length - vs.length = N.length - ds.length := by rw [rl.len]
  have S0 : StF K H H H (L2.start N vs) (init N.length ds) := by
    refine ⟨Same.refl _, Same.refl _, sm, ?_, ?_⟩
    · unfold L2.start init
      rw [hlen]
      exact slots_init (m := 0) rl
    · unfold init
      rw [owned_init]
      exact List.nodup_nil
  refine (body cdv A outer s H E hr ds r hds c (L2.start N vs) H H S0).imp ?_ ?_ (fun _ _ ⟨_, _, _, _, z⟩ => z) fun _ _ ⟨_, _, _, _, z⟩ => z
  · rintro σ' H' ⟨sd', F', S', s', e⟩
    have e : r = .val .non := e
    subst e
    exact q .non H' ⟨F', S'.base, S'.sub, S'.smp, by simp only [ResOk, Rep]⟩
  · rintro v H' ⟨r', ro, e⟩
    have e : r' = r := e
    subst e
    exact q v H' ro
theorem def_ok {P : Program} {w : World} {K : PySem.W.Frag} {mg : Str → Option Value} {base : Heap} {x qual : Str} {st : Stmt} {f : Addr} {fd : FuncData} {N ps : List Str} {k : Nat} {C : List D → R → Prop} (F : Fun K x qual st f fd) (S : FnScope N ps (defScope st))
    (hm : mg x = some (.ref f)) (hb : ∀ (kV doc pm : Value) (an : Option Addr) (cdv ct : Value) (us : List Value), us.length = ps.length → bindArgs (PySem.W.fnOf x qual (defArgs st) (defBody st) (defScope st) .none kV doc pm an cdv ct) ⟨us, []⟩ = pure (ps.zip us))
    (body : ∀ (cdv : Value) (A : Around) (outer : List Env) (s : Shared) (H : Hp) (E : XK), Room k (A.deeper (envOfC qual (defScope st) s.heap.objs.size f cdv)) → ∀ ds r, ds.length = ps.length → C ds r →
      PSd (cxOf CX0 P w K mg base N qual (defScope st) f cdv A outer s H E).nox (init N.length ds) (defBody st) { nx := fun _ => r = .val .non, rt := fun r' => r' = r }) : Callee P w K mg base x (k + 1) ps.length C :=
  ⟨f, fd, ps, hm, F.kp, F.binds hb, def_fn F S body⟩
end
end DL

namespace DL
open PySem PySem.Spec PyProof.Rows L2
section
variable {X : Cx} {sd : List Slot} {e a b c tg iter : Expr} {es : List Expr} {pos : Pos} {r ra rb : R} {d : D} {ds : List D} {st : Stmt} {rest : List Stmt} {E : EndD}

/-! ### what is walked -/
def ItD (K : PySem.W.Frag) (F₁ : Hp) (P : Hp → Hp → Prop) (J : It) (ds : List D) : Prop := ∀ (F H : Hp), Same F₁ F → Same F H → Smp H → P F H → ∀ i, (i < ds.length → J.go i H) ∧ (ds.length ≤ i → J.stop i H) ∧
  ∀ x H' d, ds[i]? = some d → J.yld i H x H' → ∃ F', Same F F' ∧ Rep K F' d x ∧ ∀ H₀ σ sd, StF K H₀ F H σ sd → StF K H₀ F' H' σ sd
abbrev PT0 : Hp → Hp → Prop := fun _ _ => True
structure PId (X : Cx) (sd : List Slot) (P : Hp → Hp → Prop) (tg iter : Expr) (ds : List D) : Prop where
  run : ∀ (σ : St) (F H : Hp), StF X.K X.B₀ F H σ sd →
  wI X tg iter σ H fun J H1 => ∃ F1, StF X.K X.B₀ F1 H1 σ sd ∧ Same F F1 ∧ ItD X.K F1 P J ds
instance {X : Cx} {sd : List Slot} {P : Hp → Hp → Prop} {tg iter : Expr} {ds : List D} : CoeFun (PId X sd P tg iter ds) (fun _ => ∀ (σ : St) (F H : Hp), StF X.K X.B₀ F H σ sd →
  wI X tg iter σ H fun J H1 => ∃ F1, StF X.K X.B₀ F1 H1 σ sd ∧ Same F F1 ∧ ItD X.K F1 P J ds) := ⟨PId.run⟩
theorem _root_.L2.PI.to {wi : TI} {σ : St} {H : Hp} {R : It → Hp → Prop} (h : PI X tg iter wi) (q : wi σ H R) : wI X tg iter σ H R := fun pins s I => h pins s σ H R I q
theorem pid_list (h : PEd X sd iter (.val (.lst ds))) : PId X sd PT0 tg iter ds := .mk fun σ F H S =>
  (pi_list pe_w).to ((h σ F H S).imp fun v H1 ⟨F1, S1, s1, q1⟩ => by
    simp only [ResOk, Rep] at q1
    obtain ⟨l, xs, rfl, hl, rl⟩ := q1
    refine ⟨l, rfl, ⟨xs, .of (S1.sub _ _ hl)⟩, F1, S1, s1, fun F' H' sF sH sm _ i => ?_⟩
    have hl' := sH _ _ (sF _ _ hl)
    refine ⟨fun hi => ⟨xs, xs[i]'(by rw [rl.len]; exact hi), .of hl', by simp [rl.len, hi]⟩, fun hi => ⟨xs, .of hl', by rw [rl.len]; exact hi⟩, fun x H2 d hd y => ?_⟩
    obtain ⟨rfl, y⟩ := y
    obtain ⟨v, hv, rv⟩ := rl.get hd
    have := y xs (.of hl')
    rw [hv] at this
    cases this
    exact ⟨F', Same.refl _, rv.mono sF, fun _ _ _ S => S⟩)
theorem pid_tup (h : PEd X sd iter (.val (.tup ds))) : PId X sd PT0 tg iter ds := .mk fun σ F H S =>
  (pi_tup pe_w).to ((h σ F H S).imp fun v H1 ⟨F1, S1, s1, q1⟩ => by
    simp only [ResOk, Rep] at q1
    obtain ⟨l, xs, rfl, hl, rl⟩ := q1
    refine ⟨l, rfl, ⟨xs, .of (S1.sub _ _ hl)⟩, F1, S1, s1, fun F' H' sF sH sm _ i => ?_⟩
    have hl' := sH _ _ (sF _ _ hl)
    refine ⟨fun hi => ⟨xs, xs[i]'(by rw [rl.len]; exact hi), .of hl', by simp [rl.len, hi]⟩, fun hi => ⟨xs, .of hl', by rw [rl.len]; exact hi⟩, fun x H2 d hd y => ?_⟩
    obtain ⟨rfl, y⟩ := y
    obtain ⟨v, hv, rv⟩ := rl.get hd
    have := y xs (.of hl')
    rw [hv] at this
    cases this
    exact ⟨F', Same.refl _, rv.mono sF, fun _ _ _ S => S⟩)
def rangeD (lo : Int) (n : Nat) : List D := (List.range n).map fun (k : Nat) => D.int (lo + (k : Int))
theorem rangeD_len (lo : Int) (n : Nat) : (rangeD lo n).length = n := by simp [rangeD]
theorem rangeD_get {lo : Int} {n i : Nat} {d : D} (h : (rangeD lo n)[i]? = some d) : i < n ∧ d = .int (lo + (i : Int)) := by
  unfold rangeD at h
  rw [List.getElem?_map] at h
  by_cases hi : i < n
  · rw [List.getElem?_range hi] at h
    exact ⟨hi, (Option.some.inj h).symm⟩
  · rw [List.getElem?_eq_none (by simpa using hi)] at h
    cases h
theorem itd_range {K : PySem.W.Frag} {F₁ : Hp} {lo : Int} {n : Nat} : ItD K F₁ PT0 (Itr lo n) (rangeD lo n) := fun F H _ _ _ _ i => by
  refine ⟨fun hi => by rw [rangeD_len] at hi; exact hi, fun hi => by rw [rangeD_len] at hi; exact hi, fun x H' d hd y => ?_⟩
  obtain ⟨rfl, rfl⟩ := y
  obtain ⟨_, rfl⟩ := rangeD_get hd
  exact ⟨F, Same.refl _, by simp only [Rep], fun _ _ _ S => S⟩
theorem pid_range {p : Pos} {n : Nat} (hg : Gl X "range") (hm : X.mg "range" = none) (h : PEd X sd a (.val (.int (n : Int)))) (hn : (n : Int) < 2 ^ 62) (hs : starEach [a] X.env = [(false, eval a X.env)] := by rfl) : PId X sd PT0 tg (.Call (.Name "range" p) [a] [] pos) (rangeD 0 n) := .mk fun σ F H S =>
  (pi_range1 hg hm pa_w hs).to ((pad_cons h pad_nil trivial hs σ F H S).imp fun vs H1 ⟨F1, S1, s1, q1⟩ => by
    cases q1 with
    | cons q1 q2 =>
      cases q2
      simp only [ResOk, Rep] at q1
      subst q1
      exact ⟨(n : Int), rfl, by omega, hn, F1, S1, s1, by rw [Int.toNat_natCast]; exact itd_range⟩)
/-! ### targets -/
structure PGd (X : Cx) (sd : List Slot) (tg : Expr) (d : D) (sd' : List Slot) : Prop where
  run : ∀ (σ : St) (F H : Hp) (v : V), StF X.K X.B₀ F H σ sd → Rep X.K F d v → wG X tg v σ H fun σ' H' => ∃ F', StF X.K X.B₀ F' H' σ' sd' ∧ Same F F'
instance {X : Cx} {sd : List Slot} {tg : Expr} {d : D} {sd' : List Slot} : CoeFun (PGd X sd tg d sd') (fun _ => ∀ (σ : St) (F H : Hp) (v : V), StF X.K X.B₀ F H σ sd → Rep X.K F d v → wG X tg v σ H fun σ' H' => ∃ F', StF X.K X.B₀ F' H' σ' sd' ∧ Same F F') := ⟨PGd.run⟩
theorem _root_.L2.PG.to {t : TG} {v : V} {σ : St} {H : Hp} {Q : St → Hp → Prop} (h : PG X tg t) (q : t v σ H Q) : wG X tg v σ H Q := fun pins s u I r => h pins s σ H v u Q I r q
theorem pgd_name (j : Nat) (h : PG X tg (gName j)) : PGd X sd tg d (sd.set j (.val d)) := .mk fun σ F H v S q => h.to ⟨F, S.set j q, Same.refl _⟩
def gNs : List Nat → TGs
  | [] => gNil
  | j :: js => gCons (gName j) (gNs js)
def setAll : List Slot → List Nat → List D → List Slot
  | sd, j :: js, d :: ds => setAll (sd.set j (.val d)) js ds
  | sd, _, _ => sd
theorem gNs_ok {K : PySem.W.Frag} {H₀ F H : Hp} {Q : St → Hp → Prop} : ∀ {js : List Nat} {ds : List D} {vs : List V} {σ : St} {sd : List Slot}, js.length = ds.length → RepL K F ds vs → StF K H₀ F H σ sd → (∀ σ', StF K H₀ F H σ' (setAll sd js ds) → Q σ' H) → gNs js vs σ H Q
  | [], [], vs, σ, sd, _, r, S, k => by
    simp only [RepL] at r
    exact ⟨r, k σ S⟩
  | j :: js, d :: ds, vs, σ, sd, hl, r, S, k => by
    obtain ⟨y, ys, rfl, q, rl⟩ := r.uncons
    exact ⟨y, ys, rfl, gNs_ok (by simpa using hl) rl (S.set j q) k⟩
  | [], _ :: _, _, _, _, hl, _, _, _ => by simp at hl
  | _ :: _, [], _, _, _, hl, _, _, _ => by simp at hl
theorem pgd_tup {k : Nat} {js : List Nat} (hc : X.calm = true) (h : PGs X es (gNs js)) (hl : js.length = ds.length) (hn : (assignEach es X.env).length = ds.length) (hst : (assignEach es X.env).findIdx? (·.1) = none := by rfl) : PGd X sd (.Tuple es k pos) (.tup ds) (setAll sd js ds) := .mk fun σ F H v S q =>
  (pg_tup hc h hn hst).to (by
    simp only [Rep] at q
    obtain ⟨a, xs, rfl, ha, rl⟩ := q
    exact ⟨a, xs, rfl, .of (S.sub _ _ ha), rl.len, gNs_ok hl rl S fun σ' S' => ⟨F, S', Same.refl _⟩⟩)
/-! out of a list -/
theorem draw_list {prog : Program} {w : World} {A : Around} {E : Value → Shared → Prop} {it t : Addr} {items : Array Value} (hne : t ≠ it) : ∀ (n i : Nat) (s : Shared) (Q : List Value → Shared → Prop), s.heap.IsListIter it t i → s.heap.IsList t items → i + n ≤ items.size →
    (∀ h', h'.IsListIter it t (i + n) → Heap.SameBut it s.heap h' → Q ((items.toList.drop i).take n) { s with heap := h' }) → wpAny (model prog w) A (draw (.ref it) n) Q E s
  | 0, i, s, Q, hit, _, _, hQ => by
    show wpAny _ _ (pure []) Q E s
    exact wpAny_pure (by simpa using hQ s.heap hit (Heap.SameBut.refl ..))
  | n + 1, i, s, Q, hit, ht, hle, hQ => by
    have hlt : i < items.size := by omega
    show wpAny _ _ (pyNext (.ref it) >>= _) Q E s
    refine wpAny_bind (wpAny_pyNext_list_item hit ht (x := items[i]) (by simp [hlt]) fun h₁ hit₁ hs₁ => ?_)
    refine wpAny_bind (wpAny_holding (draw_list hne n (i + 1) _ _ hit₁ (ht.extBut hs₁.extBut hne) (by omega) fun h₂ hit₂ hs₂ => wpAny_pure ?_))
    have hd : items.toList.drop i = items[i] :: items.toList.drop (i + 1) := by simp [List.drop_eq_getElem_cons, hlt]
    have := hQ h₂ (by rw [show i + (n + 1) = i + 1 + n by omega]; exact hit₂) (hs₁.trans hs₂)
    rw [hd, List.take_succ_cons] at this
    exact this
theorem unpack_list {prog : Program} {w : World} {A : Around} {E : Value → Shared → Prop} {s : Shared} {t : Addr} {items : Array Value} {Q : List Value → Shared → Prop} (hh : A.handled = none) (ht : s.heap.IsList t items)
    (hQ : ∀ h', Heap.ExtBut s.heap.objs.size s.heap h' → Q items.toList { s with heap := h' }) : wpAny (model prog w) A (unpackItems (.ref t) items.size none) Q E s := by
  have hlt : t ≠ s.heap.objs.size := by obtain ⟨o, ho, _⟩ := ht; exact Nat.ne_of_lt (Heap.lt_size ho)
  unfold unpackItems
  refine wpAny_bind ?_
  unfold notIterableAtAll
  refine wpAny_bind (wpAny_specialOf ht.typeIs slot_list_iter.lookup ?_)
  refine wpAny_pure ?_
  simp only [Bool.false_eq_true, if_false]
  refine wpAny_bind (wpAny_holding (wpAny_pyIter_list ht ?_))
  refine wpAny_bind (wpAny_holding (draw_list hlt items.size 0 _ _ ⟨_, Heap.get?_push_size _ rfl, rfl, rfl⟩ (ht.at fun o e => Heap.get?_push_of_some _ e) (by omega) fun h₁ hit₁ hs₁ => ?_))
  have hall : List.take items.size (List.drop 0 items.toList) = items.toList := by
    rw [List.drop_zero]; exact List.take_of_length_le (by simp)
  rw [hall]
  rw [if_neg (by simp)]
  have ht₁ : h₁.IsList t items := (ht.at fun o e => Heap.get?_push_of_some _ e).extBut hs₁.extBut hlt
  refine wpAny_bind (wpAny_holding (wpAny_pyNext_list_end hh hit₁ ht₁ (by simp) fun h₂ he₂ => ?_))
  simp only [Option.isSome_none, Bool.false_eq_true, if_false]
  exact wpAny_pure (hQ h₂ fun b o hb e => he₂ b o hb (hs₁.extBut b o hb (Heap.get?_push_of_some _ e)))
def gLst (K : PySem.W.Frag) (n : Nat) (t : TGs) : TG := fun v σ H Q => ∃ a xs, v = .ref a ∧ SqL K H a xs ∧ xs.length = n ∧ t xs σ H Q
theorem pg_lst {k : Nat} {t : TGs} {n : Nat} (hc : X.calm = true) (h : PGs X es t)
    (hn : (assignEach es X.env).length = n := by rfl) (hst : (assignEach es X.env).findIdx? (·.1) = none := by rfl) : PG X (.Tuple es k pos) (gLst X.K n t) := by
  intro pins s σ H v u Q I r hw
  obtain ⟨a, xs, e1, hq, hl, hw⟩ := hw
  subst e1
  cases r
  obtain ⟨its, rv, ht, hz⟩ := I.list hq
  rw [PyProof.Rows.assign_Tuple]
  refine wpAny_bind (wpAny_standAt ?_)
  unfold unpack
  have e2 : (assignEach es X.env).length = its.toArray.size := by rw [hn, ← hl, rv.length]; simp
  rw [e2, hst]
  refine wpAny_bind (wpAny_holding (unpack_list (I.ok.hd hc) ht.isList fun h' hx => ?_))
  have I1 : Inv X pins σ H { s with heap := h' } := I.kept (t' := s.toks) fun b o e => hx b o (Nat.ne_of_lt (Heap.lt_size e)) e
  exact h pins _ σ H xs _ Q I1 (by simpa using rv) hw
theorem pgd_lst {k : Nat} {js : List Nat} (hc : X.calm = true) (h : PGs X es (gNs js)) (hl : js.length = ds.length) (hn : (assignEach es X.env).length = ds.length) (hst : (assignEach es X.env).findIdx? (·.1) = none := by rfl) : PGd X sd (.Tuple es k pos) (.lst ds) (setAll sd js ds) := .mk fun σ F H v S q =>
  (pg_lst hc h hn hst).to (by
    simp only [Rep] at q
    obtain ⟨a, xs, rfl, ha, rl⟩ := q
    exact ⟨a, xs, rfl, .of (S.sub _ _ ha), rl.len, gNs_ok hl rl S fun σ' S' => ⟨F, S', Same.refl _⟩⟩)
/-- targets = value -/
theorem psd_asg {sd' : List Slot} (h : PEd X sd e (.val d)) (hg : PGd X sd tg d sd') (hE : E.nx sd') (hs : swapsWithSole [tg] e pos.line X.env = pure false := by rfl) (hw : swappedStores [tg] e X.env = pure none := by rfl)
    (h1 : (assignEach [tg] X.env).map (·.2) = [assign tg X.env] := by rfl) : PSd1 X sd (.Assign [tg] e pos) E := .mk fun σ F H S =>
  (ps_asg pe_w pg_w hs hw h1).to ((h σ F H S).imp fun v H1 ⟨F1, S1, s1, q1⟩ => (hg σ F1 H1 v S1 q1).imp fun σ' H' ⟨F', S', s'⟩ => ⟨sd', F', S', s1.trans s', hE⟩)

/-! ### for -/
theorem psd_for {body : List Stmt} {P : Hp → Hp → Prop} (Sd Td : Nat → List Slot) (hi : PId X sd P tg iter ds) (h0 : Le sd (Sd 0)) (hg : ∀ k d, ds[k]? = some d → PGd X (Sd k) tg d (Td k))
    (hb : ∀ k d, ds[k]? = some d → PSd X (Td k) body { E with nx := fun sd' => Le sd' (Sd (k + 1)), ct := fun sd' => Le sd' (Sd (k + 1)), bk := E.nx }) (hE : E.nx (Sd ds.length)) (hP : ∀ k σ F H, StF X.K X.B₀ F H σ (Sd k) → P F H := by intros; trivial)
    (hc : X.calm = true := by rfl) (hp : PassesOwn (model X.prog X.w) X.A X.env X.xe := by exact PassesOwn.never) (hs : ∀ x, foldedSetIterable iter X.env x = pure x := by intro _; rfl) : PSd1 X sd (.For tg iter body [] pos) E := .mk fun σ F H S =>
  (ps_for hp hc pi_w pg_w pss_w hs).to (by
    intro pins s I
    refine thn (hi σ F H S pins s I) fun v s1 h1 => thn h1 fun itv s2 h2 => ?_
    obtain ⟨it, fp, tn, J, H2, e, I2, T, st2, f2, F1, S1, s1', itd⟩ := h2
    refine ⟨it, fp, tn, J, H2, e, I2, T, st2, f2, ?_⟩
    refine ⟨fun i m σ' H' => m = ds.length - i ∧ i ≤ ds.length ∧ ∃ F', StF X.K X.B₀ F' H' σ' (Sd i) ∧ Same F1 F', ⟨ds.length, by simp, Nat.zero_le _, F1, S1.le h0, Same.refl _⟩, ?_⟩
    rintro i m σ' H' ⟨rfl, hil, F', S', s'⟩
    obtain ⟨g1, g2, g3⟩ := itd F' H' s' S'.sub S'.smp (hP _ _ _ _ S') i
    by_cases hlt : i < ds.length
    · refine .inr ⟨g1 hlt, fun σ2 H2 => ∃ F2, StF X.K X.B₀ F2 H2 σ2 (Sd (i + 1)) ∧ Same F1 F2, fun σ2 H2 ⟨F2, S2, s2⟩ => ⟨ds.length - (i + 1), by omega, rfl, hlt, F2, S2, s2⟩, fun x H2 y => ?_⟩
      have hd : ds[i]? = some ds[i] := by simp [hlt]
      obtain ⟨F2, s2, rp, up⟩ := g3 x H2 ds[i] hd y
      refine (hg i _ hd σ' F2 H2 x (up _ _ _ S') rp).imp fun σ3 H3 ⟨F3, S3, s3⟩ => ?_
      have base : Same F1 F3 := (s'.trans s2).trans s3
      refine (hb i _ hd σ3 F3 H3 S3).imp ?_ ?_ ?_ ?_
      · rintro σ4 H4 ⟨sd4, F4, S4, s4, le⟩
        exact ⟨F4, S4.le le, base.trans s4⟩
      · exact fun v H4 q => q
      · rintro σ4 H4 ⟨sd4, F4, S4, s4, q⟩
        exact ⟨sd4, F4, S4, (s1'.trans base).trans s4, q⟩
      · rintro σ4 H4 ⟨sd4, F4, S4, s4, le⟩
        exact ⟨F4, S4.le le, base.trans s4⟩
    · have e : i = ds.length := by omega
      subst e
      exact .inl ⟨g2 (Nat.le_refl _), Sd ds.length, F', S', s1'.trans s', hE⟩)

/-! ### looking aside: what our own lists hold is not touched -/
theorem Inv.retrack {pins : List (Addr × Obj)} {σ : St} {H F : Hp} {s s' : Shared} (I0 : Inv X pins σ H s) : ∀ (ls : List Addr), ls.Nodup → (∀ l ∈ ls, F l = none ∧ (∃ xs, H l = some xs ∧ Wr l xs) ∧ ∀ o, s.heap.get? l = some o → s'.heap.get? l = some o) → Inv X pins σ F s' → Inv X pins σ (fun b => if b ∈ ls then H b else F b) s'
  | [], _, _, I => by simpa using I
  | l :: ls, nd, h, I => by
    obtain ⟨nl, nd'⟩ := List.nodup_cons.mp nd
    have J := Inv.retrack I0 ls nd' (fun l' hl => h l' (List.mem_cons_of_mem _ hl)) I
    obtain ⟨n, ⟨xs, hx, wx⟩, kp⟩ := h l List.mem_cons_self
    have e : (fun b => if b ∈ l :: ls then H b else F b) = upd (fun b => if b ∈ ls then H b else F b) l xs := by
      funext b
      unfold upd
      by_cases hb : b = l
      · subst hb
        simp [hx]
      · simp [hb]
    rw [e]
    have n' : (fun b => if b ∈ ls then H b else F b) l = none := by simp [nl, n]
    have ob := I0.hok l _ hx
    clear e
    generalize (fun b => if b ∈ ls then H b else F b) = G at J n' ⊢
    refine ⟨J.ok, J.os, J.bare, ⟨J.base.keep, J.base.slot, fun b u g n0 hx0 => ?_, J.base.there, fun b ys g => ?_, fun b u ys g => ?_, fun b ps g => ?_⟩, J.loc, J.cell, ?_, fun x c g => ?_, fun p hp => ?_, J.hok.track n' ?_, J.len⟩
    · have hb : b ≠ l := fun q => by
        subst q
        have := I0.base.free b u g n0 hx0
        rw [hx] at this
        cases this
      rw [upd_ne hb]
      exact J.base.free b u g n0 hx0
    · have q := J.base.tups b ys g
      rw [upd_ne (ne_of_none q n')]
      exact q
    · have q := J.base.frzs b u ys g
      rw [upd_ne (ne_of_none q n')]
      exact q
    · obtain ⟨m, q⟩ := J.base.tbls b ps g
      exact ⟨m, by rw [upd_ne (ne_of_none q n')]; exact q⟩
    · rw [upd_ne (fun q => by have := I0.free; rw [q, hx] at this; cases this)]
      exact J.free
    · rw [upd_ne (fun q => by have := I0.freeC x c g; rw [q, hx] at this; cases this)]
      exact J.freeC x c g
    · obtain ⟨g, n0, rr⟩ := J.pin p hp
      refine ⟨g, ?_, rr⟩
      rw [upd_ne (fun q => by have := (I0.pin p hp).2.1; rw [q, hx] at this; cases this)]
      exact n0
    · cases xs with
      | lst xs =>
        obtain ⟨z, its, nn, rv, ho⟩ := ob
        exact ⟨z, its, nn, rv, kp _ ho⟩
      | dK kvs =>
        obtain ⟨z, y, vs, r, o, es, ep, e, c⟩ := ob
        exact ⟨z, y, vs, r, o, es, ep, kp _ e, c⟩
      | ext φ =>
        obtain ⟨h1, ⟨o1, h2⟩, h3⟩ := ob
        exact ⟨h3 _ _ h1 kp, ⟨o1, kp _ h2⟩, h3⟩
      | _ => exact wx.elim
theorem wr_obj {P : Program} {w : World} {H : Hp} {h : Heap} {l : Addr} {xs : HO} (wx : Wr l xs) (q : H l = some xs) (ok : ObjOk P w H h l xs) : ∃ ys o, H l = some ys ∧ Wr l ys ∧ h.get? l = some o ∧ ∀ v, o.data ≠ .cell v := by
  cases xs with
  | lst xs =>
    obtain ⟨_, its, nn, _, ho⟩ := ok
    exact ⟨_, _, q, trivial, ho, fun v z => by cases z⟩
  | dK kvs =>
    obtain ⟨_, _, _, _, o, es, ep, e, _, d, _⟩ := ok
    exact ⟨_, _, q, trivial, e, fun v z => by rw [d] at z; cases z⟩
  | ext φ =>
    obtain ⟨o, e, n⟩ := id wx
    subst e
    exact ⟨_, o, q, wx, ok.1, n⟩
  | _ => exact wx.elim
theorem wE_frame {σ : St} {F H : Hp} (S : StF X.K X.B₀ F H σ sd) (hr : match r with | .bor _ => False | _ => True) (h : wE X e σ F fun v F3 => RetOk X.K F F3 r v) : wE X e σ H fun v H' => ∃ F', StF X.K X.B₀ F' H' σ sd ∧ Same F F' ∧ ResOk X.K F' H' sd r v := fun pins s I => by
  have I1 : Inv X pins σ F s := I.less S.sub S.base (S.smp.sub S.sub)
  have ob : ∀ l ∈ owned sd, ∃ xs o, H l = some xs ∧ Wr l xs ∧ s.heap.get? l = some o ∧ ∀ v, o.data ≠ .cell v := fun l hl => by
    obtain ⟨n, xs, q, wx⟩ := S.slots.owns hl
    exact wr_obj wx q (I.hok l _ q)
  have I2 : Inv X (pins ++ pinsAt (owned sd) s.heap) σ F s := I1.pins_of fun p hp => (List.mem_append.mp hp).elim (fun z => I1.pin p (List.mem_append_right _ z)) fun z => by
    obtain ⟨hb, g⟩ := of_pinsAt z
    obtain ⟨xs, o, q, _, ho, hc⟩ := ob p.1 hb
    rw [g] at ho
    cases ho
    refine ⟨g, (S.slots.owns hb).1, fun y => ?_, fun y => ?_, hc⟩
    · have := I.free
      rw [← y, q] at this
      cases this
    · obtain ⟨_, o', ho', _⟩ := I.ok.funs.mem y
      have := I.base.free p.1 o' ho' (I.ok.frf p.1 y) fun z => I.ok.exfs p.1 z y
      rw [q] at this
      cases this
  refine thn (h _ s I2) fun u s' ⟨v, F3, I3, rv, F2, s1, s2, sm3, res⟩ => ?_
  have kp : ∀ l ∈ owned sd, F3 l = none ∧ (∃ xs, H l = some xs ∧ Wr l xs) ∧ ∀ o, s.heap.get? l = some o → s'.heap.get? l = some o := fun l hl => by
    obtain ⟨xs, o, q, wx, ho, _⟩ := ob l hl
    have := I3.pin (l, o) (List.mem_append_right _ (List.mem_append_right _ (mem_pinsAt hl ho)))
    exact ⟨this.2.1, ⟨xs, q, wx⟩, fun o' g => by rw [ho] at g; cases g; exact this.1⟩
  have I4 := Inv.retrack I (owned sd) S.nd kp I3.unpinned
  refine ⟨v, _, I4, rv, F2, ⟨fun b o g => s1 _ _ (S.base _ _ g), fun b o g => ?_, fun b o g => ?_, S.slots.mono s1 fun l hl => ⟨s2.free (kp l hl).1, fun xs g => by simpa [hl] using g⟩, S.nd⟩, s1, ?_⟩
  · have g3 := s2 _ _ g
    have : b ∉ owned sd := fun hb => by rw [(kp b hb).1] at g3; cases g3
    simp [this, g3]
  · by_cases hb : b ∈ owned sd
    · simp [hb] at g
      exact S.smp _ _ g
    · simp [hb] at g
      exact sm3 _ _ g
  · cases r with
    | val d => exact res
    | own ds' =>
      obtain ⟨l, xs, e, n, q, rl', _⟩ := res
      have : l ∉ owned sd := fun hl => by rw [(kp l hl).1] at q; cases q
      exact ⟨l, xs, e, n, by simp [this, q], rl', this⟩
    | pr d ls =>
      obtain ⟨t, l, xs, y, e, f, g, n, q, rl', _⟩ := res
      have : l ∉ owned sd := fun hl => by rw [(kp l hl).1] at q; cases q
      exact ⟨t, l, xs, y, e, f, g, n, by simp [this, q], rl', this⟩
    | ox G =>
      obtain ⟨ls, nd, h, g⟩ := res
      have no : ∀ l ∈ ls, l ∉ owned sd := fun l hl hm => by
        obtain ⟨n, ⟨ob, q, w⟩, _⟩ := h l hl
        rw [(kp l hm).1] at q
        cases q
      refine ⟨ls, nd, fun l hl => ?_, fun F' H' sF k => g F' H' sF fun l hl ob q => k l hl ob (by simp [no l hl, q])⟩
      obtain ⟨n, ⟨ob, q, w⟩, _⟩ := h l hl
      exact ⟨n, ⟨ob, by simp [no l hl, q], w⟩, no l hl⟩
    | bor ds' => exact hr.elim
/-- what the block of a comprehension knows of our names -/
def capS : Option Slot → Slot
  | some (.val d) => .val d
  | some (.ox [] G) => .ox [] G
  | _ => .un
def capD (cap : List (Option Nat)) (sd : List Slot) : List Slot := cap.map fun o => match o with
  | none => .un
  | some k => capS sd[k]?
theorem capD_ok {K : PySem.W.Frag} {F H F' H' : Hp} {σ : St} (h : SlotsOk K F H sd σ) (s : Same F F') : ∀ cap : List (Option Nat), SlotsOk K F' H' (capD cap sd) (capt cap σ)
  | [] => rfl
  | o :: cap => by
    refine ⟨_, _, rfl, ?_, capD_ok h s cap⟩
    cases o with
    | none => trivial
    | some k =>
      show SlotOk K F' H' (capS sd[k]?) _
      cases q : sd[k]? with
      | none => trivial
      | some z =>
        cases z with
        | un => trivial
        | own l ds => trivial
        | od l ks ds => trivial
        | ox ls G =>
          cases ls with
          | cons a ls => trivial
          | nil =>
            obtain ⟨o, h1, v, h2, h3, h4⟩ := h.get q
            subst h2
            exact ⟨v, by simp [h1], fun l hl => (nomatch hl), fun F2 H2 s2 _ => h4 F2 H2 (s.trans s2) fun l hl => (nomatch hl)⟩
        | gh d G => trivial
        | val d =>
          obtain ⟨o, h1, v, h2, rv⟩ := h.get q
          subst h2
          exact ⟨v, by simp [h1], rv.mono s⟩
theorem owned_capD : ∀ (cap : List (Option Nat)) (sd : List Slot), owned (capD cap sd) = []
  | [], _ => rfl
  | o :: cap, sd => by
    have ih := owned_capD cap sd
    cases o with
    | none => exact ih
    | some k =>
      show owned (capS sd[k]? :: capD cap sd) = []
      cases q : sd[k]? with
      | none => exact ih
      | some z =>
        cases z with
        | ox ls G => cases ls <;> exact ih
        | _ => exact ih
def unS : Slot → Slot
  | .own _ _ => .un
  | .od _ _ _ => .un
  | .ox [] G => .ox [] G
  | .ox _ _ => .un
  | z => z
def unO (sd : List Slot) : List Slot := sd.map unS
theorem owned_unO : ∀ sd : List Slot, owned (unO sd) = []
  | [] => rfl
  | .un :: r => owned_unO r
  | .val _ :: r => owned_unO r
  | .gh _ _ :: r => owned_unO r
  | .own _ _ :: r => owned_unO r
  | .od _ _ _ :: r => owned_unO r
  | .ox [] _ :: r => owned_unO r
  | .ox (_ :: _) _ :: r => owned_unO r
theorem capD_unO (cap : List (Option Nat)) (sd : List Slot) : capD cap (unO sd) = capD cap sd := by
  unfold capD
  refine List.map_congr_left fun o _ => ?_
  cases o with
  | none => rfl
  | some k =>
    show capS (unO sd)[k]? = capS sd[k]?
    unfold unO
    rw [List.getElem?_map]
    cases q : sd[k]? with
    | none => rfl
    | some z =>
      cases z with
      | ox ls G => cases ls <;> rfl
      | _ => rfl
theorem slots_unO {K : PySem.W.Frag} {F H H' : Hp} : ∀ {sd : List Slot} {σ : St}, SlotsOk K F H sd σ → SlotsOk K F H' (unO sd) σ
  | [], _, h => h
  | z :: zs, σ, h => by
    obtain ⟨o, r, rfl, a, b⟩ := h
    refine ⟨o, r, rfl, ?_, slots_unO b⟩
    cases z with
    | un => trivial
    | val d => exact a
    | gh d G => exact a
    | od l ks ds => trivial
    | ox ls G =>
      cases ls with
      | cons a ls => trivial
      | nil =>
        obtain ⟨v, h2, h3, h4⟩ := a
        exact ⟨v, h2, fun l hl => (nomatch hl), fun F2 H2 s2 _ => h4 F2 H2 s2 fun l hl => (nomatch hl)⟩
    | own l ds => trivial
theorem filter_take_succ {ds : List D} {i : Nat} {d : D} (p : D → Bool) (h : ds[i]? = some d) : (ds.take (i + 1)).filter p = (ds.take i).filter p ++ (if p d then [d] else []) := by
  rw [List.take_add_one, h, List.filter_append]
  cases hp : p d <;> simp [hp]
theorem pd_comp {elt : Expr} {ifs : List Expr} {scope : Scope} {N M : List Str} {cap : List (Option Nat)} {sc : Scope} {Tb : D → List Slot} (p : D → Bool) (f : D → D)
    (hi : PId X (unO sd) PT0 tg iter ds) (hl : ds.length ≤ 1000)
    (hsc : X.env.scope = sc) (hcn : compNames scope sc = true) (hM : X.N = M) (hcap : capNames N M scope sc cap = true) (hk : scope.kind = .function)
    (hg : ∀ cl C fp s H d, d ∈ ds → PGd (cxB X N scope cl C fp s H) (capD cap sd) tg d (Tb d))
    (hle : ∀ d, d ∈ ds → Le (Tb d) (capD cap sd))
    (ht : ∀ cl C fp s H d, d ∈ ds → (ifs = [] ∧ p d = true) ∨ ∃ c, ifs = [c] ∧ PTd (cxB X N scope cl C fp s H) (Tb d) c (p d))
    (he : ∀ cl C fp s H d, d ∈ ds → p d = true → PEd (cxB X N scope cl C fp s H) (Tb d) elt (.val (f d)))
    (hc : X.calm = true := by rfl) (hs : ∀ x, foldedSetIterable iter X.env x = pure x := by intro _; rfl) :
    PEd X sd (.ListComp elt [⟨tg, iter, ifs, 0⟩] scope pos) (.own ((ds.filter p).map f)) := .mk fun σ F H S => by
  refine wE_frame S trivial ?_
  have S0 : StF X.K X.B₀ F F σ (unO sd) := ⟨S.base, Same.refl _, S.smp.sub S.sub, slots_unO S.slots, by rw [owned_unO]; exact List.nodup_nil⟩
  intro pins s I
  have nm : ∀ y ∈ scope.names, (y.2 = NameKind.free → sc.names.lookup y.1 = some NameKind.cell) ∧ (y.2 = NameKind.local → scope.names.lookup y.1 = some NameKind.local) := fun y hy => by
    have q := List.all_eq_true.mp hcn y hy
    simp only [Bool.and_eq_true, Bool.or_eq_true, Bool.not_eq_true', beq_eq_false_iff_ne, ne_eq, beq_iff_eq] at q
    exact ⟨fun e => q.1.1.resolve_left fun z => z e, fun e => q.2.resolve_left fun z => z e⟩
  have fre : ∀ y ∈ scope.names, y.2 = .free → ∃ c, X.env.cells.lookup y.1 = some c := fun y hy e => I.ok.has y.1 (.inl (by show X.env.scope.names.lookup y.1 = _; rw [hsc]; exact (nm y hy).1 e))
  rw [eval_ListComp]
  refine wpAny_comprehension_free (use := none) rfl hs (closure_eq fre) hk (fun y hy => (nm y hy).2) ?_
  refine thn (hi σ F F S0 pins s I) fun v s1 h1 => thn h1 fun itv s2 h2 => ?_
  obtain ⟨it, fp, tn, J, H2, e, I2, T, st2, f2, F1, S1, s1', itd⟩ := h2
  subst e
  have S1b : StF X.K H2 H2 H2 (capt cap σ) (capD cap sd) := ⟨Same.refl _, Same.refl _, S1.smp, by
    have q := capD_ok (sd := unO sd) (H' := H2) S1.slots S1.sub cap
    rw [capD_unO] at q
    exact q, by rw [owned_capD]; exact List.nodup_nil⟩
  refine comp_run (N := N) (cap := cap) (g := fun v σ2 H3 Q => ∀ cl C, wG (cxB X N scope cl C fp s2 H2) tg v σ2 H3 Q) (tt := fun σ2 H3 Q => ∀ cl C, wIfs (cxB X N scope cl C fp s2 H2) ifs σ2 H3 Q) (te := fun σ2 H3 Q => ∀ cl C, wE (cxB X N scope cl C fp s2 H2) elt σ2 H3 Q)
    hc hsc hcn (by rw [hM]; exact hcap) hk I2 T st2 f2 (fun cl C pi s3 σ3 H3 v u Q I3 ru q => q cl C pi s3 u I3 ru) (fun cl C pi s3 σ3 H3 Q I3 q => q cl C pi s3 I3) (fun cl C pi s3 σ3 H3 Q I3 q => q cl C pi s3 I3)
    (fun i m ys σb H3 => m = ds.length - i ∧ i ≤ ds.length ∧ ∃ Fb, StF X.K H2 Fb H3 σb (capD cap sd) ∧ RepL X.K Fb (((ds.take i).filter p).map f) ys) ds.length
    ⟨by simp, Nat.zero_le _, H2, S1b, by simpa using RepL.nil⟩ _ ?_
  rintro i m ys σb H3 ⟨rfl, hil, Fb, Sb, rl⟩
  have sF1 : Same F1 Fb := fun b o g => Sb.base _ _ (S1.sub _ _ g)
  obtain ⟨g1, g2, g3⟩ := itd Fb H3 sF1 Sb.sub Sb.smp trivial i
  by_cases hlt : i < ds.length
  · have hd : ds[i]? = some ds[i] := by simp [hlt]
    have hm : ds[i] ∈ ds := List.getElem_mem hlt
    have ylen : ys.length ≤ i := by
      rw [rl.len, List.length_map]
      exact Nat.le_trans (List.length_filter_le _ _) (by simp; omega)
    refine .inr ⟨g1 hlt, small1000 (by omega), fun ys' σ' H' => ∃ Fb', StF X.K H2 Fb' H' σ' (capD cap sd) ∧ RepL X.K Fb' (((ds.take (i + 1)).filter p).map f) ys', fun ys' σ' H' ⟨Fb', Sb', rl'⟩ => ⟨ds.length - (i + 1), by omega, rfl, hlt, Fb', Sb', rl'⟩, fun x H4 y cl C => ?_⟩
    obtain ⟨F4, s4, rp, up⟩ := g3 x H4 ds[i] hd y
    refine (hg cl C fp s2 H2 _ hm σb F4 H4 x (up _ _ _ Sb) rp).imp fun σ5 H5 ⟨F5, S5, s5⟩ cl2 C2 => ?_
    have rl5 := rl.mono (s4.trans s5)
    have fin : ∀ (b : Bool) (H6 : Hp) (F6 : Hp), b = p ds[i] → StF X.K H2 F6 H6 σ5 (Tb ds[i]) → Same F5 F6 → if b = true then (∀ cl C, wE (cxB X N scope cl C fp s2 H2) elt σ5 H6 fun v H5 => ∃ Fb', StF X.K H2 Fb' H5 σ5 (capD cap sd) ∧ RepL X.K Fb' (((ds.take (i + 1)).filter p).map f) (ys ++ [v])) else ∃ Fb', StF X.K H2 Fb' H6 σ5 (capD cap sd) ∧ RepL X.K Fb' (((ds.take (i + 1)).filter p).map f) ys := fun b H6 F6 eb S6 s6 => by
      rw [filter_take_succ p hd, ← eb]
      cases b with
      | false => exact iteF ⟨F6, S6.le (hle _ hm), by simpa using rl5.mono s6⟩
      | true =>
        refine iteT fun cl3 C3 => (he cl3 C3 fp s2 H2 _ hm eb.symm σ5 F6 H6 S6).imp fun v H7 ⟨F7, S7, s7, q7⟩ => ⟨F7, S7.le (hle _ hm), ?_⟩
        simp only [if_true, List.map_append, List.map_cons, List.map_nil]
        exact ((rl5.mono s6).mono s7).app (.one q7)
    rcases ht cl2 C2 fp s2 H2 _ hm with ⟨e1, e2⟩ | ⟨c, e1, q⟩
    · subst e1
      exact wIfs_nil (fin true H5 F5 e2.symm S5 (Same.refl _))
    · subst e1
      exact wIfs_one ((q σ5 F5 H5 S5).imp fun b H6 ⟨eb, F6, S6, s6⟩ => fin b H6 F6 eb S6 s6)
  · have e : i = ds.length := by omega
    subst e
    refine .inl ⟨g2 (Nat.le_refl _), fun D C s' hD hC hDC h0 hL hcc hpp hst ⟨m', ns'⟩ J' => ⟨m', ns', fun h' sb => ?_⟩⟩
    have J2 : Inv X pins σ (upd H3 D (.lst ys)) { s' with heap := h', toks := s'.toks } := J'.turned (it := C) (fun b o hb g => sb.extBut b o hb g) (by rw [upd_ne (Ne.symm hDC)]; exact hC) hL (.inr h0) hcc hpp
    refine ⟨.ref D, _, J2, rfl, Fb, fun b o g => Sb.base _ _ (S1.sub _ _ (s1' _ _ g)), fun b o g => ?_, fun b o g => ?_, D, ys, rfl, Sb.sub.free hD, upd_same, ?_, by simp [owned]⟩
    · have g3 := Sb.sub _ _ g
      rw [upd_ne (ne_of_none g3 hD)]
      exact g3
    · by_cases hb : b = D
      · subst hb
        rw [upd_same] at g
        cases g
        trivial
      · rw [upd_ne hb] at g
        exact Sb.smp _ _ g
    · simpa using rl
end
end DL

namespace DL
open PySem PySem.Spec PyProof.Rows L2
def isI : D → Bool
  | .int _ => true
  | _ => false
def isIB : D → Bool
  | .int _ => true
  | .bl _ => true
  | _ => false
def isB : D → Bool
  | .bl _ => true
  | _ => false
def isT : D → Bool
  | .tup _ => true
  | _ => false
def isL : D → Bool
  | .lst _ => true
  | .scr _ => true
  | _ => false
theorem kit_int (K : PySem.W.Frag) (d : D) : PySem.W.kitOne K (tyD d) (.type "int") = some (isIB d) := by
  cases d <;> with_unfolding_all rfl
theorem kit_bool (K : PySem.W.Frag) (d : D) : PySem.W.kitOne K (tyD d) (.type "bool") = some (isB d) := by
  cases d <;> with_unfolding_all rfl
theorem kit_tuple (K : PySem.W.Frag) (d : D) : PySem.W.kitOne K (tyD d) (.type "tuple") = some (isT d) := by
  cases d <;> with_unfolding_all rfl
theorem kit_list (K : PySem.W.Frag) (d : D) : PySem.W.kitOne K (tyD d) (.type "list") = some (isL d) := by
  cases d <;> with_unfolding_all rfl

section
variable {X : Cx} {sd : List Slot} {e a b c : Expr} {es : List Expr} {pos : Pos} {r ra rb : R} {d : D} {ds : List D} {st : Stmt} {rest : List Stmt} {E : EndD}
theorem PEd.cast {r' : R} (h : PEd X sd e r) (q : r = r') : PEd X sd e r' := q ▸ h
theorem psd_ifF {k : Bool} {x o : List Stmt} (h : PTd X sd c k) (hk : k = false) (h2 : PSd X sd o E) : PSd1 X sd (.If c x o pos) E := psd_if h (fun e => by rw [hk] at e; cases e) fun _ => h2
theorem psd_ifT {k : Bool} {x o : List Stmt} (h : PTd X sd c k) (hk : k = true) (h2 : PSd X sd x E) : PSd1 X sd (.If c x o pos) E := psd_if h (fun _ => h2) fun e => by rw [hk] at e; cases e
theorem pd_catL {d1 d2 : List D} (ha : PEd X sd a (.bor d1)) (hb : PEd X sd b (.bor d2)) (hl : d1.length + d2.length ≤ 1000) : PEd X sd (.BinOp a .Add b pos) (.own (d1 ++ d2)) :=
  pd_op2 op_cat ha hb trivial fun σ F H v u Q S q1 q2 k => by
    obtain ⟨l, xs, e1, h1, r1, _⟩ := q1
    obtain ⟨m, ys, e2, h2, r2, _⟩ := q2
    refine ⟨l, m, xs, ys, e1, e2, h1, h2, by rw [r1.len, r2.len]; exact Nat.le_of_lt (small1000 hl), fun p hp => ?_⟩
    obtain ⟨S2, fp, no⟩ := S.layO (xs := xs ++ ys) hp
    exact k _ F _ S2 (Same.refl _) ⟨p, _, rfl, fp, upd_same, r1.app r2, no⟩
theorem pd_ixLi {i : Int} (ha : PEd X sd a (.bor ds)) (hb : PEd X sd b (.val (.int i))) (h0 : 0 ≤ i) (hd : ds[i.toNat]? = some d) (hs : PlainIx b) : PEd X sd (.Subscript a b pos) (.val d) := by
  have e : i = (i.toNat : Int) := by omega
  rw [e] at hb
  exact pd_ixL ha hb hd hs
end
theorem bits_small {i : Int} (h : i.natAbs < 2 ^ 250) : Builtin.Int.intBits i ≤ 2 ^ 20 := by
  unfold Builtin.Int.intBits
  split
  · exact Nat.zero_le _
  · rename_i hz
    have hne : i.natAbs ≠ 0 := by
      intro z
      apply hz
      have : i = 0 := by omega
      subst this
      rfl
    have := (Nat.log2_lt hne).mpr h
    have e : (250 : Nat) + 1 ≤ 2 ^ 20 := by decide
    omega
theorem mul_small {i j : Int} (h1 : i.natAbs < 2 ^ 250) (h2 : j.natAbs < 2 ^ 250) : IntMulOk i j := .of_bits (bits_small h1) (bits_small h2)

/-! ### the law's own draws -/
def most : Int := 1000 * 10 ^ 64
def digL : Int → List Int → List Int
  | _, [] => []
  | x, n :: ns => (x % n) :: digL (x / n) ns
theorem digL_len : ∀ (x : Int) (ns : List Int), (digL x ns).length = ns.length
  | _, [] => rfl
  | x, n :: ns => by simp [digL, digL_len]
def sizes14 : List (Int × Int) := [(2, 2), (1, 1), (1, 2), (2, 1), (1, 3), (3, 1), (2, 3), (3, 2), (1, 4), (4, 1), (1, 5), (5, 1), (1, 6), (6, 1)]
def sizD (p : Int × Int) : D := .tup [.int p.1, .int p.2]
def CLaw : List D → R → Prop := fun ds r => ∃ ns : List Int, ds = [.scr ns] ∧ ns.length ≤ 63 ∧ r = .val (.bl true)
def divL : Int → List Int → Int
  | x, [] => x
  | x, n :: ns => divL (x / n) ns
theorem divL_snoc : ∀ (x : Int) (ns : List Int) (n : Int), divL x (ns ++ [n]) = divL x ns / n
  | _, [], _ => rfl
  | x, m :: ns, n => divL_snoc (x / m) ns n
theorem digL_snoc : ∀ (x : Int) (ns : List Int) (n : Int), digL x (ns ++ [n]) = digL x ns ++ [divL x ns % n]
  | _, [], _ => rfl
  | x, m :: ns, n => by
    show (x % m) :: digL (x / m) (ns ++ [n]) = _
    rw [digL_snoc (x / m) ns n]
    rfl
theorem ints_get {ns : List Int} {k : Nat} {d : D} (h : (ns.map D.int)[k]? = some d) : k < ns.length ∧ d = .int (ns.getD k 0) := by
  rw [List.getElem?_map] at h
  cases e : ns[k]? with
  | none =>
    rw [e] at h
    cases h
  | some z =>
    rw [e] at h
    refine ⟨(List.getElem?_eq_some_iff.mp e).1, ?_⟩
    rw [← Option.some.inj h, List.getD, e]
    rfl
theorem pd_two {X : Cx} {sd : List Slot} {i j : Int} {a1 a2 b1 : Nat} {p1 p2 p3 : Pos} (h1 : starEach [Expr.Constant (.int i) a1 p1, Expr.Constant (.int j) a2 p2] X.env = (false, eval (Expr.Constant (.int i) a1 p1) X.env) :: starEach [Expr.Constant (.int j) a2 p2] X.env)
    (h2 : starEach [Expr.Constant (.int j) a2 p2] X.env = (false, eval (Expr.Constant (.int j) a2 p2) X.env) :: starEach [] X.env) : PEd X sd (.Tuple [.Constant (.int i) a1 p1, .Constant (.int j) a2 p2] b1 p3) (.val (sizD (i, j))) :=
  pd_tup (ds := [.int i, .int j]) (pad_cons pd_int (pad_cons pd_int pad_nil trivial h2) trivial h1) (Nat.le_of_ble_eq_true rfl)
theorem getD_mem {α : Type} {l : List α} {i : Nat} {d : α} (h : i < l.length) : l.getD i d ∈ l := by
  have e : l.getD i d = l[i] := by simp [List.getD, h]
  rw [e]
  exact List.getElem_mem h
theorem smp_only {H : Hp} (h : Only H) : Smp H := fun b o e => by
  rcases h b with z | ⟨o', xs, z⟩
  · rw [z] at e
    cases e
  · rw [z] at e
    cases e
    trivial
theorem walkD {l : PySem.W.OpenLaw} {k : Nat} {x : Str} {q : Program} {loose : List Str} {XP : (Str → Option Value) → Heap → Prop} {YP : World → Heap → Prop} {d : DefRec} {K : Params → PySem.W.Frag} (hn : l.most = some 63) (hdf : d.params.defaults = [])
    (hr : Room k callerA) (hY : ∀ (w : World) (h : Heap), YP w h → (K w.params).In h)
    (F : ∀ (w : World) (mg : Str → Option Value) (fa : Addr) (h : Heap), (K w.params).In h → h.Ns mainGlobals mg → mg d.name = some (.ref fa) →
      ∃ fd : FuncData, (∀ (s : Shared) (u : Value), BindsTo s fd ⟨[u], []⟩ [(x, u)]) ∧ ∀ base : Heap, (K w.params).In base → base.Ns mainGlobals mg → FnOk l.prog w (K w.params) mg base CX0 k fa fd [x] (spC (K w.params) 1 CLaw)) :
    PySem.W.WalkO q loose XP YP l.row.toRowW d [] (fun f vs => PySem.call f vs) :=
  L2.walk_of (n := 63) (k := k) (x := x) (CX := fun _ => CX0) (sp := fun w => spC (K w.params) 1 CLaw) hn (by decide) hdf hr hY F
    (fun w H a ns hl ho hS => ⟨rfl, smp_only ho, [.scr ns], .val (.bl true), .one (by simp only [Rep]; exact ⟨a, rfl, hS⟩), ⟨ns, rfl, hl, rfl⟩, fun v H' ⟨F, _, _, _, res⟩ => by simpa only [ResOk, Rep] using res⟩) fun _ _ _ _ _ z => z
end DL

namespace DL
open PySem PySem.Spec PyProof.Rows L2
/-! ### == of data -/
mutual
def deq : D → D → Bool
  | .non, .non => true
  | .bl a, .bl b => a == b
  | .bl a, .int b => (if a then 1 else 0) == b
  | .int a, .bl b => a == (if b then 1 else 0)
  | .int a, .int b => a == b
  | .str a, .str b => a == b
  | .tup a, .tup b => deqL a b
  | .lst a, .lst b => deqL a b
  | _, _ => false
def deqL : List D → List D → Bool
  | [], [] => true
  | x :: xs, y :: ys => deq x y && deqL xs ys
  | _, _ => false
end
mutual
/-- no dict, not the script -/
def pl : D → Bool
  | .dic => false
  | .dki _ _ => false
  | .scr _ => false
  | .tup ds => plL ds
  | .lst ds => plL ds
  | _ => true
def plL : List D → Bool
  | [] => true
  | d :: ds => pl d && plL ds
end
mutual
def dep : D → Nat
  | .tup ds => depL ds + 1
  | .lst ds => depL ds + 1
  | _ => 0
def depL : List D → Nat
  | [] => 0
  | d :: ds => max (dep d) (depL ds)
end
theorem plL_get : ∀ {ds : List D} {i : Nat} {d : D}, plL ds = true → ds[i]? = some d → pl d = true
  | [], i, d, _, e => by simp at e
  | d' :: ds, i, d, h, e => by
    simp only [plL, Bool.and_eq_true] at h
    cases i with
    | zero =>
      simp at e
      subst e
      exact h.1
    | succ i => exact plL_get h.2 (by simpa using e)
theorem depL_get : ∀ {ds : List D} {i : Nat} {d : D}, ds[i]? = some d → dep d ≤ depL ds
  | [], i, d, e => by simp at e
  | d' :: ds, i, d, e => by
    simp only [depL]
    cases i with
    | zero =>
      simp at e
      subst e
      exact Nat.le_max_left _ _
    | succ i => exact Nat.le_trans (depL_get (i := i) (by simpa using e)) (Nat.le_max_right _ _)
theorem deqL_iff : ∀ {xs ys : List D}, deqL xs ys = true ↔ xs.length = ys.length ∧ ∀ (j : Nat) (x y : D), xs[j]? = some x → ys[j]? = some y → deq x y = true
  | [], [] => by simp [deqL]
  | [], y :: ys => by simp [deqL]
  | x :: xs, [] => by simp [deqL]
  | x :: xs, y :: ys => by
    simp only [deqL, Bool.and_eq_true, List.length_cons, deqL_iff (xs := xs) (ys := ys)]
    constructor
    · rintro ⟨h1, h2, h3⟩
      refine ⟨by omega, fun j a b ea eb => ?_⟩
      cases j with
      | zero =>
        simp at ea eb
        subst ea eb
        exact h1
      | succ j => exact h3 j a b (by simpa using ea) (by simpa using eb)
    · rintro ⟨h1, h2⟩
      exact ⟨h2 0 x y rfl rfl, by omega, fun j a b ea eb => h2 (j + 1) a b (by simpa using ea) (by simpa using eb)⟩
mutual
theorem deq_same {K : PySem.W.Frag} {H : Hp} : ∀ {d1 d2 : D} {v : V}, pl d1 = true → Rep K H d1 v → Rep K H d2 v → pl d2 = true → deq d1 d2 = true
  | .non, d2, v, _, r1, r2, _ => by
    simp only [Rep] at r1
    subst r1
    cases d2 <;> simp_all [Rep, deq]
  | .bl b, d2, v, _, r1, r2, _ => by
    simp only [Rep] at r1
    subst r1
    cases d2 <;> simp_all [Rep, deq]
  | .int b, d2, v, _, r1, r2, _ => by
    simp only [Rep] at r1
    subst r1
    cases d2 <;> simp_all [Rep, deq]
  | .str b, d2, v, _, r1, r2, _ => by
    simp only [Rep] at r1
    subst r1
    cases d2 <;> simp_all [Rep, deq]
  | .dic, _, _, h, _, _, _ => by simp [pl] at h
  | .dki _ _, _, _, h, _, _, _ => by simp [pl] at h
  | .scr _, _, _, h, _, _, _ => by simp [pl] at h
  | .tup ds, d2, v, p1, r1, r2, p2 => by
    simp only [Rep] at r1
    obtain ⟨a, xs, rfl, ha, rl⟩ := r1
    cases d2 with
    | tup es =>
      simp only [Rep] at r2
      obtain ⟨a', xs', e, ha', rl'⟩ := r2
      cases e
      rw [ha] at ha'
      cases ha'
      simp only [deq]
      exact deqL_same (by simpa [pl] using p1) rl rl' (by simpa [pl] using p2)
    | lst es =>
      simp only [Rep] at r2
      obtain ⟨a', xs', e, ha', rl'⟩ := r2
      cases e
      rw [ha] at ha'
      cases ha'
    | dic => simp [pl] at p2
    | dki => simp [pl] at p2
    | scr => simp [pl] at p2
    | _ => simp [Rep] at r2
  | .lst ds, d2, v, p1, r1, r2, p2 => by
    simp only [Rep] at r1
    obtain ⟨a, xs, rfl, ha, rl⟩ := r1
    cases d2 with
    | lst es =>
      simp only [Rep] at r2
      obtain ⟨a', xs', e, ha', rl'⟩ := r2
      cases e
      rw [ha] at ha'
      cases ha'
      simp only [deq]
      exact deqL_same (by simpa [pl] using p1) rl rl' (by simpa [pl] using p2)
    | tup es =>
      simp only [Rep] at r2
      obtain ⟨a', xs', e, ha', rl'⟩ := r2
      cases e
      rw [ha] at ha'
      cases ha'
    | dic => simp [pl] at p2
    | dki => simp [pl] at p2
    | scr => simp [pl] at p2
    | _ => simp [Rep] at r2
theorem deqL_same {K : PySem.W.Frag} {H : Hp} : ∀ {ds es : List D} {xs : List V}, plL ds = true → RepL K H ds xs → RepL K H es xs → plL es = true → deqL ds es = true
  | [], es, xs, _, r1, r2, _ => by
    simp only [RepL] at r1
    subst r1
    cases es with
    | nil => rfl
    | cons e es =>
      obtain ⟨y, ys, z, _⟩ := r2.uncons
      cases z
  | d :: ds, es, xs, p1, r1, r2, p2 => by
    obtain ⟨y, ys, rfl, a, rl⟩ := r1.uncons
    cases es with
    | nil =>
      simp only [RepL] at r2
      cases r2
    | cons e es =>
      obtain ⟨y', ys', z, a', rl'⟩ := r2.uncons
      cases z
      simp only [plL, Bool.and_eq_true] at p1 p2
      simp only [deqL, Bool.and_eq_true]
      exact ⟨deq_same p1.1 a a' p2.1, deqL_same p1.2 rl rl' p2.2⟩
end
def isFl : D → Bool
  | .non => true
  | .bl _ => true
  | .int _ => true
  | .str _ => true
  | _ => false
theorem fl_flat {K : PySem.W.Frag} {H : Hp} {d : D} {v : V} (h : isFl d = true) (r : Rep K H d v) : flatV v = true ∧ flt d = some v := by
  cases d <;> simp_all [isFl, Rep, flatV, flt]
section
variable {P : Program} {w : World} {K : PySem.W.Frag} {H : Hp} {s : Shared}
theorem tup_at (hok : HOk P w H s.heap) {ds : List D} {v : V} {u : Value} (r : Rep K H (.tup ds) v) (ru : RelV v u) : ∃ a xs its, u = .ref a ∧ v = .ref a ∧ RepL K H ds xs ∧ Vals xs its ∧ s.heap.IsTuple a its.toArray := by
  simp only [Rep] at r
  obtain ⟨a, xs, rfl, ha, rl⟩ := r
  cases ru
  obtain ⟨_, its, rv, p⟩ := (show ObjOk P w H s.heap a (.tup xs) from hok a _ ha)
  exact ⟨a, xs, its, rfl, rfl, rl, rv, p.tup⟩
theorem lst_at (hok : HOk P w H s.heap) {ds : List D} {v : V} {u : Value} (r : Rep K H (.lst ds) v) (ru : RelV v u) : ∃ a xs its, u = .ref a ∧ v = .ref a ∧ RepL K H ds xs ∧ Vals xs its ∧ s.heap.IsList a its.toArray := by
  simp only [Rep] at r
  obtain ⟨a, xs, rfl, ha, rl⟩ := r
  cases ru
  obtain ⟨_, its, n, rv, p⟩ := (show ObjOk P w H s.heap a (.lst xs) from hok a _ ha)
  exact ⟨a, xs, its, rfl, rfl, rl, rv, _, p, rfl, n, rfl⟩
/-- the items' answers by place -/
def dAt (ds es : List D) (j : Nat) : Bool := match ds[j]?, es[j]? with
  | some x, some y => deq x y
  | _, _ => false
theorem deqL_all (ds es : List D) : ((List.range (min ds.length es.length)).all (dAt ds es) && ds.length == es.length) = deqL ds es := by
  rw [Bool.eq_iff_iff, deqL_iff, Bool.and_eq_true, List.all_eq_true, beq_iff_eq]
  constructor
  · rintro ⟨h1, h2⟩
    refine ⟨h2, fun j x y ex ey => ?_⟩
    have hj : j < ds.length := (List.getElem?_eq_some_iff.mp ex).1
    have := h1 j (List.mem_range.mpr (by omega))
    unfold dAt at this
    rw [ex, ey] at this
    exact this
  · rintro ⟨h1, h2⟩
    refine ⟨fun j hj => ?_, h1⟩
    have hj' := List.mem_range.mp hj
    have e1 : ds[j]? = some (ds[j]'(by omega)) := by simp
    have e2 : es[j]? = some (es[j]'(by omega)) := by simp
    unfold dAt
    rw [e1, e2]
    exact h2 j _ _ e1 e2
theorem deqL_all' {ds es : List D} (h : ds.length = es.length) : (List.range ds.length).all (dAt ds es) = deqL ds es := by
  have := deqL_all ds es
  rw [h] at this ⊢
  simpa using this
theorem deqL_len {ds es : List D} (h : ds.length ≠ es.length) : deqL ds es = false := by
  cases e : deqL ds es with
  | false => rfl
  | true => exact absurd (deqL_iff.mp e).1 h
mutual
theorem eqAt_D (hok : HOk P w H s.heap) : ∀ (d1 : D) {d2 : D} {v1 v2 : V} {u1 u2 : Value} {A : Around}, pl d1 = true → pl d2 = true → Rep K H d1 v1 → Rep K H d2 v2 → RelV v1 u1 → RelV v2 u2 → A.units + dep d1 < cLine → SeqAt.EqAt A s u1 u2 (deq d1 d2)
  | .tup ds, d2, v1, v2, u1, u2, A, p1, p2, r1, r2, ru1, ru2, hu => by
    have hu' : A.units < cLine := by omega
    obtain ⟨a, xs, its, rfl, rfl, rl, rv, ht⟩ := tup_at hok r1 ru1
    cases d2 with
    | non => simp only [Rep] at r2; subst r2; cases ru2; exact SeqAt.EqAt.tuple_none ht hu'
    | bl b => simp only [Rep] at r2; subst r2; cases ru2; exact SeqAt.EqAt.tuple_bool b ht hu'
    | int b => simp only [Rep] at r2; subst r2; obtain ⟨t, rfl⟩ := ru2; exact SeqAt.EqAt.tuple_int b t ht hu'
    | str b => simp only [Rep] at r2; subst r2; obtain ⟨t, rfl⟩ := ru2; exact SeqAt.EqAt.tuple_str b t ht hu'
    | dic => simp [pl] at p2
    | dki => simp [pl] at p2
    | scr => simp [pl] at p2
    | lst es =>
      obtain ⟨b, ys, jts, rfl, rfl, rl2, rv2, hl2⟩ := lst_at hok r2 ru2
      exact SeqAt.EqAt.tuple_list ht hl2 hu'
    | tup es =>
      obtain ⟨b, ys, jts, rfl, e2, rl2, rv2, ht2⟩ := tup_at hok r2 ru2
      by_cases hab : a = b
      · subst hab
        have := deq_same p1 r1 (e2 ▸ r2) p2
        rw [this]
        exact SeqAt.EqAt.same _
      · simp only [deq]
        rw [← deqL_all]
        have l1 : its.toArray.size = ds.length := by rw [List.size_toArray, ← rv.length, rl.len]
        have l2 : jts.toArray.size = es.length := by rw [List.size_toArray, ← rv2.length, rl2.len]
        rw [← l1, ← l2]
        simp only [pl] at p1 p2
        simp only [dep] at hu
        refine .of_refs hab (.tuples ht ht2 hu' fun j h1 h2 => ?_)
        exact eqAt_L hok ds p1 p2 rl rl2 rv rv2 (A := A.in1) (by show A.units + 1 + _ < cLine; omega) (by simp) (by simp)
  | .lst ds, d2, v1, v2, u1, u2, A, p1, p2, r1, r2, ru1, ru2, hu => by
    have hu' : A.units < cLine := by omega
    obtain ⟨a, xs, its, rfl, rfl, rl, rv, ht⟩ := lst_at hok r1 ru1
    cases d2 with
    | non => simp only [Rep] at r2; subst r2; cases ru2; exact SeqAt.EqAt.list_none ht hu'
    | bl b => simp only [Rep] at r2; subst r2; cases ru2; exact SeqAt.EqAt.list_bool b ht hu'
    | int b => simp only [Rep] at r2; subst r2; obtain ⟨t, rfl⟩ := ru2; exact SeqAt.EqAt.list_int b t ht hu'
    | str b => simp only [Rep] at r2; subst r2; obtain ⟨t, rfl⟩ := ru2; exact SeqAt.EqAt.list_str b t ht hu'
    | dic => simp [pl] at p2
    | dki => simp [pl] at p2
    | scr => simp [pl] at p2
    | tup es =>
      obtain ⟨b, ys, jts, rfl, rfl, rl2, rv2, hl2⟩ := tup_at hok r2 ru2
      exact SeqAt.EqAt.list_tuple ht hl2 hu'
    | lst es =>
      obtain ⟨b, ys, jts, rfl, e2, rl2, rv2, ht2⟩ := lst_at hok r2 ru2
      by_cases hab : a = b
      · subst hab
        have := deq_same p1 r1 (e2 ▸ r2) p2
        rw [this]
        exact SeqAt.EqAt.same _
      · simp only [deq]
        have l1 : its.toArray.size = ds.length := by rw [List.size_toArray, ← rv.length, rl.len]
        have l2 : jts.toArray.size = es.length := by rw [List.size_toArray, ← rv2.length, rl2.len]
        simp only [pl] at p1 p2
        simp only [dep] at hu
        by_cases hl : ds.length = es.length
        · rw [← deqL_all' hl, ← l1]
          refine .of_refs hab (.lists ht ht2 (by rw [l1, l2, hl]) hu' fun j h1 h2 => ?_)
          exact eqAt_L hok ds p1 p2 rl rl2 rv rv2 (A := A.in1) (by show A.units + 1 + _ < cLine; omega) (by simp) (by simp)
        · rw [deqL_len hl]
          exact .of_refs hab (.lists_lengths ht ht2 (by rw [l1, l2]; simpa using hl) hu')
  | .dic, _, _, _, _, _, _, p1, _, _, _, _, _, _ => by simp [pl] at p1
  | .dki _ _, _, _, _, _, _, _, p1, _, _, _, _, _, _ => by simp [pl] at p1
  | .scr _, _, _, _, _, _, _, p1, _, _, _, _, _, _ => by simp [pl] at p1
  | .non, d2, v1, v2, u1, u2, A, p1, p2, r1, r2, ru1, ru2, hu => by
    have hu' : A.units < cLine := by omega
    simp only [Rep] at r1
    subst r1
    cases hf : isFl d2 with
    | true =>
      obtain ⟨h1, h2⟩ := fl_flat hf r2
      have := eqAt_V (A := A) (s := s) ru1 ru2 rfl h1
      cases d2 <;> simp_all [isFl, flt, Rep, deq, eqV]
    | false =>
      cases ru1
      cases d2 with
      | tup es => obtain ⟨b, ys, jts, rfl, e2, rl2, rv2, ht2⟩ := tup_at hok r2 ru2; exact SeqAt.EqAt.none_tuple ht2 hu'
      | lst es => obtain ⟨b, ys, jts, rfl, e2, rl2, rv2, ht2⟩ := lst_at hok r2 ru2; exact SeqAt.EqAt.none_list ht2 hu'
      | dic => simp [pl] at p2
      | dki => simp [pl] at p2
      | scr => simp [pl] at p2
      | _ => simp [isFl] at hf
  | .bl q, d2, v1, v2, u1, u2, A, p1, p2, r1, r2, ru1, ru2, hu => by
    have hu' : A.units < cLine := by omega
    simp only [Rep] at r1
    subst r1
    cases hf : isFl d2 with
    | true =>
      obtain ⟨h1, h2⟩ := fl_flat hf r2
      have := eqAt_V (A := A) (s := s) ru1 ru2 rfl h1
      cases d2 <;> simp_all [isFl, flt, Rep, deq, eqV]
    | false =>
      cases ru1
      cases d2 with
      | tup es => obtain ⟨b, ys, jts, rfl, e2, rl2, rv2, ht2⟩ := tup_at hok r2 ru2; exact SeqAt.EqAt.bool_tuple q ht2 hu'
      | lst es => obtain ⟨b, ys, jts, rfl, e2, rl2, rv2, ht2⟩ := lst_at hok r2 ru2; exact SeqAt.EqAt.bool_list q ht2 hu'
      | dic => simp [pl] at p2
      | dki => simp [pl] at p2
      | scr => simp [pl] at p2
      | _ => simp [isFl] at hf
  | .int q, d2, v1, v2, u1, u2, A, p1, p2, r1, r2, ru1, ru2, hu => by
    have hu' : A.units < cLine := by omega
    simp only [Rep] at r1
    subst r1
    cases hf : isFl d2 with
    | true =>
      obtain ⟨h1, h2⟩ := fl_flat hf r2
      have := eqAt_V (A := A) (s := s) ru1 ru2 rfl h1
      cases d2 <;> simp_all [isFl, flt, Rep, deq, eqV]
    | false =>
      obtain ⟨t, rfl⟩ := ru1
      cases d2 with
      | tup es => obtain ⟨b, ys, jts, rfl, e2, rl2, rv2, ht2⟩ := tup_at hok r2 ru2; exact SeqAt.EqAt.int_tuple q t ht2 hu'
      | lst es => obtain ⟨b, ys, jts, rfl, e2, rl2, rv2, ht2⟩ := lst_at hok r2 ru2; exact SeqAt.EqAt.int_list q t ht2 hu'
      | dic => simp [pl] at p2
      | dki => simp [pl] at p2
      | scr => simp [pl] at p2
      | _ => simp [isFl] at hf
  | .str q, d2, v1, v2, u1, u2, A, p1, p2, r1, r2, ru1, ru2, hu => by
    have hu' : A.units < cLine := by omega
    simp only [Rep] at r1
    subst r1
    cases hf : isFl d2 with
    | true =>
      obtain ⟨h1, h2⟩ := fl_flat hf r2
      have := eqAt_V (A := A) (s := s) ru1 ru2 rfl h1
      cases d2 <;> simp_all [isFl, flt, Rep, deq, eqV]
    | false =>
      obtain ⟨t, rfl⟩ := ru1
      cases d2 with
      | tup es => obtain ⟨b, ys, jts, rfl, e2, rl2, rv2, ht2⟩ := tup_at hok r2 ru2; exact SeqAt.EqAt.str_tuple q t ht2 hu'
      | lst es => obtain ⟨b, ys, jts, rfl, e2, rl2, rv2, ht2⟩ := lst_at hok r2 ru2; exact SeqAt.EqAt.str_list q t ht2 hu'
      | dic => simp [pl] at p2
      | dki => simp [pl] at p2
      | scr => simp [pl] at p2
      | _ => simp [isFl] at hf
theorem eqAt_L (hok : HOk P w H s.heap) : ∀ (ds : List D) {es : List D} {xs ys : List V} {its jts : List Value} {j : Nat} {x y : Value} {A : Around}, plL ds = true → plL es = true → RepL K H ds xs → RepL K H es ys → Vals xs its → Vals ys jts → A.units + depL ds < cLine → its[j]? = some x → jts[j]? = some y → SeqAt.EqAt A s x y (dAt ds es j)
  | [], es, xs, ys, its, jts, j, x, y, A, _, _, r1, _, v1, _, _, e1, _ => by
    simp only [RepL] at r1
    subst r1
    cases v1
    simp at e1
  | d :: ds, es, xs, ys, its, jts, j, x, y, A, p1, p2, r1, r2, v1, v2, hu, e1, e2 => by
    obtain ⟨a, as, rfl, ra, rl⟩ := r1.uncons
    cases v1 with
    | cons va vas =>
      cases es with
      | nil =>
        simp only [RepL] at r2
        subst r2
        cases v2
        simp at e2
      | cons e es =>
        obtain ⟨b, bs, rfl, rb, rl2⟩ := r2.uncons
        cases v2 with
        | cons vb vbs =>
          simp only [plL, Bool.and_eq_true] at p1 p2
          simp only [depL] at hu
          cases j with
          | zero =>
            simp at e1 e2
            subst e1 e2
            exact eqAt_D hok d p1.1 p2.1 ra rb va vb (by omega)
          | succ j => exact eqAt_L hok ds p1.2 p2.2 rl rl2 vas vbs (by omega) (by simpa using e1) (by simpa using e2)
end
end

section
variable {X : Cx} {sd : List Slot} {e a b c : Expr} {es : List Expr} {pos : Pos} {r ra rb : R} {d : D} {ds : List D} {st : Stmt} {rest : List Stmt} {E : EndD}
/-- == of two refs: tuples or lists -/
theorem rc_D {pins : List (Addr × Obj)} {σ : St} {H : Hp} {s : Shared} {K : PySem.W.Frag} {d1 d2 : D} {v u : V} {x y : Value} {Q : Value → Shared → Prop} (I : Inv X pins σ H s) (hs : (isT d1 = true ∧ isT d2 = true) ∨ (isL d1 = true ∧ isL d2 = true)) (p1 : pl d1 = true) (p2 : pl d2 = true) (r1 : Rep K H d1 v) (r2 : Rep K H d2 u) (rx : RelV v x) (ry : RelV u y)
    (hu : X.A.units + dep d1 + 1 < cLine) (q : Q (.bool (deq d1 d2)) s) : wpAny (model X.prog X.w) X.A (compareOp .Eq x y) Q X.xe s := by
  have hu' : X.A.units < cLine := by omega
  rcases hs with ⟨t1, t2⟩ | ⟨t1, t2⟩
  · cases d1 <;> first | (simp [isT] at t1; done) | skip
    cases d2 <;> first | (simp [isT] at t2; done) | skip
    rename_i ds es
    obtain ⟨a, xs, its, rfl, rfl, rl, rv, ht⟩ := tup_at I.hok r1 rx
    obtain ⟨b, ys, jts, rfl, rfl, rl2, rv2, ht2⟩ := tup_at I.hok r2 ry
    have l1 : its.toArray.size = ds.length := by rw [List.size_toArray, ← rv.length, rl.len]
    have l2 : jts.toArray.size = es.length := by rw [List.size_toArray, ← rv2.length, rl2.len]
    simp only [pl] at p1 p2
    simp only [dep] at hu
    simp only [deq] at q
    rw [← deqL_all, ← l1, ← l2] at q
    exact SeqAt.eq_tupleAt ht ht2 hu' (fun j h1 h2 => eqAt_L I.hok ds p1 p2 rl rl2 rv rv2 (A := X.A.in1) (by show X.A.units + 1 + _ < cLine; omega) (by simp) (by simp)) q
  · cases d1 <;> first | (simp [isL] at t1; done) | (simp [pl] at p1; done) | skip
    cases d2 <;> first | (simp [isL] at t2; done) | (simp [pl] at p2; done) | skip
    rename_i ds es
    obtain ⟨a, xs, its, rfl, rfl, rl, rv, ht⟩ := lst_at I.hok r1 rx
    obtain ⟨b, ys, jts, rfl, rfl, rl2, rv2, ht2⟩ := lst_at I.hok r2 ry
    have l1 : its.toArray.size = ds.length := by rw [List.size_toArray, ← rv.length, rl.len]
    have l2 : jts.toArray.size = es.length := by rw [List.size_toArray, ← rv2.length, rl2.len]
    simp only [pl] at p1 p2
    simp only [dep] at hu
    simp only [deq] at q
    by_cases hl : ds.length = es.length
    · rw [← deqL_all' hl, ← l1] at q
      exact SeqAt.eq_listAt ht ht2 (by rw [l1, l2, hl]) hu' (fun j h1 h2 => eqAt_L I.hok ds p1 p2 rl rl2 rv rv2 (A := X.A.in1) (by show X.A.units + 1 + _ < cLine; omega) (by simp) (by simp)) q
    · rw [deqL_len hl] at q
      exact SeqAt.eq_list_lengthsAt ht ht2 (by rw [l1, l2]; simpa using hl) hu' q
theorem rc_Dn {pins : List (Addr × Obj)} {σ : St} {H : Hp} {s : Shared} {K : PySem.W.Frag} {d1 d2 : D} {v u : V} {x y : Value} {Q : Value → Shared → Prop} (I : Inv X pins σ H s) (hs : (isT d1 = true ∧ isT d2 = true) ∨ (isL d1 = true ∧ isL d2 = true)) (p1 : pl d1 = true) (p2 : pl d2 = true) (r1 : Rep K H d1 v) (r2 : Rep K H d2 u) (rx : RelV v x) (ry : RelV u y)
    (hu : X.A.units + dep d1 + 1 < cLine) (q : Q (.bool (!deq d1 d2)) s) : wpAny (model X.prog X.w) X.A (compareOp .NotEq x y) Q X.xe s := by
  have hu' : X.A.units < cLine := by omega
  rcases hs with ⟨t1, t2⟩ | ⟨t1, t2⟩
  · cases d1 <;> first | (simp [isT] at t1; done) | skip
    cases d2 <;> first | (simp [isT] at t2; done) | skip
    rename_i ds es
    obtain ⟨a, xs, its, rfl, rfl, rl, rv, ht⟩ := tup_at I.hok r1 rx
    obtain ⟨b, ys, jts, rfl, rfl, rl2, rv2, ht2⟩ := tup_at I.hok r2 ry
    have l1 : its.toArray.size = ds.length := by rw [List.size_toArray, ← rv.length, rl.len]
    have l2 : jts.toArray.size = es.length := by rw [List.size_toArray, ← rv2.length, rl2.len]
    simp only [pl] at p1 p2
    simp only [dep] at hu
    simp only [deq] at q
    rw [← deqL_all, ← l1, ← l2] at q
    exact SeqAt.RcNeAt.tuples ht ht2 hu' (fun j h1 h2 => eqAt_L I.hok ds p1 p2 rl rl2 rv rv2 (A := X.A.in1) (by show X.A.units + 1 + _ < cLine; omega) (by simp) (by simp)) _ _ _ _ q
  · cases d1 <;> first | (simp [isL] at t1; done) | (simp [pl] at p1; done) | skip
    cases d2 <;> first | (simp [isL] at t2; done) | (simp [pl] at p2; done) | skip
    rename_i ds es
    obtain ⟨a, xs, its, rfl, rfl, rl, rv, ht⟩ := lst_at I.hok r1 rx
    obtain ⟨b, ys, jts, rfl, rfl, rl2, rv2, ht2⟩ := lst_at I.hok r2 ry
    have l1 : its.toArray.size = ds.length := by rw [List.size_toArray, ← rv.length, rl.len]
    have l2 : jts.toArray.size = es.length := by rw [List.size_toArray, ← rv2.length, rl2.len]
    simp only [pl] at p1 p2
    simp only [dep] at hu
    simp only [deq] at q
    by_cases hl : ds.length = es.length
    · rw [← deqL_all' hl, ← l1] at q
      exact SeqAt.RcNeAt.lists ht ht2 (by rw [l1, l2, hl]) hu' (fun j h1 h2 => eqAt_L I.hok ds p1 p2 rl rl2 rv rv2 (A := X.A.in1) (by show X.A.units + 1 + _ < cLine; omega) (by simp) (by simp)) _ _ _ _ q
    · rw [deqL_len hl] at q
      exact SeqAt.RcNeAt.lists_lengths ht ht2 (by rw [l1, l2]; simpa using hl) hu' _ _ _ _ q
/-- what a result is as a datum in H -/
theorem ResOk.rep {K : PySem.W.Frag} {H₀ F H : Hp} {σ : St} {v : V} (S : StF K H₀ F H σ sd) (hk : r.keeps) (q : ResOk K F H sd r v) : Rep K H r.toD v := by
  cases r with
  | val d => exact Rep.mono S.sub q
  | own ds => exact hk.elim
  | pr d ls => exact hk.elim
  | ox G => exact hk.elim
  | bor ds =>
    obtain ⟨l, xs, e, hl, rl, _⟩ := q
    simp only [R.toD, Rep]
    exact ⟨l, xs, e, hl, rl.mono S.sub⟩
theorem op_eqD (K : PySem.W.Frag) (d1 d2 : D) (hs : (isT d1 = true ∧ isT d2 = true) ∨ (isL d1 = true ∧ isL d2 = true)) (p1 : pl d1 = true) (p2 : pl d2 = true) (hu : X.A.units + dep d1 + 1 < cLine) : OpR X (compareOp .Eq) (fun x y H Q => Rep K H d1 x ∧ Rep K H d2 y ∧ Q (.bl (deq d1 d2)) H) := by
  intro pins s σ H x y v u Q I rx ry h
  obtain ⟨h1, h2, q⟩ := h
  exact rc_D I hs p1 p2 h1 h2 rx ry hu ⟨.bl (deq d1 d2), H, I, rfl, q⟩
theorem op_neD (K : PySem.W.Frag) (d1 d2 : D) (hs : (isT d1 = true ∧ isT d2 = true) ∨ (isL d1 = true ∧ isL d2 = true)) (p1 : pl d1 = true) (p2 : pl d2 = true) (hu : X.A.units + dep d1 + 1 < cLine) : OpR X (compareOp .NotEq) (fun x y H Q => Rep K H d1 x ∧ Rep K H d2 y ∧ Q (.bl (!deq d1 d2)) H) := by
  intro pins s σ H x y v u Q I rx ry h
  obtain ⟨h1, h2, q⟩ := h
  exact rc_Dn I hs p1 p2 h1 h2 rx ry hu ⟨.bl (!deq d1 d2), H, I, rfl, q⟩
theorem pd_eqD (ha : PEd X sd a ra) (hb : PEd X sd b rb) (ka : ra.keeps) (kb : rb.keeps) (hs : (isT ra.toD = true ∧ isT rb.toD = true) ∨ (isL ra.toD = true ∧ isL rb.toD = true)) (p1 : pl ra.toD = true) (p2 : pl rb.toD = true) (hu : X.A.units + dep ra.toD + 1 < cLine) : PEd X sd (.Compare a [.Eq] [b] pos) (.val (.bl (deq ra.toD rb.toD))) :=
  pd_cmp2 (op_eqD X.K _ _ hs p1 p2 hu) ha hb ka (nomark _) fun σ F H v u Q S q1 q2 k => ⟨q1.rep S ka, q2.rep S kb, k F H S (Same.refl _)⟩
theorem ptd_neD (ha : PEd X sd a ra) (hb : PEd X sd b rb) (ka : ra.keeps) (kb : rb.keeps) (hs : (isT ra.toD = true ∧ isT rb.toD = true) ∨ (isL ra.toD = true ∧ isL rb.toD = true)) (p1 : pl ra.toD = true) (p2 : pl rb.toD = true) (hu : X.A.units + dep ra.toD + 1 < cLine) : PTd X sd (.Compare a [.NotEq] [b] pos) (!deq ra.toD rb.toD) :=
  ptd_cmp2 (op_neD X.K _ _ hs p1 p2 hu) ha hb ka (nomark _) fun σ F H v u Q S q1 q2 k => ⟨q1.rep S ka, q2.rep S kb, k F H S (Same.refl _)⟩
/-- t + u -/
def rCatT0 (K : PySem.W.Frag) : R2 := fun x y H Q => ∃ a b ys, x = .ref a ∧ y = .ref b ∧ SqT K H a [] ∧ SqT K H b ys ∧ Q (.ref b) H
theorem op_catT0 : OpR X (binaryOp .Add) (rCatT0 X.K) := by
  intro pins s σ H x y v u Q I rx ry h
  obtain ⟨a, b, ys, rfl, rfl, ha, hb, q⟩ := h
  cases rx
  cases ry
  obtain ⟨its, r1, p1, _⟩ := I.tuple ha
  obtain ⟨its2, r2, p2, _⟩ := I.tuple hb
  cases r1
  obtain ⟨⟨cls, dd, data, sl⟩, ho, hc, n, hd⟩ := id p1
  obtain ⟨⟨cls2, dd2, data2, sl2⟩, ho2, hc2, n2, hd2⟩ := id p2
  simp only at hc hd hc2 hd2
  subst hc hd hc2 hd2
  exact concat_meets ⟨_, ho, rfl⟩ ⟨_, ho2, rfl⟩ noFill_tuple_add seq_tuple_add PySem.F.slot_tuple_add PySem.F.entry_tuple_add (PySem.F.args_tuple_add_2 _ _)
    (tuple_addW0 a b ([] : List Value).toArray its2.toArray n n2 dd dd2 sl sl2 (by simp)) ⟨ho, ho2, ⟨.ref b, H, I, rfl, q⟩⟩
theorem pd_catT {d1 d2 : List D} (ha : PEd X sd a (.val (.tup d1))) (hb : PEd X sd b (.val (.tup d2))) (hl : d1.length + d2.length ≤ 1000) : PEd X sd (.BinOp a .Add b pos) (.val (.tup (d1 ++ d2))) :=
  pd_op2 (op_catT0.or op_catT) ha hb trivial fun σ F H v u Q S q1 q2 k => by
    simp only [ResOk, Rep] at q1 q2
    obtain ⟨p, xs, e1, hp, rl⟩ := q1
    obtain ⟨q, ys, e2, hq, rl2⟩ := q2
    cases d1 with
    | nil =>
      simp only [RepL] at rl
      subst rl
      refine .inl ⟨p, q, ys, e1, e2, .of (S.sub _ _ hp), .of (S.sub _ _ hq), k _ F H S (Same.refl _) ?_⟩
      simp only [ResOk, Rep, List.nil_append]
      exact ⟨q, ys, rfl, hq, rl2⟩
    | cons z zs =>
      refine .inr ⟨p, q, xs, ys, e1, e2, .of (S.sub _ _ hp), .of (S.sub _ _ hq), ?_, by rw [rl.len, rl2.len]; exact Nat.le_of_lt (small1000 hl), fun hy => ?_, fun hy p2 hp2 => ?_⟩
      · intro hx
        subst hx
        obtain ⟨_, _, w, _⟩ := rl.uncons
        cases w
      · subst hy
        have : d2 = [] := by
          cases d2 with
          | nil => rfl
          | cons w ws => obtain ⟨_, _, w, _⟩ := rl2.uncons; cases w
        subst this
        refine k _ F H S (Same.refl _) ?_
        simp only [ResOk, Rep, List.append_nil]
        exact ⟨p, xs, rfl, hp, rl⟩
      · obtain ⟨S2, s2⟩ := S.lay (o := .tup (xs ++ ys)) hp2 trivial
        refine k _ _ _ S2 s2 ?_
        simp only [ResOk, Rep]
        exact ⟨p2, _, rfl, upd_same, (rl.app rl2).mono s2⟩
/-- tuple(l) -/
theorem pd_tupleL {p : Pos} (hg : Gl X "tuple") (hm : X.mg "tuple" = none) (ha : PEd X sd e (.bor ds)) (hst : starEach [e] X.env = (false, eval e X.env) :: starEach [] X.env := by rfl) : PEd X sd (.Call (.Name "tuple" p) [e] [] pos) (.val (.tup ds)) :=
  pd_callTy (he := hst) call_tuple_of hg hm PyProof.Rows.boot_tuple (pad_cons ha pad_nil trivial hst) fun σ F H vs Q S q k => by
    cases q with
    | cons q1 q2 =>
      cases q2
      obtain ⟨p, xs, rfl, hp, rl, _⟩ := q1
      refine ⟨p, xs, rfl, .inl ⟨.of hp, fun l hl => ?_⟩⟩
      obtain ⟨S2, s2⟩ := S.lay (o := .tup xs) hl trivial
      refine k _ _ _ S2 s2 ?_
      simp only [ResOk, Rep]
      exact ⟨l, xs, rfl, upd_same, rl.mono s2⟩
end
end DL

namespace DL
open PySem PySem.Spec PyProof.Rows L2
section
variable {X : Cx} {sd : List Slot} {e a b c tg iter : Expr} {es : List Expr} {pos : Pos} {r ra rb : R} {d : D} {ds : List D} {st : Stmt} {rest : List Stmt} {E : EndD}
/-! ### slices -/
def cutD (ds : List D) (lo hi : Option Int) : List D := (ds.drop (HT.sIx ds.length 0 lo)).take (HT.sIx ds.length ds.length hi - HT.sIx ds.length 0 lo)
theorem RepL.cut {K : PySem.W.Frag} {H : Hp} {xs : List V} (r : RepL K H ds xs) (lo hi : Option Int) : RepL K H (cutD ds lo hi) (cutV xs lo hi) := by
  unfold cutD cutV
  rw [r.len]
  exact (r.drop _).take _
def POd (X : Cx) (sd : List Slot) (e : Option Expr) (o : Option Int) : Prop := match e, o with
  | none, none => True
  | some e, some i => PEd X sd e (.val (.int i))
  | _, _ => False
theorem pod_run {eo : Option Expr} {o : Option Int} (h : POd X sd eo o) : ∃ t : TO, PO X eo t ∧ ∀ (σ : St) (F H : Hp), StF X.K X.B₀ F H σ sd → ∀ Q : Option Int → Hp → Prop, (∀ F' H', StF X.K X.B₀ F' H' σ sd → Same F F' → Q o H') → t σ H Q := by
  cases eo with
  | none =>
    cases o with
    | none => exact ⟨_, po_none, fun σ F H S Q k => k F H S (Same.refl _)⟩
    | some i => exact h.elim
  | some e =>
    cases o with
    | none => exact h.elim
    | some i =>
      have h : PEd X sd e (.val (.int i)) := h
      refine ⟨_, po_some pe_w, fun σ F H S Q k => (h σ F H S).imp fun v H1 ⟨F1, S1, s1, q1⟩ => ?_⟩
      simp only [ResOk, Rep] at q1
      exact ⟨i, q1, k F1 H1 S1 s1⟩
theorem pd_slL {lo hi : Option Expr} {ol oh : Option Int} {p2 : Pos} (ha : PEd X sd a (.bor ds)) (hl : POd X sd lo ol) (hh : POd X sd hi oh) : PEd X sd (.Subscript a (.Slice lo hi none p2) pos) (.own (cutD ds ol oh)) := .mk fun σ F H S => by
  obtain ⟨tl, pl, kl⟩ := pod_run hl
  obtain ⟨th, ph, kh⟩ := pod_run hh
  refine (pe_slice sl_list pe_w pl ph).to ((ha σ F H S).imp fun v H1 ⟨F1, S1, s1, q1⟩ => kl σ F1 H1 S1 _ fun F2 H2 S2 s2 => kh σ F2 H2 S2 _ fun F3 H3 S3 s3 => ?_)
  obtain ⟨l, xs, rfl, hl', rl, _⟩ := ResOk.keep (r := .bor ds) trivial q1 S3 (s2.trans s3)
  refine ⟨l, xs, rfl, .of hl', fun p hp => ?_⟩
  obtain ⟨S4, fp, no⟩ := S3.layO (xs := cutV xs ol oh) hp
  exact ⟨F3, S4, (s1.trans s2).trans s3, p, _, rfl, fp, upd_same, rl.cut ol oh, no⟩
theorem pd_neg {i : Int} (ha : PEd X sd a (.val (.int i))) : PEd X sd (.UnaryOp .USub a pos) (.val (.int (-i))) := .mk fun σ F H S =>
  (pe_un un_neg pe_w).to ((ha σ F H S).imp fun v H1 ⟨F1, S1, s1, q1⟩ => by
    simp only [ResOk, Rep] at q1
    exact ⟨i, q1, F1, S1, s1, by simp only [ResOk, Rep]⟩)
end
end DL

namespace DL
open PySem PySem.Spec PyProof.Rows L2
section
variable {X : Cx} {sd : List Slot} {e a b c tg iter : Expr} {es : List Expr} {pos : Pos} {r ra rb : R} {d : D} {ds : List D} {st : Stmt} {rest : List Stmt} {E : EndD}
/-- for, its states by what holds of them -/
theorem psd_forG {body : List Stmt} {P : Hp → Hp → Prop} (Sd : Nat → List Slot → Prop) (hi : PId X sd P tg iter ds) (h0 : ∃ sd0, Le sd sd0 ∧ Sd 0 sd0)
    (hb : ∀ k d sdk, ds[k]? = some d → Sd k sdk → ∃ sdt, PGd X sdk tg d sdt ∧ PSd X sdt body { E with nx := fun sd' => ∃ sd2, Le sd' sd2 ∧ Sd (k + 1) sd2, ct := fun sd' => ∃ sd2, Le sd' sd2 ∧ Sd (k + 1) sd2, bk := E.nx }) (hE : ∀ sdn, Sd ds.length sdn → E.nx sdn) (hP : ∀ k sdk σ F H, Sd k sdk → StF X.K X.B₀ F H σ sdk → P F H := by intros; trivial)
    (hc : X.calm = true := by rfl) (hp : PassesOwn (model X.prog X.w) X.A X.env X.xe := by exact PassesOwn.never) (hs : ∀ x, foldedSetIterable iter X.env x = pure x := by intro _; rfl) : PSd1 X sd (.For tg iter body [] pos) E := .mk fun σ F H S =>
  (ps_for hp hc pi_w pg_w pss_w hs).to (by
    intro pins s I
    refine thn (hi σ F H S pins s I) fun v s1 h1 => thn h1 fun itv s2 h2 => ?_
    obtain ⟨it, fp, tn, J, H2, e, I2, T, st2, f2, F1, S1, s1', itd⟩ := h2
    refine ⟨it, fp, tn, J, H2, e, I2, T, st2, f2, ?_⟩
    obtain ⟨sd0, le0, q0⟩ := h0
    refine ⟨fun i m σ' H' => m = ds.length - i ∧ i ≤ ds.length ∧ ∃ sdi F', StF X.K X.B₀ F' H' σ' sdi ∧ Same F1 F' ∧ Sd i sdi, ⟨ds.length, by simp, Nat.zero_le _, sd0, F1, S1.le le0, Same.refl _, q0⟩, ?_⟩
    rintro i m σ' H' ⟨rfl, hil, sdi, F', S', s', qi⟩
    obtain ⟨g1, g2, g3⟩ := itd F' H' s' S'.sub S'.smp (hP _ _ _ _ _ qi S') i
    by_cases hlt : i < ds.length
    · refine .inr ⟨g1 hlt, fun σ2 H2 => ∃ sd2 F2, StF X.K X.B₀ F2 H2 σ2 sd2 ∧ Same F1 F2 ∧ Sd (i + 1) sd2, fun σ2 H2 ⟨sd2, F2, S2, s2, q2⟩ => ⟨ds.length - (i + 1), by omega, rfl, hlt, sd2, F2, S2, s2, q2⟩, fun x H2 y => ?_⟩
      have hd : ds[i]? = some ds[i] := by simp [hlt]
      obtain ⟨F2, s2, rp, up⟩ := g3 x H2 ds[i] hd y
      obtain ⟨sdt, hg, hbb⟩ := hb i _ sdi hd qi
      refine (hg σ' F2 H2 x (up _ _ _ S') rp).imp fun σ3 H3 ⟨F3, S3, s3⟩ => ?_
      have base : Same F1 F3 := (s'.trans s2).trans s3
      refine (hbb σ3 F3 H3 S3).imp ?_ ?_ ?_ ?_
      · rintro σ4 H4 ⟨sd4, F4, S4, s4, sd5, le, q5⟩
        exact ⟨sd5, F4, S4.le le, base.trans s4, q5⟩
      · exact fun v H4 q => q
      · rintro σ4 H4 ⟨sd4, F4, S4, s4, q⟩
        exact ⟨sd4, F4, S4, (s1'.trans base).trans s4, q⟩
      · rintro σ4 H4 ⟨sd4, F4, S4, s4, sd5, le, q5⟩
        exact ⟨sd5, F4, S4.le le, base.trans s4, q5⟩
    · have e : i = ds.length := by omega
      subst e
      exact .inl ⟨g2 (Nat.le_refl _), sdi, F', S', s1'.trans s', hE sdi qi⟩)
end
/-! ### fillings -/
def filI (m : Nat) : Nat → List (List Int)
  | 0 => [[]]
  | k + 1 => (filI m k).flatMap fun s => (List.range m).map fun (w : Nat) => s ++ [(w : Int)]
def tupI (s : List Int) : D := .tup (s.map D.int)
def numI (m : Int) (ws : List Int) : Int := ws.foldl (fun n w => n * m + w) 0
theorem sz14 : ∀ p ∈ sizes14, 1 ≤ p.1 ∧ p.1 ≤ 6 ∧ 1 ≤ p.2 ∧ p.2 ≤ 6 ∧ p.1 * p.2 ≤ 6 := by decide +kernel
theorem fil_mem {m : Nat} : ∀ {k : Nat} {ws : List Int}, ws.length = k → (∀ w ∈ ws, 0 ≤ w ∧ w < m) → ws ∈ filI m k
  | 0, ws, h, _ => by
    have : ws = [] := List.length_eq_zero_iff.mp h
    subst this
    simp [filI]
  | k + 1, ws, h, hw => by
    have hne : ws ≠ [] := by
      intro z
      subst z
      simp at h
    have e : ws = ws.dropLast ++ [ws.getLast hne] := (List.dropLast_concat_getLast hne).symm
    have hl := hw (ws.getLast hne) (List.getLast_mem hne)
    have ih : ws.dropLast ∈ filI m k := fil_mem (by rw [List.length_dropLast, h]; rfl) fun w hm => hw w (List.dropLast_subset _ hm)
    show ws ∈ (filI m k).flatMap fun s => (List.range m).map fun (w : Nat) => s ++ [(w : Int)]
    refine List.mem_flatMap.mpr ⟨_, ih, List.mem_map.mpr ⟨(ws.getLast hne).toNat, List.mem_range.mpr (by omega), ?_⟩⟩
    have : (((ws.getLast hne).toNat : Nat) : Int) = ws.getLast hne := by omega
    rw [this]
    exact e.symm
structure FilOk (b k : Nat) : Prop where
  len : (filI (2 ^ b) k).length = 2 ^ (b * k)
  at_ : ∀ i, i < 2 ^ (b * k) → ((filI (2 ^ b) k).getD i []).length = k ∧ (∀ w ∈ (filI (2 ^ b) k).getD i [], 0 ≤ w ∧ w < 2 ^ b) ∧ numI (2 ^ b) ((filI (2 ^ b) k).getD i []) = i ∧ (i = 0 ∨ HT.lexLt ((filI (2 ^ b) k).getD (i - 1) []) ((filI (2 ^ b) k).getD i []) = true)
theorem deq_ints : ∀ (ws vs : List Int), deqL (ws.map D.int) (vs.map D.int) = decide (ws = vs)
  | [], [] => by simp [deqL]
  | [], _ :: _ => by simp [deqL]
  | _ :: _, [] => by simp [deqL]
  | w :: ws, v :: vs => by
    simp only [List.map_cons, deqL, deq, deq_ints ws vs]
    by_cases h1 : w = v <;> by_cases h2 : ws = vs <;> simp [h1, h2]
theorem deq_tupI (ws vs : List Int) : deq (tupI ws) (tupI vs) = decide (ws = vs) := by
  unfold tupI
  simp only [deq, deq_ints]
theorem plL_ints : ∀ ws : List Int, plL (ws.map D.int) = true
  | [] => rfl
  | w :: ws => by simp [plL, pl, plL_ints ws]
theorem depL_ints : ∀ ws : List Int, depL (ws.map D.int) = 0
  | [] => rfl
  | w :: ws => by simp [depL, dep, depL_ints ws]
theorem pl_tupI (ws : List Int) : pl (tupI ws) = true := by simp [tupI, pl, plL_ints]
theorem dep_tupI (ws : List Int) : dep (tupI ws) = 1 := by simp [tupI, dep, depL_ints]
theorem plL_tups : ∀ L : List (List Int), plL (L.map tupI) = true
  | [] => rfl
  | w :: ws => by simp [plL, pl_tupI, plL_tups ws]
theorem depL_tups : ∀ L : List (List Int), depL (L.map tupI) ≤ 1
  | [] => by simp [depL]
  | w :: ws => by
    have := depL_tups ws
    simp only [List.map_cons, depL, dep_tupI]
    omega
theorem mul64 {i j : Int} (h1 : -(2 ^ 64) < j) (h2 : j < 2 ^ 64) : IntMulOk i j := .of_right (intBits_le_64 h1 h2)
theorem pow_tab : ∀ n : Nat, n ≤ 6 → ([.int 1, .int 2, .int 4, .int 8, .int 16, .int 32, .int 64] : List D)[n]? = some (.int (((2 ^ n : Nat) : Int))) := by
  intro n hn
  match n, hn with
  | 0, _ => rfl
  | 1, _ => rfl
  | 2, _ => rfl
  | 3, _ => rfl
  | 4, _ => rfl
  | 5, _ => rfl
  | 6, _ => rfl
theorem tups_get {L : List (List Int)} {k : Nat} {d : D} (h : (L.map tupI)[k]? = some d) : k < L.length ∧ d = tupI (L.getD k []) := by
  rw [List.getElem?_map] at h
  cases e : L[k]? with
  | none =>
    rw [e] at h
    cases h
  | some z =>
    rw [e] at h
    refine ⟨(List.getElem?_eq_some_iff.mp e).1, ?_⟩
    rw [← Option.some.inj h, List.getD, e]
    rfl
end DL

namespace DL
open PySem PySem.Spec PyProof.Rows L2
section
variable {X : Cx} {sd : List Slot} {e a b c tg iter : Expr} {es : List Expr} {pos : Pos} {r ra rb : R} {d : D} {ds : List D} {st : Stmt} {rest : List Stmt} {E : EndD}
/-- xs[k] = v, xs a list of ours -/
theorem psd_setix (i : Nat) {x : Str} {p tp : Pos} {ix : Expr} {l : Addr} {n : Nat} (hs : sd[i]? = some (.own l ds)) (hx : PE X (.Name x p) (tVar i)) (h : PEd X sd e (.val d)) (hi : PEd X sd ix (.val (.int (n : Int)))) (hn : n < ds.length) (hE : E.nx (sd.set i (.own l (ds.set n d))))
    (ha : ∀ v, assign (.Subscript (.Name x p) ix tp) X.env v = (do
      let ov ← holding [v] (eval (.Name x p) X.env)
      let iv ← holding [v, ov] (eval ix X.env)
      standAt tp
      holding [v, ov, iv] (setItem ov iv v)
      release [v, ov, iv] []) := by intro _; rfl)
    (hs1 : swapsWithSole [.Subscript (.Name x p) ix tp] e pos.line X.env = pure false := by rfl) (hw : swappedStores [.Subscript (.Name x p) ix tp] e X.env = pure none := by rfl)
    (h1 : (assignEach [.Subscript (.Name x p) ix tp] X.env).map (·.2) = [assign (.Subscript (.Name x p) ix tp) X.env] := by rfl) : PSd1 X sd (.Assign [.Subscript (.Name x p) ix tp] e pos) E := .mk fun σ F H S =>
  (ps_asg pe_w (pg_sub hx pe_w set_list ha) hs1 hw h1).to ((h σ F H S).imp fun v H1 ⟨F1, S1, s1, q1⟩ => by
    obtain ⟨o, g1, g2, n1, xs, q, rl⟩ := S1.slots.get hs
    refine ⟨.ref l, by rw [g1, g2], (hi σ F1 H1 S1).imp fun y H2 ⟨F2, S2, s2, q2⟩ => ?_⟩
    simp only [ResOk, Rep] at q2
    subst q2
    obtain ⟨o', g1', g2', n', xs', q', rl'⟩ := S2.slots.get hs
    have lx : n < xs'.length := by rw [rl'.len]; exact hn
    refine ⟨l, xs', (n : Int), n, rfl, rfl, q', ?_, _, F2, S2.wr hs (rl'.set (Rep.mono s2 q1) n), s1.trans s2, hE⟩
    unfold ixN
    rw [if_pos (by omega), if_pos (by omega), Int.toNat_natCast])
end
end DL

namespace DL
open PySem PySem.Spec PyProof.Rows L2
/-! ### steps -/
def stepNames : List Str := ["and", "or", "xor", "add", "take", "copy", "put", "not", "up", "down"]
def nm (k : Nat) : Str := stepNames.getD k "down"
def selfW (k : Nat) (m a : Int) : Int := match k with
  | 7 => m - 1 - a
  | 8 => a * 2 % m
  | _ => a / 2
def anoW (k : Nat) (m a c : Int) : Int := match k with
  | 0 => Builtin.bitAnd a c
  | 1 => Builtin.bitOr a c
  | 2 => Builtin.bitXor a c
  | 3 => (a + c) % m
  | 4 => (a - c) % m
  | _ => c
def newW (k : Nat) (m a c n : Int) : Int := if k = 6 then n else if 7 ≤ k then selfW k m a else anoW k m a c
section
variable {X : Cx} {sd : List Slot} {e a b c tg iter : Expr} {es : List Expr} {pos : Pos} {d : D}
theorem RepL.strs {K : PySem.W.Frag} {H : Hp} : ∀ {ss : List Str} {xs : List V}, RepL K H (ss.map D.str) xs → xs = ss.map V.str
  | [], xs, r => by simpa only [List.map_nil, RepL] using r
  | n :: ns, xs, r => by
    rw [List.map_cons] at r
    obtain ⟨y, ys, rfl, a, rl⟩ := r.uncons
    simp only [Rep] at a
    rw [a, RepL.strs rl]
    rfl
end
end DL

namespace DL
open PySem PySem.Spec PyProof.Rows L2
section
variable {X : Cx} {sd : List Slot} {e a b c tg iter : Expr} {es : List Expr} {pos : Pos} {d : D}
theorem pd_eqI {i j : Int} (ha : PEd X sd a (.val (.int i))) (hb : PEd X sd b (.val (.int j))) : PEd X sd (.Compare a [.Eq] [b] pos) (.val (.bl (decide (i = j)))) :=
  pd_cmp2 op_eq ha hb trivial (nomark _) fun σ F H v u Q S q1 q2 k => by
    simp only [ResOk, Rep] at q1 q2
    subst q1
    subst q2
    refine ⟨rfl, ?_⟩
    have e : decide (V.int i = V.int j) = decide (i = j) := by rw [dec_int, Bool.beq_eq_decide_eq]
    rw [e]
    exact k F H S (Same.refl _)
end
end DL

namespace DL
open PySem PySem.Spec PyProof.Rows L2
section
variable {X : Cx} {sd : List Slot} {e a b c tg iter o : Expr} {es : List Expr} {pos : Pos} {r ra rb : R} {d : D} {ds : List D} {st : Stmt} {rest : List Stmt} {E : EndD}
theorem PEd.ic {i j : Int} (h : PEd X sd e (.val (.int i))) (q : i = j) : PEd X sd e (.val (.int j)) := q ▸ h
theorem PWd.cast {k k' : Bool} (h : PWd X sd e k) (q : k = k') : PWd X sd e k' := q ▸ h
end
end DL

namespace DL
open PySem PySem.Spec PyProof.Rows L2
/-! ### a list of ours, lent for one look -/
mutual
def noL : D → Bool
  | .tup ds => noLs ds
  | .lst _ => false
  | .scr _ => false
  | .dic => false
  | .dki _ _ => false
  | _ => true
def noLs : List D → Bool
  | [] => true
  | d :: ds => noL d && noLs ds
end
def del (F : Hp) (l : Addr) : Hp := fun b => if b = l then none else F b
theorem del_ne {F : Hp} {l b : Addr} (h : b ≠ l) : del F l b = F b := by unfold del; rw [if_neg h]
theorem del_same {F : Hp} {l : Addr} : del F l l = none := by unfold del; rw [if_pos rfl]
mutual
theorem Rep.del {K : PySem.W.Frag} {F : Hp} {l : Addr} {xs : List V} (hl : F l = some (.lst xs)) : ∀ {d : D} {v : V}, noL d = true → Rep K F d v → Rep K (del F l) d v
  | .non, _, _, r => by simpa only [Rep] using r
  | .bl _, _, _, r => by simpa only [Rep] using r
  | .int _, _, _, r => by simpa only [Rep] using r
  | .str _, _, _, r => by simpa only [Rep] using r
  | .tup ds, v, h, r => by
    simp only [Rep] at r ⊢
    obtain ⟨a, ys, e, q, rl⟩ := r
    have ne : a ≠ l := fun z => by
      rw [z, hl] at q
      cases q
    exact ⟨a, ys, e, by rw [del_ne ne]; exact q, RepL.del hl (by simpa only [noL] using h) rl⟩
  | .lst _, _, h, _ => by simp [noL] at h
  | .dic, _, h, _ => by simp [noL] at h
  | .dki _ _, _, h, _ => by simp [noL] at h
  | .scr _, _, h, _ => by simp [noL] at h
theorem RepL.del {K : PySem.W.Frag} {F : Hp} {l : Addr} {xs : List V} (hl : F l = some (.lst xs)) : ∀ {ds : List D} {ys : List V}, noLs ds = true → RepL K F ds ys → RepL K (del F l) ds ys
  | [], _, _, r => by simpa only [RepL] using r
  | d :: ds, ys, h, r => by
    simp only [noLs, Bool.and_eq_true] at h
    obtain ⟨y, zs, rfl, a, rl⟩ := r.uncons
    exact .cons (Rep.del hl h.1 a) (RepL.del hl h.2 rl)
end
theorem slots_of {K : PySem.W.Frag} {F H : Hp} : ∀ {sd : List Slot} {σ : St}, σ.length = sd.length → (∀ (k : Nat) (z : Slot), sd[k]? = some z → ∃ o, σ[k]? = some o ∧ SlotOk K F H z o) → SlotsOk K F H sd σ
  | [], [], _, _ => rfl
  | z :: zs, o :: r, hl, h => by
    obtain ⟨o', e, q⟩ := h 0 z rfl
    have : o = o' := by simpa using e
    subst this
    exact ⟨o, r, rfl, q, slots_of (by simpa using hl) fun k z hz => by
      obtain ⟨o', e, q⟩ := h (k + 1) z (by simpa using hz)
      exact ⟨o', by simpa using e, q⟩⟩
  | [], _ :: _, hl, _ => by simp at hl
  | _ :: _, [], hl, _ => by simp at hl
/-- the other lists of ours hold no lists -/
def okS : Slot → Bool
  | .own _ ds => noLs ds
  | .od _ _ ds => noLs ds
  | .ox _ _ => false
  | _ => true
def Oth (sd : List Slot) (i : Nat) : Prop := ∀ (k : Nat) (z : Slot), k ≠ i → sd[k]? = some z → okS z = true
section
variable {K : PySem.W.Frag} {H₀ F F' H H' : Hp} {σ : St} {sd : List Slot} {i : Nat} {l : Addr} {ds : List D} {xs : List V}
theorem StF.back (S : StF K H₀ F H σ sd) (hs : sd[i]? = some (.own l ds)) (hx : H l = some (.lst xs)) (ho : Oth sd i) (S' : StF K H₀ F' H' σ (sd.set i (.val (.lst ds)))) (s : Same (upd F l (.lst xs)) F') : StF K H₀ (del F' l) H' σ sd ∧ Same F (del F' l) ∧ F' l = some (.lst xs) := by
  obtain ⟨o, h1, h2, n, ys, q, rl⟩ := S.slots.get hs
  rw [hx] at q
  cases q
  have fl : F' l = some (.lst xs) := s _ _ upd_same
  have sF : Same F (del F' l) := fun b u e => by
    have ne : b ≠ l := ne_of_none e n
    rw [del_ne ne]
    exact s _ _ (by rw [upd_ne ne]; exact e)
  refine ⟨⟨fun b u e => sF _ _ (S.base _ _ e), fun b u e => ?_, S'.smp, ?_, S.nd⟩, sF, fl⟩
  · by_cases h : b = l
    · subst h
      rw [del_same] at e
      cases e
    · rw [del_ne h] at e
      exact S'.sub _ _ e
  · refine slots_of S.slots.len fun k z hz => ?_
    by_cases hk : k = i
    · subst hk
      rw [hs] at hz
      cases hz
      exact ⟨o, h1, h2, del_same, xs, S'.sub _ _ fl, rl.mono sF⟩
    · obtain ⟨o1, g1, g2⟩ := S.slots.get hz
      obtain ⟨o2, g3, g4⟩ := S'.slots.get (i := k) (z := z) (by rw [List.getElem?_set_ne (Ne.symm hk)]; exact hz)
      rw [g1] at g3
      cases g3
      refine ⟨o1, g1, ?_⟩
      cases z with
      | un => trivial
      | val d =>
        obtain ⟨v, e, r⟩ := g2
        exact ⟨v, e, r.mono sF⟩
      | gh d G =>
        obtain ⟨v, e, r, g⟩ := g2
        exact ⟨v, e, r.mono sF, fun F2 s2 => g F2 (sF.trans s2)⟩
      | own l' ds' =>
        obtain ⟨e, n', ys, q', rl'⟩ := g4
        have ne : l' ≠ l := fun e2 => by
          rw [e2, fl] at n'
          cases n'
        exact ⟨e, by rw [del_ne ne]; exact n', ys, q', RepL.del fl (ho k _ hk hz) rl'⟩
      | od l' ks ds' =>
        obtain ⟨e, n', ys, q', ln, rl'⟩ := g4
        have ne : l' ≠ l := fun e2 => by
          rw [e2, fl] at n'
          cases n'
        exact ⟨e, by rw [del_ne ne]; exact n', ys, q', ln, RepL.del fl (ho k _ hk hz) rl'⟩
      | ox ls G => exact absurd (ho k _ hk hz) (by simp [okS])
end
section
variable {X : Cx} {sd : List Slot} {e a b c tg iter o : Expr} {es : List Expr} {pos : Pos} {r ra rb : R} {d : D} {ds : List D} {st : Stmt} {rest : List Stmt} {E : EndD}
theorem PTd.cast {k k' : Bool} (h : PTd X sd e k) (q : k = k') : PTd X sd e k' := q ▸ h
end
end DL

namespace DL
open PySem PySem.Spec PyProof.Rows L2
section
variable {X : Cx} {sd : List Slot} {e a b c tg iter o : Expr} {es : List Expr} {pos : Pos} {r ra rb : R} {d : D} {ds : List D} {st : Stmt} {rest : List Stmt} {E : EndD}
/-- x = y, y a list of ours: it goes over -/
theorem psd_move (i j : Nat) {x y : Str} {p q : Pos} {l : Addr} (hs : sd[j]? = some (.own l ds)) (hN : X.N.Nodup) (hi : X.N[i]? = some x) (hx : Loc X.env.scope x) (hy : PE X (.Name y q) (tVar j)) (hE : E.nx ((sd.set j .un).set i (.own l ds))) (hsw : swapsWith (.Name y q) (some (.Name x p)) pos.line X.env = pure false := by rfl)
    (hf : X.fn x = true ∨ X.env.scope.names.lookup x = some .local := by first | exact .inl rfl | exact .inr rfl | assumption) : PSd1 X sd (.Assign [.Name x p] (.Name y q) pos) E := .mk fun σ F H S =>
  (ps_set hN hi hx hy hsw hf).to (by
    obtain ⟨o, h1, h2, n, xs, g, rl⟩ := S.slots.get hs
    exact ⟨.ref l, by rw [h1, h2], _, F, (S.le (le_set_un sd j)).setO i n g rl (not_owned S.nd hs), Same.refl _, hE⟩)
theorem ptd_eqD (ha : PEd X sd a ra) (hb : PEd X sd b rb) (ka : ra.keeps) (kb : rb.keeps) (hs : (isT ra.toD = true ∧ isT rb.toD = true) ∨ (isL ra.toD = true ∧ isL rb.toD = true)) (p1 : pl ra.toD = true) (p2 : pl rb.toD = true) (hu : X.A.units + dep ra.toD + 1 < cLine) : PTd X sd (.Compare a [.Eq] [b] pos) (deq ra.toD rb.toD) :=
  ptd_cmp2 (op_eqD X.K _ _ hs p1 p2 hu) ha hb ka (nomark _) fun σ F H v u Q S q1 q2 k => ⟨q1.rep S ka, q2.rep S kb, k F H S (Same.refl _)⟩
/-- int(truth) -/
theorem call_intB : CallR X (.type "int") (fun xs H Q => ∃ k, xs = [.bl k] ∧ Q (.int (if k then 1 else 0)) H) := by
  intro pins s σ H xs us Q I r h
  obtain ⟨k, rfl, q⟩ := h
  obtain ⟨u, rfl, ru⟩ := vals1 r
  cases (show u = Value.bool k from ru)
  exact call_int_bool ⟨.int _, H, I.kept fun b o g => g, ⟨_, rfl⟩, q⟩
theorem pd_intB {p : Pos} {k : Bool} (hg : Gl X "int") (hm : X.mg "int" = none) (ha : PEd X sd e (.val (.bl k))) (hst : starEach [e] X.env = (false, eval e X.env) :: starEach [] X.env := by rfl) : PEd X sd (.Call (.Name "int" p) [e] [] pos) (.val (.int (if k then 1 else 0))) :=
  pd_callTy (he := hst) call_intB hg hm PyProof.Rows.boot_int (pad_cons ha pad_nil trivial hst) fun σ F H vs Q S q kk => by
    cases q with
    | cons q1 q2 =>
      cases q2
      simp only [ResOk, Rep] at q1
      subst q1
      exact ⟨k, rfl, kk _ F H S (Same.refl _) (by simp only [ResOk, Rep])⟩
/-- script[lo:hi] -/
theorem pd_slS {ns : List Int} {lo hi : Option Expr} {ol oh : Option Int} {p2 : Pos} (ha : PEd X sd a (.val (.scr ns))) (hl : POd X sd lo ol) (hh : POd X sd hi oh) : PEd X sd (.Subscript a (.Slice lo hi none p2) pos) (.own (DL.cutD (ns.map D.int) ol oh)) := .mk fun σ F H S => by
  obtain ⟨tl, pl, kl⟩ := pod_run hl
  obtain ⟨th, ph, kh⟩ := pod_run hh
  refine (pe_slice sl_list pe_w pl ph).to ((ha σ F H S).imp fun v H1 ⟨F1, S1, s1, q1⟩ => kl σ F1 H1 S1 _ fun F2 H2 S2 s2 => kh σ F2 H2 S2 _ fun F3 H3 S3 s3 => ?_)
  have q1 := Rep.mono (s2.trans (s3.trans S3.sub)) q1
  simp only [Rep] at q1
  obtain ⟨l, rfl, hl'⟩ := q1
  refine ⟨l, _, rfl, hl', fun p hp => ?_⟩
  obtain ⟨S4, fp, no⟩ := S3.layO (xs := cutV (ns.map V.int) ol oh) hp
  have rl : RepL X.K F3 (ns.map D.int) (ns.map V.int) := by
    have g : ∀ l : List Int, RepL X.K F3 (l.map D.int) (l.map V.int) := fun l => by
      induction l with
      | nil => exact .nil
      | cons k l ih => exact .cons (by simp only [Rep]) ih
    exact g ns
  exact ⟨F3, S4, (s1.trans s2).trans s3, p, _, rfl, fp, upd_same, rl.cut ol oh, no⟩
end
end DL

namespace DL
open PySem PySem.Spec PyProof.Rows L2
/-! ### streams -/
def strN (x : Int) : Nat → Int
  | 0 => x
  | k + 1 => (strN x k * strN x k + 48271 * strN x k + (k : Int)) % 2147483647
def strE (x : Int) (m : Nat) : List Int := (List.range m).map fun (k : Nat) => (strN x (k + 1) * 40692 + 7 * (k : Int)) % 2147483399
def streamL (c : Int) (m : Nat) : List Int := if c % 2 = 1 then digL (c / 2) (List.replicate m 2147483647) else (strE (c / 2 % 2147483647 + 48271) (m + 1)).drop 1
theorem stream_len (c : Int) (m : Nat) : (streamL c m).length = m := by
  unfold streamL
  split
  · rw [digL_len, List.length_replicate]
  · simp [strE]
theorem digL_rng : ∀ (ns : List Int) (x : Int), (∀ n ∈ ns, n = 2147483647) → ∀ z ∈ digL x ns, 0 ≤ z ∧ z < 2147483647
  | [], x, _, z, hz => by cases hz
  | n :: ns, x, h, z, hz => by
    have en := h n List.mem_cons_self
    subst en
    rcases List.mem_cons.mp hz with rfl | hz
    · exact ⟨Int.emod_nonneg _ (by decide), Int.emod_lt_of_pos _ (by decide)⟩
    · exact digL_rng ns _ (fun n hn => h n (List.mem_cons_of_mem _ hn)) z hz
theorem stream_rng (c : Int) (m : Nat) : ∀ z ∈ streamL c m, 0 ≤ z ∧ z < 2147483647 := by
  unfold streamL
  split
  · exact digL_rng _ _ fun n hn => (List.mem_replicate.mp hn).2
  · intro z hz
    have hz := List.mem_of_mem_drop hz
    obtain ⟨k, _, rfl⟩ := List.mem_map.mp hz
    have h1 := Int.emod_nonneg (strN (c / 2 % 2147483647 + 48271) (k + 1) * 40692 + 7 * (k : Int)) (show (2147483399 : Int) ≠ 0 by decide)
    have h2 := Int.emod_lt_of_pos (strN (c / 2 % 2147483647 + 48271) (k + 1) * 40692 + 7 * (k : Int)) (show (0 : Int) < 2147483399 by decide)
    exact ⟨h1, by omega⟩
theorem stream_at (c : Int) {m i : Nat} (h : i < m) : 0 ≤ (streamL c m).getD i 0 ∧ (streamL c m).getD i 0 < 2147483647 := stream_rng c m _ (getD_mem (by rw [stream_len]; exact h))
theorem strN_rng (x : Int) (hx : 0 ≤ x ∧ x < 2147600000) : ∀ k, 0 ≤ strN x k ∧ strN x k < 2147600000
  | 0 => hx
  | k + 1 => by
    have h1 := Int.emod_nonneg (strN x k * strN x k + 48271 * strN x k + (k : Int)) (show (2147483647 : Int) ≠ 0 by decide)
    have h2 := Int.emod_lt_of_pos (strN x k * strN x k + 48271 * strN x k + (k : Int)) (show (0 : Int) < 2147483647 by decide)
    exact ⟨h1, by show _ % _ < _; omega⟩
theorem strE_snoc (x : Int) (m : Nat) : strE x (m + 1) = strE x m ++ [(strN x (m + 1) * 40692 + 7 * (m : Int)) % 2147483399] := by
  unfold strE
  rw [List.range_succ, List.map_append]
  rfl
def CCell : List D → R → Prop := fun ds r => ∃ (ns : List Int) (k : Nat), ds = [.scr ns, .int (k : Int)] ∧ k ≤ 1000 ∧ r = .val (.int (ns.getD k 0))
def CStream : List D → R → Prop := fun ds r => ∃ (c : Int) (m : Nat), ds = [.int c, .int (m : Int)] ∧ m ≤ 200 ∧ r = .own ((streamL c m).map D.int)
/-! ### sizes, steps, stocks -/
def sizesB : List (Int × Int) := [(2, 2), (1, 2), (2, 1), (1, 3), (3, 1), (1, 4), (4, 1), (1, 1), (2, 3), (3, 2), (1, 5), (5, 1), (1, 6), (6, 1)]
def sizeB (c : Int) : Int × Int := sizesB.getD (c % 14).toNat (2, 2)
theorem sizesB_sub : ∀ p ∈ sizesB, p ∈ sizes14 := by decide +kernel
theorem sizeB_mem (c : Int) : sizeB c ∈ sizes14 := by
  have h0 := Int.emod_nonneg c (show (14 : Int) ≠ 0 by decide)
  have h1 := Int.emod_lt_of_pos c (show (0 : Int) < 14 by decide)
  exact sizesB_sub _ (getD_mem (by show _ < 14; omega))
def CSizeB : List D → R → Prop := fun ds r => ∃ c, ds = [.int c] ∧ r = .val (sizD (sizeB c))
def CTwo : List D → R → Prop := fun ds r => ∃ k : Int, ds = [.int k] ∧ 0 ≤ k ∧ k ≤ 6 ∧ r = .val (.int ((2 ^ k.toNat : Nat) : Int))
abbrev SQ := Nat × Int × Int × Int
structure SqOk (p : Int × Int) (q : SQ) : Prop where
  sz : p ∈ sizes14
  k10 : q.1 < 10
  i0 : 0 ≤ q.2.1 ∧ q.2.1 < p.2
  j0 : 0 ≤ q.2.2.1 ∧ q.2.2.1 < p.2
  n0 : 0 ≤ q.2.2.2 ∧ q.2.2.2 < ((2 ^ p.1.toNat : Nat) : Int)
abbrev SK := SQ × Int
structure StkOk (p : Int × Int) (L : List SK) : Prop where
  pos : 0 < L.length
  le : L.length ≤ 8
  st : ∀ s ∈ L, SqOk p s.1 ∧ 1 ≤ s.2 ∧ s.2 ≤ 9
/-! ### words, fillings -/
structure Fil (p : Int × Int) (ws : List Int) : Prop where
  len : ws.length = p.2.toNat
  wd : ∀ w ∈ ws, 0 ≤ w ∧ w < ((2 ^ p.1.toNat : Nat) : Int)
def nwQ (p : Int × Int) (q : SQ) (ws : List Int) : Int := newW q.1 ((2 ^ p.1.toNat : Nat) : Int) (ws.getD q.2.1.toNat 0) (ws.getD q.2.2.1.toNat 0) q.2.2.2
def onQ (p : Int × Int) (q : SQ) (ws : List Int) : List Int := ws.set q.2.1.toNat (nwQ p q ws)
def rowQ (p : Int × Int) (L : List SK) (row : List Nat) (ws : List Int) : List Int := row.foldl (fun f t => onQ p (L.getD t default).1 f) ws
theorem fil_Fil {p : Int × Int} (hp : p ∈ sizes14) {ws : List Int} (h : ws ∈ filI (2 ^ p.1.toNat) p.2.toNat) : Fil p ws := by
  have g : ∀ (m k : Nat), ∀ s ∈ filI m k, s.length = k ∧ ∀ x ∈ s, 0 ≤ x ∧ x < (m : Int) := fun m k => by
    induction k with
    | zero =>
      intro s h
      have : s = [] := by simpa [filI] using h
      subst this
      exact ⟨rfl, fun x hx => by cases hx⟩
    | succ k ih =>
      intro s h
      obtain ⟨t, ht, hs⟩ := List.mem_flatMap.mp h
      obtain ⟨w, hw, rfl⟩ := List.mem_map.mp hs
      obtain ⟨a, b⟩ := ih t ht
      refine ⟨by rw [List.length_append, a]; rfl, fun x hx => ?_⟩
      rcases List.mem_append.mp hx with hx | hx
      · exact b x hx
      · have e : x = (w : Int) := by simpa using hx
        have := List.mem_range.mp hw
        omega
  obtain ⟨a, b⟩ := g _ _ ws h
  exact ⟨a, b⟩
def CFilB : List D → R → Prop := fun ds r => ∃ ws vs : List Int, ds = [tupI ws, tupI vs] ∧ ws.length ≤ 100 ∧ r = .val (.bl (decide (ws = vs)))
def prcL (L : List SK) (row : List Nat) : List Int := row.map fun t => (L.getD t default).2
def sumI (l : List Int) : Int := preSum (fun i => l.getD i 0) l.length
end DL

namespace DL
open PySem PySem.Spec PyProof.Rows L2
section
variable {X : Cx} {sd : List Slot} {e a b c tg iter o : Expr} {es : List Expr} {pos : Pos} {r ra rb : R} {d : D} {ds : List D} {st : Stmt} {rest : List Stmt} {E : EndD}
/-- list(xs) -/
theorem pd_listL {p : Pos} (hg : Gl X "list") (hm : X.mg "list" = none) (ha : PEd X sd e (.bor ds)) (hst : starEach [e] X.env = (false, eval e X.env) :: starEach [] X.env := by rfl) : PEd X sd (.Call (.Name "list" p) [e] [] pos) (.own ds) :=
  pd_callTy (he := hst) call_list_of hg hm PyProof.Rows.boot_list (pad_cons ha pad_nil trivial hst) fun σ F H vs Q S q k => by
    cases q with
    | cons q1 q2 =>
      cases q2
      obtain ⟨p, xs, rfl, hp, rl, _⟩ := q1
      refine ⟨p, xs, rfl, .inl (.of hp), fun l hl => ?_⟩
      obtain ⟨S2, fp, no⟩ := S.layO (xs := xs) hl
      exact k _ F _ S2 (Same.refl _) ⟨l, xs, rfl, fp, upd_same, rl, no⟩
end
mutual
theorem deq_refl : ∀ d : D, pl d = true → deq d d = true
  | .non, _ => rfl
  | .bl b, _ => by simp [deq]
  | .int i, _ => by simp [deq]
  | .str x, _ => by simp [deq]
  | .tup ds, h => by
    simp only [deq]
    exact deqL_refl ds (by simpa only [pl] using h)
  | .lst ds, h => by
    simp only [deq]
    exact deqL_refl ds (by simpa only [pl] using h)
  | .dic, h => by simp [pl] at h
  | .dki _ _, h => by simp [pl] at h
  | .scr _, h => by simp [pl] at h
theorem deqL_refl : ∀ ds : List D, plL ds = true → deqL ds ds = true
  | [], _ => rfl
  | d :: ds, h => by
    simp only [plL, Bool.and_eq_true] at h
    simp only [deqL, Bool.and_eq_true]
    exact ⟨deq_refl d h.1, deqL_refl ds h.2⟩
end
end DL

namespace DL
open PySem PySem.Spec PyProof.Rows L2
/-! ### zip of two, each a list or a tuple -/
def ItAt (tp : Bool) (h : Heap) (it src : Addr) (i : Nat) : Prop := match tp with
  | true => h.IsTupleIter it src i
  | false => h.IsListIter it src i
def SqAt (tp : Bool) (h : Heap) (src : Addr) (xs : Array Value) : Prop := match tp with
  | true => h.IsTuple src xs
  | false => h.IsList src xs
theorem ItAt.ex {tp : Bool} {h : Heap} {it src : Addr} {i : Nat} (x : ItAt tp h it src i) : ∃ o, h.get? it = some o ∧ ∀ v, o.data ≠ .cell v := by
  cases tp with
  | true =>
    obtain ⟨o, e, _, d⟩ := (show h.IsTupleIter it src i from x)
    exact ⟨o, e, fun v z => by rw [d] at z; cases z⟩
  | false =>
    obtain ⟨o, e, _, d⟩ := (show h.IsListIter it src i from x)
    exact ⟨o, e, fun v z => by rw [d] at z; cases z⟩
theorem ItAt.keep {tp : Bool} {h h' : Heap} {it src : Addr} {i : Nat} (x : ItAt tp h it src i) (k : ∀ o, h.get? it = some o → h'.get? it = some o) : ItAt tp h' it src i := by
  cases tp with
  | true => exact Heap.IsTupleIter.at (show h.IsTupleIter it src i from x) k
  | false => exact Heap.IsListIter.at (show h.IsListIter it src i from x) k
theorem SqAt.keep {tp : Bool} {h h' : Heap} {src : Addr} {xs : Array Value} (x : SqAt tp h src xs) (k : ∀ o, h.get? src = some o → h'.get? src = some o) : SqAt tp h' src xs := by
  cases tp with
  | true => exact Heap.IsTuple.at (show h.IsTuple src xs from x) k
  | false => exact Heap.IsList.at (show h.IsList src xs from x) k
theorem SqAt.lt {tp : Bool} {h : Heap} {src : Addr} {xs : Array Value} (x : SqAt tp h src xs) : src < h.objs.size := by
  cases tp with
  | true =>
    obtain ⟨o, e, _⟩ := (show h.IsTuple src xs from x)
    exact Heap.lt_size e
  | false =>
    obtain ⟨o, e, _⟩ := (show h.IsList src xs from x)
    exact Heap.lt_size e
section
variable {prog : Program} {w : World} {A : Around} {E : Value → Shared → Prop} {s : Shared}
theorem nxT_item {it t : Addr} {i : Nat} {items : Array Value} {x : Value} {Q : Value → Shared → Prop} (hit : s.heap.IsTupleIter it t i) (hl : s.heap.IsTuple t items) (hx : items[i]? = some x) (hQ : ∀ h', h'.IsTupleIter it t (i + 1) → Heap.SameBut it s.heap h' → Q x { s with heap := h' }) : wpAny (model prog w) A (Builtin.SmallTypes.nextOf (.ref it)) Q E s := by
  unfold Builtin.SmallTypes.nextOf
  obtain ⟨o, ho, hc, hd⟩ := id hit
  obtain ⟨ol, hol, _, nl, hdl⟩ := hl
  refine wpAny_bind (wpAny_callSpecial?_slot (name := Str.ofString "__next__") hit.typeIs F.slot_tuple_iterator_next (wpAny_call_entry F.slot_tuple_iterator_next hit.typeIs F.entry_tuple_iterator_next ?_ (F.args_tuple_iterator_next_1 _)))
  show wpAny _ _ (field (.ref it) 0 >>= fun l => if (l == Value.none) = true then _ else field (.ref it) 1 >>= _) _ _ s
  refine wpAny_bind (wpAny_field ho hd (x := .ref t) rfl ?_)
  rw [if_neg (by exact Bool.false_ne_true)]
  refine wpAny_bind (wpAny_field ho hd (x := .int i 0) rfl (show wpAny _ _ (seqItems? (.ref t) >>= _) _ _ s from wpAny_bind (wpAny_seqItems hol hdl ?_)))
  simp only [Int.toNat_natCast, hx]
  refine wpAny_bind (wpAny_setField ho hd (by simp) (wpAny_pure ⟨x, rfl, wpAny_pure (hQ _ ⟨_, Heap.get?_update_self _ ho (Obj.isFreed_of_fields (Obj.data_mapFields hd _)), (Obj.cls_mapFields ..).trans hc, ?_⟩ (Heap.SameBut.update ..))⟩))
  rw [Obj.data_mapFields hd]
  simp [rawInt]
theorem nxT_end {it t : Addr} {i : Nat} {items : Array Value} {Q : Value → Shared → Prop} (hh : A.handled = none) (hit : s.heap.IsTupleIter it t i) (hl : s.heap.IsTuple t items) (hx : items[i]? = none)
    (hE : ∀ h' e, Heap.ExtBut it s.heap h' → (∃ o, h'.get? e = some o ∧ o.cls = .type "StopIteration") → E (.ref e) { s with heap := h' }) : wpAny (model prog w) A (Builtin.SmallTypes.nextOf (.ref it)) Q E s := by
  unfold Builtin.SmallTypes.nextOf
  obtain ⟨o, ho, hc, hd⟩ := id hit
  obtain ⟨ol, hol, _, nl, hdl⟩ := hl
  refine wpAny_bind (wpAny_callSpecial?_slot (name := Str.ofString "__next__") hit.typeIs F.slot_tuple_iterator_next (wpAny_call_entry F.slot_tuple_iterator_next hit.typeIs F.entry_tuple_iterator_next ?_ (F.args_tuple_iterator_next_1 _)))
  show wpAny _ _ (field (.ref it) 0 >>= fun l => if (l == Value.none) = true then _ else field (.ref it) 1 >>= _) _ _ s
  refine wpAny_bind (wpAny_field ho hd (x := .ref t) rfl ?_)
  rw [if_neg (by exact Bool.false_ne_true)]
  refine wpAny_bind (wpAny_field ho hd (x := .int i 0) rfl (show wpAny _ _ (seqItems? (.ref t) >>= _) _ _ s from wpAny_bind (wpAny_seqItems hol hdl ?_)))
  simp only [Int.toNat_natCast, hx]
  refine wpAny_bind (wpAny_rule (wpAny_bind (wpAny_setField ho hd (by simp) (show wpAny _ _ (newExc (.type "StopIteration") [] >>= _) _ _ _ from wpAny_bind ?_))))
  simp only [newExc, newTuple]
  refine wpAny_bind (wpAny_newObj_type (wpAny_bind (m := firstArgMember _ _) (wpAny_of_eq (a := Value.none) (by first | rfl | (simp only [firstArgMember]; rfl)) (wpAny_newObj_type ?_ (by size_fits)))) (by size_fits))
  simp only [raiseNew]
  refine wpAny_bind (wpAny_handled ?_)
  rw [show A.in1.handled = none from hh]
  exact wpAny_bind (wpAny_pure (wpAny_throw (hE _ _ (((Heap.SameBut.update ..).extBut.push _).push _) ⟨_, Heap.get?_push_size _ rfl, rfl⟩)))
theorem nx_item {tp : Bool} {it t : Addr} {i : Nat} {items : Array Value} {x : Value} {Q : Value → Shared → Prop} (hit : ItAt tp s.heap it t i) (hl : SqAt tp s.heap t items) (hx : items[i]? = some x) (hQ : ∀ h', ItAt tp h' it t (i + 1) → Heap.SameBut it s.heap h' → Q x { s with heap := h' }) : wpAny (model prog w) A (Builtin.SmallTypes.nextOf (.ref it)) Q E s := by
  cases tp with
  | true => exact nxT_item hit hl hx hQ
  | false => exact wpAny_nextOf_list_item hit hl hx hQ
theorem nx_end {tp : Bool} {it t : Addr} {i : Nat} {items : Array Value} {Q : Value → Shared → Prop} (hh : A.handled = none) (hit : ItAt tp s.heap it t i) (hl : SqAt tp s.heap t items) (hx : items[i]? = none)
    (hE : ∀ h' e, Heap.ExtBut it s.heap h' → (∃ o, h'.get? e = some o ∧ o.cls = .type "StopIteration") → E (.ref e) { s with heap := h' }) : wpAny (model prog w) A (Builtin.SmallTypes.nextOf (.ref it)) Q E s := by
  cases tp with
  | true => exact nxT_end hh hit hl hx hE
  | false => exact wpAny_nextOf_list_end hh hit hl hx hE
theorem zz_item {p1 p2 : Bool} {z TI TO i1 i2 l1 l2 : Addr} {k1 k2 : Nat} {xs ys : Array Value} {x y a b : Value} {Q : Value → Shared → Prop} (D : ZipApart z TI TO i1 i2 l1 l2)
    (hz : IsZip s.heap z TI TO .none) (hTI : IsPair s.heap TI (.ref i1) (.ref i2)) (hTO : IsPair s.heap TO a b) (h1 : ItAt p1 s.heap i1 l1 k1) (h2 : ItAt p2 s.heap i2 l2 k2) (hl1 : SqAt p1 s.heap l1 xs) (hl2 : SqAt p2 s.heap l2 ys) (hx : xs[k1]? = some x) (hy : ys[k2]? = some y)
    (hQ : ∀ h', IsZip h' z TI TO (rawInt s.heap.objs.size) → IsPair h' TO x y → ItAt p1 h' i1 l1 (k1 + 1) → ItAt p2 h' i2 l2 (k2 + 1) → IsPair h' s.heap.objs.size x y → h'.objs.size = s.heap.objs.size + 1 → (∀ c o, c ≠ z → c ≠ TO → c ≠ i1 → c ≠ i2 → s.heap.get? c = some o → h'.get? c = some o) → Q (.ref s.heap.objs.size) { s with heap := h' }) :
    wpAny (model prog w) A (Builtin.«zip.__next__» ⟨[.ref z], []⟩) (fun fin s' => ∃ v, fin = .done (.ret v) ∧ Q v s') E s := by
  refine (show wpAny _ _ (field (.ref z) 2 >>= fun _ => field (.ref z) 3 >>= _) _ _ _ from wpAny_bind (wpAny_field hz rfl (x := .bool false) rfl (wpAny_bind (wpAny_field hz rfl (x := .ref TI) rfl (wpAny_bind (wpAny_seqItems hTI rfl ?_))))))
  refine (show wpAny _ _ (Builtin.SmallTypes.ownedTupleIsFree (.ref z) >>= _) _ _ _ from wpAny_bind ?_)
  unfold Builtin.SmallTypes.ownedTupleIsFree
  refine wpAny_bind (wpAny_field hz rfl (x := .none) rfl (wpAny_pure ?_))
  simp only [if_true]
  refine wpAny_bind (wpAny_rule (wpAny_bind (wpAny_field hz rfl (x := .ref TO) rfl (wpAny_bind (wpAny_setField_rec hz (by simp) fun g1 hz1 s1 => ?_)))))
  replace hz1 : IsZip g1 z TI TO .ellipsis := hz1
  refine wpAny_bind ?_
  simp only [List.zipIdx_cons, List.zipIdx_nil, List.forIn_cons, List.forIn_nil]
  have s1' := s1.extBut
  refine wpAny_bind (wpAny_bind (wpAny_onRaise (show wpAny _ _ (Builtin.SmallTypes.nextOf (.ref i1) >>= _) _ _ _ from wpAny_bind (nx_item (h1.keep fun o e => s1' _ _ D.i1z e) (hl1.keep fun o e => s1' _ _ D.l1z e) hx fun g2 n1 s2 => wpAny_pure ?_))))
  have s2' := s2.extBut
  have o2 : IsPair g2 TO a b := s2' _ _ D.TOi1 (s1' _ _ D.TOz hTO)
  refine wpAny_bind (wpAny_seqItems o2 rfl (wpAny_bind (wpAny_updateSeq_pair o2 fun g3 o3 s3 => wpAny_bind (wpAny_letGo (wpAny_pure ?_)))))
  replace o3 : IsPair g3 TO x b := o3
  have s3' := s3.extBut
  refine wpAny_bind (wpAny_bind (wpAny_onRaise (show wpAny _ _ (Builtin.SmallTypes.nextOf (.ref i2) >>= _) _ _ _ from wpAny_bind (nx_item (h2.keep fun o e => s3' _ _ D.TOi2.symm (s2' _ _ D.i12.symm (s1' _ _ D.i2z e))) (hl2.keep fun o e => s3' _ _ D.l2TO (s2' _ _ D.l2i1 (s1' _ _ D.l2z e))) hy fun g4 n2 s4 => wpAny_pure ?_))))
  have s4' := s4.extBut
  have o4 : IsPair g4 TO x b := s4' _ _ D.TOi2 o3
  refine wpAny_bind (wpAny_seqItems o4 rfl (wpAny_bind (wpAny_updateSeq_pair o4 fun g5 o5 s5 => wpAny_bind (wpAny_letGo (wpAny_pure (wpAny_pure ?_))))))
  replace o5 : IsPair g5 TO x y := o5
  have s5' := s5.extBut
  refine wpAny_bind (wpAny_seqItems o5 rfl (wpAny_bind (wpAny_newTuple ?_)))
  have sz : g5.objs.size = s.heap.objs.size := by rw [s5.1, s4.1, s3.1, s2.1, s1.1]
  have z5 : IsZip g5 z TI TO .ellipsis := s5' _ _ D.TOz.symm (s4' _ _ D.i2z.symm (s3' _ _ D.TOz.symm (s2' _ _ D.i1z.symm hz1)))
  have k5 : ∀ c o, c ≠ z → c ≠ TO → c ≠ i1 → c ≠ i2 → s.heap.get? c = some o → g5.get? c = some o := fun c o c1 c2 c3 c4 e => s5' _ _ c2 (s4' _ _ c4 (s3' _ _ c2 (s2' _ _ c3 (s1' _ _ c1 e))))
  have m1 : ItAt p1 g5 i1 l1 (k1 + 1) := n1.keep fun o e => s5' _ _ D.TOi1.symm (s4' _ _ D.i12 (s3' _ _ D.TOi1.symm e))
  have m2 : ItAt p2 g5 i2 l2 (k2 + 1) := n2.keep fun o e => s5' _ _ D.TOi2.symm e
  have zlt : z < g5.objs.size := Heap.lt_size z5
  refine (show wpAny _ _ (Builtin.SmallTypes.ownedTupleHandOut (.ref z) (.ref g5.objs.size) >>= _) _ _ _ from wpAny_bind ?_)
  unfold Builtin.SmallTypes.ownedTupleHandOut
  refine wpAny_bind (wpAny_setField_rec (show IsZip (g5.push { cls := .type "tuple", data := .seq #[x, y] }) z TI TO .ellipsis from Heap.get?_push_of_some _ z5) (by simp) fun g7 z7 s7 => ?_)
  replace z7 : IsZip g7 z TI TO (rawInt g5.objs.size) := z7
  refine wpAny_setField_rec z7 (by simp) fun g8 z8 s8 => ?_
  replace z8 : IsZip g8 z TI TO (rawInt g5.objs.size) := z8
  have up : ∀ c o, c ≠ z → g5.get? c = some o → g8.get? c = some o := fun c o c1 e => s8.extBut _ _ c1 (s7.extBut _ _ c1 (Heap.get?_push_of_some _ e))
  have t8 : IsPair g8 g5.objs.size x y := s8.extBut _ _ (Nat.ne_of_gt zlt) (s7.extBut _ _ (Nat.ne_of_gt zlt) (Heap.get?_push_size _ rfl))
  have q8 : g8.objs.size = g5.objs.size + 1 := by rw [s8.1, s7.1, Heap.size_push]
  rw [sz] at z8 t8 q8
  refine wpAny_pure ⟨_, rfl, show Q (.ref g5.objs.size) _ from ?_⟩
  rw [sz]
  exact hQ g8 z8 (up _ _ D.TOz o5) (m1.keep fun o e => up _ o D.i1z e) (m2.keep fun o e => up _ o D.i2z e) t8 q8 fun c o c1 c2 c3 c4 e => up c o c1 (k5 c o c1 c2 c3 c4 e)
theorem zz_end {p1 p2 : Bool} {z TI TO i1 i2 l1 l2 : Addr} {k1 k2 : Nat} {xs ys : Array Value} {a b : Value} {Q : Fin → Shared → Prop} (hh : A.handled = none) (D : ZipApart z TI TO i1 i2 l1 l2)
    (hz : IsZip s.heap z TI TO .none) (hTI : IsPair s.heap TI (.ref i1) (.ref i2)) (hTO : IsPair s.heap TO a b) (h1 : ItAt p1 s.heap i1 l1 k1) (h2 : ItAt p2 s.heap i2 l2 k2) (hl1 : SqAt p1 s.heap l1 xs) (hl2 : SqAt p2 s.heap l2 ys) (hend : xs[k1]? = none ∨ ys[k2]? = none)
    (hE : ∀ h' e, (∀ c o, c ≠ z → c ≠ TO → c ≠ i1 → c ≠ i2 → s.heap.get? c = some o → h'.get? c = some o) → (∃ o, h'.get? e = some o ∧ o.cls = .type "StopIteration") → E (.ref e) { s with heap := h' }) :
    wpAny (model prog w) A (Builtin.«zip.__next__» ⟨[.ref z], []⟩) Q E s := by
  refine (show wpAny _ _ (field (.ref z) 2 >>= fun _ => field (.ref z) 3 >>= _) _ _ _ from wpAny_bind (wpAny_field hz rfl (x := .bool false) rfl (wpAny_bind (wpAny_field hz rfl (x := .ref TI) rfl (wpAny_bind (wpAny_seqItems hTI rfl ?_))))))
  refine (show wpAny _ _ (Builtin.SmallTypes.ownedTupleIsFree (.ref z) >>= _) _ _ _ from wpAny_bind ?_)
  unfold Builtin.SmallTypes.ownedTupleIsFree
  refine wpAny_bind (wpAny_field hz rfl (x := .none) rfl (wpAny_pure ?_))
  simp only [if_true]
  refine wpAny_bind (wpAny_rule (wpAny_bind (wpAny_field hz rfl (x := .ref TO) rfl (wpAny_bind (wpAny_setField_rec hz (by simp) fun g1 hz1 s1 => ?_)))))
  replace hz1 : IsZip g1 z TI TO .ellipsis := hz1
  refine wpAny_bind ?_
  simp only [List.zipIdx_cons, List.zipIdx_nil, List.forIn_cons, List.forIn_nil]
  have s1' := s1.extBut
  refine wpAny_bind (wpAny_bind (wpAny_onRaise (show wpAny _ _ (Builtin.SmallTypes.nextOf (.ref i1) >>= _) _ _ _ from ?_)))
  cases hx : xs[k1]? with
  | none =>
    refine wpAny_bind (nx_end hh (h1.keep fun o e => s1' _ _ D.i1z e) (hl1.keep fun o e => s1' _ _ D.l1z e) hx fun g2 e s2 he => ?_)
    obtain ⟨oe, hoe, hce⟩ := he
    have z2 : IsZip g2 z TI TO .ellipsis := s2 _ _ D.i1z.symm hz1
    have ne : e ≠ z := fun x => by subst x; rw [z2] at hoe; cases hoe; simp at hce
    exact wpAny_setField_rec z2 (by simp) fun g3 _ s3 => hE g3 e (fun c o c1 _ c3 _ x => s3.extBut _ _ c1 (s2 _ _ c3 (s1' _ _ c1 x))) ⟨oe, s3.extBut _ _ ne hoe, hce⟩
  | some x =>
    have hy : ys[k2]? = none := by
      rcases hend with h | h
      · rw [hx] at h
        cases h
      · exact h
    refine wpAny_bind (nx_item (h1.keep fun o e => s1' _ _ D.i1z e) (hl1.keep fun o e => s1' _ _ D.l1z e) hx fun g2 n1 s2 => wpAny_pure ?_)
    have s2' := s2.extBut
    have o2 : IsPair g2 TO a b := s2' _ _ D.TOi1 (s1' _ _ D.TOz hTO)
    refine wpAny_bind (wpAny_seqItems o2 rfl (wpAny_bind (wpAny_updateSeq_pair o2 fun g3 o3 s3 => wpAny_bind (wpAny_letGo (wpAny_pure ?_)))))
    have s3' := s3.extBut
    refine wpAny_bind (wpAny_bind (wpAny_onRaise (show wpAny _ _ (Builtin.SmallTypes.nextOf (.ref i2) >>= _) _ _ _ from wpAny_bind (nx_end hh (h2.keep fun o e => s3' _ _ D.TOi2.symm (s2' _ _ D.i12.symm (s1' _ _ D.i2z e))) (hl2.keep fun o e => s3' _ _ D.l2TO (s2' _ _ D.l2i1 (s1' _ _ D.l2z e))) hy fun g4 e s4 he => ?_))))
    obtain ⟨oe, hoe, hce⟩ := he
    have z4 : IsZip g4 z TI TO .ellipsis := s4 _ _ D.i2z.symm (s3' _ _ D.TOz.symm (s2' _ _ D.i1z.symm hz1))
    have ne : e ≠ z := fun x => by subst x; rw [z4] at hoe; cases hoe; simp at hce
    exact wpAny_setField_rec z4 (by simp) fun g5 _ s5 => hE g5 e (fun c o c1 c2 c3 c4 x => s5.extBut _ _ c1 (s4 _ _ c4 (s3' _ _ c2 (s2' _ _ c3 (s1' _ _ c1 x))))) ⟨oe, s5.extBut _ _ ne hoe, hce⟩
theorem zzN_item {p1 p2 : Bool} {z TI TO i1 i2 l1 l2 : Addr} {k1 k2 : Nat} {xs ys : Array Value} {x y a b : Value} {Q : Option Value → Shared → Prop} (D : ZipApart z TI TO i1 i2 l1 l2)
    (hz : IsZip s.heap z TI TO .none) (hTI : IsPair s.heap TI (.ref i1) (.ref i2)) (hTO : IsPair s.heap TO a b) (h1 : ItAt p1 s.heap i1 l1 k1) (h2 : ItAt p2 s.heap i2 l2 k2) (hl1 : SqAt p1 s.heap l1 xs) (hl2 : SqAt p2 s.heap l2 ys) (hx : xs[k1]? = some x) (hy : ys[k2]? = some y)
    (hQ : ∀ h', IsZip h' z TI TO (rawInt s.heap.objs.size) → IsPair h' TO x y → ItAt p1 h' i1 l1 (k1 + 1) → ItAt p2 h' i2 l2 (k2 + 1) → IsPair h' s.heap.objs.size x y → h'.objs.size = s.heap.objs.size + 1 → (∀ c o, c ≠ z → c ≠ TO → c ≠ i1 → c ≠ i2 → s.heap.get? c = some o → h'.get? c = some o) → Q (some (.ref s.heap.objs.size)) { s with heap := h' }) :
    wpAny (model prog w) A (pyNext (.ref z)) Q E s := by
  have hT : s.TypeIs (.ref z) "zip" := ⟨_, hz, rfl⟩
  unfold pyNext
  exact wpAny_bind (wpAny_attempt (wpAny_callSpecial?_slot (name := Str.ofString "__next__") hT F.slot_zip_next (wpAny_call_entry F.slot_zip_next hT F.entry_zip_next (zz_item D hz hTI hTO h1 h2 hl1 hl2 hx hy fun h' a1 a2 a3 a4 a5 a6 a7 => wpAny_pure (hQ h' a1 a2 a3 a4 a5 a6 a7)) (F.args_zip_next_1 _))))
theorem zzN_end {p1 p2 : Bool} {z TI TO i1 i2 l1 l2 : Addr} {k1 k2 : Nat} {xs ys : Array Value} {a b : Value} {Q : Option Value → Shared → Prop} (hh : A.handled = none) (D : ZipApart z TI TO i1 i2 l1 l2)
    (hz : IsZip s.heap z TI TO .none) (hTI : IsPair s.heap TI (.ref i1) (.ref i2)) (hTO : IsPair s.heap TO a b) (h1 : ItAt p1 s.heap i1 l1 k1) (h2 : ItAt p2 s.heap i2 l2 k2) (hl1 : SqAt p1 s.heap l1 xs) (hl2 : SqAt p2 s.heap l2 ys) (hend : xs[k1]? = none ∨ ys[k2]? = none)
    (hQ : ∀ h', (∀ c o, c ≠ z → c ≠ TO → c ≠ i1 → c ≠ i2 → s.heap.get? c = some o → h'.get? c = some o) → Q none { s with heap := h' }) : wpAny (model prog w) A (pyNext (.ref z)) Q E s := by
  have hT : s.TypeIs (.ref z) "zip" := ⟨_, hz, rfl⟩
  unfold pyNext
  refine wpAny_bind (wpAny_attempt (wpAny_callSpecial?_slot (name := Str.ofString "__next__") hT F.slot_zip_next (wpAny_call_entry F.slot_zip_next hT F.entry_zip_next (zz_end hh D hz hTI hTO h1 h2 hl1 hl2 hend fun h' e hk he => ?_) (F.args_zip_next_1 _))))
  obtain ⟨o, ho, hc⟩ := he
  exact wpAny_bind (wpAny_isInstance (T := "StopIteration") (b := true) ⟨o, ho, hc⟩ isSubtype_stop (wpAny_pure (hQ _ hk)))
end
end DL

namespace DL
open PySem PySem.Spec PyProof.Rows L2
theorem inv_ch {X : Cx} {pins : List (Addr × Obj)} {σ : St} {H : Hp} {s : Shared} {h' : Heap} {t' : Nat} {ch : List Addr} (I : Inv X pins σ H s) (k : ∀ b o, b ∉ ch → s.heap.get? b = some o → h'.get? b = some o) (f : ∀ b ∈ ch, FpOk X pins H b) : Inv X pins σ H { s with heap := h', toks := t' } := by
  have nit : ∀ b u, H b = some u → b ∉ ch := fun b u q hb => by
    rw [(f b hb).1] at q
    cases q
  refine I.step (g' := s.gens) (d' := s.drawn) (ch := ch) (fun b hb => ?_) (fun b o _ _ hc q _ => k b o hc q) (fun b o _ _ hc q _ => ⟨o.slots, k b o hc q⟩) (fun _ _ _ _ n => n) (fun b o hc q => ⟨o, k b o hc q⟩) (fun _ _ q => q) (fun _ _ _ q => q) (fun b ps q => ⟨#[], by rw [q]; simp⟩) (fun m hm => ?_) (fun b u q => ?_) I.bare
  · have z := f b hb
    exact ⟨z.2.2.2.1, z.2.1, z.2.2.2.2.1, z.2.2.2.2.2⟩
  · obtain ⟨o, es, ep, ho, r⟩ := hm
    exact ⟨o, es, ep, k _ o (fun hb => (f _ hb).2.1 rfl) ho, r⟩
  · refine (I.hok b u q).stay (fun c v hc g => ?_) (fun _ g => g) fun _ _ g => g
    rcases hc with z | z
    · rw [z] at g ⊢
      exact k b v (nit b u q) g
    · exact k c v (nit c _ z) g
def SqB (tp : Bool) (K : PySem.W.Frag) (H : Hp) (a : Addr) (xs : List V) : Prop := match tp with
  | true => SqT K H a xs
  | false => SqL K H a xs
theorem sqB_at {X : Cx} {pins : List (Addr × Obj)} {σ : St} {H : Hp} {s : Shared} {tp : Bool} {a : Addr} {xs : List V} (I : Inv X pins σ H s) (h : SqB tp X.K H a xs) : ∃ its : List Value, Vals xs its ∧ SqAt tp s.heap a its.toArray := by
  cases tp with
  | true =>
    obtain ⟨its, rv, p, _⟩ := I.tuple (show SqT X.K H a xs from h)
    exact ⟨its, rv, p⟩
  | false =>
    obtain ⟨its, rv, p, _⟩ := I.list (show SqL X.K H a xs from h)
    exact ⟨its, rv, p.isList⟩
theorem sqB_inj {X : Cx} {pins : List (Addr × Obj)} {σ : St} {H : Hp} {s : Shared} {tp : Bool} {a : Addr} {xs ys : List V} (I : Inv X pins σ H s) (h : SqB tp X.K H a xs) (g : SqB tp X.K H a ys) : xs = ys := by
  cases tp with
  | true => exact I.tuple_inj h g
  | false => exact I.list_inj h g
def Itz (p1 p2 : Bool) (K : PySem.W.Frag) (a b : Addr) : It :=
  ⟨fun i H => ∃ xs ys x y, SqB p1 K H a xs ∧ SqB p2 K H b ys ∧ xs[i]? = some x ∧ ys[i]? = some y, fun i H v H' => ∃ p x y, v = .ref p ∧ H p = none ∧ H' = upd H p (.tup [x, y]) ∧ (∀ xs, SqB p1 K H a xs → xs[i]? = some x) ∧ ∀ ys, SqB p2 K H b ys → ys[i]? = some y, fun i H => ∃ xs ys, SqB p1 K H a xs ∧ SqB p2 K H b ys ∧ (xs.length ≤ i ∨ ys.length ≤ i)⟩
theorem turn_zip {P : Program} {w : World} {K : PySem.W.Frag} {elts : List Expr} {kk : Nat} {pos : Pos} {p1 p2 : Bool} (a b z TI TO i1 i2 : Addr) (D : ZipApart z TI TO i1 i2 a b) : Turn P w K (.Tuple elts kk pos) (Itz p1 p2 K a b) [z, TO, i1, i2, TI] z (fun i h => IsZip h z TI TO .none ∧ IsPair h TI (.ref i1) (.ref i2) ∧ (∃ c d, IsPair h TO c d) ∧ ItAt p1 h i1 a i ∧ ItAt p2 h i2 b i) where
  mem := by simp
  obj := fun i h st c hc => by
    obtain ⟨hz, hTI, ⟨x, y, hTO⟩, h1, h2⟩ := st
    simp only [List.mem_cons, List.not_mem_nil, or_false] at hc
    rcases hc with rfl | rfl | rfl | rfl | rfl
    · exact ⟨_, hz, fun v q => by cases q⟩
    · exact ⟨_, hTO, fun v q => by cases q⟩
    · exact h1.ex
    · exact h2.ex
    · exact ⟨_, hTI, fun v q => by cases q⟩
  keep := fun i h h' st k => by
    obtain ⟨hz, hTI, ⟨x, y, hTO⟩, h1, h2⟩ := st
    exact ⟨k z (by simp) _ hz, k TI (by simp) _ hTI, ⟨x, y, k TO (by simp) _ hTO⟩, h1.keep fun o q => k i1 (by simp) o q, h2.keep fun o q => k i2 (by simp) o q⟩
  item := by
    intro X hP hw hK hc i pins s σ H E I hf st hg
    subst hP hw hK
    obtain ⟨hz, hTI, ⟨c, d, hTO⟩, h1, h2⟩ := st
    obtain ⟨xs, ys, x, y, qx, qy, ex, ey⟩ := hg
    obtain ⟨its, rv, sx⟩ := sqB_at I qx
    obtain ⟨jts, rw', sy⟩ := sqB_at I qy
    obtain ⟨u, hu, ru⟩ := rv.get ex
    obtain ⟨v, hv, rv'⟩ := rw'.get ey
    refine zzN_item D hz hTI hTO h1 h2 sx sy (x := u) (y := v) (by simpa using hu) (by simpa using hv) fun g1 z1 o1 n1 n2 t1 sz1 k1 => ?_
    refine ⟨_, rfl, wpAny_letOwnedTupleGo_zip z1 fun g2 z2 s2 => ?_⟩
    have s2' := s2.extBut
    have lt : ∀ b ∈ [z, TO, i1, i2, TI], b < s.heap.objs.size := fun b hb => by
      simp only [List.mem_cons, List.not_mem_nil, or_false] at hb
      rcases hb with rfl | rfl | rfl | rfl | rfl
      · exact Heap.lt_size hz
      · exact Heap.lt_size hTO
      · obtain ⟨_, q, _⟩ := h1.ex
        exact Heap.lt_size q
      · obtain ⟨_, q, _⟩ := h2.ex
        exact Heap.lt_size q
      · exact Heap.lt_size hTI
    have I1 : Inv X pins σ H { s with heap := g2 } := inv_ch (t' := s.toks) (ch := [z, TO, i1, i2]) I (fun b o hb q => by
      simp only [List.mem_cons, List.not_mem_nil, or_false, not_or] at hb
      exact s2' _ _ hb.1 (k1 b o hb.1 hb.2.1 hb.2.2.1 hb.2.2.2 q)) fun b hb => hf b (by simp only [List.mem_cons, List.not_mem_nil, or_false] at hb ⊢; rcases hb with q | q | q | q <;> simp [q])
    have hn : H s.heap.objs.size = none := I.hok.fresh (Nat.le_refl _)
    have t2 : g2.get? s.heap.objs.size = some { cls := .type "tuple", data := .seq #[u, v] } := s2' _ _ (Nat.ne_of_gt (lt z (by simp))) t1
    have I2 : Inv X pins σ (upd H s.heap.objs.size (.tup [x, y])) { s with heap := g2 } := by
      refine I1.track hn I.sz (Nat.ne_of_gt I.lt) (fun y c q => ?_) (fun y hy => ?_) ⟨by show 2 ≤ sizeLine; decide, [u, v], .cons ru (.cons rv' .nil), ⟨_, t2, rfl, ⟨_, rfl⟩, rfl⟩⟩
      · obtain ⟨v, o, ho, _⟩ := I.cell y c q
        exact Nat.ne_of_lt (Heap.lt_size ho)
      · exact Nat.ne_of_lt (Heap.lt_size (I.pin y hy).1)
    refine ⟨.ref s.heap.objs.size, _, I2, rfl, ⟨_, x, y, rfl, hn, rfl, fun zs hz => by rw [sqB_inj I hz qx]; exact ex, fun zs hz => by rw [sqB_inj I hz qy]; exact ey⟩, ⟨z2, s2' _ _ D.TIz (k1 _ _ D.TIz D.TITO D.TIi1 D.TIi2 hTI), ⟨_, _, s2' _ _ D.TOz o1⟩, n1.keep fun o q => s2' _ _ D.i1z q, n2.keep fun o q => s2' _ _ D.i2z q⟩, fun b hb => ?_⟩
    rw [upd_ne (Nat.ne_of_lt (lt b hb))]
    exact (hf b hb).1
  done := by
    intro X hP hw hK hc i pins s σ H E I hf st hg
    subst hP hw hK
    obtain ⟨hz, hTI, ⟨c, d, hTO⟩, h1, h2⟩ := st
    obtain ⟨xs, ys, qx, qy, hl⟩ := hg
    obtain ⟨its, rv, sx⟩ := sqB_at I qx
    obtain ⟨jts, rw', sy⟩ := sqB_at I qy
    have l1 := rv.length
    have l2 := rw'.length
    refine zzN_end (I.ok.hd hc) D hz hTI hTO h1 h2 sx sy (by
      rcases hl with q | q
      · left
        simp
        omega
      · right
        simp
        omega) fun h' k => ⟨rfl, ?_⟩
    exact inv_ch (t' := s.toks) (ch := [z, TO, i1, i2]) I (fun b o hb q => by
      simp only [List.mem_cons, List.not_mem_nil, or_false, not_or] at hb
      exact k b o hb.1 hb.2.1 hb.2.2.1 hb.2.2.2 q) fun b hb => hf b (by simp only [List.mem_cons, List.not_mem_nil, or_false] at hb ⊢; rcases hb with q | q | q | q <;> simp [q])
  self := fun _ _ _ _ _ st h => by
    obtain ⟨hz, _⟩ := st
    exact wpAny_pyIter_zip hz h
end DL

namespace DL
open PySem PySem.Spec PyProof.Rows L2
def itO (tp : Bool) (l : Addr) : Obj := match tp with
  | true => { cls := .type "tuple_iterator", data := .fields #[.ref l, .int 0 0] }
  | false => { cls := .type "list_iterator", data := .fields #[.ref l, .int 0 0] }
theorem itO_at {tp : Bool} {h : Heap} {it l : Addr} (e : h.get? it = some (itO tp l)) : ItAt tp h it l 0 := by
  cases tp with
  | true => exact ⟨_, e, rfl, rfl⟩
  | false => exact ⟨_, e, rfl, rfl⟩
theorem itO_fr (tp : Bool) (l : Addr) : (itO tp l).isFreed = false := by cases tp <;> rfl
section
variable {prog : Program} {w : World} {A : Around} {E : Value → Shared → Prop} {s : Shared}
theorem pyI {tp : Bool} {l : Addr} {xs : Array Value} {Q : Value → Shared → Prop} (h : SqAt tp s.heap l xs) (hQ : Q (.ref s.heap.objs.size) { s with heap := s.heap.push (itO tp l) }) : wpAny (model prog w) A (pyIter (.ref l)) Q E s := by
  cases tp with
  | true => exact wpAny_pyIter_tuple h hQ
  | false => exact wpAny_pyIter_list h hQ
end
abbrev zA (p : Bool) (h : Heap) (l : Addr) : Heap := h.push (itO p l)
abbrev zB (p q : Bool) (h : Heap) (l m : Addr) : Heap := (zA p h l).push (itO q m)
abbrev zC (p q : Bool) (h : Heap) (l m : Addr) : Heap := (zB p q h l m).push { cls := .type "tuple", data := .seq #[.ref h.objs.size, .ref (zA p h l).objs.size] }
abbrev zD (p q : Bool) (h : Heap) (l m : Addr) : Heap := (zC p q h l m).push { cls := .type "tuple", data := .seq #[.none, .none] }
abbrev zE (p q : Bool) (h : Heap) (l m : Addr) : Heap := (zD p q h l m).push { cls := .type "zip", data := .fields #[.none, .bool false, .bool false, .ref (zB p q h l m).objs.size, .ref (zC p q h l m).objs.size] }
theorem new_zz (p q : Bool) (l m : Addr) (xs ys : Array Value) : Meets (Builtin.«zip.__new__» ⟨[.type "zip", .ref l, .ref m], []⟩) (fun _ R s => SqAt p s.heap l xs ∧ SqAt q s.heap m ys ∧ R (.ok (.ret (.ref (zD p q s.heap l m).objs.size))) { s with heap := zE p q s.heap l m }) :=
  .of_wp fun prog w A R s h => by
    obtain ⟨hp, g, d, tk, os⟩ := s
    obtain ⟨a1, a2, h⟩ := h
    have hsub := sub_zip
    have b1 : SqAt p (Shared.heap ⟨hp, g, d, tk, os⟩) l xs := a1
    have b2 : SqAt q (Shared.heap ⟨hp.push (itO p l), g, d, tk, os⟩) m ys := SqAt.keep a2 fun o e => Heap.get?_push_of_some _ e
    wp_walk using pyI b1, pyI b2
    exact ⟨_, rfl, h⟩
section
variable {prog : Program} {w : World} {A : Around} {E : Value → Shared → Prop} {s : Shared}
theorem call_zz {p q : Bool} {l m : Addr} {xs ys : Array Value} {Q : Value → Shared → Prop} (a1 : SqAt p s.heap l xs) (a2 : SqAt q s.heap m ys)
    (h : ∀ h', IsZip h' (s.heap.objs.size + 4) (s.heap.objs.size + 2) (s.heap.objs.size + 3) .none → IsPair h' (s.heap.objs.size + 2) (.ref s.heap.objs.size) (.ref (s.heap.objs.size + 1)) → IsPair h' (s.heap.objs.size + 3) .none .none → ItAt p h' s.heap.objs.size l 0 → ItAt q h' (s.heap.objs.size + 1) m 0 → (∀ c o, s.heap.get? c = some o → h'.get? c = some o) → Q (.ref (s.heap.objs.size + 4)) { s with heap := h' }) :
    wpAny (model prog w) A (call (.type "zip") [.ref l, .ref m]) Q E s := by
  refine callType_new F.called_zip (by decide) (F.typeCall_zip_2 _ _) (F.newCall_zip_2 _ _) (fun obj => F.args_object_init_3 obj _ _) F.entry_zip_new (new_zz p q l m xs ys) ⟨a1, a2, ?_⟩
  have z1 : (zA p s.heap l).objs.size = s.heap.objs.size + 1 := Heap.size_push ..
  have z2 : (zB p q s.heap l m).objs.size = s.heap.objs.size + 2 := by rw [Heap.size_push, z1]
  have z3 : (zC p q s.heap l m).objs.size = s.heap.objs.size + 3 := by rw [Heap.size_push, z2]
  have z4 : (zD p q s.heap l m).objs.size = s.heap.objs.size + 4 := by rw [Heap.size_push, z3]
  have g5 : (zE p q s.heap l m).get? (zD p q s.heap l m).objs.size = some _ := Heap.get?_push_size _ rfl
  have g4 : (zE p q s.heap l m).get? (zC p q s.heap l m).objs.size = some _ := Heap.get?_push_of_some _ (Heap.get?_push_size _ rfl)
  have g3 : (zE p q s.heap l m).get? (zB p q s.heap l m).objs.size = some _ := Heap.get?_push_of_some _ (Heap.get?_push_of_some _ (Heap.get?_push_size _ rfl))
  have g2 : (zE p q s.heap l m).get? (zA p s.heap l).objs.size = some (itO q m) := Heap.get?_push_of_some _ (Heap.get?_push_of_some _ (Heap.get?_push_of_some _ (Heap.get?_push_size _ (itO_fr q m))))
  have g1 : (zE p q s.heap l m).get? s.heap.objs.size = some (itO p l) := Heap.get?_push_of_some _ (Heap.get?_push_of_some _ (Heap.get?_push_of_some _ (Heap.get?_push_of_some _ (Heap.get?_push_size _ (itO_fr p l)))))
  show _ ∧ _
  rw [z2, z3, z4] at g5
  rw [z1, z2] at g3
  rw [z3] at g4
  rw [z1] at g2
  rw [z4]
  exact ⟨⟨_, g5, rfl⟩, h _ g5 g3 g4 (itO_at g1) (itO_at g2) fun c o x => Heap.get?_push_of_some _ (Heap.get?_push_of_some _ (Heap.get?_push_of_some _ (Heap.get?_push_of_some _ (Heap.get?_push_of_some _ x))))⟩
end
section
variable {X : Cx} {sd : List Slot} {e a b c tg iter : Expr} {es : List Expr} {pos : Pos} {r ra rb : R} {d : D} {ds : List D} {st : Stmt} {rest : List Stmt} {E : EndD}
theorem pi_zip {elts : List Expr} {kk : Nat} {tp : Pos} {ta : TA} {p : Pos} {p1 p2 : Bool} (hg : Gl X "zip") (hm : X.mg "zip" = none) (ha : PA X [a, b] ta) (hs : starEach [a, b] X.env = [(false, eval a X.env), (false, eval b X.env)] := by rfl) (hs2 : starEach [b] X.env = [(false, eval b X.env)] := by rfl) :
    PI X (.Tuple elts kk tp) (.Call (.Name "zip" p) [a, b] [] pos) (fun σ H R => ta σ H fun vs H1 => ∃ l m, vs = [.ref l, .ref m] ∧ (∃ xs, SqB p1 X.K H1 l xs) ∧ (∃ ys, SqB p2 X.K H1 m ys) ∧ R (Itz p1 p2 X.K l m) H1) := by
  intro pins s σ H R I h
  refine Call_ (ld_blt I hg hm PyProof.Rows.boot_zip (PyProof.Rows.callWith_type1 (thn (ha pos pins s σ H _ I h) fun us s1 ⟨vs, H1, I1, r1, q1⟩ => ?_) (by rw [hs, hs2]) (by rw [hs2]; rfl)))
  obtain ⟨l, m, rfl, ⟨xs, qx⟩, ⟨ys, qy⟩, k⟩ := q1
  cases r1 with
  | cons r rr =>
    cases rr with
    | cons r2 rr2 =>
      cases rr2
      cases r
      cases r2
      obtain ⟨its, rv, sx⟩ := sqB_at I1 qx
      obtain ⟨jts, rw', sy⟩ := sqB_at I1 qy
      refine call_zz sx sy fun h' a1 a2 a3 a4 a5 kp => wpAny_pyIter_zip a1 ?_
      have I2 : Inv X pins σ H1 { s1 with heap := h' } := I1.kept (t' := s1.toks) kp
      have lx := sx.lt
      have ly := sy.lt
      have ap : ZipApart (s1.heap.objs.size + 4) (s1.heap.objs.size + 2) (s1.heap.objs.size + 3) s1.heap.objs.size (s1.heap.objs.size + 1) l m := by
        refine ⟨?_, ?_, ?_, ?_, ?_, ?_, ?_, ?_, ?_, ?_, ?_, ?_, ?_, ?_, ?_, ?_, ?_, ?_⟩
        all_goals first | (exact Nat.ne_of_lt (by omega)) | (exact Nat.ne_of_gt (by omega)) | (exact Nat.ne_of_lt lx) | (exact Nat.ne_of_lt ly) | (exact Nat.ne_of_lt (Nat.lt_of_lt_of_le lx (Nat.le_add_right _ _))) | (exact Nat.ne_of_lt (Nat.lt_of_lt_of_le ly (Nat.le_add_right _ _)))
      refine ⟨s1.heap.objs.size + 4, _, _, Itz p1 p2 X.K l m, H1, rfl, I2, turn_zip l m _ _ _ _ _ ap, ⟨a1, a2, ⟨_, _, a3⟩, a4, a5⟩, fun b hb => ?_, k⟩
      have hb2 : s1.heap.objs.size ≤ b := by
        simp only [List.mem_cons, List.not_mem_nil, or_false] at hb
        rcases hb with rfl | rfl | rfl | rfl | rfl <;> omega
      exact I1.fpOk hb2 (I1.hok.fresh hb2)
def zipD (ds es : List D) : List D := (List.range (min ds.length es.length)).map fun (i : Nat) => D.tup [ds.getD i .non, es.getD i .non]
theorem zipD_len (ds es : List D) : (zipD ds es).length = min ds.length es.length := by simp [zipD]
theorem zipD_get {ds es : List D} {i : Nat} {d : D} (h : (zipD ds es)[i]? = some d) : ∃ x y, ds[i]? = some x ∧ es[i]? = some y ∧ d = .tup [x, y] := by
  unfold zipD at h
  rw [List.getElem?_map] at h
  by_cases hi : i < min ds.length es.length
  · rw [List.getElem?_range hi] at h
    have h1 : i < ds.length := by omega
    have h2 : i < es.length := by omega
    refine ⟨ds[i], es[i], by simp [h1], by simp [h2], ?_⟩
    rw [← Option.some.inj h]
    simp [List.getD, h1, h2]
  · rw [List.getElem?_eq_none (by simpa using hi)] at h
    cases h
/-- a datum that is walked: a list or a tuple -/
def seqD (tp : Bool) (ds : List D) : D := match tp with
  | true => .tup ds
  | false => .lst ds
theorem seq_rep {K : PySem.W.Frag} {F : Hp} {tp : Bool} {ds : List D} {v : V} (h : Rep K F (seqD tp ds) v) : ∃ a xs, v = .ref a ∧ RepL K F ds xs ∧ ∀ {F' H : Hp}, Same F F' → Same F' H → SqB tp K H a xs := by
  cases tp with
  | true =>
    simp only [seqD, Rep] at h
    obtain ⟨a, xs, e, ha, rl⟩ := h
    exact ⟨a, xs, e, rl, fun s1 s2 => .of (s2 _ _ (s1 _ _ ha))⟩
  | false =>
    simp only [seqD, Rep] at h
    obtain ⟨a, xs, e, ha, rl⟩ := h
    exact ⟨a, xs, e, rl, fun s1 s2 => .of (s2 _ _ (s1 _ _ ha))⟩
/-- zip(xs, ys) -/
theorem pid_zip {elts : List Expr} {kk : Nat} {tp p : Pos} {es2 : List D} (p1 p2 : Bool) (hg : Gl X "zip") (hm : X.mg "zip" = none) (ha : PEd X sd a (.val (seqD p1 ds))) (hb : PEd X sd b (.val (seqD p2 es2))) (hst : starEach [a, b] X.env = [(false, eval a X.env), (false, eval b X.env)] := by rfl) (hst2 : starEach [b] X.env = [(false, eval b X.env)] := by rfl) :
    PId X sd PT0 (.Tuple elts kk tp) (.Call (.Name "zip" p) [a, b] [] pos) (zipD ds es2) := .mk fun σ F H S =>
  (pi_zip (p1 := p1) (p2 := p2) hg hm pa_w hst hst2).to ((pad_cons ha (pad_cons hb pad_nil trivial (by rw [hst2]; rfl)) trivial (by rw [hst, hst2]) σ F H S).imp fun vs H1 ⟨F1, S1, s1, q1⟩ => by
    cases q1 with
    | cons q1 q2 =>
      cases q2 with
      | cons q2 q3 =>
        cases q3
        obtain ⟨l, xs, rfl, rx, sx⟩ := seq_rep (show Rep _ _ _ _ from q1)
        obtain ⟨m, ys, rfl, ry, sy⟩ := seq_rep (show Rep _ _ _ _ from q2)
        refine ⟨l, m, rfl, ⟨xs, sx (Same.refl _) S1.sub⟩, ⟨ys, sy (Same.refl _) S1.sub⟩, F1, S1, s1, fun F' H' sF sH sm _ i => ⟨fun hi => ?_, fun hi => ?_, fun x H2 d hd y => ?_⟩⟩
        · rw [zipD_len] at hi
          exact ⟨xs, ys, xs[i]'(by rw [rx.len]; omega), ys[i]'(by rw [ry.len]; omega), sx sF sH, sy sF sH, by simp, by simp⟩
        · rw [zipD_len] at hi
          refine ⟨xs, ys, sx sF sH, sy sF sH, ?_⟩
          rw [rx.len, ry.len]
          omega
        · obtain ⟨q, u, v, rfl, hq, rfl, hu, hv⟩ := y
          obtain ⟨du, dv, e1, e2, rfl⟩ := zipD_get hd
          have hu := hu xs (sx sF sH)
          have hv := hv ys (sy sF sH)
          obtain ⟨u', h1, ru⟩ := rx.get e1
          obtain ⟨v', h2, rv⟩ := ry.get e2
          rw [hu] at h1
          rw [hv] at h2
          cases h1
          cases h2
          have fq : F' q = none := sH.free hq
          have s2 : Same F' (upd F' q (.tup [u, v])) := fun b o g => by rw [upd_ne (ne_of_none g fq)]; exact g
          refine ⟨upd F' q (.tup [u, v]), s2, ?_, fun H₀ σ sd S => (S.lay (o := .tup [u, v]) hq trivial).1⟩
          simp only [Rep]
          exact ⟨q, _, rfl, upd_same, .cons ((ru.mono sF).mono s2) (.one ((rv.mono sF).mono s2))⟩)
end
end DL

namespace DL
open PySem PySem.Spec PyProof.Rows L2
theorem flatMap_len (L : List (List Int)) (m : Nat) : (L.flatMap fun s => (List.range m).map fun (w : Nat) => s ++ [(w : Int)]).length = L.length * m := by
  induction L with
  | nil => simp
  | cons s L ih =>
    rw [List.flatMap_cons, List.length_append, ih, List.length_map, List.length_range, List.length_cons, Nat.succ_mul, Nat.add_comm]
theorem fil_len : ∀ (m k : Nat), (filI m k).length = m ^ k
  | _, 0 => rfl
  | m, k + 1 => by
    show ((filI m k).flatMap _).length = _
    rw [flatMap_len, fil_len m k, Nat.pow_succ]
theorem fil_lens : ∀ (m k : Nat), ∀ s ∈ filI m k, s.length = k
  | _, 0, s, h => by
    have : s = [] := by simpa [filI] using h
    subst this
    rfl
  | m, k + 1, s, h => by
    obtain ⟨t, ht, hs⟩ := List.mem_flatMap.mp h
    obtain ⟨w, _, rfl⟩ := List.mem_map.mp hs
    rw [List.length_append, fil_lens m k t ht]
    rfl
theorem pow_small : ∀ p ∈ sizes14, ∀ k, k < p.2.toNat → ((2 ^ p.1.toNat) ^ k) * 2 ^ p.1.toNat ≤ 900 := by decide +kernel
theorem fil_900 {p : Int × Int} (hp : p ∈ sizes14) : (filI (2 ^ p.1.toNat) p.2.toNat).length ≤ 64 := by
  have : ∀ p ∈ sizes14, (2 ^ p.1.toNat) ^ p.2.toNat ≤ 64 := by decide +kernel
  rw [fil_len]
  exact this p hp
theorem mem_tups {L : List (List Int)} {d : D} (h : d ∈ L.map tupI) : ∃ ws ∈ L, d = tupI ws := by
  obtain ⟨ws, hw, rfl⟩ := List.mem_map.mp h
  exact ⟨ws, hw, rfl⟩
def intsOf : D → List Int
  | .tup ds => ds.map fun d => match d with | .int i => i | _ => 0
  | _ => []
theorem intsOf_tup (ws : List Int) : intsOf (tupI ws) = ws := by
  show (ws.map D.int).map _ = ws
  rw [List.map_map]
  induction ws with
  | nil => rfl
  | cons w ws ih =>
    rw [List.map_cons, ih]
    rfl
end DL

namespace DL
open PySem PySem.Spec PyProof.Rows L2
section
variable {X : Cx} {sd : List Slot} {e a b c tg iter o : Expr} {es : List Expr} {pos : Pos} {r ra rb : R} {d : D} {ds : List D} {st : Stmt} {rest : List Stmt} {E : EndD}
/-- is None -/
def isN : D → Bool
  | .non => true
  | _ => false
theorem rep_isN {K : PySem.W.Frag} {H : Hp} {d : D} {v : V} (h : Rep K H d v) : decide (v = .non) = isN d := by
  cases d with
  | non => simp only [Rep] at h; subst h; rfl
  | bl => simp only [Rep] at h; subst h; rfl
  | int => simp only [Rep] at h; subst h; rfl
  | str => simp only [Rep] at h; subst h; rfl
  | tup => simp only [Rep] at h; obtain ⟨a, xs, rfl, _⟩ := h; rfl
  | lst => simp only [Rep] at h; obtain ⟨a, xs, rfl, _⟩ := h; rfl
  | dic => simp only [Rep] at h; obtain ⟨a, rfl, _⟩ := h; rfl
  | dki => simp only [Rep] at h; obtain ⟨a, xs, rfl, _⟩ := h; rfl
  | scr => simp only [Rep] at h; obtain ⟨a, rfl, _⟩ := h; rfl
theorem ptd_isN (ha : PEd X sd a (.val d)) (hb : PEd X sd b (.val .non)) : PTd X sd (.Compare a [.Is] [b] pos) (isN d) :=
  ptd_cmp2 op_isN ha hb trivial (nomark _) fun σ F H v u Q S q1 q2 k => by
    simp only [ResOk, Rep] at q2
    have q1 : Rep _ _ _ _ := q1
    exact ⟨q2, by rw [rep_isN q1]; exact k F H S (Same.refl _)⟩
theorem ptd_notN (ha : PEd X sd a (.val d)) (hb : PEd X sd b (.val .non)) : PTd X sd (.Compare a [.IsNot] [b] pos) (!isN d) :=
  ptd_cmp2 op_notN ha hb trivial (nomark _) fun σ F H v u Q S q1 q2 k => by
    simp only [ResOk, Rep] at q2
    have q1 : Rep _ _ _ _ := q1
    exact ⟨q2, by rw [rep_isN q1]; exact k F H S (Same.refl _)⟩
theorem pd_isN (ha : PEd X sd a (.val d)) (hb : PEd X sd b (.val .non)) : PEd X sd (.Compare a [.Is] [b] pos) (.val (.bl (isN d))) :=
  pd_cmp2 op_isN ha hb trivial (nomark _) fun σ F H v u Q S q1 q2 k => by
    simp only [ResOk, Rep] at q2
    have q1 : Rep _ _ _ _ := q1
    exact ⟨q2, by rw [rep_isN q1]; exact k F H S (Same.refl _)⟩
/-! ### a def whose last parameter is None where it is left out -/
structure FunD (K : PySem.W.Frag) (x qual : Str) (st : Stmt) (f : Addr) (fd : FuncData) : Prop where
  ex : ∃ (oc : Value) (od : Option Addr) (T : Addr) (kV doc pm : Value) (an : Option Addr) (cdv ct : Value) (osl : Array (Option Value)) (tc : Value) (td : Option Addr) (n : Nat) (tsl : Array (Option Value)),
    fd = PySem.W.fnOf x qual (defArgs st) (defBody st) (defScope st) (.ref T) kV doc pm an cdv ct ∧ K.lookup f = some ⟨oc, od, .func fd, osl⟩ ∧ PySem.W.codeIn K cdv qual = true ∧ K.lookup T = some ⟨tc, td, .seq #[.none] n, tsl⟩
  kp : PySem.W.keepIn K (.ref f) = true
structure CalleeD (P : Program) (w : World) (K : PySem.W.Frag) (mg : Str → Option Value) (base : Heap) (x : Str) (k n : Nat) (C : List D → R → Prop) : Prop where
  ex : ∃ (f : Addr) (fd : FuncData) (ps : List Str), mg x = some (.ref f) ∧ PySem.W.keepIn K (.ref f) = true ∧ Binds K fd ps [] ∧ Binds K fd ps [.none] ∧ FnOk P w K mg base CX0 k f fd ps (spC K n C)
end
end DL

namespace DL
open PySem PySem.Spec PyProof.Rows L2
/-! ### where two tables part -/
theorem u_of' {u d n c : Nat} (h : u + n < c) (hd : d + 1 ≤ n) : u + d + 1 < c := by omega
def filA (p : Int × Int) : List (List Int) := filI (2 ^ p.1.toNat) p.2.toNat
structure TabOk (p : Int × Int) (T : List (List Int)) : Prop where
  len : T.length = (filA p).length
  fil : ∀ ws ∈ T, Fil p ws
theorem fil_pos {p : Int × Int} : 0 < (filA p).length := by
  unfold filA
  rw [fil_len]
  exact Nat.pow_pos (Nat.pow_pos (by decide))
theorem int_get {cs : List Int} {k : Nat} {d : D} (h : (cs.map D.int)[k]? = some d) : k < cs.length ∧ d = .int (cs.getD k 0) := by
  rw [List.getElem?_map] at h
  obtain ⟨x, hx, rfl⟩ := Option.map_eq_some_iff.mp h
  have hk : k < cs.length := (List.getElem?_eq_some_iff.mp hx).1
  refine ⟨hk, ?_⟩
  rw [List.getD, hx]
  rfl
theorem ints_at' {V : List Int} {k : Nat} (h : k < V.length) : (V.map D.int)[k]? = some (.int (V.getD k 0)) := by simp [List.getD, h]
theorem tups_at {V : List (List Int)} {k : Nat} (h : k < V.length) : (V.map tupI)[k]? = some (tupI (V.getD k [])) := by simp [List.getD, h]
theorem take_snoc {α : Type} {L : List α} {k : Nat} (d : α) (h : k < L.length) : L.take (k + 1) = L.take k ++ [L.getD k d] := by
  rw [List.take_add_one]
  simp [List.getD, h]
end DL

namespace DL
open PySem PySem.Spec PyProof.Rows L2
section
variable {X : Cx} {sd : List Slot} {e a b c tg iter o : Expr} {es : List Expr} {pos : Pos} {r ra rb : R} {d : D} {ds : List D} {st : Stmt} {rest : List Stmt} {E : EndD}
end
end DL

namespace DL
open PySem PySem.Spec PyProof.Rows L2
section
variable {X : Cx} {sd : List Slot} {E : EndD} {e a b o : Expr} {ds es : List D} {d : D} {pos : Pos}
theorem RepL.atI {K : PySem.W.Frag} {H : Hp} {ds : List D} {xs : List V} {i : Int} {d : D} (r : RepL K H ds xs) (h : L2.atI ds i = some d) : ∃ v, L2.atI xs i = some v ∧ Rep K H d v := by
  unfold L2.atI at h ⊢
  rw [r.len]
  cases e : ixN ds.length i with
  | none => rw [e] at h; cases h
  | some j =>
    rw [e] at h
    exact r.get h
end
end DL

namespace DL
open PySem PySem.Spec PyProof.Rows L2
section
variable {X : Cx} {sd : List Slot} {b : Expr} {pos : Pos}
end
end DL

namespace DL
open PySem PySem.Spec PyProof.Rows L2
/-! ### sets of whole numbers below 6 -/
def byT (w : World) : Bool := w.params.followText "set-order"
def tabR (led : Bool) (m mv : Nat) (ks : List Nat) : SetTable := { mask := m, place := ks.toArray, dummies := #[], finger := 0, led := led, moves := mv, plain := true }
def tabK (led : Bool) (ks : List Nat) : SetTable := if ks.length < 5 then tabR led 7 0 ks else tabR led 31 1 ks
/-- the set object with the members ks -/
structure SmS (w : World) (o : Obj) (ks : List Nat) : Prop where
  ex : ∃ (es : List (Int × Value)) (ep : Nat), o = { cls := .type "set", dict := none, data := .set es.toArray ep (tabK (!byT w) ks) } ∧ es.map (·.1) = ks.map Int.ofNat ∧ ∀ e ∈ es, ∃ t, e.2 = .int e.1 t
section
variable {prog : Program} {w : World} {A : Around} {E : Value → Shared → Prop} {s : Shared}
end
end DL

namespace DL
open PySem PySem.Spec PyProof.Rows L2
section
variable {prog : Program} {w : World} {A : Around} {s : Shared}
abbrev set0 (w : World) : Obj := { cls := .type "set", dict := none, data := .set #[] 0 (tabK (!byT w) []) }
end
end DL

namespace DL
open PySem PySem.Spec PyProof.Rows L2
section
variable {prog : Program} {w : World} {A : Around} {E : Value → Shared → Prop} {s : Shared}
end
end DL

namespace DL
open PySem PySem.Spec PyProof.Rows L2
section
variable {prog : Program} {w : World} {A : Around} {E : Value → Shared → Prop} {s : Shared}
end
end DL

namespace DL
open PySem PySem.Spec PyProof.Rows L2
section
variable {prog : Program} {w : World} {A : Around} {E : Value → Shared → Prop} {s : Shared}
end
section
variable {X : Cx} {sd : List Slot} {e : Expr} {pos : Pos}
end
end DL

namespace DL
open PySem PySem.Spec PyProof.Rows L2
section
variable {prog : Program} {w : World} {A : Around} {E : Value → Shared → Prop} {s : Shared}
end
section
variable {prog : Program} {w : World} {A : Around} {E : Value → Shared → Prop} {s : Shared}
end
section
variable {X : Cx} {sd : List Slot} {e a b c tg iter : Expr} {es : List Expr} {pos : Pos} {r ra rb : R} {d : D} {ds : List D} {st : Stmt} {rest : List Stmt} {E : EndD}
end

section
variable {prog : Program} {w : World} {A : Around} {E : Value → Shared → Prop} {s : Shared}
end
section
variable {X : Cx} {sd : List Slot} {e a b c tg iter : Expr} {es : List Expr} {pos : Pos} {r ra rb : R} {d : D} {ds : List D} {st : Stmt} {rest : List Stmt} {E : EndD}
end
end DL

namespace DL
open PySem PySem.Spec PyProof.Rows L2
section
variable {prog : Program} {w : World} {A : Around} {E : Value → Shared → Prop} {s : Shared}
end
section
variable {X : Cx} {sd : List Slot} {e a b c tg iter : Expr} {es : List Expr} {pos : Pos} {r ra rb : R} {d : D} {ds : List D} {st : Stmt} {rest : List Stmt} {E : EndD}
end
end DL

namespace DL
open PySem PySem.Spec PyProof.Rows L2
def agree (bs : List Nat) (ws vs : List Int) : Prop := ∀ b ∈ bs, ws.getD b 0 = vs.getD b 0
theorem agree.trans {bs : List Nat} {ws vs us : List Int} (a : agree bs ws vs) (b : agree bs vs us) : agree bs ws us := fun x hx => (a x hx).trans (b x hx)
section
variable {p : Int × Int} {L : List SK} {look : List Nat}
end
section
variable (L : List SK) (look row : List Nat)
end
end DL

namespace DL
open PySem PySem.Spec PyProof.Rows L2
/-- what a slot was before: told in the older heap -/
def gV (K : PySem.W.Frag) (F0 : Hp) (d : D) : V → Hp → Prop := fun v F => Rep K F0 d v ∧ Same F0 F
def GLe (K : PySem.W.Frag) (F0 : Hp) : List Slot → List Slot → Prop
  | [], [] => True
  | z :: zs, u :: us => (u = .un ∨ ∃ d, z = .gh d (gV K F0 d) ∧ u = .val d) ∧ GLe K F0 zs us
  | _, _ => False
theorem GLe.slots {K : PySem.W.Frag} {F0 F H H' : Hp} : ∀ {sd sd' : List Slot} {σ : St}, GLe K F0 sd sd' → SlotsOk K F H sd σ → SlotsOk K F0 H' sd' σ ∧ owned sd' = []
  | [], [], _, _, h => ⟨h, rfl⟩
  | [], _ :: _, _, h, _ => h.elim
  | _ :: _, [], _, h, _ => h.elim
  | x :: xs, y :: ys, σ, h, q => by
    obtain ⟨h1, h2⟩ := h
    obtain ⟨o, r, rfl, a, b⟩ := q
    obtain ⟨c1, c2⟩ := GLe.slots (H' := H') h2 b
    rcases h1 with rfl | ⟨d, rfl, rfl⟩
    · exact ⟨⟨o, r, rfl, trivial, c1⟩, c2⟩
    · obtain ⟨v, e, _, g⟩ := a
      exact ⟨⟨o, r, rfl, ⟨v, e, (g F (Same.refl _)).1⟩, c1⟩, c2⟩
section
variable {X : Cx} {sd : List Slot} {e a b c tg iter o : Expr} {es : List Expr} {pos : Pos} {r ra rb : R} {d d' : D} {ds ls : List D} {st : Stmt} {rest : List Stmt} {E : EndD}
end
end DL

namespace DL
open PySem PySem.Spec PyProof.Rows L2
section
variable {X : Cx} {sd : List Slot} {e a b c tg iter o : Expr} {es : List Expr} {pos : Pos} {r ra rb : R} {d : D} {ds : List D} {st : Stmt} {rest : List Stmt} {E : EndD}
theorem Inv.retrack2 {pins : List (Addr × Obj)} {σ0 σ : St} {H F : Hp} {s s' : Shared} (I0 : Inv X pins σ0 H s) : ∀ (ls : List Addr), ls.Nodup → (∀ l ∈ ls, F l = none ∧ (∃ xs, H l = some xs ∧ Wr l xs) ∧ ∀ o, s.heap.get? l = some o → s'.heap.get? l = some o) → Inv X pins σ F s' → Inv X pins σ (fun b => if b ∈ ls then H b else F b) s'
  | [], _, _, I => by simpa using I
  | l :: ls, nd, h, I => by
    obtain ⟨nl, nd'⟩ := List.nodup_cons.mp nd
    have J := Inv.retrack2 I0 ls nd' (fun l' hl => h l' (List.mem_cons_of_mem _ hl)) I
    obtain ⟨n, ⟨xs, hx, wx⟩, kp⟩ := h l List.mem_cons_self
    have e : (fun b => if b ∈ l :: ls then H b else F b) = upd (fun b => if b ∈ ls then H b else F b) l xs := by
      funext b
      unfold upd
      by_cases hb : b = l
      · subst hb
        simp [hx]
      · simp [hb]
    rw [e]
    have n' : (fun b => if b ∈ ls then H b else F b) l = none := by simp [nl, n]
    have ob := I0.hok l _ hx
    clear e
    generalize (fun b => if b ∈ ls then H b else F b) = G at J n' ⊢
    refine ⟨J.ok, J.os, J.bare, ⟨J.base.keep, J.base.slot, fun b u g n0 hx0 => ?_, J.base.there, fun b ys g => ?_, fun b u ys g => ?_, fun b ps g => ?_⟩, J.loc, J.cell, ?_, fun x c g => ?_, fun p hp => ?_, J.hok.track n' ?_, J.len⟩
    · have hb : b ≠ l := fun q => by
        subst q
        have := I0.base.free b u g n0 hx0
        rw [hx] at this
        cases this
      rw [upd_ne hb]
      exact J.base.free b u g n0 hx0
    · have q := J.base.tups b ys g
      rw [upd_ne (ne_of_none q n')]
      exact q
    · have q := J.base.frzs b u ys g
      rw [upd_ne (ne_of_none q n')]
      exact q
    · obtain ⟨m, q⟩ := J.base.tbls b ps g
      exact ⟨m, by rw [upd_ne (ne_of_none q n')]; exact q⟩
    · rw [upd_ne (fun q => by have := I0.free; rw [q, hx] at this; cases this)]
      exact J.free
    · rw [upd_ne (fun q => by have := I0.freeC x c g; rw [q, hx] at this; cases this)]
      exact J.freeC x c g
    · obtain ⟨g, n0, rr⟩ := J.pin p hp
      refine ⟨g, ?_, rr⟩
      rw [upd_ne (fun q => by have := (I0.pin p hp).2.1; rw [q, hx] at this; cases this)]
      exact n0
    · cases xs with
      | lst xs =>
        obtain ⟨z, its, nn, rv, ho⟩ := ob
        exact ⟨z, its, nn, rv, kp _ ho⟩
      | dK kvs =>
        obtain ⟨z, y, vs, r, o, es, ep, e, c⟩ := ob
        exact ⟨z, y, vs, r, o, es, ep, kp _ e, c⟩
      | ext φ =>
        obtain ⟨h1, ⟨o1, h2⟩, h3⟩ := ob
        exact ⟨h3 _ _ h1 kp, ⟨o1, kp _ h2⟩, h3⟩
      | _ => exact wx.elim
/-- name = [.. for ..] beside lists of ours -/
theorem psd_setCO (i : Nat) {elt : Expr} {ifs : List Expr} {scope : Scope} {N M : List Str} {cap : List (Option Nat)} {sc : Scope} {Tb : D → List Slot} {y : Str} {py spos : Pos} (p : D → Bool) (f : D → D)
    (hN : X.N.Nodup) (hi : X.N[i]? = some y) (hy : X.env.scope.names.lookup y = some .local)
    (hsw : swapsWith (.ListComp elt [⟨tg, iter, ifs, 0⟩] scope pos) (some (.Name y py)) spos.line X.env = pure true)
    (hit : PId X (unO sd) PT0 tg iter ds) (hl : ds.length ≤ 1000)
    (hsc : X.env.scope = sc) (hcn : compNames scope sc = true) (hM : X.N = M) (hcap : capNames N M scope sc cap = true) (hk : scope.kind = .function)
    (hg : ∀ cl C fp s H d, d ∈ ds → PGd (cxB X N scope cl C fp s H) (capD cap sd) tg d (Tb d))
    (hle : ∀ d, d ∈ ds → Le (Tb d) (capD cap sd))
    (ht : ∀ cl C fp s H d, d ∈ ds → (ifs = [] ∧ p d = true) ∨ ∃ c, ifs = [c] ∧ PTd (cxB X N scope cl C fp s H) (Tb d) c (p d))
    (he : ∀ cl C fp s H d, d ∈ ds → p d = true → PEd (cxB X N scope cl C fp s H) (Tb d) elt (.val (f d)))
    (hE : ∀ l, E.nx (sd.set i (.own l ((ds.filter p).map f))))
    (hc : X.calm = true := by rfl) (hs : ∀ x, foldedSetIterable iter X.env x = pure x := by intro _; rfl) :
    PSd1 X sd (.Assign [.Name y py] (.ListComp elt [⟨tg, iter, ifs, 0⟩] scope pos) spos) E := .mk fun σ F H S => by
  intro pins0 s I0
  have I1 : Inv X pins0 σ F s := I0.less S.sub S.base (S.smp.sub S.sub)
  have ob : ∀ l ∈ owned sd, ∃ xs o, H l = some xs ∧ Wr l xs ∧ s.heap.get? l = some o ∧ ∀ v, o.data ≠ .cell v := fun l hl => by
    obtain ⟨n, xs, q, wx⟩ := S.slots.owns hl
    exact wr_obj wx q (I0.hok l _ q)
  have I : Inv X (pins0 ++ pinsAt (owned sd) s.heap) σ F s := I1.pins_of fun p hp => (List.mem_append.mp hp).elim (fun z => I1.pin p (List.mem_append_right _ z)) fun z => by
    obtain ⟨hb, g⟩ := of_pinsAt z
    obtain ⟨xs, o, q, _, ho, hc⟩ := ob p.1 hb
    rw [g] at ho
    cases ho
    refine ⟨g, (S.slots.owns hb).1, fun y => ?_, fun y => ?_, hc⟩
    · have := I0.free
      rw [← y, q] at this
      cases this
    · obtain ⟨_, o', ho', _⟩ := I0.ok.funs.mem y
      have := I0.base.free p.1 o' ho' (I0.ok.frf p.1 y) fun z => I0.ok.exfs p.1 z y
      rw [q] at this
      cases this
  have hpins : ∀ (s' : Shared) (σ' : St) (F3 : Hp), Inv X (pins0 ++ pinsAt (owned sd) s.heap) σ' F3 s' → ∀ l ∈ owned sd, F3 l = none ∧ (∃ xs, H l = some xs ∧ Wr l xs) ∧ ∀ o, s.heap.get? l = some o → s'.heap.get? l = some o := fun s' σ' F3 I3 l hl => by
    obtain ⟨xs, o, q, wx, ho, _⟩ := ob l hl
    have := I3.pin (l, o) (List.mem_append_right _ (List.mem_append_right _ (mem_pinsAt hl ho)))
    exact ⟨this.2.1, ⟨xs, q, wx⟩, fun o' g => by rw [ho] at g; cases g; exact this.1⟩
  have S0 : StF X.K X.B₀ F F σ (unO sd) := ⟨S.base, Same.refl _, S.smp.sub S.sub, slots_unO S.slots, by rw [owned_unO]; exact List.nodup_nil⟩
  have hpe : ∃ pins, pins = pins0 ++ pinsAt (owned sd) s.heap := ⟨_, rfl⟩
  obtain ⟨pins, hpe⟩ := hpe
  rw [← hpe] at I hpins
  have nm : ∀ y ∈ scope.names, (y.2 = NameKind.free → sc.names.lookup y.1 = some NameKind.cell) ∧ (y.2 = NameKind.local → scope.names.lookup y.1 = some NameKind.local) := fun y hy => by
    have q := List.all_eq_true.mp hcn y hy
    simp only [Bool.and_eq_true, Bool.or_eq_true, Bool.not_eq_true', beq_eq_false_iff_ne, ne_eq, beq_iff_eq] at q
    exact ⟨fun e => q.1.1.resolve_left fun z => z e, fun e => q.2.resolve_left fun z => z e⟩
  have fre : ∀ y ∈ scope.names, y.2 = .free → ∃ c, X.env.cells.lookup y.1 = some c := fun y hy e => I.ok.has y.1 (.inl (by show X.env.scope.names.lookup y.1 = _; rw [hsc]; exact (nm y hy).1 e))
  rw [exec_Assign_Name_used _ _ _ _ hsw]
  refine wpAny_bind (wpAny_standAt (wpAny_bind ?_))
  show wpAny _ X.A (do let _ ← comprehension (.ListComp elt [⟨tg, iter, ifs, 0⟩] scope pos) scope X.env _ (newList []) false (eval iter X.env) (some (assign (.Name y py) X.env))) _ _ s
  refine wpAny_bind (wpAny_mono (wpAny_comprehension_free (use := some (assign (.Name y py) X.env)) (Q := fun _ s' => SP X pins0 (lft X F E) .next s') rfl hs (closure_eq fre) hk (fun y hy => (nm y hy).2) ?_) (fun _ s' hq => wpAny_pure (wpAny_pure hq)) fun _ _ e => e)
  refine thn (hit σ F F S0 pins s I) fun v s1 h1 => thn h1 fun itv s2 h2 => ?_
  obtain ⟨it, fp, tn, J, H2, e, I2, T, st2, f2, F1, S1, s1', itd⟩ := h2
  subst e
  have S1b : StF X.K H2 H2 H2 (capt cap σ) (capD cap sd) := ⟨Same.refl _, Same.refl _, S1.smp, by
    have q := capD_ok (sd := unO sd) (H' := H2) S1.slots S1.sub cap
    rw [capD_unO] at q
    exact q, by rw [owned_capD]; exact List.nodup_nil⟩
  refine comp_run (N := N) (cap := cap) (g := fun v σ2 H3 Q => ∀ cl C, wG (cxB X N scope cl C fp s2 H2) tg v σ2 H3 Q) (tt := fun σ2 H3 Q => ∀ cl C, wIfs (cxB X N scope cl C fp s2 H2) ifs σ2 H3 Q) (te := fun σ2 H3 Q => ∀ cl C, wE (cxB X N scope cl C fp s2 H2) elt σ2 H3 Q)
    hc hsc hcn (by rw [hM]; exact hcap) hk I2 T st2 f2 (fun cl C pi s3 σ3 H3 v u Q I3 ru q => q cl C pi s3 u I3 ru) (fun cl C pi s3 σ3 H3 Q I3 q => q cl C pi s3 I3) (fun cl C pi s3 σ3 H3 Q I3 q => q cl C pi s3 I3)
    (fun i m ys σb H3 => m = ds.length - i ∧ i ≤ ds.length ∧ ∃ Fb, StF X.K H2 Fb H3 σb (capD cap sd) ∧ RepL X.K Fb (((ds.take i).filter p).map f) ys) ds.length
    ⟨by simp, Nat.zero_le _, H2, S1b, by simpa using RepL.nil⟩ _ ?_
  rintro i' m ys σb H3 ⟨rfl, hil, Fb, Sb, rl⟩
  have sF1 : Same F1 Fb := fun b o g => Sb.base _ _ (S1.sub _ _ g)
  obtain ⟨g1, g2, g3⟩ := itd Fb H3 sF1 Sb.sub Sb.smp trivial i'
  by_cases hlt : i' < ds.length
  · have hd : ds[i']? = some ds[i'] := by simp [hlt]
    have hm : ds[i'] ∈ ds := List.getElem_mem hlt
    have ylen : ys.length ≤ i' := by
      rw [rl.len, List.length_map]
      exact Nat.le_trans (List.length_filter_le _ _) (by simp; omega)
    refine .inr ⟨g1 hlt, small1000 (by omega), fun ys' σ' H' => ∃ Fb', StF X.K H2 Fb' H' σ' (capD cap sd) ∧ RepL X.K Fb' (((ds.take (i' + 1)).filter p).map f) ys', fun ys' σ' H' ⟨Fb', Sb', rl'⟩ => ⟨ds.length - (i' + 1), by omega, rfl, hlt, Fb', Sb', rl'⟩, fun x H4 y cl C => ?_⟩
    obtain ⟨F4, s4, rp, up⟩ := g3 x H4 ds[i'] hd y
    refine (hg cl C fp s2 H2 _ hm σb F4 H4 x (up _ _ _ Sb) rp).imp fun σ5 H5 ⟨F5, S5, s5⟩ cl2 C2 => ?_
    have rl5 := rl.mono (s4.trans s5)
    have fin : ∀ (b : Bool) (H6 : Hp) (F6 : Hp), b = p ds[i'] → StF X.K H2 F6 H6 σ5 (Tb ds[i']) → Same F5 F6 → if b = true then (∀ cl C, wE (cxB X N scope cl C fp s2 H2) elt σ5 H6 fun v H5 => ∃ Fb', StF X.K H2 Fb' H5 σ5 (capD cap sd) ∧ RepL X.K Fb' (((ds.take (i' + 1)).filter p).map f) (ys ++ [v])) else ∃ Fb', StF X.K H2 Fb' H6 σ5 (capD cap sd) ∧ RepL X.K Fb' (((ds.take (i' + 1)).filter p).map f) ys := fun b H6 F6 eb S6 s6 => by
      rw [filter_take_succ p hd, ← eb]
      cases b with
      | false => exact iteF ⟨F6, S6.le (hle _ hm), by simpa using rl5.mono s6⟩
      | true =>
        refine iteT fun cl3 C3 => (he cl3 C3 fp s2 H2 _ hm eb.symm σ5 F6 H6 S6).imp fun v H7 ⟨F7, S7, s7, q7⟩ => ⟨F7, S7.le (hle _ hm), ?_⟩
        simp only [if_true, List.map_append, List.map_cons, List.map_nil]
        exact ((rl5.mono s6).mono s7).app (.one q7)
    rcases ht cl2 C2 fp s2 H2 _ hm with ⟨e1, e2⟩ | ⟨c, e1, q⟩
    · subst e1
      exact wIfs_nil (fin true H5 F5 e2.symm S5 (Same.refl _))
    · subst e1
      exact wIfs_one ((q σ5 F5 H5 S5).imp fun b H6 ⟨eb, F6, S6, s6⟩ => fin b H6 F6 eb S6 s6)
  · have e : i' = ds.length := by omega
    subst e
    refine .inl ⟨g2 (Nat.le_refl _), fun D C s' hD hC hDC h0 hL hcc hpp hst ⟨m', ns'⟩ J' => ?_⟩
    have fbD : Fb D = none := Sb.sub.free hD
    have nOw : ∀ l ∈ owned sd, (upd H3 D (.lst ys)) l = none := fun l hl => (hpins _ _ _ J' l hl).1
    have dOw : D ∉ owned sd := fun hl => by
      have := nOw D hl
      rw [upd_same] at this
      cases this
    have S9 : StF X.K X.B₀ Fb (fun b => if b ∈ owned sd then H b else (upd H3 D (.lst ys)) b) σ sd := by
      refine ⟨fun b o g => sF1 _ _ (S1.base _ _ g), fun b o g => ?_, fun b o g => ?_, S.slots.mono (s1'.trans sF1) fun l hl => ?_, S.nd⟩
      · have nb : b ∉ owned sd := fun hb => by
          have := nOw b hb
          rw [upd_ne (ne_of_none g fbD)] at this
          rw [Sb.sub _ _ g] at this
          cases this
        show (if b ∈ owned sd then H b else _) = _
        rw [if_neg nb, upd_ne (ne_of_none g fbD)]
        exact Sb.sub _ _ g
      · by_cases hb : b ∈ owned sd
        · simp only [hb, if_true] at g
          exact S.smp _ _ g
        · simp only [hb, if_false] at g
          by_cases hb : b = D
          · subst hb
            rw [upd_same] at g
            cases g
            trivial
          · rw [upd_ne hb] at g
            exact Sb.smp _ _ g
      · have := nOw l hl
        rw [upd_ne (show l ≠ D from fun q => dOw (q ▸ hl))] at this
        refine ⟨Sb.sub.free this, fun xs g => ?_⟩
        show (if l ∈ owned sd then H l else _) = _
        rw [if_pos hl]
        exact g
    have S10 := S9.setO i fbD (by show (if D ∈ owned sd then _ else _) = _; rw [if_neg dOw]; exact upd_same) rl dOw
    obtain ⟨oC, esC, epC, hoC, rC⟩ := id ns'
    have nC : (upd H3 D (.lst ys)) C = none := by rw [upd_ne (Ne.symm hDC)]; exact hC
    -- the store keeps the block's own names: C is pinned
    have Jp : Inv X (pins ++ [(C, oC)]) σ (upd H3 D (.lst ys)) s' := J'.pins_of fun q hq => (List.mem_append.mp hq).elim (fun z => J'.pin q (List.mem_append_right _ z)) fun z => by
      have z : q = (C, oC) := by simpa using z
      subst z
      exact ⟨hoC, nC, hL, fun y => hst (by
        rcases J'.ok.stk with e | ⟨e, _⟩
        · rw [e]; exact y
        · rw [e]
          unfold frs
          rw [List.filterMap_cons]
          cases X.env.frame with
          | none => exact y
          | some fr => exact List.mem_cons_of_mem _ y), fun v z => by rw [rC.1] at z; cases z⟩
    show wpAny _ X.A (assign (.Name y py) X.env (.ref D)) _ _ _
    refine wpAny_assign_Name (store_ok (v := .ref D) (u := .ref D) Jp hN hi (.inl hy) rfl (fun s3 J3 => ?_) (.inr hy))
    have pC := J3.pin (C, oC) (List.mem_append_right _ (List.mem_append_right _ List.mem_cons_self))
    refine ⟨m', ⟨oC, esC, epC, pC.1, rC⟩, fun h' sb => ?_⟩
    have J4 : Inv X pins _ (upd H3 D (.lst ys)) s3 := J3.pins_of fun q hq => J3.pin q (List.mem_append_right _ (List.mem_append_left _ hq))
    have J5 : Inv X pins _ (upd H3 D (.lst ys)) { s3 with heap := h', toks := s3.toks } := J4.turned (it := C) (fun b o hb g => sb.extBut b o hb g) nC hL (.inr h0) hcc hpp
    have J6 : Inv X pins0 _ (upd H3 D (.lst ys)) { s3 with heap := h', toks := s3.toks } := J5.pins_of fun q hq => J5.pin q (List.mem_append_right _ (by rw [hpe]; exact List.mem_append_left _ hq))
    have J7 := Inv.retrack2 I0 (owned sd) S.nd (hpins _ _ _ J5) J6
    refine ⟨_, _, J7, _, Fb, S10, s1'.trans sF1, ?_⟩
    have hE' := hE D
    simpa using hE'
end
end DL

namespace DL
open PySem PySem.Spec PyProof.Rows L2
section
variable {X : Cx} {sd : List Slot} {e a b c tg iter o : Expr} {es : List Expr} {pos : Pos} {r ra rb : R} {d d' : D} {ds ls : List D} {st : Stmt} {rest : List Stmt} {E : EndD}
end
end DL

namespace DL
open PySem PySem.Spec PyProof.Rows L2
/-! ### a list of lists, all of them ours -/
def InL (H : Hp) : List Addr → List (List Int) → Prop
  | [], [] => True
  | a :: as, ns :: nss => H a = some (.lst (ns.map V.int)) ∧ InL H as nss
  | _, _ => False
theorem InL.len {H : Hp} : ∀ {as : List Addr} {nss : List (List Int)}, InL H as nss → as.length = nss.length
  | [], [], _ => rfl
  | [], _ :: _, h => h.elim
  | _ :: _, [], h => h.elim
  | _ :: as, _ :: nss, h => by rw [List.length_cons, List.length_cons, InL.len h.2]
theorem InL.mono {H H' : Hp} : ∀ {as : List Addr} {nss : List (List Int)}, InL H as nss → (∀ a ∈ as, ∀ ob, H a = some ob → H' a = some ob) → InL H' as nss
  | [], [], _, _ => trivial
  | [], _ :: _, h, _ => h.elim
  | _ :: _, [], h, _ => h.elim
  | a :: as, _ :: nss, h, k => ⟨k a List.mem_cons_self _ h.1, InL.mono h.2 fun b hb => k b (List.mem_cons_of_mem _ hb)⟩
theorem InL.app {H : Hp} : ∀ {as bs : List Addr} {nss mss : List (List Int)}, InL H as nss → InL H bs mss → InL H (as ++ bs) (nss ++ mss)
  | [], bs, [], mss, _, h => h
  | [], _, _ :: _, _, h, _ => h.elim
  | _ :: _, _, [], _, h, _ => h.elim
  | a :: as, bs, _ :: nss, mss, h, g => ⟨h.1, InL.app h.2 g⟩
theorem InL.rev {H : Hp} : ∀ {as : List Addr} {nss : List (List Int)}, InL H as nss → InL H as.reverse nss.reverse
  | [], [], _ => trivial
  | [], _ :: _, h => h.elim
  | _ :: _, [], h => h.elim
  | a :: as, ns :: nss, h => by
    rw [List.reverse_cons, List.reverse_cons]
    exact (InL.rev h.2).app ⟨h.1, trivial⟩
theorem InL.get {H : Hp} : ∀ {as : List Addr} {nss : List (List Int)} {t : Nat} {a : Addr}, InL H as nss → as[t]? = some a → ∃ ns, nss[t]? = some ns ∧ H a = some (.lst (ns.map V.int))
  | [], [], t, a, _, e => by simp at e
  | [], _ :: _, _, _, h, _ => h.elim
  | _ :: _, [], _, _, h, _ => h.elim
  | b :: as, ns :: nss, 0, a, h, e => by
    have : b = a := by simpa using e
    subst this
    exact ⟨ns, rfl, h.1⟩
  | b :: as, ns :: nss, t + 1, a, h, e => by
    obtain ⟨ms, e1, e2⟩ := InL.get (t := t) h.2 (by simpa using e)
    exact ⟨ms, by simpa using e1, e2⟩
theorem InL.of {H : Hp} {as : List Addr} {nss : List (List Int)} (h : InL H as nss) : ∀ a ∈ as, ∃ ns : List Int, H a = some (.lst (ns.map V.int)) := fun a ha => by
  obtain ⟨t, ht⟩ := List.getElem?_of_mem ha
  obtain ⟨ns, _, e⟩ := h.get ht
  exact ⟨ns, e⟩
theorem InL.set {H : Hp} : ∀ {as : List Addr} {nss : List (List Int)} {t : Nat} {a : Addr} (ms : List Int), as.Nodup → InL H as nss → as[t]? = some a → InL (upd H a (.lst (ms.map V.int))) as (nss.set t ms)
  | [], [], t, a, _, _, _, e => by simp at e
  | [], _ :: _, _, _, _, _, h, _ => h.elim
  | _ :: _, [], _, _, _, _, h, _ => h.elim
  | b :: as, ns :: nss, 0, a, ms, nd, h, e => by
    have : b = a := by simpa using e
    subst this
    refine ⟨upd_same, h.2.mono fun c hc ob q => ?_⟩
    rw [upd_ne (show c ≠ b from fun z => (List.nodup_cons.mp nd).1 (z ▸ hc))]
    exact q
  | b :: as, ns :: nss, t + 1, a, ms, nd, h, e => by
    have e' : as[t]? = some a := by simpa using e
    refine ⟨?_, InL.set ms (List.nodup_cons.mp nd).2 h.2 e'⟩
    rw [upd_ne (show b ≠ a from fun z => (List.nodup_cons.mp nd).1 (z ▸ List.mem_of_getElem? e'))]
    exact h.1
theorem ownL_nodup : ∀ {sd : List Slot} {i : Nat} {z : Slot}, (owned sd).Nodup → sd[i]? = some z → (ownL z).Nodup
  | [], _, _, _, e => by simp at e
  | y :: zs, 0, z, h, e => by
    have : y = z := by simpa using e
    subst this
    exact (List.nodup_append.mp (show (ownL y ++ owned zs).Nodup from h)).1
  | y :: zs, i + 1, z, h, e => ownL_nodup (sd := zs) (i := i) (List.nodup_append.mp (show (ownL y ++ owned zs).Nodup from h)).2.1 (by simpa using e)
section
variable {K : PySem.W.Frag} {H₀ F F' H H' : Hp} {σ : St} {sd : List Slot} {i : Nat} {l : Addr} {ls : List Addr} {nss : List (List Int)}
theorem StF.setX {as : List Addr} {G : V → Hp → Hp → Prop} {v : V} (S : StF K H₀ F H σ sd) (i : Nat) (q : SlotOk K F H (.ox as G) (some v)) (nd : as.Nodup) (no : ∀ a ∈ as, a ∉ owned sd) : StF K H₀ F H (σ.set i (some v)) (sd.set i (.ox as G)) :=
  ⟨S.base, S.sub, S.smp, S.slots.set (z := .ox as G) q i, (owned_set (z := .ox as G) i S.nd (fun l e => .inl (no l e)) nd).1⟩
/-- what a slot owns is written -/
theorem StF.reX {z z' : Slot} {o : Option V} (S : StF K H₀ F H σ sd) (hs : sd[i]? = some z) (ho : σ[i]? = some o) (keep : ∀ b ob, b ∉ ownL z → H b = some ob → H' b = some ob) (sm : Smp H') (q : SlotOk K F H' z' o) (nd : (ownL z').Nodup) (no : ∀ a ∈ ownL z', a ∈ ownL z ∨ a ∉ owned sd) : StF K H₀ F H' σ (sd.set i z') := by
  have S0 := S.le (le_set_un sd i)
  have mz : ∀ a ∈ ownL z, a ∈ owned sd := fun a ha => List.mem_flatMap.mpr ⟨z, List.mem_of_getElem? hs, ha⟩
  refine ⟨S.base, fun b u e => ?_, sm, ?_, ?_⟩
  · refine keep b u (fun hb => ?_) (S.sub _ _ e)
    have := (S.slots.owns (mz b hb)).1
    rw [e] at this
    cases this
  · have q1 : SlotsOk K F H' (sd.set i .un) σ := S0.slots.mono (Same.refl _) fun a ha => ⟨(S0.slots.owns ha).1, fun ob e => keep a ob (fun hb => not_ownedZ S.nd hs hb ha) e⟩
    have q2 := q1.set (z := z') (o := o) q i
    rw [set_set, set_same ho] at q2
    exact q2
  · have := owned_set (z := z') i S0.nd (fun a ha => by
      rcases no a ha with h | h
      · exact .inl (not_ownedZ S.nd hs h)
      · exact .inl fun hm => h ((le_set_un sd i).own.subset hm)) nd
    rw [set_set] at this
    exact this.1
/-- frozen for a while -/
def inF (F H : Hp) (as : List Addr) : Hp := fun b => if b ∈ as then H b else F b
theorem inF_in {as : List Addr} {b : Addr} (h : b ∈ as) : inF F H as b = H b := if_pos h
theorem inF_ni {as : List Addr} {b : Addr} (h : b ∉ as) : inF F H as b = F b := if_neg h
theorem inF_sub {as : List Addr} (h : ∀ a ∈ as, F a = none) : Same F (inF F H as) := fun b u e => by
  rw [inF_ni (fun hb => by rw [h b hb] at e; cases e)]
  exact e
theorem StF.inN (S : StF K H₀ F H σ sd) (h0 : ∀ a ∈ l :: ls, F a = none) (no : ∀ a ∈ l :: ls, a ∉ owned sd) : StF K H₀ (inF F H (l :: ls)) H σ sd ∧ Same F (inF F H (l :: ls)) := by
  have s1 := inF_sub (H := H) h0
  refine ⟨⟨fun b u e => s1 _ _ (S.base _ _ e), fun b u e => ?_, S.smp, S.slots.mono s1 fun a ha => ⟨?_, fun ob e => e⟩, S.nd⟩, s1⟩
  · by_cases h : b ∈ l :: ls
    · rw [inF_in h] at e
      exact e
    · rw [inF_ni h] at e
      exact S.sub _ _ e
  · rw [inF_ni (fun hb => no a hb ha)]
    exact (S.slots.owns ha).1
def outF (F : Hp) : List Addr → Hp
  | [] => F
  | a :: as => del (outF F as) a
theorem outF_in : ∀ {as : List Addr} {a : Addr}, a ∈ as → outF F as a = none
  | b :: as, a, h => by
    show del (outF F as) b a = none
    by_cases e : a = b
    · subst e
      exact del_same
    · rw [del_ne e]
      exact outF_in ((List.mem_cons.mp h).resolve_left e)
theorem outF_ni : ∀ {as : List Addr} {a : Addr}, a ∉ as → outF F as a = F a
  | [], _, _ => rfl
  | b :: as, a, h => by
    show del (outF F as) b a = F a
    rw [del_ne (show a ≠ b from fun e => h (e ▸ List.mem_cons_self))]
    exact outF_ni fun z => h (List.mem_cons_of_mem _ z)
theorem Rep.delN {d : D} {v : V} (hn : noL d = true) (r : Rep K F d v) : ∀ {as : List Addr}, as.Nodup → (∀ a ∈ as, ∃ xs, F a = some (.lst xs)) → Rep K (outF F as) d v
  | [], _, _ => r
  | a :: as, nd, h => by
    obtain ⟨n1, n2⟩ := List.nodup_cons.mp nd
    obtain ⟨xs, e⟩ := h a List.mem_cons_self
    exact Rep.del (xs := xs) (by rw [outF_ni n1]; exact e) hn (Rep.delN hn r n2 fun b hb => h b (List.mem_cons_of_mem _ hb))
theorem RepL.delN {ds : List D} {vs : List V} (hn : noLs ds = true) (r : RepL K F ds vs) : ∀ {as : List Addr}, as.Nodup → (∀ a ∈ as, ∃ xs, F a = some (.lst xs)) → RepL K (outF F as) ds vs
  | [], _, _ => r
  | a :: as, nd, h => by
    obtain ⟨n1, n2⟩ := List.nodup_cons.mp nd
    obtain ⟨xs, e⟩ := h a List.mem_cons_self
    exact RepL.del (xs := xs) (by rw [outF_ni n1]; exact e) hn (RepL.delN hn r n2 fun b hb => h b (List.mem_cons_of_mem _ hb))
/-- the other things of ours hold no lists -/
def okN : Slot → Bool
  | .ox as _ => as.isEmpty
  | z => okS z
def OthN (sd : List Slot) (i : Nat) : Prop := ∀ (k : Nat) (z : Slot), k ≠ i → sd[k]? = some z → okN z = true
def othN : List Slot → Nat → Bool
  | [], _ => true
  | _ :: zs, 0 => zs.all okN
  | z :: zs, i + 1 => okN z && othN zs i
theorem oth_n : ∀ {sd : List Slot} {i : Nat}, othN sd i = true → OthN sd i
  | [], _, _, k, y, _, hz => by simp at hz
  | z :: zs, 0, h, k, y, hk, hz => by
    cases k with
    | zero => exact absurd rfl hk
    | succ k => exact List.all_eq_true.mp (show zs.all okN = true from h) _ (List.mem_of_getElem? (by simpa using hz))
  | z :: zs, i + 1, h, k, y, hk, hz => by
    have h' : (okN z && othN zs i) = true := h
    rw [Bool.and_eq_true] at h'
    cases k with
    | zero =>
      have : z = y := by simpa using hz
      subst this
      exact h'.1
    | succ k => exact oth_n h'.2 k y (fun q => hk (by rw [q])) (by simpa using hz)
end
section
variable {X : Cx} {sd : List Slot} {e a b c tg iter o : Expr} {es : List Expr} {pos : Pos} {r ra rb : R} {d : D} {ds : List D} {st : Stmt} {rest : List Stmt} {E : EndD} {l : Addr} {ls : List Addr} {nss : List (List Int)} {ns : List Int}
theorem smp_upd {H : Hp} {xs : List V} (h : Smp H) (a : Addr) : Smp (upd H a (.lst xs)) := fun b u e => by
  by_cases z : b = a
  · subst z
    rw [upd_same] at e
    cases e
    trivial
  · rw [upd_ne z] at e
    exact h _ _ e
/-- a name for one of the lists -/
def isA (a : Addr) : Slot := .ox [] fun v _ _ => v = .ref a
theorem isA_get {K : PySem.W.Frag} {H₀ F H : Hp} {σ : St} {j : Nat} {a : Addr} (S : StF K H₀ F H σ sd) (hs : sd[j]? = some (isA a)) : σ[j]? = some (some (.ref a)) := by
  obtain ⟨o, h1, v, h2, h3, h4⟩ := S.slots.get hs
  have e := h4 F H (Same.refl _) fun _ _ _ q => q
  subst e h2
  exact h1
end
theorem noLs_int : ∀ ns : List Int, noLs (ns.map D.int) = true
  | [] => rfl
  | n :: ns => by
    show (true && noLs (ns.map D.int)) = true
    rw [noLs_int ns]
    rfl
end DL

namespace DL
open PySem PySem.Spec PyProof.Rows L2
/-! ### a comprehension whose items are fresh lists -/
def InD (K : PySem.W.Frag) (F H : Hp) : List Addr → List (List D) → Prop
  | [], [] => True
  | a :: as, ds :: dss => (∃ xs, H a = some (.lst xs) ∧ RepL K F ds xs) ∧ InD K F H as dss
  | _, _ => False
section
variable {K : PySem.W.Frag} {F F' H H' : Hp}
theorem InD.len : ∀ {as : List Addr} {dss : List (List D)}, InD K F H as dss → as.length = dss.length
  | [], [], _ => rfl
  | [], _ :: _, h => h.elim
  | _ :: _, [], h => h.elim
  | _ :: as, _ :: dss, h => by rw [List.length_cons, List.length_cons, InD.len h.2]
theorem InD.of : ∀ {as : List Addr} {dss : List (List D)}, InD K F H as dss → ∀ a ∈ as, ∃ xs, H a = some (.lst xs)
  | [], [], _, a, ha => by cases ha
  | [], _ :: _, h, _, _ => h.elim
  | _ :: _, [], h, _, _ => h.elim
  | b :: as, _ :: dss, h, a, ha => by
    rcases List.mem_cons.mp ha with rfl | ha
    · exact ⟨h.1.choose, h.1.choose_spec.1⟩
    · exact InD.of h.2 a ha
theorem InD.mono : ∀ {as : List Addr} {dss : List (List D)}, InD K F F as dss → Same F F' → InD K F' F' as dss
  | [], [], _, _ => trivial
  | [], _ :: _, h, _ => h.elim
  | _ :: _, [], h, _ => h.elim
  | _ :: as, _ :: dss, h, s => by
    obtain ⟨⟨xs, e, r⟩, h2⟩ := h
    exact ⟨⟨xs, s _ _ e, r.mono s⟩, InD.mono h2 s⟩
theorem InD.app : ∀ {as bs : List Addr} {dss ess : List (List D)}, InD K F H as dss → InD K F H bs ess → InD K F H (as ++ bs) (dss ++ ess)
  | [], bs, [], ess, _, h => h
  | [], _, _ :: _, _, h, _ => h.elim
  | _ :: _, _, [], _, h, _ => h.elim
  | a :: as, bs, _ :: dss, ess, h, g => ⟨h.1, InD.app h.2 g⟩
theorem InD.out {cs : List Addr} {Fb : Hp} : ∀ {as : List Addr} {dss : List (List D)}, InD K Fb Fb as dss → (∀ es ∈ dss, noLs es = true) → cs.Nodup → (∀ a ∈ cs, ∃ xs, Fb a = some (.lst xs)) → Same (outF Fb cs) F' → (∀ a ∈ as, ∀ ob, Fb a = some ob → H' a = some ob) → InD K F' H' as dss
  | [], [], _, _, _, _, _, _ => trivial
  | [], _ :: _, h, _, _, _, _, _ => h.elim
  | _ :: _, [], h, _, _, _, _, _ => h.elim
  | a :: as, es :: dss, h, hn, nd, fx, s, k => by
    obtain ⟨⟨xs, e, r⟩, h2⟩ := h
    exact ⟨⟨xs, k a List.mem_cons_self _ e, (RepL.delN (hn es List.mem_cons_self) r nd fx).mono s⟩, InD.out h2 (fun x hx => hn x (List.mem_cons_of_mem _ hx)) nd fx s fun b hb => k b (List.mem_cons_of_mem _ hb)⟩
end
def GD (K : PySem.W.Frag) (l : Addr) (ls : List Addr) (dss : List (List D)) : V → Hp → Hp → Prop := fun v F H => v = .ref l ∧ H l = some (.lst (ls.map V.ref)) ∧ InD K F H ls dss
section
variable {X : Cx} {sd : List Slot} {e a b c tg iter : Expr} {es : List Expr} {pos : Pos} {r ra rb : R} {d : D} {ds : List D} {st : Stmt} {rest : List Stmt} {E : EndD}
end
end DL

namespace DL
open PySem PySem.Spec PyProof.Rows L2
section
variable {K : PySem.W.Frag} {H₀ F F' H H' : Hp} {σ : St} {sd : List Slot} {i : Nat} {l : Addr} {ls : List Addr} {dss : List (List D)}
theorem InD.mono2 : ∀ {as : List Addr} {dss : List (List D)}, InD K F H as dss → Same F F' → (∀ a ∈ as, ∀ ob, H a = some ob → H' a = some ob) → InD K F' H' as dss
  | [], [], _, _, _ => trivial
  | [], _ :: _, h, _, _ => h.elim
  | _ :: _, [], h, _, _ => h.elim
  | a :: as, _ :: dss, h, s, k => by
    obtain ⟨⟨xs, e, r⟩, h2⟩ := h
    exact ⟨⟨xs, k a List.mem_cons_self _ e, r.mono s⟩, InD.mono2 h2 s fun b hb => k b (List.mem_cons_of_mem _ hb)⟩
theorem InD.get : ∀ {as : List Addr} {dss : List (List D)} {t : Nat} {a : Addr}, InD K F H as dss → as[t]? = some a → ∃ ds xs, dss[t]? = some ds ∧ H a = some (.lst xs) ∧ RepL K F ds xs
  | [], [], t, a, _, e => by simp at e
  | [], _ :: _, _, _, h, _ => h.elim
  | _ :: _, [], _, _, h, _ => h.elim
  | b :: as, ds :: dss, 0, a, h, e => by
    have : b = a := by simpa using e
    subst this
    obtain ⟨⟨xs, e1, r⟩, _⟩ := h
    exact ⟨ds, xs, rfl, e1, r⟩
  | b :: as, ds :: dss, t + 1, a, h, e => by
    obtain ⟨ms, xs, e1, e2⟩ := InD.get (t := t) h.2 (by simpa using e)
    exact ⟨ms, xs, by simpa using e1, e2⟩
theorem InD.set : ∀ {as : List Addr} {dss : List (List D)} {t : Nat} {a : Addr} {es : List D} {ys : List V}, as.Nodup → InD K F H as dss → as[t]? = some a → RepL K F es ys → InD K F (upd H a (.lst ys)) as (dss.set t es)
  | [], [], t, a, _, _, _, _, e, _ => by simp at e
  | [], _ :: _, _, _, _, _, _, h, _, _ => h.elim
  | _ :: _, [], _, _, _, _, _, h, _, _ => h.elim
  | b :: as, ds :: dss, 0, a, es, ys, nd, h, e, r => by
    have : b = a := by simpa using e
    subst this
    refine ⟨⟨ys, upd_same, r⟩, h.2.mono2 (Same.refl _) fun c hc ob q => ?_⟩
    rw [upd_ne (show c ≠ b from fun z => (List.nodup_cons.mp nd).1 (z ▸ hc))]
    exact q
  | b :: as, ds :: dss, t + 1, a, es, ys, nd, h, e, r => by
    have e' : as[t]? = some a := by simpa using e
    obtain ⟨⟨xs, e1, r1⟩, h2⟩ := h
    refine ⟨⟨xs, ?_, r1⟩, InD.set (List.nodup_cons.mp nd).2 h2 e' r⟩
    rw [upd_ne (show b ≠ a from fun z => (List.nodup_cons.mp nd).1 (z ▸ List.mem_of_getElem? e'))]
    exact e1
theorem rep_dss {G : Hp} : ∀ {as : List Addr} {dss : List (List D)}, InD K G G as dss → RepL K G (dss.map D.lst) (as.map V.ref)
  | [], [], _ => .nil
  | [], _ :: _, h => h.elim
  | _ :: _, [], h => h.elim
  | a :: as, ds :: dss, h => by
    obtain ⟨⟨xs, e, r⟩, h2⟩ := h
    rw [List.map_cons, List.map_cons]
    refine .cons ?_ (rep_dss h2)
    simp only [Rep]
    exact ⟨a, xs, rfl, e, r⟩
end
section
variable {X : Cx} {sd : List Slot} {e a b c tg iter o : Expr} {es : List Expr} {pos : Pos} {r ra rb : R} {d : D} {ds : List D} {st : Stmt} {rest : List Stmt} {E : EndD} {l : Addr} {ls : List Addr} {dss : List (List D)}
end
end DL

namespace DL
open PySem PySem.Spec PyProof.Rows L2
section
variable {X : Cx} {sd : List Slot} {e a b c ix : Expr} {pos : Pos} {d : D} {ds : List D} {E : EndD} {l : Addr} {ls : List Addr} {dss : List (List D)}
end
end DL

namespace DL
open PySem PySem.Spec PyProof.Rows L2
theorem plL_map' {α : Type} (f : α → D) (h : ∀ a, pl (f a) = true) : ∀ l : List α, plL (l.map f) = true
  | [] => rfl
  | a :: l => by
    show (pl (f a) && plL (l.map f)) = true
    rw [h a, plL_map' f h l]
    rfl
theorem depL_map' {α : Type} (f : α → D) (n : Nat) (h : ∀ a, dep (f a) ≤ n) : ∀ l : List α, depL (l.map f) ≤ n
  | [] => Nat.zero_le _
  | a :: l => Nat.max_le.mpr ⟨h a, depL_map' f n h l⟩
def wsD : Option (List (List Int)) → D
  | none => .non
  | some L => .lst (L.map tupI)
def WsOk (p : Int × Int) (o : Option (List (List Int))) : Prop := ∀ L, o = some L → 0 < L.length ∧ L.length ≤ 100 ∧ ∀ ws ∈ L, Fil p ws
structure WishOk (p : Int × Int) (w : List (Option (List (List Int)))) : Prop where
  len : w.length = (filA p).length
  ok : ∀ o ∈ w, WsOk p o
theorem ws_at {w : List (Option (List (List Int)))} {k : Nat} (h : k < w.length) : (w.map wsD)[k]? = some (wsD (w.getD k none)) := by simp [List.getD, h]
theorem ws_get {w : List (Option (List (List Int)))} {k : Nat} {d : D} (h : (w.map wsD)[k]? = some d) : k < w.length ∧ d = wsD (w.getD k none) := by
  have hk : k < w.length := by
    have := (List.getElem?_eq_some_iff.mp h).1
    simpa using this
  rw [ws_at hk] at h
  exact ⟨hk, (Option.some.inj h).symm⟩
theorem isN_ws (o : Option (List (List Int))) : isN (wsD o) = o.isNone := by cases o <;> rfl
theorem pl_ws (o : Option (List (List Int))) : pl (wsD o) = true := by
  cases o with
  | none => rfl
  | some L => exact plL_tups L
theorem dep_ws (o : Option (List (List Int))) : dep (wsD o) ≤ 2 := by
  cases o with
  | none => exact Nat.zero_le _
  | some L => exact Nat.succ_le_succ (depL_tups L)
theorem plL_ws (w : List (Option (List (List Int)))) : plL (w.map wsD) = true := plL_map' wsD pl_ws w
theorem depL_ws (w : List (Option (List (List Int)))) : depL (w.map wsD) ≤ 2 := depL_map' wsD 2 dep_ws w
def smallQ (c : Int) : Int := [c / 4 % 7, c / 4 % 8, c / 4 % 10, c / 4 % 14].getD (c % 4).toNat 0
def CSmall : List D → R → Prop := fun ds r => ∃ c, ds = [.int c] ∧ r = .val (sizD (sizeB (smallQ c)))
end DL

namespace DL
open PySem PySem.Spec PyProof.Rows L2
end DL

namespace DL
open PySem PySem.Spec PyProof.Rows L2
section
variable {X : Cx} {sd : List Slot} {e a b c : Expr} {pos : Pos} {ds : List D}
theorem cutD_take (ds : List D) (k : Nat) : DL.cutD ds none (some (k : Int)) = ds.take k := by
  unfold DL.cutD
  rw [HT.sIx_nat, HT.sIx_none]
  by_cases h : k ≤ ds.length
  · rw [Nat.min_eq_left h]
    simp
  · rw [Nat.min_eq_right (by omega), List.take_of_length_le (show ds.length ≤ k by omega)]
    simp
theorem cutD_drop (ds : List D) (k : Nat) : DL.cutD ds (some (k : Int)) none = ds.drop k := by
  unfold DL.cutD
  rw [HT.sIx_nat, HT.sIx_none]
  by_cases q : k ≤ ds.length
  · rw [Nat.min_eq_left q]
    exact List.take_of_length_le (by simp)
  · rw [Nat.min_eq_right (by omega), List.drop_of_length_le (Nat.le_refl _), List.drop_of_length_le (by omega)]
    simp
/-- a statement after which all ways meet at the slots sd' -/
theorem PSd1.imp {st : Stmt} {E E' : EndD} (h : PSd1 X sd st E) (k1 : ∀ sd, E.nx sd → E'.nx sd) (k2 : ∀ r, E.rt r → E'.rt r) (k3 : ∀ sd, E.bk sd → E'.bk sd) (k4 : ∀ sd, E.ct sd → E'.ct sd) : PSd1 X sd st E' := .mk fun σ F H S =>
  wS.imp (h σ F H S) (fun _ _ ⟨sd2, F2, S2, s2, q2⟩ => ⟨sd2, F2, S2, s2, k1 _ q2⟩) (fun _ _ ⟨r, q, q2⟩ => ⟨r, q, k2 _ q2⟩) (fun _ _ ⟨sd2, F2, S2, s2, q2⟩ => ⟨sd2, F2, S2, s2, k3 _ q2⟩) fun _ _ ⟨sd2, F2, S2, s2, q2⟩ => ⟨sd2, F2, S2, s2, k4 _ q2⟩
end
/-- one left out -/
theorem cut_set {α : Type} (l : List α) (t : Nat) (a : α) : (l.set t a).take t ++ (l.set t a).drop (t + 1) = l.take t ++ l.drop (t + 1) := by
  rw [List.take_set_of_le (Nat.le_refl _), List.drop_set_of_lt (Nat.lt_succ_self _)]
end DL

namespace DL
open PySem PySem.Spec PyProof.Rows L2
section
variable {prog : Program} {w : World} {A : Around} {E : Value → Shared → Prop} {s : Shared}
end
section
variable {X : Cx} {sd : List Slot} {E : EndD} {e a b o : Expr} {ds es : List D} {d : D} {pos : Pos}
end
end DL

namespace DL
open PySem PySem.Spec PyProof.Rows L2
/-! ### turns -/
structure TurnOk (n : Nat) (τ : List Nat) : Prop where
  len : τ.length = n
  lt : ∀ b ∈ τ, b < n
  mem : ∀ b, b < n → b ∈ τ
  nd : τ.Nodup
def backQ (τ : List Nat) : List Nat := (List.range τ.length).map fun b => τ.idxOf b
def tsQ (τ : List Nat) (q : SQ) : SQ := (q.1, ((τ.getD q.2.1.toNat 0 : Nat) : Int), ((τ.getD q.2.2.1.toNat 0 : Nat) : Int), q.2.2.2)
section
variable {n : Nat} {τ : List Nat}
theorem TurnOk.at (T : TurnOk n τ) {i : Nat} (h : i < n) : τ.getD i 0 < n := by
  have h' : i < τ.length := by rw [T.len]; exact h
  have e : τ.getD i 0 = τ[i] := by simp [List.getD, h']
  rw [e]
  exact T.lt _ (List.getElem_mem h')
theorem TurnOk.idx (T : TurnOk n τ) {i : Nat} (h : i < n) : τ.idxOf (τ.getD i 0) = i := by
  have h' : i < τ.length := by rw [T.len]; exact h
  have e : τ.getD i 0 = τ[i] := by simp [List.getD, h']
  rw [e]
  exact T.nd.idxOf_getElem i h'
theorem TurnOk.idx_lt (T : TurnOk n τ) {b : Nat} (h : b < n) : τ.idxOf b < n := by
  have := List.idxOf_lt_length_of_mem (T.mem b h)
  rw [T.len] at this
  exact this
theorem TurnOk.get_idx (T : TurnOk n τ) {b : Nat} (h : b < n) : τ.getD (τ.idxOf b) 0 = b := by
  have h' := List.idxOf_lt_length_of_mem (T.mem b h)
  simp [List.getD, h']
theorem back_len : (backQ τ).length = τ.length := by simp [backQ]
theorem TurnOk.back (T : TurnOk n τ) : TurnOk n (backQ τ) := by
  refine ⟨by rw [back_len, T.len], fun b hb => ?_, fun b hb => ?_, ?_⟩
  · obtain ⟨c, hc, rfl⟩ := List.mem_map.mp hb
    rw [List.mem_range, T.len] at hc
    exact T.idx_lt hc
  · refine List.mem_map.mpr ⟨τ.getD b 0, ?_, T.idx hb⟩
    rw [List.mem_range, T.len]
    exact T.at hb
  · unfold backQ
    refine List.nodup_iff_pairwise_ne.mpr (List.pairwise_map.mpr ?_)
    have : (List.range τ.length).Nodup := List.nodup_range
    refine (List.nodup_iff_pairwise_ne.mp this).imp_of_mem fun {a b} ha hb hne z => hne ?_
    rw [List.mem_range, T.len] at ha hb
    have : τ.getD (τ.idxOf a) 0 = τ.getD (τ.idxOf b) 0 := by rw [z]
    rwa [T.get_idx ha, T.get_idx hb] at this
end
/-! ### what is told of turns -/
structure SqN (n : Nat) (q : SQ) : Prop where
  k10 : q.1 < 10
  i0 : 0 ≤ q.2.1 ∧ q.2.1 < n
  j0 : 0 ≤ q.2.2.1 ∧ q.2.2.1 < n
theorem SqOk.b {p : Int × Int} {q : SQ} (O : SqOk p q) : SqN p.2.toNat q := by
  have hi := O.i0
  have hj := O.j0
  exact ⟨O.k10, ⟨hi.1, by omega⟩, ⟨hj.1, by omega⟩⟩
theorem SqN.ts {n : Nat} {τ : List Nat} {q : SQ} (T : TurnOk n τ) (O : SqN n q) : SqN n (tsQ τ q) := by
  have hi := O.i0
  have hj := O.j0
  have a := T.at (i := q.2.1.toNat) (by omega)
  have b := T.at (i := q.2.2.1.toNat) (by omega)
  exact ⟨O.k10, ⟨by simp only [tsQ]; omega, by simp only [tsQ]; omega⟩, ⟨by simp only [tsQ]; omega, by simp only [tsQ]; omega⟩⟩
end DL

namespace DL
open PySem PySem.Spec PyProof.Rows L2
theorem valV_at : ∀ {ks : List Key} {xs : List V} {n : Nat} {k : Key} {x : V}, ks.Nodup → ks[n]? = some k → xs[n]? = some x → valV (ks.zip xs) k = some x
  | [], _, n, _, _, _, h, _ => by simp at h
  | _ :: _, [], n, _, _, _, _, h => by simp at h
  | j :: js, y :: ys, 0, k, x, nd, h1, h2 => by
    have e1 : j = k := by simpa using h1
    have e2 : y = x := by simpa using h2
    rw [List.zip_cons_cons, valV_pos e1, e2]
  | j :: js, y :: ys, n + 1, k, x, nd, h1, h2 => by
    obtain ⟨nj, nd⟩ := List.nodup_cons.mp nd
    have h1 : js[n]? = some k := by simpa using h1
    have h2 : ys[n]? = some x := by simpa using h2
    rw [List.zip_cons_cons, valV_neg (p := (j, y)) (k := k) (fun e => nj ((show j = k from e) ▸ List.mem_of_getElem? h1))]
    exact valV_at nd h1 h2
section
variable {X : Cx} {sd : List Slot} {e a b c tg iter o : Expr} {es : List Expr} {pos : Pos} {r ra rb : R} {d d' : D} {ds ls : List D} {ks : List Key} {st : Stmt} {rest : List Stmt} {E : EndD}
/-- a tracked dict is known to the object -/
theorem inv_frz {pins : List (Addr × Obj)} {σ : St} {H : Hp} {s : Shared} {l : Addr} {kvs : List (Key × V)} (I : Inv X pins σ H s) (sm : Smp H) (e : H l = some (.dK kvs)) (h0 : ∀ o, X.H₀ l = some o → ∃ xs, o = .lst xs) : ∃ ob, Inv X pins σ (upd H l (.frz ob (.dK kvs))) s := by
  have ok := I.hok l _ e
  obtain ⟨z1, z2, vs, kv, o, es, ep, g, r⟩ := id ok
  have hn : ∀ b, H b = none → upd H l (.frz o (.dK kvs)) b = none := fun b n => by rw [upd_ne (fun z => by rw [z, e] at n; cases n)]; exact n
  have ne : ∀ {b : Addr} {u : HO}, X.H₀ b = some u → (∀ xs, u ≠ .lst xs) → b ≠ l := fun {b u} q k z => by
    subst z
    obtain ⟨xs, q2⟩ := h0 _ q
    exact k xs q2
  refine ⟨o, I.ok, I.os, I.bare, ⟨I.base.keep, I.base.slot, fun b u q n hx => hn b (I.base.free b u q n hx), I.base.there, fun b xs q => ?_, fun b u xs q => ?_, fun b ps q => ?_⟩, I.loc, I.cell, hn _ I.free, fun x c q => hn _ (I.freeC x c q), fun p hp => ?_, fun b u q => ?_, I.len⟩
  · rw [upd_ne (ne q fun _ z => by cases z)]
    exact I.base.tups b xs q
  · rw [upd_ne (ne q fun _ z => by cases z)]
    exact I.base.frzs b u xs q
  · obtain ⟨m, g⟩ := I.base.tbls b ps q
    exact ⟨m, by rw [upd_ne (ne q fun _ z => by cases z)]; exact g⟩
  · obtain ⟨q, n, r⟩ := I.pin p hp
    exact ⟨q, hn _ n, r⟩
  · by_cases hb : b = l
    · subst hb
      rw [upd_same] at q
      cases q
      exact ⟨g, z1, z2, vs, kv, o, es, ep, g, r⟩
    · rw [upd_ne hb] at q
      exact (I.hok b u q).smp (sm b u q)
theorem StF.h0 {σ : St} {F H : Hp} {l : Addr} (S : StF X.K X.B₀ F H σ sd) (n : F l = none) : ∀ o, X.H₀ l = some o → ∃ xs, o = .lst xs := fun o q => Classical.byContradiction fun k => by
  have := S.base _ _ (X.hB l o q fun xs z => k ⟨xs, z⟩)
  rw [n] at this
  cases this
/-- a[b], a dict with whole numbers as keys -/
theorem pd_dget {n : Nat} {k : Int} (hu : X.A.units + 1 < cLine) (ha : PEd X sd a (.val (.dki ks ds))) (hb : PEd X sd b (.val (.int k))) (hn : ks.Nodup) (hk : ks[n]? = some (.inl k)) (hd : ds[n]? = some d) (hs : NoSl b) : PEd X sd (.Subscript a b pos) (.val d) := .mk fun σ F H S =>
  (pe_dget hu pe_w pe_w hs).to ((ha σ F H S).imp fun v H1 ⟨F1, S1, s1, q1⟩ => (hb σ F1 H1 S1).imp fun u H2 ⟨F2, S2, s2, q2⟩ => by
    have q1 := Rep.mono s2 q1
    simp only [ResOk, Rep] at q1 q2
    subst q2
    obtain ⟨p, xs, e1, ⟨ob, hp⟩, ln, rl⟩ := q1
    obtain ⟨w, hw, rw'⟩ := rl.get hd
    have g : DGet H2 p (kV (.inl k)) (valV (ks.zip xs) (.inl k)) := .inl ⟨_, .inl k, .inr ⟨ob, S2.sub _ _ hp⟩, rfl, rfl⟩
    rw [valV_at hn hk hw] at g
    exact ⟨p, w, e1, g, F2, S2, s1.trans s2, rw'⟩)
end
end DL
namespace DL
open PySem PySem.Spec PyProof.Rows L2
section
variable {X : Cx} {sd : List Slot} {e : Expr} {pos : Pos}
end
end DL

namespace DL
open PySem PySem.Spec PyProof.Rows L2
/-! ### a dict of ours whose keys are tuples -/
def exO (l : Addr) (o : Obj) : HO := .ext (fun h => h.get? l = some o)
theorem exO_ok {P : Program} {w : World} {H : Hp} {h : Heap} {l : Addr} {o : Obj} (g : h.get? l = some o) : ObjOk P w H h l (exO l o) := ⟨g, ⟨o, g⟩, fun _ _ q k => k _ q⟩
def TDo (P : Program) (w : World) (F : Hp) (l : Addr) (o : Obj) (kvs : List (List Key × V)) : Prop :=
  kvs.length ≤ sizeLine ∧ (l == sysModules) = false ∧ ∃ xs, KT F kvs xs ∧ ∃ es ep, o.ExactDict ∧ o.data = .dict es ep ∧ es.toList = xs.map (entryOfKey (tupleKind (mixKind P w))) ∧ (xs.map (·.1)).Nodup
theorem TDo.mono {P : Program} {w : World} {F F' : Hp} {l : Addr} {o : Obj} {kvs : List (List Key × V)} (t : TDo P w F l o kvs) (s : Same F F') : TDo P w F' l o kvs := by
  obtain ⟨z, y, xs, r, q⟩ := t
  exact ⟨z, y, xs, r.keeps fun b ys e => s _ _ e, q⟩
theorem KT.all {P : Program} {w : World} {H : Hp} {h : Heap} (ok : HOk P w H h) {l : List (List Key × V)} {m : List (List Key × Addr × Value)} (q : KT H l m) : ∀ x ∈ m, (tupleKind (mixKind P w)).is h x.1 x.2.1 := by
  induction q with
  | nil => intro x hx; exact nomatch hx
  | @cons p q ps qs hq t ih =>
    intro x hx
    rcases List.mem_cons.mp hx with e | hx
    · subst e
      exact key_of ok (by rw [← hq.1]; exact hq.2.1)
    · exact ih x hx
def kD : Key → D
  | .inl i => .int i
  | .inr x => .str x
theorem rep_keys {K : PySem.W.Frag} {F : Hp} : ∀ {k : List Key} {xs : List V}, RepL K F (k.map kD) xs → xs = k.map kV
  | [], xs, r => by simpa only [List.map_nil, RepL] using r
  | a :: k, xs, r => by
    rw [List.map_cons] at r
    obtain ⟨y, ys, rfl, q, rl⟩ := r.uncons
    rw [rep_keys rl, List.map_cons]
    congr 1
    cases a with
    | inl i =>
      simp only [kD, Rep] at q
      exact q
    | inr x =>
      simp only [kD, Rep] at q
      exact q
def Gt (P : Program) (w : World) (K : PySem.W.Frag) (l : Addr) (ks : List (List Key)) (ds : List D) : V → Hp → Hp → Prop := fun v F H => v = .ref l ∧ ∃ o xs, H l = some (exO l o) ∧ (∀ v, o.data ≠ .cell v) ∧ RepL K F ds xs ∧ ks.length = ds.length ∧ TDo P w F l o (ks.zip xs)
def odT (P : Program) (w : World) (K : PySem.W.Frag) (l : Addr) (ks : List (List Key)) (ds : List D) : Slot := .ox [l] (Gt P w K l ks ds)
theorem zipT_snoc {α β : Type} {xs : List α} {ys : List β} (h : xs.length = ys.length) (x : α) (y : β) : (xs ++ [x]).zip (ys ++ [y]) = xs.zip ys ++ [(x, y)] := by
  rw [List.zip_append h]
  rfl
theorem valT_none {ks : List (List Key)} {k : List Key} (hk : k ∉ ks) : ∀ {ks' : List (List Key)} {xs : List V}, (∀ j ∈ ks', j ∈ ks) → valV (ks'.zip xs) k = none
  | [], _, _ => rfl
  | _ :: _, [], _ => rfl
  | j :: js, x :: xs, h => by
    rw [List.zip_cons_cons, valV_neg (p := (j, x)) (k := k) (fun e => hk ((show j = k from e) ▸ h j List.mem_cons_self))]
    exact valT_none hk fun i hi => h i (List.mem_cons_of_mem _ hi)
theorem ownT_nodup : ∀ {sd : List Slot} {i : Nat} {z : Slot}, (owned sd).Nodup → sd[i]? = some z → (ownL z).Nodup
  | [], _, _, _, e => by simp at e
  | y :: zs, 0, z, h, e => by
    have : y = z := by simpa using e
    subst this
    exact (List.nodup_append.mp (show (ownL y ++ owned zs).Nodup from h)).1
  | y :: zs, i + 1, z, h, e => ownT_nodup (sd := zs) (i := i) (List.nodup_append.mp (show (ownL y ++ owned zs).Nodup from h)).2.1 (by simpa using e)
section
variable {K : PySem.W.Frag} {H₀ F F' H H' : Hp} {σ : St} {sd : List Slot} {i : Nat} {l : Addr} {P : Program} {w : World} {ks : List (List Key)} {ds : List D}
theorem odT_get (S : StF K H₀ F H σ sd) (hs : sd[i]? = some (odT P w K l ks ds)) : σ[i]? = some (some (.ref l)) ∧ F l = none ∧ ∃ o xs, H l = some (exO l o) ∧ RepL K F ds xs ∧ ks.length = ds.length ∧ TDo P w F l o (ks.zip xs) := by
  obtain ⟨o, h1, v, h2, h3, h4⟩ := S.slots.get hs
  obtain ⟨e, ob, xs, a, _, b, c, d⟩ := h4 F H (Same.refl _) fun _ _ _ q => q
  subst e h2
  exact ⟨h1, (h3 l (List.mem_singleton_self l)).1, ob, xs, a, b, c, d⟩
theorem odT_mk {o : Obj} {xs : List V} (hF : F l = none) (h1 : H l = some (exO l o)) (nc : ∀ v, o.data ≠ .cell v) (h2 : RepL K F ds xs) (h3 : ks.length = ds.length) (h4 : TDo P w F l o (ks.zip xs)) : SlotOk K F H (odT P w K l ks ds) (some (.ref l)) :=
  ⟨.ref l, rfl, fun a ha => by
    rw [List.mem_singleton.mp ha]
    exact ⟨hF, _, h1, o, rfl, nc⟩, fun F' H' s k => ⟨rfl, o, xs, k l (List.mem_singleton_self l) _ h1, nc, h2.mono s, h3, h4.mono s⟩⟩
theorem StF.setT {as : List Addr} {G : V → Hp → Hp → Prop} {v : V} (S : StF K H₀ F H σ sd) (i : Nat) (q : SlotOk K F H (.ox as G) (some v)) (nd : as.Nodup) (no : ∀ a ∈ as, a ∉ owned sd) : StF K H₀ F H (σ.set i (some v)) (sd.set i (.ox as G)) :=
  ⟨S.base, S.sub, S.smp, S.slots.set (z := .ox as G) q i, (owned_set (z := .ox as G) i S.nd (fun l e => .inl (no l e)) nd).1⟩
theorem StF.reT {z z' : Slot} {o : Option V} (S : StF K H₀ F H σ sd) (hs : sd[i]? = some z) (ho : σ[i]? = some o) (keep : ∀ b ob, b ∉ ownL z → H b = some ob → H' b = some ob) (sm : Smp H') (q : SlotOk K F H' z' o) (nd : (ownL z').Nodup) (no : ∀ a ∈ ownL z', a ∈ ownL z ∨ a ∉ owned sd) : StF K H₀ F H' σ (sd.set i z') := by
  have S0 := S.le (le_set_un sd i)
  have mz : ∀ a ∈ ownL z, a ∈ owned sd := fun a ha => List.mem_flatMap.mpr ⟨z, List.mem_of_getElem? hs, ha⟩
  refine ⟨S.base, fun b u e => ?_, sm, ?_, ?_⟩
  · refine keep b u (fun hb => ?_) (S.sub _ _ e)
    have := (S.slots.owns (mz b hb)).1
    rw [e] at this
    cases this
  · have q1 : SlotsOk K F H' (sd.set i .un) σ := S0.slots.mono (Same.refl _) fun a ha => ⟨(S0.slots.owns ha).1, fun ob e => keep a ob (fun hb => not_ownedZ S.nd hs hb ha) e⟩
    have q2 := q1.set (z := z') (o := o) q i
    rw [set_set, set_same ho] at q2
    exact q2
  · have := owned_set (z := z') i S0.nd (fun a ha => by
      rcases no a ha with h | h
      · exact .inl (not_ownedZ S.nd hs h)
      · exact .inl fun hm => h ((le_set_un sd i).own.subset hm)) nd
    rw [set_set] at this
    exact this.1
theorem smp_updE {o : Obj} (h : Smp H) (a : Addr) : Smp (upd H a (exO a o)) := fun b u e => by
  by_cases z : b = a
  · subst z
    rw [upd_same] at e
    cases e
    trivial
  · rw [upd_ne z] at e
    exact h _ _ e
end
section
variable {X : Cx} {sd : List Slot} {e a b c : Expr} {pos : Pos} {d : D} {ds : List D} {ks : List (List Key)} {k : List Key} {st : Stmt} {E : EndD} {l : Addr}
def dict0 : Obj := { cls := .type "dict", data := .dict #[] }
theorem pe_dnewE : PE X (.Dict [] [] pos) (fun _ H Q => ∀ p, H p = none → (p == sysModules) = false → Q (.ref p) (upd H p (exO p dict0))) := fun pins s σ H Q I h =>
  wpAny_Dict_empty ⟨.ref s.heap.objs.size, _, I.laid (a := s.heap.objs.size) (o := exO s.heap.objs.size dict0) (t' := s.toks) (fun _ _ q => Heap.get?_push_of_some _ q) (Nat.le_refl _) (exO_ok (Heap.get?_push_size _ rfl)), rfl, h _ (I.hok.fresh (Nat.le_refl _)) (beq_eq_false_iff_ne.mpr (Ne.symm (Nat.ne_of_lt I.big)))⟩
/-- x = {}, to be a dict of ours with tuples as keys -/
theorem psd_dnewT (i : Nat) {x : Str} {p p2 : Pos} (hN : X.N.Nodup) (hi : X.N[i]? = some x) (hx : Loc X.env.scope x) (hE : ∀ l, E.nx (sd.set i (odT X.prog X.w X.K l [] []))) (hs : swapsWith (.Dict [] [] p2) (some (.Name x p)) pos.line X.env = pure false := by rfl)
    (hf : X.fn x = true ∨ X.env.scope.names.lookup x = some .local := by first | exact .inl rfl | exact .inr rfl | assumption) : PSd1 X sd (.Assign [.Name x p] (.Dict [] [] p2) pos) E := .mk fun σ F H S =>
  (ps_set hN hi hx pe_dnewE hs hf).to fun q hq hm => by
    have fp : F q = none := S.sub.free hq
    have no : q ∉ owned sd := fun hl => by
      obtain ⟨_, ob, h, _⟩ := S.slots.owns hl
      rw [hq] at h
      cases h
    have S1 : StF X.K X.B₀ F (upd H q (exO q dict0)) σ sd := by
      refine ⟨S.base, fun b u e => ?_, smp_updE S.smp q, S.slots.mono (Same.refl _) fun l hl => ?_, S.nd⟩
      · rw [upd_ne (ne_of_none e fp)]
        exact S.sub _ _ e
      · obtain ⟨n, ys, y, _⟩ := S.slots.owns hl
        have hne : l ≠ q := ne_of_none y hq
        exact ⟨n, fun ys e => by rw [upd_ne hne]; exact e⟩
    refine ⟨_, F, S1.setT i (odT_mk (P := X.prog) (w := X.w) (K := X.K) (ks := []) (ds := []) (xs := []) fp upd_same (fun v z => by cases z) .nil rfl ⟨Nat.zero_le _, hm, [], .nil, #[], 0, ⟨rfl, rfl, rfl⟩, rfl, rfl, List.nodup_nil⟩) (by simp) fun a ha => ?_, Same.refl _, hE q⟩
    rw [List.mem_singleton.mp ha]
    exact no
/-- x[b] = e, a new tuple as the key -/
theorem psd_dputT (i : Nat) {x : Str} {p p2 : Pos} (hu : X.A.units + 1 < cLine) (hs : sd[i]? = some (odT X.prog X.w X.K l ks ds)) (hx : PE X (.Name x p) (tVar i)) (h : PEd X sd e (.val d)) (hb : PEd X sd b (.val (.tup (k.map kD)))) (hk : k ∉ ks) (hl : ds.length ≤ 1000) (hE : E.nx (sd.set i (odT X.prog X.w X.K l (ks ++ [k]) (ds ++ [d]))))
    (hsw : swapsWith e (some (.Subscript (.Name x p) b p2)) pos.line X.env = pure false := by rfl) : PSd1 X sd (.Assign [.Subscript (.Name x p) b p2] e pos) E := .mk fun σ F H S pins s I => by
  refine wpAny_Assign_Subscript (thn (h σ F H S pins s I) fun r s1 ⟨v, H1, I1, rv, F1, S1, sF1, q1⟩ => ?_) hsw
  obtain ⟨h1, _⟩ := odT_get S1 hs
  refine thn (hx pins s1 σ H1 (fun v H2 => v = .ref l ∧ H2 = H1) I1 ⟨.ref l, h1, rfl, rfl⟩) fun u s2 ⟨y, H2, I2, ry, e1, e2⟩ => ?_
  subst e1 e2
  obtain rfl : u = Value.ref l := ry
  refine thn (hb σ F1 H2 S1 pins s2 I2) fun iv s3 ⟨y, H3, I3, ry, F3, S3, sF3, q3⟩ => ?_
  obtain ⟨g1, g2, o, xs, g3, g4, g5, z, hm, ts, kt, es, ep, t1, t2, t3, t4⟩ := odT_get S3 hs
  simp only [ResOk, Rep] at q3
  obtain ⟨ad, ys, rfl, ha, rl⟩ := q3
  rw [rep_keys rl] at ha
  obtain rfl : iv = Value.ref ad := ry
  have ho : s3.heap.get? l = some o := (I3.hok l _ g3).1
  have ktH : KT H3 (ks.zip xs) ts := kt.keeps fun b ys e => S3.sub _ _ e
  have dd : s3.heap.DictOfH (tupleKind (mixKind X.prog X.w)) l ts := ⟨o, es, ep, ho, t1, t2, t3, KT.all I3.hok ktH, t4⟩
  have lz : ks.length = xs.length := by rw [g5, g4.len]
  have hz : ts.length ≤ sizeLine := by rw [← Paired.length kt]; exact z
  have zl : (ks.zip xs).length = ds.length := by rw [List.length_zip, ← lz, Nat.min_self, g5]
  have vn : valV (ks.zip xs) k = none := valT_none hk fun _ z => z
  have hl2 : (putK (ks.zip xs) k v).length ≤ sizeLine := by
    rw [putK_new v vn, List.length_append, zl]
    have := small1000 hl
    show ds.length + 1 ≤ sizeLine
    omega
  refine wpAny_setItem_heap (hsz := hz) (tupleKind_room_in1 hu) (key_of I3.hok (S3.sub _ _ ha)) dd fun h' dd' hsm => ?_
  obtain ⟨q, es', ep', hq, u2, u3, u4, _, u5⟩ := dd'
  have I4 := d_write (t' := s3.toks + (tupleKind (mixKind X.prog X.w)).draws k) I3 (ob := exO l q) (by rw [g3]; exact True.intro) hsm ⟨q, hq⟩ (exO_ok hq)
  have kt' := kt.put k ha rv
  rw [putK_new v vn, ← zipT_snoc lz] at kt' hl2
  refine ⟨σ, _, I4, _, F3, S3.reT (z' := odT X.prog X.w X.K l (ks ++ [k]) (ds ++ [d])) hs g1 (fun b ob hb q => ?_) (smp_updE S3.smp l) (odT_mk g2 upd_same (fun v z => by rw [u3] at z; cases z) (g4.app (.one (Rep.mono sF3 q1))) (by rw [List.length_append, List.length_append, g5]; rfl) ⟨hl2, hm, _, kt', es', ep', u2, u3, u4, u5⟩) (show [l].Nodup by simp) fun a ha => .inl ha, sF1.trans sF3, hE⟩
  rw [upd_ne (show b ≠ l from fun z => hb (z ▸ List.mem_singleton_self l))]
  exact q
end
end DL

namespace DL
open PySem PySem.Spec PyProof.Rows L2
/-! ### setdefault with a tuple as the key -/
section
variable {prog : Program} {w : World} {K : Type} [DecidableEq K] {knd : HeapKind prog w K} {A : Around} {E : Value → Shared → Prop} {s : Shared}
end
section
variable {prog : Program} {w : World} {K : Type} [DecidableEq K] (knd : HeapKind prog w K) (d a : Addr)
end
section
variable {X : Cx} {o e : Expr} {es : List Expr} {to : TE} {t : TA} {name : Str} {apos cpos : Pos} {id : String} {r : V → List V → Hp → VK → Prop}
/-- a method of a dict of ours with tuples as keys -/
theorem pe_dm (pa : PlainAttrs "dict") (slot : PySem.Slot "dict" name id) (hty : typeOf (.builtin id) = pure (.type "method_descriptor")) (hm : MtR X id r) (ho : PE X o to) (ha : PA X (e :: es) t)
    (hbase : attributeBase o name X.env (eval o X.env) = eval o X.env := by rfl)
    (hfew : ((backTo cpos (starEach (e :: es) X.env)).all (fun x => !x.1) && (backToKw cpos (keywordEach [] X.env)).all (fun x => x.1.isSome)
      && decide ((e :: es).length + ([] : List Keyword).length + (if ([] : List Keyword).isEmpty then 0 else 1) < 30)) = true := by rfl)
    (hline : (apos.endLine == cpos.line) = true := by rfl) (hs : starEach (e :: es) X.env = (false, eval e X.env) :: starEach es X.env := by rfl) (hplain : (backTo cpos (starEach es X.env)).any (·.1) = false := by rfl) :
    PE X (.Call (.Attribute o name apos) (e :: es) [] cpos) (fun σ H Q => to σ H fun x H1 => (∃ l ob, x = .ref l ∧ H1 l = some (exO l ob) ∧ ob.ExactDict) ∧ t σ H1 fun xs H2 => r x xs H2 Q) := by
  intro pins s σ H Q I h
  refine wpAny_Call_method_late hbase hfew hline rfl (thn (ho pins s σ H _ I h) fun v s1 ⟨x, H1, I1, r1, ⟨l, ob, e1, e2, e3⟩, q1⟩ => ?_)
  subst e1
  obtain rfl : v = Value.ref l := r1
  have hg : s1.heap.get? l = some ob := (I1.hok l _ e2).1
  refine ⟨"dict", id, pa, slot, hty, ⟨ob, hg, e3.1⟩, fun a q => ?_, ?_⟩
  · cases q
    exact ⟨ob, hg, e3.2.1⟩
  have hA := ha cpos pins s1 σ H1 _ I1 q1
  rw [hs] at hA ⊢
  refine Calls.callWith_builtin (by show (false || (backTo cpos (starEach es X.env)).any (·.1)) = false; rw [hplain] <;> rfl) (Calls.evalArgs_plain ?_)
  exact thn hA fun us s2 ⟨vs, H2, I2, r2, q2⟩ => hm pins s2 σ H2 (.ref l) vs (.ref l) us Q I2 rfl r2 q2
end
end DL

namespace DL
open PySem PySem.Spec PyProof.Rows L2
/-- the same, frozen -/
def Gf (P : Program) (w : World) (K : PySem.W.Frag) (ks : List (List Key)) (ds : List D) : V → Hp → Hp → Prop := fun v F _ => ∃ l o xs, v = .ref l ∧ F l = some (exO l o) ∧ RepL K F ds xs ∧ ks.length = ds.length ∧ TDo P w F l o (ks.zip xs)
def odF (P : Program) (w : World) (K : PySem.W.Frag) (ks : List (List Key)) (ds : List D) : Slot := .ox [] (Gf P w K ks ds)
theorem valT_some : ∀ {ks : List (List Key)} {xs : List V} {k : List Key} {z : V}, valV (ks.zip xs) k = some z → ∃ n : Nat, ks[n]? = some k ∧ xs[n]? = some z
  | [], _, _, _, h => by cases h
  | _ :: _, [], _, _, h => by cases h
  | j :: js, y :: ys, k, z, h => by
    rw [List.zip_cons_cons] at h
    by_cases e : j = k
    · rw [valV_pos (p := (j, y)) e] at h
      exact ⟨0, by simp [e], by simpa using h⟩
    · rw [valV_neg (p := (j, y)) (k := k) e] at h
      obtain ⟨n, h1, h2⟩ := valT_some h
      exact ⟨n + 1, by simpa using h1, by simpa using h2⟩
theorem valT_no : ∀ {ks : List (List Key)} {xs : List V} {k : List Key}, ks.length = xs.length → valV (ks.zip xs) k = none → k ∉ ks
  | [], _, _, _, _ => by simp
  | _ :: _, [], _, h, _ => by cases h
  | j :: js, y :: ys, k, hl, h => by
    rw [List.zip_cons_cons] at h
    by_cases e : j = k
    · rw [valV_pos (p := (j, y)) e] at h
      cases h
    · rw [valV_neg (p := (j, y)) (k := k) e] at h
      have := valT_no (Nat.succ.inj hl) h
      exact fun hm => (List.mem_cons.mp hm).elim (fun q => e q.symm) this
theorem slot_same {sd : List Slot} {i : Nat} {z : Slot} (h : sd[i]? = some z) : sd.set i z = sd := by
  obtain ⟨hi, e⟩ := List.getElem?_eq_some_iff.mp h
  rw [← e, List.set_getElem_self]
section
variable {K : PySem.W.Frag} {H₀ F F' H H' : Hp} {σ : St} {sd : List Slot} {i : Nat} {l : Addr} {ls : List Addr} {dss : List (List D)} {P : Program} {w : World} {ks : List (List Key)}
theorem InD.snoc {a : Addr} : ∀ {as : List Addr} {dss : List (List D)}, InD K F H as dss → H a = some (.lst []) → InD K F H (as ++ [a]) (dss ++ [[]])
  | [], [], _, e => ⟨⟨[], e, .nil⟩, trivial⟩
  | [], _ :: _, h, _ => h.elim
  | _ :: _, [], h, _ => h.elim
  | _ :: _, _ :: _, h, e => ⟨h.1, InD.snoc h.2 e⟩
end
section
variable {X : Cx} {sd : List Slot} {e a b c : Expr} {pos : Pos} {d : D} {ds : List D} {ks : List (List Key)} {k : List Key} {st : Stmt} {E : EndD} {l : Addr} {ls : List Addr} {dss : List (List D)}
/-- return x, a thing of ours -/
theorem psd_retX (i : Nat) {x : Str} {p : Pos} {as : List Addr} {G : V → Hp → Hp → Prop} {G' : V → List Addr → Hp → Hp → Prop} (hs : sd[i]? = some (.ox as G)) (hx : PE X (.Name x p) (tVar i)) (hG : ∀ v F H, G v F H → G' v as F H) (hE : E.rt (.ox G')) : PSd1 X sd (.Return (some (.Name x p)) pos) E := .mk fun σ F H S =>
  (ps_ret hx).to (by
    obtain ⟨o, h1, v, h2, h3, h4⟩ := S.slots.get hs
    exact ⟨v, by rw [h1, h2], .ox G', ⟨F, S.base, S.sub, S.smp, as, ownT_nodup S.nd hs, fun l hl => ⟨(h3 l hl).1, (h3 l hl).2, by simp [owned]⟩, fun F' H' s k => hG _ _ _ (h4 F' H' s k)⟩, hE⟩)
end
end DL

namespace DL
open PySem PySem.Spec PyProof.Rows L2
section
variable {X : Cx} {sd : List Slot} {e a b c tg iter o : Expr} {es : List Expr} {pos : Pos} {r ra rb : R} {d : D} {ds : List D} {st : Stmt} {rest : List Stmt} {E : EndD}
/-! ### slices with a step -/
def pickIx (n : Nat) (lo hi k : Option Int) : List Nat := sliceRange (sliceBounds lo hi k n).1 (sliceBounds lo hi k n).2.1 (sliceBounds lo hi k n).2.2
def pickA {α : Type} (l : List α) (lo hi k : Option Int) : List α := (pickIx l.length lo hi k).filterMap (l[·]?)
theorem pickIx_len (n : Nat) (lo hi k : Option Int) : (pickIx n lo hi k).length ≤ n := by
  refine sliceRange_length_le _ _ _ _ (fun hc => ?_) fun hc => ?_ <;> simp only [sliceBounds] at hc ⊢
  · simp only [hc, if_true]
    constructor
    · cases lo with
      | none => simp
      | some i => dsimp only; omega
    · cases hi with
      | none => simp
      | some i => dsimp only; omega
  · simp only [hc, if_false]
    constructor
    · cases lo with
      | none => simp
      | some i => dsimp only; omega
    · cases hi with
      | none => simp
      | some i => dsimp only; omega
theorem pickA_len {α : Type} (l : List α) (lo hi k : Option Int) : (pickA l lo hi k).length ≤ l.length := Nat.le_trans (List.length_filterMap_le _ _) (pickIx_len _ _ _ _)
theorem pick_vals {xs : List V} {us : List Value} (r : Vals xs us) (lo hi k : Option Int) : Vals (pickA xs lo hi k) (pickA us lo hi k) := by
  unfold pickA
  rw [r.length]
  generalize pickIx us.length lo hi k = is
  induction is with
  | nil => exact .nil
  | cons i is ih =>
    rw [List.filterMap_cons, List.filterMap_cons]
    cases hx : xs[i]? with
    | none =>
      have hl := List.getElem?_eq_none_iff.mp hx
      rw [List.getElem?_eq_none (by rw [← r.length]; exact hl)]
      exact ih
    | some x =>
      obtain ⟨u, hu, ru⟩ := r.get hx
      rw [hu]
      exact .cons ru ih
theorem pick_rep {K : PySem.W.Frag} {H : Hp} {ds : List D} {xs : List V} (r : RepL K H ds xs) (lo hi k : Option Int) : RepL K H (pickA ds lo hi k) (pickA xs lo hi k) := by
  unfold pickA
  rw [r.len]
  generalize pickIx ds.length lo hi k = is
  induction is with
  | nil => exact .nil
  | cons i is ih =>
    rw [List.filterMap_cons, List.filterMap_cons]
    cases hx : ds[i]? with
    | none =>
      have hl := List.getElem?_eq_none_iff.mp hx
      rw [List.getElem?_eq_none (l := xs) (by rw [r.len]; exact hl)]
      exact ih
    | some x =>
      obtain ⟨u, hu, ru⟩ := r.get hx
      rw [hu]
      exact .cons ru ih
theorem slicePick_A (its : List Value) (lo hi k : Option Int) : slicePick its.toArray lo hi k = (pickA its lo hi k).toArray := by
  unfold slicePick pickA pickIx
  rw [List.size_toArray]
  congr 1
  refine congrFun (congrArg _ ?_) _
  funext i
  simp
theorem pe_slice3 {te : TE} {tl th ts : TO} {lo hi : Option Expr} {k : Expr} {p2 : Pos} (he : PE X e te) (hl : PO X lo tl) (hu : PO X hi th) (hs : PO X (some k) ts) : PE X (.Subscript e (.Slice lo hi (some k) p2) pos) (fun σ H Q => te σ H fun x H1 => tl σ H1 fun l H2 => th σ H2 fun u H3 => ts σ H3 fun z H4 => ∃ a xs, x = .ref a ∧ SqL X.K H4 a xs ∧ z ≠ some 0 ∧ ∀ p, H4 p = none → Q (.ref p) (upd H4 p (.lst (pickA xs l u z)))) := by
  intro pins s σ H Q I h
  refine Subscript_ (thn (he pins s σ H _ I h) fun v s1 ⟨x, H1, I1, r1, q1⟩ => ?_)
  refine wpAny_Slice (thn (hl pins s1 σ H1 _ I1 q1) fun vl s2 ⟨l, H2, I2, pl, q2⟩ => thn (hu pins s2 σ H2 _ I2 q2) fun vu s3 ⟨u, H3, I3, pu, q3⟩ => thn (hs pins s3 σ H3 _ I3 q3) fun vk s4 ⟨z, H4, I4, pk, q4⟩ => ?_)
  obtain ⟨a, xs, rfl, hx, hz0, q⟩ := q4
  have I5 : Inv X pins σ H4 { s4 with heap := s4.heap.push { cls := .type "slice", data := .fields #[vl, vu, vk] } } := I4.kept (t' := s4.toks) fun b ob q => Heap.get?_push_of_some _ q
  cases r1
  obtain ⟨its, r, ht, hz⟩ := I5.list hx
  have hlen := r.length
  have hg : wpAny (model X.prog X.w) X.A (getItem (.ref a) (.ref s4.heap.objs.size)) (EP X pins σ Q) X.xe { s4 with heap := s4.heap.push { cls := .type "slice", data := .fields #[vl, vu, vk] } } := by
    refine wpAny_getItem_list_slice ht.isList (Heap.IsSliceOf.new ..) pl pu pk hz0 ?_ (by rw [List.size_toArray] <;> omega)
    rw [slicePick_A]
    refine ⟨.ref _, _, I5.laid (t' := s4.toks) (o := .lst (pickA xs l u z)) (fun b ob q => Heap.get?_push_of_some _ q) (Nat.le_refl _) ?_, rfl, q _ (I5.hok.fresh (Nat.le_refl _))⟩
    exact ⟨Nat.le_trans (pickA_len xs l u z) hz, _, 0, pick_vals r l u z, Heap.get?_push_size _ rfl⟩
  show wpAny (model X.prog X.w) X.A (subscriptTail e (.Slice lo hi (some k) p2) (.ref a) (.ref s4.heap.objs.size)) (EP X pins σ Q) X.xe { s4 with heap := s4.heap.push { cls := .type "slice", data := .fields #[vl, vu, vk] } }
  exact tail_any (ops := [.ref a, .ref s4.heap.objs.size]) ht.isList.typeIs slot_list_getitem.lookup hg (by with_unfolding_all rfl)
theorem pd_slL3 {lo hi : Option Expr} {k : Expr} {ol oh ok : Option Int} {p2 : Pos} (ha : PEd X sd a (.bor ds)) (hl : POd X sd lo ol) (hh : POd X sd hi oh) (hk : POd X sd (some k) ok) (h0 : ok ≠ some 0) : PEd X sd (.Subscript a (.Slice lo hi (some k) p2) pos) (.own (pickA ds ol oh ok)) := .mk fun σ F H S => by
  obtain ⟨tl, pl, kl⟩ := pod_run hl
  obtain ⟨th, ph, kh⟩ := pod_run hh
  obtain ⟨tk, pk, kk⟩ := pod_run hk
  refine (pe_slice3 pe_w pl ph pk).to ((ha σ F H S).imp fun v H1 ⟨F1, S1, s1, q1⟩ => kl σ F1 H1 S1 _ fun F2 H2 S2 s2 => kh σ F2 H2 S2 _ fun F3 H3 S3 s3 => kk σ F3 H3 S3 _ fun F4 H4 S4 s4 => ?_)
  obtain ⟨l, xs, rfl, hl', rl, _⟩ := ResOk.keep (r := .bor ds) trivial q1 S4 ((s2.trans s3).trans s4)
  refine ⟨l, xs, rfl, .of hl', h0, fun p hp => ?_⟩
  obtain ⟨S5, fp, no⟩ := S4.layO (xs := pickA xs ol oh ok) hp
  exact ⟨F4, S5, ((s1.trans s2).trans s3).trans s4, p, _, rfl, fp, upd_same, pick_rep rl ol oh ok, no⟩
end
end DL

namespace DL
open PySem PySem.Spec PyProof.Rows L2
section
variable {X : Cx} {sd : List Slot} {e a b c tg iter o : Expr} {es : List Expr} {pos : Pos} {r ra rb : R} {d : D} {ds : List D} {st : Stmt} {rest : List Stmt} {E : EndD}
end
end DL

namespace DL
open PySem PySem.Spec PyProof.Rows L2
theorem pick_map {α β : Type} (f : α → β) (l : List α) (lo hi k : Option Int) : pickA (l.map f) lo hi k = (pickA l lo hi k).map f := by
  unfold pickA
  rw [List.length_map, List.map_filterMap]
  congr 1
  funext i
  rw [List.getElem?_map]
end DL

namespace DL
open PySem PySem.Spec PyProof.Rows L2
section
variable {p : Int × Int} {τ : List Nat} {T U : List (List Int)}
end
end DL

namespace DL
open PySem PySem.Spec PyProof.Rows L2
end DL

namespace DL
open PySem PySem.Spec PyProof.Rows L2
/-! ### t < u of any two tuples -/
def LtAt (A : Around) (s : Shared) (x y : Value) (b : Bool) : Prop := ∀ (prog : Program) (w : World) (E : Value → Shared → Prop) (Q : Value → Shared → Prop), Q (.bool b) s → wpAny (model prog w) A (richCompare .Lt x y) Q E s
inductive LexV (A : Around) (s : Shared) (fin : Bool) : List (Value × Value) → Bool → Prop
  | nil : LexV A s fin [] fin
  | eq {x y : Value} {r : List (Value × Value)} {b : Bool} : SeqAt.EqAt A.in1 s x y true → LexV A s fin r b → LexV A s fin ((x, y) :: r) b
  | lt {x y : Value} {r : List (Value × Value)} {b : Bool} : SeqAt.EqAt A.in1 s x y false → LtAt A.in1 s x y b → LexV A s fin ((x, y) :: r) b
section
open PySem.SeqAt
open PySem.AutoSeq1 (wpAny_loadPart')
open PySem.MeetsSeq PySem.MeetsSeq2 PySem.MeetsSeq3
theorem tuple_lt_gen (l b : Addr) (items items2 : Array Value) (n n2 : Nat) (dd dd2 : Option Addr) (sl sl2 : Array (Option Value)) (res : Bool) :
    Meets (Builtin.«tuple.__lt__» ⟨[.ref l, .ref b], []⟩)
      (fun A R s => s.heap.get? l = some { cls := .type "tuple", dict := dd, data := .seq items n, slots := sl } ∧ s.heap.get? b = some { cls := .type "tuple", dict := dd2, data := .seq items2 n2, slots := sl2 } ∧
        LexV A s (decide (items.size < items2.size)) (items.toList.zip items2.toList) res ∧ R (.ok (.ret (.bool res))) s) :=
  .of_wp fun prog w A R s h => by
    obtain ⟨hp, g, d, tk, os⟩ := s; obtain ⟨hl, hb, hx, h⟩ := h
    have f2 := AutoSeq1.sub_tuple_tuple
    wp_walk using wpAny_loadPart' hl, wpAny_loadPart' hb, wpAny_forIn_list _ (fun rest b s' => b.1 = none ∧ s' = ⟨hp, g, d, tk, os⟩ ∧ LexV A ⟨hp, g, d, tk, os⟩ (decide (items.size < items2.size)) rest res) _
    case turn =>
      rintro ⟨y, x⟩ rest b s' ⟨hb', rfl, hv⟩
      cases hv with
      | eq he hr =>
        refine wpAny_bind (he prog w _ _ ?_)
        wp_walk
        exact ⟨rfl, rfl, hr⟩
      | lt he hlt =>
        refine wpAny_bind (he prog w _ _ ?_)
        have hri := hlt prog w
        wp_walk using hri
        exact ⟨_, rfl, by simpa using h⟩
    case fin =>
      rintro ⟨b1, b2⟩ s' ⟨hb', rfl, hv⟩
      simp only at hb'
      subst hb'
      cases hv
      wp_walk
      exact ⟨_, rfl, by simpa [Builtin.Tuple.tupleCompareSizes] using h⟩
    case h =>
      exact ⟨rfl, rfl, hx⟩
theorem lt_tup_gen {A : Around} {s : Shared} {l b : Addr} {items items2 : Array Value} {res : Bool} (hl : IsTup s.heap l items) (hb : IsTup s.heap b items2) (hx : LexV A s (decide (items.size < items2.size)) (items.toList.zip items2.toList) res)
    (hu : A.units < cLine) : LtAt A s (.ref l) (.ref b) res := fun prog w E Q h => by
  obtain ⟨⟨cls, dd, data, sl⟩, ho, hc, n, hd⟩ := id hl
  obtain ⟨⟨cls2, dd2, data2, sl2⟩, ho2, hc2, n2, hd2⟩ := id hb
  simp only at hc hd hc2 hd2
  subst hc hd hc2 hd2
  exact richCompare_meets_room (op := .Lt) ⟨_, ho, rfl⟩ ⟨_, ho2, rfl⟩ PySem.F.slot_tuple_lt PySem.F.entry_tuple_lt (PySem.F.args_tuple_lt_2 _ _) (tuple_lt_gen l b items items2 n n2 dd dd2 sl sl2 res)
    ⟨ho, ho2, hx, show Value.bool res ≠ Value.notImplemented ∧ Q (.bool res) s from ⟨(fun x => nomatch x), h⟩⟩ hu
end
end DL
namespace DL
open PySem PySem.Spec PyProof.Rows L2
mutual
def dlt : D → D → Bool
  | .int a, .int b => decide (a < b)
  | .tup a, .tup b => dltL a b
  | _, _ => false
def dltL : List D → List D → Bool
  | [], [] => false
  | [], _ :: _ => true
  | _ :: _, [] => false
  | d :: ds, e :: es => if deq d e = true then dltL ds es else dlt d e
end
mutual
def cmp2 : D → D → Bool
  | .int _, .int _ => true
  | .tup a, .tup b => cmpL a b
  | _, _ => false
def cmpL : List D → List D → Bool
  | [], _ => true
  | _ :: _, [] => true
  | d :: ds, e :: es => cmp2 d e && cmpL ds es
end
section
variable {P : Program} {w : World} {K : PySem.W.Frag} {H : Hp} {s : Shared}
mutual
theorem ltAt_D (hok : HOk P w H s.heap) : ∀ (d : D) {d2 : D} {v1 v2 : V} {u1 u2 : Value} {A : Around}, cmp2 d d2 = true → pl d = true → pl d2 = true → Rep K H d v1 → Rep K H d2 v2 → RelV v1 u1 → RelV v2 u2 → A.units + dep d < cLine → LtAt A s u1 u2 (dlt d d2)
  | .int a, d2, v1, v2, u1, u2, A, c, p1, p2, r1, r2, ru1, ru2, hu => by
    cases d2 with
    | int b =>
      simp only [Rep] at r1 r2
      subst r1 r2
      obtain ⟨t, rfl⟩ := ru1
      obtain ⟨t2, rfl⟩ := ru2
      simp only [dlt]
      exact fun prog w E Q h => (PyProof.Rows.lt_int h : wpAny (model prog w) A (compareOp .Lt (.int a t) (.int b t2)) Q E s)
    | _ => simp [cmp2] at c
  | .tup ds, d2, v1, v2, u1, u2, A, c, p1, p2, r1, r2, ru1, ru2, hu => by
    cases d2 with
    | tup es =>
      obtain ⟨a, xs, its, rfl, rfl, rl, rv, ht⟩ := tup_at hok r1 ru1
      obtain ⟨b, ys, jts, rfl, rfl, rl2, rv2, ht2⟩ := tup_at hok r2 ru2
      simp only [dlt]
      have l1 : its.length = ds.length := by rw [← rv.length, rl.len]
      have l2 : jts.length = es.length := by rw [← rv2.length, rl2.len]
      simp only [pl] at p1 p2
      simp only [dep] at hu
      simp only [cmp2] at c
      refine lt_tup_gen ht ht2 ?_ (by omega)
      exact ltAt_L hok ds c p1 p2 rl rl2 rv rv2 (by omega) (by simp [l1, l2])
    | _ => simp [cmp2] at c
  | .non, d2, _, _, _, _, _, c, _, _, _, _, _, _, _ => by cases d2 <;> simp [cmp2] at c
  | .bl _, d2, _, _, _, _, _, c, _, _, _, _, _, _, _ => by cases d2 <;> simp [cmp2] at c
  | .str _, d2, _, _, _, _, _, c, _, _, _, _, _, _, _ => by cases d2 <;> simp [cmp2] at c
  | .lst _, d2, _, _, _, _, _, c, _, _, _, _, _, _, _ => by cases d2 <;> simp [cmp2] at c
  | .dic, d2, _, _, _, _, _, c, _, _, _, _, _, _, _ => by cases d2 <;> simp [cmp2] at c
  | .dki _ _, d2, _, _, _, _, _, c, _, _, _, _, _, _, _ => by cases d2 <;> simp [cmp2] at c
  | .scr _, d2, _, _, _, _, _, c, _, _, _, _, _, _, _ => by cases d2 <;> simp [cmp2] at c
theorem ltAt_L (hok : HOk P w H s.heap) : ∀ (ds : List D) {es : List D} {xs ys : List V} {its jts : List Value} {A : Around} {fin : Bool}, cmpL ds es = true → plL ds = true → plL es = true → RepL K H ds xs → RepL K H es ys → Vals xs its → Vals ys jts → A.units + 1 + depL ds < cLine → fin = decide (ds.length < es.length) → LexV A s fin (its.zip jts) (dltL ds es)
  | [], es, xs, ys, its, jts, A, fin, c, p1, p2, r1, r2, v1, v2, hu, hf => by
    simp only [RepL] at r1
    subst r1
    cases v1
    subst hf
    rw [List.zip_nil_left]
    cases es with
    | nil => exact .nil
    | cons e es =>
      have : dltL [] (e :: es) = decide (([] : List D).length < (e :: es).length) := by simp [dltL]
      rw [this]
      exact .nil
  | d :: ds, [], xs, ys, its, jts, A, fin, c, p1, p2, r1, r2, v1, v2, hu, hf => by
    simp only [RepL] at r2
    subst r2
    cases v2
    subst hf
    rw [List.zip_nil_right]
    have : dltL (d :: ds) [] = decide ((d :: ds).length < ([] : List D).length) := by simp [dltL]
    rw [this]
    exact .nil
  | d :: ds, e :: es, xs, ys, its, jts, A, fin, c, p1, p2, r1, r2, v1, v2, hu, hf => by
    obtain ⟨x, xs, rfl, a1, r1⟩ := r1.uncons
    obtain ⟨y, ys, rfl, a2, r2⟩ := r2.uncons
    simp only [plL, Bool.and_eq_true] at p1 p2
    simp only [cmpL, Bool.and_eq_true] at c
    simp only [depL] at hu
    cases v1 with
    | cons q1 v1 =>
      cases v2 with
      | cons q2 v2 =>
        rw [List.zip_cons_cons]
        have he := eqAt_D (A := A.in1) hok d p1.1 p2.1 a1 a2 q1 q2 (by show A.units + 1 + dep d < cLine; omega)
        simp only [dltL]
        by_cases z : deq d e = true
        · rw [if_pos z]
          rw [z] at he
          exact .eq he (ltAt_L hok ds c.2 p1.2 p2.2 r1 r2 v1 v2 (by omega) (by rw [hf]; simp))
        · rw [if_neg z]
          rw [Bool.eq_false_iff.mpr z] at he
          exact .lt he (ltAt_D (A := A.in1) hok d c.1 p1.1 p2.1 a1 a2 q1 q2 (by show A.units + 1 + dep d < cLine; omega))
end
end
section
variable {X : Cx} {sd : List Slot} {e a b c tg iter o : Expr} {es : List Expr} {pos : Pos} {r ra rb : R} {d d1 d2 : D} {ds ls : List D} {st : Stmt} {rest : List Stmt} {E : EndD}
end
end DL

namespace DL
open PySem PySem.Spec PyProof.Rows L2
section
variable {prog : Program} {w : World} {A : Around} {E : Value → Shared → Prop} {s : Shared}
open HT
end
end DL

namespace DL
open PySem PySem.Spec PyProof.Rows L2
section
variable {X : Cx} {sd : List Slot} {e a b c tg iter o : Expr} {es : List Expr} {pos : Pos} {r ra rb : R} {d : D} {ds : List D} {st : Stmt} {rest : List Stmt} {E : EndD}
end
end DL

namespace DL
open PySem PySem.Spec PyProof.Rows L2
section
variable {X : Cx} {sd : List Slot} {e a b c : Expr} {pos : Pos} {d : D} {ds : List D}
theorem op_inDL (d : D) (ds : List D) (p1 : pl d = true) (p2 : plL ds = true) (hu : X.A.units + 1 + depL ds < cLine) : OpR X (compareOp .In) (fun x y H Q => Rep X.K H (.lst ds) y ∧ Rep X.K H d x ∧ Q (.bl (ds.any fun z => deq z d)) H) := by
  intro pins s σ H x y v u Q I rx ry h
  obtain ⟨hl, hd, k⟩ := h
  obtain ⟨a, xs, its, rfl, rfl, rl, rv, ht⟩ := lst_at I.hok hl ry
  have hat : ∀ (j : Nat) (w : Value), its[j]? = some w → ∃ z v, ds[j]? = some z ∧ xs[j]? = some v ∧ Rep X.K H z v ∧ RelV v w := fun j w hw => by
    have hj : j < its.length := (List.getElem?_eq_some_iff.mp hw).1
    have hx : j < xs.length := by rw [Vals.length rv]; exact hj
    have hd : j < ds.length := by rw [← rl.len]; exact hx
    obtain ⟨v, hv, rz⟩ := rl.get (i := j) (d := ds[j]) (by simp [hd])
    exact ⟨ds[j], v, by simp [hd], hv, rz, by
      have := rv.get hv
      obtain ⟨w', hw', r⟩ := this
      rw [hw] at hw'
      cases hw'
      exact r⟩
  have dc := fun w : Value => Classical.propDecidable (∃ (j : Nat) (z : D), its[j]? = some w ∧ ds[j]? = some z ∧ deq z d = true)
  refine SeqAt.in_listAt (fun w => @decide _ (dc w)) ht (fun w hw => ?_) ⟨.bl _, H, I, rfl, ?_⟩
  · by_cases q : ∃ (j : Nat) (z : D), its[j]? = some w ∧ ds[j]? = some z ∧ deq z d = true
    · obtain ⟨j, z, e1, e2, e3⟩ := q
      obtain ⟨z', v, f1, f2, f3, f4⟩ := hat j w e1
      rw [e2] at f1
      cases f1
      have : @decide _ (dc w) = true := by rw [decide_eq_true_eq]; exact ⟨j, z, e1, e2, e3⟩
      rw [this, ← e3]
      exact eqAt_D I.hok z (plL_get p2 e2) p1 f3 hd f4 rx (by have := depL_get e2; show X.A.units + 1 + dep z < cLine; omega)
    · have hw' : w ∈ its := by simpa using hw
      obtain ⟨j, hj, rfl⟩ := List.getElem_of_mem hw'
      obtain ⟨z, v, f1, f2, f3, f4⟩ := hat j its[j] (by simp [hj])
      have e3 : deq z d = false := by
        cases h : deq z d with
        | false => rfl
        | true => exact (q ⟨j, z, by simp [hj], f1, h⟩).elim
      have : @decide _ (dc its[j]) = false := by rw [decide_eq_false_iff_not]; exact q
      rw [this, ← e3]
      exact eqAt_D I.hok z (plL_get p2 f1) p1 f3 hd f4 rx (by have := depL_get f1; show X.A.units + 1 + dep z < cLine; omega)
  · have e : its.toArray.any (fun w => @decide _ (dc w)) = ds.any fun z => deq z d := by
      rw [Bool.eq_iff_iff, List.any_toArray, List.any_eq_true, List.any_eq_true]
      constructor
      · rintro ⟨w, hw, q⟩
        rw [decide_eq_true_eq] at q
        obtain ⟨j, z, e1, e2, e3⟩ := q
        exact ⟨z, List.mem_of_getElem? e2, e3⟩
      · rintro ⟨z, hz, e3⟩
        obtain ⟨j, hj, rfl⟩ := List.getElem_of_mem hz
        have hi : j < its.length := by rw [← Vals.length rv, rl.len]; exact hj
        exact ⟨its[j], List.getElem_mem hi, by rw [decide_eq_true_eq]; exact ⟨j, ds[j], by simp [hi], by simp [hj], e3⟩⟩
    rw [e]
    exact k
theorem ptd_inDL (ha : PEd X sd a (.val d)) (hb : PEd X sd b (.val (.lst ds))) (p1 : pl d = true) (p2 : plL ds = true) (hu : X.A.units + 1 + depL ds < cLine) (hk : behindInMarks .In b = false := by with_unfolding_all rfl) : PTd X sd (.Compare a [.In] [b] pos) (ds.any fun z => deq z d) :=
  ptd_cmp2 (op_inDL d ds p1 p2 hu) ha hb trivial hk fun σ F H x u Q S q1 q2 k => ⟨Rep.mono S.sub q2, Rep.mono S.sub q1, k F H S (Same.refl _)⟩
end
/-! ### the words told, each once, and the fillings that have them -/
def kY (ws : List Int) : List Key := ws.map Sum.inl
theorem kY_D (ws : List Int) : D.tup ((kY ws).map kD) = tupI ws := by
  unfold kY tupI
  rw [List.map_map]
  rfl
theorem kY_inj {a b : List Int} (h : kY a = kY b) : a = b := by
  have := congrArg (List.map fun k : Key => match k with | .inl i => i | .inr _ => (0 : Int)) h
  unfold kY at this
  rw [List.map_map, List.map_map] at this
  have e : ((fun k : Key => match k with | .inl i => i | .inr _ => (0 : Int)) ∘ Sum.inl) = id := rfl
  rw [e, List.map_id, List.map_id] at this
  exact this
theorem kY_nodup {ks : List (List Int)} (h : ks.Nodup) : (ks.map kY).Nodup := List.Pairwise.map kY (fun a b q e => q (kY_inj e)) h
end DL

namespace DL
open PySem PySem.Spec PyProof.Rows L2
/-! ### a list of fresh lists and None -/
def shp {α β : Type} (n : β) (g : α → β) : List Bool → List α → List β
  | [], _ => []
  | false :: m, as => n :: shp n g m as
  | true :: m, [] => n :: shp n g m []
  | true :: m, a :: as => g a :: shp n g m as
theorem shp_len {α β : Type} (n : β) (g : α → β) : ∀ (m : List Bool) (as : List α), (shp n g m as).length = m.length
  | [], _ => rfl
  | false :: m, as => by simp [shp, shp_len n g m as]
  | true :: m, [] => by simp [shp, shp_len n g m []]
  | true :: m, a :: as => by simp [shp, shp_len n g m as]
theorem shp_t {α β : Type} (n : β) (g : α → β) : ∀ {m : List Bool} {as : List α} {t : Nat}, as.length = m.count true → m[t]? = some true → ∃ a, as[(m.take t).count true]? = some a ∧ (shp n g m as)[t]? = some (g a)
  | [], _, t, _, h => by simp at h
  | false :: m, as, 0, _, h => by simp at h
  | false :: m, as, t + 1, hl, h => by
    obtain ⟨a, h1, h2⟩ := shp_t n g (m := m) (as := as) (t := t) (by simpa using hl) (by simpa using h)
    exact ⟨a, by simpa using h1, by simpa [shp] using h2⟩
  | true :: m, [], t, hl, _ => by simp at hl
  | true :: m, a :: as, 0, _, _ => ⟨a, by simp, by simp [shp]⟩
  | true :: m, b :: as, t + 1, hl, h => by
    obtain ⟨a, h1, h2⟩ := shp_t n g (m := m) (as := as) (t := t) (by simpa using hl) (by simpa using h)
    exact ⟨a, by simpa using h1, by simpa [shp] using h2⟩
theorem shp_snocF {α β : Type} (n : β) (g : α → β) : ∀ (m : List Bool) (as : List α), shp n g (m ++ [false]) as = shp n g m as ++ [n]
  | [], as => by cases as <;> rfl
  | false :: m, as => by simp [shp, shp_snocF n g m as]
  | true :: m, [] => by simp [shp, shp_snocF n g m []]
  | true :: m, a :: as => by simp [shp, shp_snocF n g m as]
theorem shp_snocT {α β : Type} (n : β) (g : α → β) (a : α) : ∀ (m : List Bool) (as : List α), as.length = m.count true → shp n g (m ++ [true]) (as ++ [a]) = shp n g m as ++ [g a]
  | [], [], _ => rfl
  | [], b :: as, h => by simp at h
  | false :: m, as, h => by simp [shp, shp_snocT n g a m as (by simpa using h)]
  | true :: m, [], h => by simp at h
  | true :: m, b :: as, h => by simp [shp, shp_snocT n g a m as (by simpa using h)]
theorem shp_map {α β γ : Type} (n : β) (g : α → β) (k : γ → α) : ∀ (m : List Bool) (as : List γ), shp n g m (as.map k) = shp n (g ∘ k) m as
  | [], _ => rfl
  | false :: m, as => by simp [shp, shp_map n g k m as]
  | true :: m, [] => by
    have := shp_map n g k m []
    simp only [List.map_nil] at this
    simp [shp, this]
  | true :: m, a :: as => by simp [shp, shp_map n g k m as]
/-- what is told by options, by its shape -/
theorem shp_opt {α β : Type} (n : β) (g : α → β) (k : Option α → β) (h0 : k none = n) (h1 : ∀ a, k (some a) = g a) : ∀ os : List (Option α), shp n g (os.map Option.isSome) (os.filterMap id) = os.map k
  | [] => rfl
  | none :: os => by simp [shp, shp_opt n g k h0 h1 os, h0]
  | some a :: os => by simp [shp, shp_opt n g k h0 h1 os, h1]
theorem opt_cnt {α : Type} : ∀ os : List (Option α), (os.filterMap id).length = (os.map Option.isSome).count true
  | [] => rfl
  | none :: os => by simpa using opt_cnt os
  | some a :: os => by simp [opt_cnt os]
def GO (K : PySem.W.Frag) (m : List Bool) (l : Addr) (ls : List Addr) (dss : List (List D)) : V → Hp → Hp → Prop := fun v F H => v = .ref l ∧ H l = some (.lst (shp V.non V.ref m ls)) ∧ InD K F H ls dss
def oO (K : PySem.W.Frag) (m : List Bool) (l : Addr) (ls : List Addr) (dss : List (List D)) : Slot := .ox (l :: ls) (GO K m l ls dss)
def ooR (K : PySem.W.Frag) (m : List Bool) (dss : List (List D)) : R := .ox fun v as F H => ∃ l ls, as = l :: ls ∧ GO K m l ls dss v F H
section
variable {K : PySem.W.Frag} {H₀ F F' H H' : Hp} {σ : St} {sd : List Slot} {i : Nat} {l : Addr} {ls : List Addr} {dss : List (List D)} {m : List Bool}
theorem oO_get (S : StF K H₀ F H σ sd) (hs : sd[i]? = some (oO K m l ls dss)) : σ[i]? = some (some (.ref l)) ∧ (∀ a ∈ l :: ls, F a = none) ∧ H l = some (.lst (shp V.non V.ref m ls)) ∧ InD K F H ls dss ∧ (l :: ls).Nodup := by
  obtain ⟨o, h1, v, h2, h3, h4⟩ := S.slots.get hs
  obtain ⟨e, q1, q2⟩ := h4 F H (Same.refl _) fun _ _ _ q => q
  subst e h2
  exact ⟨h1, fun a ha => (h3 a ha).1, q1, q2, ownL_nodup S.nd hs⟩
theorem oO_mk (hF : ∀ a ∈ l :: ls, F a = none) (h1 : H l = some (.lst (shp V.non V.ref m ls))) (h2 : InD K F H ls dss) : SlotOk K F H (oO K m l ls dss) (some (.ref l)) := by
  refine ⟨.ref l, rfl, fun a ha => ⟨hF a ha, ?_⟩, fun F' H' s k => ⟨rfl, k _ List.mem_cons_self _ h1, h2.mono2 s fun a ha => k a (List.mem_cons_of_mem _ ha)⟩⟩
  rcases List.mem_cons.mp ha with rfl | ha
  · exact ⟨_, h1, trivial⟩
  · obtain ⟨xs, e⟩ := h2.of a ha
    exact ⟨.lst xs, e, trivial⟩
theorem rep_shp {G : Hp} : ∀ {m : List Bool} {as : List Addr} {dss : List (List D)}, InD K G G as dss → RepL K G (shp D.non D.lst m dss) (shp V.non V.ref m as)
  | [], _, _, _ => .nil
  | false :: m, as, dss, h => .cons (by simp only [Rep]) (rep_shp (m := m) h)
  | true :: m, [], [], h => .cons (by simp only [Rep]) (rep_shp (m := m) h)
  | true :: m, [], _ :: _, h => h.elim
  | true :: m, _ :: _, [], h => h.elim
  | true :: m, a :: as, ds :: dss, h => by
    obtain ⟨⟨xs, e, r⟩, h2⟩ := h
    refine .cons ?_ (rep_shp (m := m) h2)
    simp only [Rep]
    exact ⟨a, xs, rfl, e, r⟩
theorem rep_inO (h0 : ∀ a ∈ l :: ls, F a = none) (h1 : H l = some (.lst (shp V.non V.ref m ls))) (h2 : InD K F H ls dss) : Rep K (inF F H (l :: ls)) (.lst (shp D.non D.lst m dss)) (.ref l) := by
  simp only [Rep]
  refine ⟨l, _, rfl, ?_, rep_shp (h2.mono2 (inF_sub h0) fun a ha ob e => ?_)⟩
  · rw [inF_in List.mem_cons_self]
    exact h1
  · rw [inF_in (List.mem_cons_of_mem _ ha)]
    exact e
theorem StF.lendO (S : StF K H₀ F H σ sd) (hs : sd[i]? = some (oO K m l ls dss)) : StF K H₀ (inF F H (l :: ls)) H σ (sd.set i (.val (.lst (shp D.non D.lst m dss)))) := by
  obtain ⟨h1, h2, h3, h4, h5⟩ := oO_get S hs
  have S0 := S.le (le_set_un sd i)
  obtain ⟨S1, s1⟩ := S0.inN h2 fun a ha => not_ownedZ S.nd hs ha
  have S2 := S1.set (d := .lst (shp D.non D.lst m dss)) (v := .ref l) i (rep_inO h2 h3 h4)
  rw [set_set, set_same h1] at S2
  exact S2
theorem StF.backO (S : StF K H₀ F H σ sd) (hs : sd[i]? = some (oO K m l ls dss)) (ho : OthN sd i) (S' : StF K H₀ F' H' σ (sd.set i (.val (.lst (shp D.non D.lst m dss))))) (s : Same (inF F H (l :: ls)) F') :
    StF K H₀ (outF F' (l :: ls)) H' σ sd ∧ Same F (outF F' (l :: ls)) ∧ (l :: ls).Nodup ∧ (∀ a ∈ l :: ls, ∃ xs, F' a = some (.lst xs)) := by
  obtain ⟨h1, h2, h3, h4, h5⟩ := oO_get S hs
  have fl : ∀ a ∈ l :: ls, ∀ ob, H a = some ob → F' a = some ob := fun a ha ob e => s _ _ (by rw [inF_in ha]; exact e)
  have fx : ∀ a ∈ l :: ls, ∃ xs, F' a = some (.lst xs) := fun a ha => by
    rcases List.mem_cons.mp ha with rfl | ha'
    · exact ⟨_, fl _ ha _ h3⟩
    · obtain ⟨xs, e⟩ := h4.of a ha'
      exact ⟨xs, fl _ ha _ e⟩
  have sF : Same F (outF F' (l :: ls)) := fun b u e => by
    have nb : b ∉ l :: ls := fun hb => by rw [h2 b hb] at e; cases e
    rw [outF_ni nb]
    exact s _ _ (by rw [inF_ni nb]; exact e)
  refine ⟨⟨fun b u e => sF _ _ (S.base _ _ e), fun b u e => ?_, S'.smp, ?_, S.nd⟩, sF, h5, fx⟩
  · by_cases h : b ∈ l :: ls
    · rw [outF_in h] at e
      cases e
    · rw [outF_ni h] at e
      exact S'.sub _ _ e
  · refine slots_of S.slots.len fun k z hz => ?_
    by_cases hk : k = i
    · subst hk
      rw [hs] at hz
      cases hz
      exact ⟨_, h1, oO_mk (fun a ha => outF_in ha) (S'.sub _ _ (fl _ List.mem_cons_self _ h3)) (h4.mono2 sF fun a ha ob e => S'.sub _ _ (fl _ (List.mem_cons_of_mem _ ha) _ e))⟩
    · obtain ⟨o1, g1, g2⟩ := S.slots.get hz
      obtain ⟨o2, g3, g4⟩ := S'.slots.get (i := k) (z := z) (by rw [List.getElem?_set_ne (Ne.symm hk)]; exact hz)
      rw [g1] at g3
      cases g3
      refine ⟨o1, g1, ?_⟩
      cases z with
      | un => trivial
      | val d =>
        obtain ⟨v, e, r⟩ := g2
        exact ⟨v, e, r.mono sF⟩
      | gh d G =>
        obtain ⟨v, e, r, g⟩ := g2
        exact ⟨v, e, r.mono sF, fun F2 s2 => g F2 (sF.trans s2)⟩
      | own l' ds' =>
        obtain ⟨e, n', ys, q', rl'⟩ := g4
        have ne : l' ∉ l :: ls := fun hb => by
          obtain ⟨xs, e2⟩ := fx l' hb
          rw [e2] at n'
          cases n'
        exact ⟨e, by rw [outF_ni ne]; exact n', ys, q', RepL.delN (ho k _ hk hz) rl' h5 fx⟩
      | od l' ks ds' =>
        obtain ⟨e, n', ys, q', ln, rl'⟩ := g4
        have ne : l' ∉ l :: ls := fun hb => by
          obtain ⟨xs, e2⟩ := fx l' hb
          rw [e2] at n'
          cases n'
        exact ⟨e, by rw [outF_ni ne]; exact n', ys, q', ln, RepL.delN (ho k _ hk hz) rl' h5 fx⟩
      | ox as G =>
        have e0 : as = [] := List.isEmpty_iff.mp (ho k _ hk hz)
        subst e0
        obtain ⟨v, e, _, g⟩ := g2
        exact ⟨v, e, fun a ha => (by cases ha), fun F2 H2 s2 _ => g F2 H2 (sF.trans s2) fun a ha => (by cases ha)⟩
end
section
variable {X : Cx} {sd : List Slot} {e a b c tg iter o : Expr} {es : List Expr} {pos : Pos} {r ra rb : R} {d : D} {ds : List D} {st : Stmt} {rest : List Stmt} {E : EndD} {l : Addr} {ls : List Addr} {dss : List (List D)} {m : List Bool}
theorem PTd.lendO (i : Nat) {k : Bool} (hs : sd[i]? = some (oO X.K m l ls dss)) (ho : OthN sd i) (h : PTd X (sd.set i (.val (.lst (shp D.non D.lst m dss)))) e k) : PTd X sd e k := .mk fun σ F H S => by
  refine (h σ _ H (S.lendO hs)).imp fun v H' ⟨e, F', S', s'⟩ => ?_
  obtain ⟨S2, s2, _⟩ := S.backO hs ho S' s'
  exact ⟨e, _, S2, s2⟩
theorem PEd.lendO (i : Nat) (hs : sd[i]? = some (oO X.K m l ls dss)) (ho : OthN sd i) (hf : noL d = true) (h : PEd X (sd.set i (.val (.lst (shp D.non D.lst m dss)))) e (.val d)) : PEd X sd e (.val d) := .mk fun σ F H S => by
  refine (h σ _ H (S.lendO hs)).imp fun v H' ⟨F', S', s', res⟩ => ?_
  obtain ⟨S2, s2, nd, fx⟩ := S.backO hs ho S' s'
  exact ⟨_, S2, s2, Rep.delN hf res nd fx⟩
theorem StF.wrO {K : PySem.W.Frag} {H₀ F H : Hp} {σ : St} {i t : Nat} {a : Addr} {es : List D} {ys : List V} (S : StF K H₀ F H σ sd) (hs : sd[i]? = some (oO K m l ls dss)) (ht : ls[t]? = some a) (r : RepL K F es ys) : StF K H₀ F (upd H a (.lst ys)) σ (sd.set i (oO K m l ls (dss.set t es))) := by
  obtain ⟨g1, g2, g3, g4, g5⟩ := oO_get S hs
  obtain ⟨n1, n2⟩ := List.nodup_cons.mp g5
  have ma := List.mem_of_getElem? ht
  refine S.reX (z' := oO K m l ls (dss.set t es)) hs g1 (fun b ob hb q => ?_) (smp_upd S.smp a) (oO_mk g2 ?_ (g4.set n2 ht r)) g5 fun b hb => .inl hb
  · rw [upd_ne (show b ≠ a from fun z => hb (z ▸ List.mem_cons_of_mem _ ma))]
    exact q
  · rw [upd_ne (show l ≠ a from fun z => n1 (z ▸ ma))]
    exact g3
theorem pd_compO {elt : Expr} {ifs : List Expr} {scope : Scope} {N M : List Str} {cap : List (Option Nat)} {sc : Scope} {Tb : D → List Slot} (p : D → Bool) (f : D → Option (List D)) (hfl : ∀ d es, f d = some es → noLs es = true)
    (hi : PId X (unO sd) PT0 tg iter ds) (hl : ds.length ≤ 1000)
    (hsc : X.env.scope = sc) (hcn : compNames scope sc = true) (hM : X.N = M) (hcap : capNames N M scope sc cap = true) (hk : scope.kind = .function)
    (hg : ∀ cl C fp s H d, d ∈ ds → PGd (cxB X N scope cl C fp s H) (capD cap sd) tg d (Tb d))
    (hle : ∀ d, d ∈ ds → Le (Tb d) (capD cap sd))
    (ht : ∀ cl C fp s H d, d ∈ ds → (ifs = [] ∧ p d = true) ∨ ∃ c, ifs = [c] ∧ PTd (cxB X N scope cl C fp s H) (Tb d) c (p d))
    (he : ∀ cl C fp s H d, d ∈ ds → p d = true → PEd (cxB X N scope cl C fp s H) (Tb d) elt (match f d with | none => .val .non | some es => .own es))
    (hc : X.calm = true := by rfl) (hs : ∀ x, foldedSetIterable iter X.env x = pure x := by intro _; rfl) :
    PEd X sd (.ListComp elt [⟨tg, iter, ifs, 0⟩] scope pos) (ooR X.K (((ds.filter p).map f).map Option.isSome) (((ds.filter p).map f).filterMap id)) := .mk fun σ F H S => by
  refine wE_frame S trivial ?_
  have S0 : StF X.K X.B₀ F F σ (unO sd) := ⟨S.base, Same.refl _, S.smp.sub S.sub, slots_unO S.slots, by rw [owned_unO]; exact List.nodup_nil⟩
  intro pins s I
  have nm : ∀ y ∈ scope.names, (y.2 = NameKind.free → sc.names.lookup y.1 = some NameKind.cell) ∧ (y.2 = NameKind.local → scope.names.lookup y.1 = some NameKind.local) := fun y hy => by
    have q := List.all_eq_true.mp hcn y hy
    simp only [Bool.and_eq_true, Bool.or_eq_true, Bool.not_eq_true', beq_eq_false_iff_ne, ne_eq, beq_iff_eq] at q
    exact ⟨fun e => q.1.1.resolve_left fun z => z e, fun e => q.2.resolve_left fun z => z e⟩
  have fre : ∀ y ∈ scope.names, y.2 = .free → ∃ c, X.env.cells.lookup y.1 = some c := fun y hy e => I.ok.has y.1 (.inl (by show X.env.scope.names.lookup y.1 = _; rw [hsc]; exact (nm y hy).1 e))
  rw [eval_ListComp]
  refine wpAny_comprehension_free (use := none) rfl hs (closure_eq fre) hk (fun y hy => (nm y hy).2) ?_
  refine thn (hi σ F F S0 pins s I) fun v s1 h1 => thn h1 fun itv s2 h2 => ?_
  obtain ⟨it, fp, tn, J, H2, e, I2, T, st2, f2, F1, S1, s1', itd⟩ := h2
  subst e
  have S1b : StF X.K H2 H2 H2 (capt cap σ) (capD cap sd) := ⟨Same.refl _, Same.refl _, S1.smp, by
    have q := capD_ok (sd := unO sd) (H' := H2) S1.slots S1.sub cap
    rw [capD_unO] at q
    exact q, by rw [owned_capD]; exact List.nodup_nil⟩
  refine comp_run (N := N) (cap := cap) (g := fun v σ2 H3 Q => ∀ cl C, wG (cxB X N scope cl C fp s2 H2) tg v σ2 H3 Q) (tt := fun σ2 H3 Q => ∀ cl C, wIfs (cxB X N scope cl C fp s2 H2) ifs σ2 H3 Q) (te := fun σ2 H3 Q => ∀ cl C, wE (cxB X N scope cl C fp s2 H2) elt σ2 H3 Q)
    hc hsc hcn (by rw [hM]; exact hcap) hk I2 T st2 f2 (fun cl C pi s3 σ3 H3 v u Q I3 ru q => q cl C pi s3 u I3 ru) (fun cl C pi s3 σ3 H3 Q I3 q => q cl C pi s3 I3) (fun cl C pi s3 σ3 H3 Q I3 q => q cl C pi s3 I3)
    (fun i m ys σb H3 => m = ds.length - i ∧ i ≤ ds.length ∧ ∃ Fb as, StF X.K H2 Fb H3 σb (capD cap sd) ∧ ys = shp V.non V.ref ((((ds.take i).filter p).map f).map Option.isSome) as ∧ as.Nodup ∧ (∀ a ∈ as, H2 a = none) ∧ InD X.K Fb Fb as ((((ds.take i).filter p).map f).filterMap id)) ds.length
    ⟨by simp, Nat.zero_le _, H2, [], S1b, rfl, List.nodup_nil, fun a ha => (by cases ha), (show InD X.K H2 H2 [] [] from trivial)⟩ _ ?_
  rintro i m ys σb H3 ⟨rfl, hil, Fb, as, Sb, rfl, nda, fra, rl⟩
  have sF1 : Same F1 Fb := fun b o g => Sb.base _ _ (S1.sub _ _ g)
  obtain ⟨g1, g2, g3⟩ := itd Fb H3 sF1 Sb.sub Sb.smp trivial i
  by_cases hlt : i < ds.length
  · have hd : ds[i]? = some ds[i] := by simp [hlt]
    have hm : ds[i] ∈ ds := List.getElem_mem hlt
    have cnt : as.length = ((((ds.take i).filter p).map f).map Option.isSome).count true := by rw [rl.len, opt_cnt]
    have ylen : (shp V.non V.ref ((((ds.take i).filter p).map f).map Option.isSome) as).length ≤ i := by
      rw [shp_len, List.length_map, List.length_map]
      exact Nat.le_trans (List.length_filter_le _ _) (by simp; omega)
    refine .inr ⟨g1 hlt, small1000 (by omega), fun ys' σ' H' => ∃ Fb' as', StF X.K H2 Fb' H' σ' (capD cap sd) ∧ ys' = shp V.non V.ref ((((ds.take (i + 1)).filter p).map f).map Option.isSome) as' ∧ as'.Nodup ∧ (∀ a ∈ as', H2 a = none) ∧ InD X.K Fb' Fb' as' ((((ds.take (i + 1)).filter p).map f).filterMap id), fun ys' σ' H' ⟨Fb', as', q⟩ => ⟨ds.length - (i + 1), by omega, rfl, hlt, Fb', as', q⟩, fun x H4 y cl C => ?_⟩
    obtain ⟨F4, s4, rp, up⟩ := g3 x H4 ds[i] hd y
    refine (hg cl C fp s2 H2 _ hm σb F4 H4 x (up _ _ _ Sb) rp).imp fun σ5 H5 ⟨F5, S5, s5⟩ cl2 C2 => ?_
    have rl5 := rl.mono (s4.trans s5)
    have fin : ∀ (b : Bool) (H6 : Hp) (F6 : Hp), b = p ds[i] → StF X.K H2 F6 H6 σ5 (Tb ds[i]) → Same F5 F6 → if b = true then (∀ cl C, wE (cxB X N scope cl C fp s2 H2) elt σ5 H6 fun v H5 => ∃ Fb' as', StF X.K H2 Fb' H5 σ5 (capD cap sd) ∧ (shp V.non V.ref ((((ds.take i).filter p).map f).map Option.isSome) as ++ [v]) = shp V.non V.ref ((((ds.take (i + 1)).filter p).map f).map Option.isSome) as' ∧ as'.Nodup ∧ (∀ a ∈ as', H2 a = none) ∧ InD X.K Fb' Fb' as' ((((ds.take (i + 1)).filter p).map f).filterMap id)) else ∃ Fb' as', StF X.K H2 Fb' H6 σ5 (capD cap sd) ∧ shp V.non V.ref ((((ds.take i).filter p).map f).map Option.isSome) as = shp V.non V.ref ((((ds.take (i + 1)).filter p).map f).map Option.isSome) as' ∧ as'.Nodup ∧ (∀ a ∈ as', H2 a = none) ∧ InD X.K Fb' Fb' as' ((((ds.take (i + 1)).filter p).map f).filterMap id) := fun b H6 F6 eb S6 s6 => by
      rw [filter_take_succ p hd, ← eb]
      cases b with
      | false => exact iteF ⟨F6, as, S6.le (hle _ hm), by simp, nda, fra, by simpa using rl5.mono s6⟩
      | true =>
        have he' := he cl C fp s2 H2 _ hm eb.symm
        have rl6 := rl5.mono s6
        simp only [if_true, List.map_append, List.map_cons, List.map_nil, List.filterMap_append]
        cases hf : f ds[i] with
        | none =>
          intro cl3 C3
          have he3 := he cl3 C3 fp s2 H2 _ hm eb.symm
          rw [hf] at he3
          refine (he3 σ5 F6 H6 S6).imp fun v H7 ⟨F7, S7, s7, q⟩ => ?_
          simp only [ResOk, Rep] at q
          subst q
          exact ⟨F7, as, S7.le (hle _ hm), (shp_snocF V.non V.ref _ as).symm, nda, fra, by simpa using rl6.mono s7⟩
        | some es0 =>
          intro cl3 C3
          have he3 := he cl3 C3 fp s2 H2 _ hm eb.symm
          rw [hf] at he3
          refine (he3 σ5 F6 H6 S6).imp fun v H7 ⟨F7, S7, s7, l, xs, e, n, q, rlx, no⟩ => ?_
          subst e
          obtain ⟨S8, s8⟩ := S7.freeze q n no
          have rl7 := rl6.mono s7
          have nl : l ∉ as := fun hm => by
            obtain ⟨xs', e⟩ := rl7.of l hm
            rw [n] at e
            cases e
          refine ⟨_, as ++ [l], S8.le (hle _ hm), (shp_snocT V.non V.ref l _ as cnt).symm, ?_, fun a ha => ?_, ?_⟩
          · rw [List.nodup_append]
            refine ⟨nda, by simp, fun b hb c hc e => ?_⟩
            rw [List.mem_singleton.mp hc] at e
            subst e
            exact nl hb
          · rcases List.mem_append.mp ha with ha | ha
            · exact fra a ha
            · rw [List.mem_singleton.mp ha]
              cases g : H2 l with
              | none => rfl
              | some o =>
                have := s7 _ _ (s6 _ _ (s5 _ _ (s4 _ _ (Sb.base _ _ g))))
                rw [n] at this
                cases this
          · exact (rl7.mono s8).app ⟨⟨xs, upd_same, rlx.mono s8⟩, trivial⟩
    rcases ht cl2 C2 fp s2 H2 _ hm with ⟨e1, e2⟩ | ⟨c, e1, q⟩
    · subst e1
      exact wIfs_nil (fin true H5 F5 e2.symm S5 (Same.refl _))
    · subst e1
      exact wIfs_one ((q σ5 F5 H5 S5).imp fun b H6 ⟨eb, F6, S6, s6⟩ => fin b H6 F6 eb S6 s6)
  · have e : i = ds.length := by omega
    subst e
    refine .inl ⟨g2 (Nat.le_refl _), fun D C s' hD hC hDC h0 hL hcc hpp hst ⟨m', ns'⟩ J' => ⟨m', ns', fun h' sb => ?_⟩⟩
    have J2 : Inv X pins σ (upd H3 D (.lst (shp V.non V.ref ((((ds.take ds.length).filter p).map f).map Option.isSome) as))) { s' with heap := h', toks := s'.toks } := J'.turned (it := C) (fun b o hb g => sb.extBut b o hb g) (by rw [upd_ne (Ne.symm hDC)]; exact hC) hL (.inr h0) hcc hpp
    have fx : ∀ a ∈ as, ∃ xs, Fb a = some (.lst xs) := rl.of
    have neD : ∀ a ∈ as, a ≠ D := fun a ha => by
      obtain ⟨xs, e⟩ := fx a ha
      exact ne_of_none (Sb.sub _ _ e) hD
    have rl' : InD X.K Fb Fb as (((ds.filter p).map f).filterMap id) := by simpa using rl
    refine ⟨.ref D, _, J2, rfl, outF Fb as, fun b o g => ?_, fun b o g => ?_, smp_upd Sb.smp D, D :: as, List.nodup_cons.mpr ⟨fun hm => neD D hm rfl, nda⟩, fun a ha => ?_, fun F' H' sF k => ⟨D, as, rfl, rfl, by rw [k D List.mem_cons_self _ upd_same, List.take_length], ?_⟩⟩
    · have g2 := S1.sub _ _ (s1' _ _ g)
      rw [outF_ni (fun hm => by rw [fra b hm] at g2; cases g2)]
      exact Sb.base _ _ g2
    · have nb : b ∉ as := fun hm => by rw [outF_in hm] at g; cases g
      rw [outF_ni nb] at g
      have g3 := Sb.sub _ _ g
      rw [upd_ne (ne_of_none g3 hD)]
      exact g3
    · rcases List.mem_cons.mp ha with rfl | ha
      · refine ⟨?_, ⟨_, upd_same, trivial⟩, by simp [owned]⟩
        by_cases hm : a ∈ as
        · exact outF_in hm
        · rw [outF_ni hm]
          exact Sb.sub.free hD
      · obtain ⟨xs, e⟩ := fx a ha
        exact ⟨outF_in ha, ⟨.lst xs, by rw [upd_ne (neD a ha)]; exact Sb.sub _ _ e, trivial⟩, by simp [owned]⟩
    · refine rl'.out (fun es he => ?_) nda fx sF fun a ha ob e => k a (List.mem_cons_of_mem _ ha) ob (by rw [upd_ne (neD a ha)]; exact Sb.sub _ _ e)
      obtain ⟨o, ho, rfl⟩ := List.mem_filterMap.mp he
      obtain ⟨d, _, hd⟩ := List.mem_map.mp ho
      exact hfl d _ hd
end
end DL

namespace DL
open PySem PySem.Spec PyProof.Rows L2
section
variable {X : Cx} {sd : List Slot} {e a b c : Expr} {pos : Pos} {d : D} {ds : List D} {ks : List (List Key)} {k : List Key} {st : Stmt} {E : EndD} {l : Addr}
/-- what is known by s is enough for sd -/
def Better (X : Cx) (s sd : List Slot) : Prop := ∀ (rest : List Stmt) (E : EndD), PSd X sd rest E → PSd X s rest E
theorem Better.le {s sd : List Slot} (h : Le s sd) : Better X s sd := fun _ _ q => psd_le h q
theorem Better.frz {s sd : List Slot} (i : Nat) {l : Addr} (hs : s[i]? = some (.own l ds)) (h : Le (s.set i (.val (.lst ds))) sd) : Better X s sd := fun _ _ q => psd_frz i hs (psd_le h q)
end
end DL

namespace DL
open PySem PySem.Spec PyProof.Rows L2
/-! ### wishes as lists of fresh lists and None -/
def mkM (W : List (Option (List (List Int)))) : List Bool := W.map Option.isSome
def mkL (W : List (Option (List (List Int)))) : List (List D) := (W.filterMap id).map (List.map tupI)
theorem shp_ws (W : List (Option (List (List Int)))) : shp D.non D.lst (mkM W) (mkL W) = W.map wsD := by
  unfold mkM mkL
  rw [shp_map]
  exact shp_opt _ _ wsD rfl (fun _ => rfl) W
theorem mk_cnt (W : List (Option (List (List Int)))) : (mkL W).length = (mkM W).count true := by
  unfold mkM mkL
  rw [List.length_map, opt_cnt]
theorem opt_mkM (W : List (Option (List (List Int)))) : (W.map (Option.map (List.map tupI))).map Option.isSome = mkM W := by
  unfold mkM
  rw [List.map_map]
  refine List.map_congr_left fun o _ => ?_
  cases o <;> rfl
theorem opt_mkL : ∀ W : List (Option (List (List Int))), (W.map (Option.map (List.map tupI))).filterMap id = mkL W
  | [] => rfl
  | none :: W => by
    have := opt_mkL W
    simpa [mkL] using this
  | some L :: W => by
    have := opt_mkL W
    simpa [mkL] using this
section
variable {X : Cx} {sd : List Slot} {e a b c : Expr} {pos : Pos}
end
end DL

namespace DL
open PySem PySem.Spec PyProof.Rows L2
/-! ### a heap without some objects -/
def cutH1 (h : Heap) (a : Addr) : Heap := h.update a fun o => { o with data := .freed }
def cutH (h : Heap) (S : List Addr) : Heap := S.foldl cutH1 h
theorem cutH1_other (h : Heap) {a b : Addr} (ne : b ≠ a) : (cutH1 h a).get? b = h.get? b := Heap.get?_update_other _ _ (Ne.symm ne)
theorem cutH1_self (h : Heap) (a : Addr) : (cutH1 h a).get? a = none := by
  cases h
  simp only [cutH1, Heap.update, Heap.get?, Array.getElem?_modify, if_true]
  split
  · rfl
  · rename_i hx
    generalize hq : Option.map _ _ = q at hx ⊢
    cases q with
    | none => rfl
    | some o =>
      obtain ⟨o', h1, h2⟩ := Option.map_eq_some_iff.mp hq
      exact (hx _ _ _ (by rw [← h2])).elim
theorem cutH_out : ∀ {S : List Addr} {h : Heap} {a : Addr}, a ∉ S → (cutH h S).get? a = h.get? a
  | [], _, _, _ => rfl
  | b :: S, h, a, hn => by
    show (cutH (cutH1 h b) S).get? a = _
    rw [cutH_out fun z => hn (List.mem_cons_of_mem _ z), cutH1_other h (fun z : a = b => hn (z ▸ List.mem_cons_self))]
theorem cutH_in : ∀ {S : List Addr} {h : Heap} {a : Addr}, a ∈ S → (cutH h S).get? a = none
  | b :: S, h, a, hm => by
    show (cutH (cutH1 h b) S).get? a = none
    by_cases hs : a ∈ S
    · exact cutH_in hs
    · have e : a = b := (List.mem_cons.mp hm).resolve_right hs
      subst e
      rw [cutH_out hs, cutH1_self]
theorem cutH_sub {S : List Addr} {h : Heap} {a : Addr} {o : Obj} (q : (cutH h S).get? a = some o) : a ∉ S ∧ h.get? a = some o := by
  have hn : a ∉ S := fun z => by rw [cutH_in z] at q; cases q
  exact ⟨hn, by rw [cutH_out hn] at q; exact q⟩
theorem funs_base {h base base' : Heap} : ∀ {l : List Env}, h.FunFrames base l → (∀ b ∈ l.filterMap (·.frame), base'.get? b = none) → h.FunFrames base' l
  | [], _, _ => trivial
  | env :: rest, hl, hb => by
    obtain ⟨hk, ⟨L, o, hf, hn, ho, hd⟩, hr⟩ := hl
    have e : (env :: rest).filterMap (·.frame) = L :: rest.filterMap (·.frame) := by rw [List.filterMap_cons, hf]
    rw [e] at hb
    exact ⟨hk, ⟨L, o, hf, hb L List.mem_cons_self, ho, hd⟩, funs_base hr fun b hm => hb b (List.mem_cons_of_mem _ hm)⟩
theorem obj_some {P : Program} {w : World} {H : Hp} {h : Heap} {a : Addr} {o : HO} (x : ObjOk P w H h a o) : ∃ ob, h.get? a = some ob := by
  cases o with
  | lst xs => obtain ⟨_, _, _, _, e⟩ := x; exact ⟨_, e⟩
  | tup xs => obtain ⟨_, _, _, ob, e, _⟩ := x; exact ⟨_, e⟩
  | dK kvs => obtain ⟨_, _, _, _, o, _, _, e, _⟩ := x; exact ⟨_, e⟩
  | dT kvs => obtain ⟨_, _, _, _, o, _, _, e, _⟩ := x; exact ⟨_, e⟩
  | set S n => obtain ⟨o, _, _, _, e, _⟩ := x; exact ⟨_, e⟩
  | ins C dx fs => obtain ⟨_, _, _, e, _⟩ := x; exact ⟨_, e⟩
  | own y => obtain ⟨_, e⟩ := x; exact ⟨_, e⟩
  | xd fs => obtain ⟨_, ⟨_, _, _, e, _⟩, _⟩ := x; exact ⟨_, e⟩
  | rng lo hi => obtain ⟨_, _, _, e⟩ := x; exact ⟨_, e⟩
  | frz ob u => obtain ⟨e, _⟩ := x; exact ⟨_, e⟩
  | tbl ps => exact ⟨_, (show h.get? a = some _ from x)⟩
  | met f y => exact ⟨_, (show h.get? a = some _ from x)⟩
  | ext φ => obtain ⟨_, ⟨_, e⟩, _⟩ := x; exact ⟨_, e⟩
/-! ### an exception of a class of the text, on its way -/
structure Exc (h0 h : Heap) (H : Hp) (a T : Addr) (cls : Value) : Prop where
  free : H a = none
  new : h0.get? a = none
  freeT : H T = none
  newT : h0.get? T = none
  obj : ∃ oe vs oT ts a0, h.get? a = some oe ∧ (oe.cls = cls ∧ vs[0]? = some a0) ∧ oe.data = .fields vs ∧ vs[1]? = some (.ref T) ∧ T ≠ a ∧ h.get? T = some oT ∧ oT.data = .fields ts ∧ ts[3]? = some .none
def CX1 (P : Program) (w : World) (cls : Value) : CXT := fun outer H s E e s' => ∃ a T H', e = .ref a ∧ s'.os = s.os ∧ AllBare s'.gens ∧ Un (frs outer) [] H H' s.heap s'.heap ∧ HOk P w H' s'.heap ∧ Exc s.heap s'.heap H' a T cls ∧ E (.ref a) (some a) H'
section
variable {X : Cx} {pins : List (Addr × Obj)} {σ : St} {H : Hp} {s : Shared} {h' : Heap} {a T : Addr} {cls a0 : Value} {S : List Addr} {E : XK}
/-- a frame is left: what is known behind it -/
theorem left_cx (I : Inv X pins σ H s) (hex : X.ex = []) (hst : X.stack = X.env :: X.outer ∧ X.env.frame = some X.env.locals) (hS : ∀ b ∈ S, H b = none ∧ X.s₀.heap.get? b = none) (ha : a ∈ S) (L : Heap.LeftW (cutH s.heap (frs X.stack ++ S)) X.stack a cls a0 s.heap h') (hE : E (.ref a) (some a) H) :
    CX1 X.prog X.w cls X.outer X.H₀ X.s₀ E (.ref a) { s with heap := h' } := by
  obtain ⟨k1, k2, ⟨oe, vs, T, oT, ts, he, hc, hd, h1, hnT, hTe, hT, hdT, h3⟩, k4⟩ := L
  have fr : frs X.stack = X.env.locals :: frs X.outer := by
    unfold frs
    rw [hst.1, List.filterMap_cons, hst.2]
  have out : ∀ b o, X.s₀.heap.get? b = some o → b ∉ frs X.outer → b ∉ frs X.stack ++ S := fun b o q hb hm => by
    rcases List.mem_append.mp hm with hm | hm
    · rw [fr] at hm
      rcases List.mem_cons.mp hm with e | hm
      · have := I.ok.above
        have lt := Heap.lt_size q
        rw [e] at lt
        exact absurd lt (Nat.not_lt.mpr this)
      · exact hb hm
    · rw [(hS b hm).2] at q
      cases q
  have stay : ∀ b o, b ∉ frs X.stack ++ S → s.heap.get? b = some o → h'.get? b = some o := fun b o hb q => k1 b o (by rw [cutH_out hb]; exact q)
  have nex : ∀ b, b ∉ X.ex := fun b hb => by rw [hex] at hb; cases hb
  have slot : ∀ b o, X.s₀.heap.get? b = some o → X.H₀ b = none → b ∈ frs X.outer → ∃ sl, h'.get? b = some { o with slots := sl } := fun b o q n hb => by
    obtain ⟨sl, q1⟩ := I.base.slot b o q n hb (nex b)
    obtain ⟨_, o', q2, nf⟩ := I.ok.funs.mem hb
    rw [q] at q2
    cases q2
    obtain ⟨sl2, q3⟩ := k4 b _ q1 nf
    exact ⟨sl2, q3⟩
  have tr : ∀ b u, H b = some u → b ∉ frs X.stack ++ S := fun b u e hm => by
    rcases List.mem_append.mp hm with hm | hm
    · rw [I.env0.frf b hm] at e
      cases e
    · rw [(hS b hm).1] at e
      cases e
  have Tn : s.heap.get? T = none ∨ T ∈ S := by
    by_cases hm : T ∈ frs X.stack ++ S
    · rcases List.mem_append.mp hm with hm | hm
      · obtain ⟨_, o, q, nf⟩ := k2.mem hm
        rw [hT] at q
        cases q
        exact (nf ts hdT).elim
      · exact .inr hm
    · rw [cutH_out hm] at hnT
      exact .inl hnT
  refine ⟨a, T, H, rfl, I.os, I.bare, ⟨fun b o q n hb _ => stay b o (out b o q hb) (I.base.keep b o q n hb (nex b)), fun b o q n hb _ => slot b o q n hb, fun b o q n _ => I.base.free b o q n (nex b), fun b o q _ => ?_, I.base.tups, I.base.frzs, I.base.tbls⟩, fun b u e => ?_, ⟨(hS a ha).1, (hS a ha).2, ?_, ?_, oe, vs, oT, ts, a0, he, hc, hd, h1, hTe, hT, hdT, h3⟩, hE⟩
  · by_cases hb : b ∈ frs X.outer
    · obtain ⟨sl, q2⟩ := slot b o q (I.ok.frf b hb) hb
      exact ⟨_, q2⟩
    · obtain ⟨o1, q1⟩ := I.base.there b o q (nex b)
      exact ⟨o1, stay b o1 (out b o q hb) q1⟩
  · refine (I.hok b u e).stay (fun c v hc q => stay c v ?_ q) (fun _ q => q) fun _ _ q => q
    rcases hc with z | z
    · rw [z]
      exact tr b u e
    · exact tr c _ z
  · rcases Tn with q | q
    · cases g : H T with
      | none => rfl
      | some u =>
        obtain ⟨ob, q2⟩ := obj_some (I.hok T u g)
        rw [q] at q2
        cases q2
    · exact (hS T q).1
  · rcases Tn with q | q
    · cases g : X.s₀.heap.get? T with
      | none => rfl
      | some o =>
        obtain ⟨o1, q1⟩ := I.base.there T o g (nex T)
        rw [q] at q1
        cases q1
    · exact (hS T q).2
/-- a made exception leaves its frame -/
theorem leave_new {args : List Value} {Ex : Value → Shared → Prop} (I : Inv X pins σ H s) (hex : X.ex = []) (hst : X.stack = X.env :: X.outer ∧ X.env.frame = some X.env.locals) (m : Heap.MadeExcOf s.heap h' a cls args) (hE : E (.ref a) (some a) H) :
    wpAny (model X.prog X.w) X.A (leaving X.env (.ref a)) (fun _ s'' => CX1 X.prog X.w cls X.outer X.H₀ X.s₀ E (.ref a) s'') Ex { s with heap := h' } := by
  obtain ⟨t, he, ht, _⟩ := m.there
  have I' : Inv X pins σ H { s with heap := h' } := I.kept (t' := s.toks) m.keeps
  have Ha : H a = none := by
    cases g : H a with
    | none => rfl
    | some u =>
      obtain ⟨ob, q⟩ := obj_some (I.hok a u g)
      rw [m.new] at q
      cases q
  have sa : X.s₀.heap.get? a = none := by
    cases g : X.s₀.heap.get? a with
    | none => rfl
    | some o =>
      obtain ⟨o1, q1⟩ := I.base.there a o g (fun hb => by rw [hex] at hb; cases hb)
      rw [m.new] at q1
      cases q1
  have hS : ∀ b ∈ [a], H b = none ∧ X.s₀.heap.get? b = none := fun b hb => by
    rw [List.mem_singleton.mp hb]
    exact ⟨Ha, sa⟩
  have fu : Heap.FunFrames h' (cutH h' (frs X.stack ++ [a])) X.stack := funs_base I'.env0.funs fun b hb => cutH_in (List.mem_append_left _ hb)
  have fm := I'.ok.frames
  rw [hst.1] at fm
  have fu2 := fu
  rw [hst.1] at fu2
  refine wpAny_leaving_firstW (base := cutH h' (frs X.stack ++ [a])) fm (by rw [hst.1]; exact fu2) hst.2 he (fun b o q => (cutH_sub q).2) (cutH_in (List.mem_append_right _ (List.mem_singleton_self a))) rfl rfl rfl fun h'' L => ?_
  rw [← hst.1] at L
  exact left_cx I' hex hst hS (List.mem_singleton_self a) L hE
end
end DL

namespace DL
open PySem PySem.Spec PySem.Calls PySem.W PyProof.Rows Builtin Builtin.Getset_descriptor Builtin.ObjectAttr
section
variable {prog : Program} {w : World} {A : Around} {E : Value → Shared → Prop} {h : Heap} {g : Array GenState} {d : Drawn} {t : Nat} {os : OsState} {a C : Addr} {K : Frag}
def ExA (a C : Addr) (h : Heap) : Prop := ∃ o, h.get? a = some o ∧ o.cls = .ref C
theorem ExA.type {M : Model} {h : Heap} (I : ExA a C h) : Looks M h (typeOf (.ref a)) (.ref C) := by
  obtain ⟨o, h1, h2⟩ := I
  exact h2 ▸ (Looks.ld h1).andThen .now
theorem xc_get {tp : Value} {R : Result → Shared → Prop} {s : Shared} (X : K.In s.heap) (I : ExA a C s.heap) (hm : mroIn K C (.type "object") = some true)
    (h : R (.ok (.ret (.ref C))) s) : codeAny (model prog w) A (.call (.builtin "getset_descriptor.__get__") ⟨[.builtin "object.__class__", .ref a, tp], []⟩) R s := by
  obtain ⟨hh, g, dr, t, os⟩ := s
  have L0 := I.type (M := model prog w)
  have L1 := looks_mroIn (M := model prog w) X hm
  refine codeAny_call_builtin KF.slot_gs.plain KF.entry_gs (KF.slot_gs.check _ _ _ _ _ _ _ _ KF.type_class (KF.args_gs _ _ _) ?_)
  unfold Builtin.«getset_descriptor.__get__» descrGet
  rw [dga_obj]
  refine wpAny_bind (wpAny_pure ?_)
  unfold descrGetter descrCheckInstance descrNameAndClass isInstance
  simp only [KF.owner_class]
  repeat lk
  refine ⟨Code.quiet_builtin _ (by decide +kernel), codeAny_builtin KF.entry_class ?_⟩
  unfold Builtin.«object.__class__» shownTypeOf
  repeat lk
  exact h
theorem xc_entry {tk : Tok} {Q : Fin → Shared → Prop} (X : K.In h) (I : ExA a C h) (ha : findIn K (.ref C) "__class__" = some (some (.builtin "object.__class__"))) (hm : mroIn K C (.type "object") = some true)
    (hq : Q (.done (.ret (.ref C))) ⟨h, g, d, t, os⟩) : wpAny (model prog w) A (Builtin.«object.__getattribute__» ⟨[.ref a, .str "__class__" tk], []⟩) Q E ⟨h, g, d, t, os⟩ := by
  have hT5 : (⟨h, g, d, t, os⟩ : Shared).TypeIs (.builtin "object.__class__") "getset_descriptor" := F.typeOf_object_class
  have f5 := F.typeOf_object_class
  have f6 := F.slot_gs_get.lookup
  have f7 := F.slot_gs_set.lookup
  have L1 := looks_findIn (M := model prog w) X ha
  obtain ⟨o, hx, hc⟩ := id I
  repeat (any_goals (first | assumption | (with_reducible refine wpAny_loadPart_at hx ?_; rw [hc]) | with_reducible refine L1.at ?_ | wp_step))
  refine xc_get X I hm ?_
  repeat (any_goals (first | assumption | wp_step))
theorem xc_check {M : Model} {nameV : Value} {Q : Unit → Shared → Prop} (X : K.In h) (I : ExA a C h) (hs : subIn K (.ref C) (.type "BaseException") = some true) (hq : Q () ⟨h, g, d, t, os⟩) :
    wpAny M A (checkBuiltinCall "BaseException.__getattribute__" ⟨[.ref a, nameV], []⟩) Q E ⟨h, g, d, t, os⟩ := by
  have hk : builtinKind "BaseException.__getattribute__" = some .slot := by decide +kernel
  have hsplit : splitId "BaseException.__getattribute__" = some ("BaseException", "__getattribute__") := by decide +kernel
  have L1 := looks_subIn (M := M) X hs
  obtain ⟨o, hx, hc⟩ := id I
  have ha := F.args_bexc_ga (.ref a) nameV
  simp only [checkBuiltinCall, hk, hsplit]
  refine wpAny_bind ?_
  unfold isInstance
  repeat (first | (with_reducible refine wpAny_loadPart_at hx ?_; rw [hc]) | with_reducible refine L1.at ?_ | wp_step)
  exact hq
theorem xc_call {tk : Tok} {R : Result → Shared → Prop} (X : K.In h) (I : ExA a C h) (ha : findIn K (.ref C) "__class__" = some (some (.builtin "object.__class__"))) (hm : mroIn K C (.type "object") = some true) (hs : subIn K (.ref C) (.type "BaseException") = some true)
    (hq : R (.ok (.ret (.ref C))) ⟨h, g, d, t, os⟩) : codeAny (model prog w) A (.call (.builtin "BaseException.__getattribute__") ⟨[.ref a, .str "__class__" tk], []⟩) R ⟨h, g, d, t, os⟩ :=
  codeAny_call_builtin F.attr_ValueError.ga.plain F.entry_bexc_ga (xc_check X I hs (xc_entry X I ha hm hq))
theorem xc_by {tk : Tok} {Q : Value → Shared → Prop} (X : K.In h) (I : ExA a C h) (ha : findIn K (.ref C) "__class__" = some (some (.builtin "object.__class__"))) (hm : mroIn K C (.type "object") = some true) (hs : subIn K (.ref C) (.type "BaseException") = some true)
    (hg : findIn K (.ref C) "__getattribute__" = some (some (.builtin "BaseException.__getattribute__"))) (hn : findIn K (.ref C) "__getattr__" = some none)
    (hq : Q (.ref C) ⟨h, g, d, t, os⟩) : wpAny (model prog w) A (getAttrBy (.ref a) (.str "__class__" tk) false) Q E ⟨h, g, d, t, os⟩ := by
  have f3 := F.attr_ValueError.ga.bind (.ref a)
  have hx2 : (Value.builtin "BaseException.__getattribute__" == Value.builtin "object.__getattribute__") = false := by decide +kernel
  have hx1 : (onTheHeap (Value.ref C) && Value.builtin "BaseException.__getattribute__" == Value.builtin "object.__getattribute__") = false := by rw [hx2]; rfl
  have L1 := looks_findIn (M := model prog w) X hg
  have L2 := looks_findIn (M := model prog w) X hn
  obtain ⟨o, hx, hc⟩ := id I
  repeat (any_goals (first | assumption | (with_reducible refine wpAny_loadPart_at hx ?_; rw [hc]) | with_reducible refine L1.at ?_ | with_reducible refine L2.at ?_ | wp_step))
  refine xc_call X I ha hm hs ?_
  repeat (any_goals (first | assumption | wp_step))
theorem xc_attr {Q : Option Value → Shared → Prop} (X : K.In h) (I : ExA a C h) (ha : findIn K (.ref C) "__class__" = some (some (.builtin "object.__class__"))) (hm : mroIn K C (.type "object") = some true) (hs : subIn K (.ref C) (.type "BaseException") = some true)
    (hg : findIn K (.ref C) "__getattribute__" = some (some (.builtin "BaseException.__getattribute__"))) (hn : findIn K (.ref C) "__getattr__" = some none)
    (hq : Q (some (.ref C)) ⟨h, g, d, t + 1, os⟩) : wpAny (model prog w) A (getAttr? (.ref a) "__class__") Q E ⟨h, g, d, t, os⟩ := by
  unfold getAttr? getAttrBy?
  repeat (any_goals (first | assumption | with_reducible apply xc_by X I ha hm hs hg hn | wp_step))
/-- what is asked of a class of the text under an exception -/
structure XCls (K : Frag) (C : Addr) : Prop where
  ha : findIn K (.ref C) "__class__" = some (some (.builtin "object.__class__"))
  hm : mroIn K C (.type "object") = some true
  hs : subIn K (.ref C) (.type "BaseException") = some true
  hg : findIn K (.ref C) "__getattribute__" = some (some (.builtin "BaseException.__getattribute__"))
  hn : findIn K (.ref C) "__getattr__" = some none
  hc : (clsIn K C).isSome = true
theorem kitx_exc (x : XCls K C) : KitX K (.ref a) (.ref C) (ExA a C) where
  ty := fun _ _ _ I => I.type
  it := fun _ _ X _ => by
    obtain ⟨cdD, hcD⟩ := Option.isSome_iff_exists.mp x.hc
    unfold clsIn at hcD
    split at hcD
    · rename_i c' d' cd' sl' ho
      intro A' Q' E' s' k q
      unfold isType loadHead
      exact wpAny_bind (wpAny_loadPart (k _ _ (X _ _ ho)) (wpAny_pure q))
    · cases hcD
  ne := fun h tp dd its n sl X htp => by
    obtain ⟨cdD, hcD⟩ := Option.isSome_iff_exists.mp x.hc
    refine Bool.eq_false_iff.mpr fun q => ?_
    have e : C = tp := Value.ref.inj (beq_iff_eq.mp q)
    subst e
    unfold clsIn at hcD
    split at hcD
    · rename_i c' d' cd' sl' ho
      have z := (X _ _ ho).symm.trans htp
      cases z
    · cases hcD
  ca := fun {prog w A E Q s} X I k => by
    obtain ⟨h, g, d, t, os⟩ := s
    exact xc_attr X I x.ha x.hm x.hs x.hg x.hn k
end
end DL

namespace DL
open PySem PySem.Spec PyProof.Rows L2
def bmVE : List Value := [.type "ValueError", .type "Exception", .type "BaseException", .type "object"]
theorem exc_of_in {K : PySem.W.Frag} {h : Heap} {C : Addr} {bmB : List Value} {newId : String} (X : K.In h) (q : PySem.W.excIn K C bmB newId = true) :
    ∃ bm N nm q bs hdct sn sub ab col dd k0 k1 k2 k3 k5 mN, h.get? C = some (excClassObj nm q C N bs bm hdct sn sub ab col dd k0 k1 k2 k3 k5 newId) ∧ h.Ns N mN ∧ mN "__init__" = none ∧ OwnTail h bmB bm := by
  unfold PySem.W.excIn at q
  split at q
  · rename_i dd cd sl ho
    split at q
    · rename_i C' bm k0 k1 k2 k3 n k5 hm hs
      simp only [Bool.and_eq_true, beq_iff_eq, Bool.not_eq_true'] at q
      obtain ⟨⟨⟨⟨⟨rfl, rfl⟩, hdel⟩, ht⟩, hok⟩, hni⟩ := q
      obtain ⟨nm, bs, mro, ns, qn, hd, sn, sub, ab, col, del⟩ := cd
      dsimp only at hm hdel hok hni
      subst hm hdel
      have hsl : sl = #[k0, k1, k2, k3, some (.builtin n), k5] := by
        obtain ⟨l⟩ := sl
        simp only at hs
        rw [hs]
      subst hsl
      exact ⟨bm, ns, nm, qn, bs, hd, sn, sub, ab, col, dd, k0, k1, k2, k3, k5, _, X _ _ ho, .of_isNs (PySem.W.isNs_of_in X hok), PySem.W.nsMap_none_of_in X hok hni, PySem.W.tail_of_in X ht⟩
    · cases q
  · cases q
/-! ### what takes an exception -/
def Takes (X : Cx) (cls : Value) (sd : List Slot) : Prop := ∀ (pins : List (Addr × Obj)) (σ : St) (F H : Hp) (s : Shared) (a T : Addr), Inv X pins σ H s → StF X.K X.B₀ F H σ sd → Exc X.s₀.heap s.heap H a T cls → (∀ p ∈ X.pn ++ pins, p.1 ≠ a ∧ p.1 ≠ T) → X.xe (.ref a) s
def TakesNew (X : Cx) (cls : Value) (sd : List Slot) : Prop := ∀ (pins : List (Addr × Obj)) (σ : St) (F H : Hp) (s : Shared) (h' : Heap) (a : Addr) (args : List Value), Inv X pins σ H s → StF X.K X.B₀ F H σ sd → Heap.MadeExcOf s.heap h' a cls args → X.xe (.ref a) { s with heap := h' }
section
variable {P : Program} {w : World} {K : PySem.W.Frag} {mg : Str → Option Value} {base : Heap} {N : List Str} {qual : Str} {scope : Scope} {f : Addr} {cdv : Value} {A : Around} {outer : List Env} {s : Shared} {H : Hp} {E : XK} {cls : Value} {sd : List Slot}
theorem takes_defN (hE : ∀ a H', Same H H' → Smp H' → E (.ref a) (some a) H') : TakesNew (cxOf (CX1 P w cls) P w K mg base N qual scope f cdv A outer s H E) cls sd := fun pins σ F H' s' h' a args I S m =>
  leave_new (X := cxOf (CX1 P w cls) P w K mg base N qual scope f cdv A outer s H E) (E := E) I rfl ⟨rfl, rfl⟩ m (hE a H' (fun b o e => S.sub _ _ (S.base _ _ e)) S.smp)
end
/-! ### raise -/
section
variable {X : Cx} {sd : List Slot} {e a b c : Expr} {es : List Expr} {pos : Pos} {d : D} {ds : List D} {E : EndD}
theorem psd_raise {x : Str} {np cpos : Pos} {C : Addr} (hg : Gl X x) (hm : X.mg x = some (.ref C)) (hx : PySem.W.excIn X.K C bmVE "ValueError.__new__" = true) (ht : TakesNew X (.ref C) sd) (he : PAd X sd (e :: es) (ds.map R.val)) (hl : ds.length ≤ 1000)
    (hc : X.calm = true := by rfl) (hdb : (x == ("__debug__" : Str)) = false := by decide) (hst : starEach (e :: es) X.env = (false, eval e X.env) :: starEach es X.env := by rfl) (hpl : (backTo cpos (starEach es X.env)).any (·.1) = false := by rfl) :
    PSd1 X sd (.Raise (some (.Call (.Name x np) (e :: es) [] cpos)) none pos) E := .mk fun σ F H S pins s I => by
  obtain ⟨bm, Nn, nm, q, bs, hdct, sn, sub, ab, col, dd, k0, k1, k2, k3, k5, mN, hC, hN, hni, T⟩ := exc_of_in (h := X.base) I.ok.mod.kin hx
  refine wpAny_Raise_call_subT (C := C) (nm := nm) (q := q) (N := Nn) (bs := bs) (bm := bm) (hdct := hdct) (sn := sn) (sub := sub) (ab := ab) (col := col) (dd := dd) (k0 := k0) (k1 := k1) (k2 := k2) (k3 := k3) (k5 := k5) (bmB := bmVE)
    PySem.F.excBase_ValueError (mN := mN) (T.hasType PySem.F.excBase_ValueError.hasBase) (I.ok.hd hc) (by rw [hst]; show (false || (backTo cpos (starEach es X.env)).any (·.1)) = false; rw [hpl]; rfl) hni (ld_glob I hg hm ⟨rfl, ?_⟩ hdb)
  have hA := he σ F H S cpos pins s I
  rw [hst] at hA ⊢
  refine Calls.evalArgs_plain (wpAny_mono hA (fun us s2 ⟨vs, H2, I2, r2, F2, S2, s2', q2⟩ => ?_) fun _ _ y => y)
  have lv : us.length ≤ sizeLine := by
    rw [← r2.length, q2.vals.len]
    exact Nat.le_of_lt (small1000 hl)
  exact ⟨rfl, lv, I2.bk _ _ hC, hN.keeps I2.bk, T.keeps I2.bk, fun h' e m => ht pins σ F2 H2 s2 h' e us I2 S2 m⟩
/-! ### a call that raises -/
structure PEx (X : Cx) (sd : List Slot) (e : Expr) : Prop where
  run : ∀ (σ : St) (F H : Hp), StF X.K X.B₀ F H σ sd → wE X e σ H (fun _ _ => False)
theorem psd_setE (i : Nat) {x : Str} {p : Pos} (hN : X.N.Nodup) (hi : X.N[i]? = some x) (hx : Loc X.env.scope x) (h : PEx X sd e) (hs : swapsWith e (some (.Name x p)) pos.line X.env = pure false := by rfl)
    (hf : X.fn x = true ∨ X.env.scope.names.lookup x = some .local := by first | exact .inl rfl | exact .inr rfl | assumption) : PSd1 X sd (.Assign [.Name x p] e pos) E := .mk fun σ F H S =>
  (ps_set hN hi hx pe_w hs hf).to ((h.run σ F H S).imp fun _ _ z => z.elim)
theorem psd_retE (h : PEx X sd e) : PSd1 X sd (.Return (some e) pos) E := .mk fun σ F H S =>
  (ps_ret pe_w).to ((h.run σ F H S).imp fun _ _ z => z.elim)
def spX (K : PySem.W.Frag) (n : Nat) (C : List D → Prop) : Sp := fun vs H _ E => vs.length = n ∧ Smp H ∧ ∃ ds, RepL K H ds vs ∧ C ds ∧ ∀ a H', Same H H' → Smp H' → E (.ref a) (some a) H'
structure CalleeX (P : Program) (w : World) (K : PySem.W.Frag) (mg : Str → Option Value) (base : Heap) (x : Str) (k n : Nat) (C : List D → Prop) (cls : Value) (dvs : List V) (dws : List Value) : Prop where
  ex : ∃ (f : Addr) (fd : FuncData) (ps : List Str), mg x = some (.ref f) ∧ PySem.W.keepIn K (.ref f) = true ∧ Binds K fd ps dws ∧ Vals dvs dws ∧ FnOk P w K mg base (CX1 P w cls) k f fd ps (spX K n C)
theorem run_fnX {CX : CXT} {k : Nat} {f : Addr} {fd : FuncData} {ps : List Str} {sp : Sp} {dvs : List V} {dws : List Value} {Ex : XK} {pins : List (Addr × Obj)} {σ : St} {H : Hp} {s : Shared} {Q : VK} {us : List Value} {vs : List V} (F : FnOk X.prog X.w X.K X.mg X.base CX k f fd ps sp) (hr : Room k X.A) (hb : Binds X.K fd ps dws) (hd : Vals dvs dws)
    (I : Inv X pins σ H s) (r : Vals vs us) (h : sp (vs ++ dvs) H Q Ex) (hx : ∀ e s', CX X.stack H s Ex e s' → X.xe e s') : wpAny (model X.prog X.w) X.A (call (.ref f) us) (EP X pins σ Q) X.xe s := by
  have r2 : Vals (vs ++ dvs) (us ++ dws) := r.append hd
  have hl : (us ++ dws).length = ps.length := by rw [← r2.length]; exact F.len _ _ _ _ h
  refine wpAny_call (codeAny_mono (F.run X.A X.stack s H ⟨us, []⟩ (us ++ dws) (vs ++ dvs) Q Ex hr I.env0 (hb s us I.kIn hl) r2 h) fun r s' hq => ?_)
  cases r with
  | error e => exact hx e s' hq
  | ok fl =>
    cases fl with
    | ret u => exact I.after hq
    | next => exact False.elim hq
    | brk => exact False.elim hq
    | cont => exact False.elim hq
end
/-! ### a def that raises -/
section
variable {P : Program} {w : World} {K : PySem.W.Frag} {mg : Str → Option Value} {base : Heap} {x qual : Str} {st : Stmt} {f : Addr} {fd : FuncData} {N ps : List Str} {k : Nat} {C : List D → Prop} {cls : Value}
theorem fn_x {oc : Value} {od : Option Addr} {osl : Array (Option Value)} {dV kV doc pm cdv ct : Value} {an : Option Addr} (lk : K.lookup f = some ⟨oc, od, .func (PySem.W.fnOf x qual (defArgs st) (defBody st) (defScope st) dV kV doc pm an cdv ct), osl⟩) (hcd : PySem.W.codeIn K cdv qual = true) (S : FnScope N ps (defScope st))
    (body : ∀ (A : Around) (outer : List Env) (s : Shared) (H : Hp) (E : XK), Room k (A.deeper (envOfC qual (defScope st) s.heap.objs.size f cdv)) → (∀ a H', Same H H' → Smp H' → E (.ref a) (some a) H') → ∀ ds, ds.length = ps.length → C ds →
      PSd (cxOf (CX1 P w cls) P w K mg base N qual (defScope st) f cdv A outer s H E) (init N.length ds) (defBody st) { nx := fun _ => False, rt := fun _ => False }) :
    FnOk P w K mg base (CX1 P w cls) (k + 1) f (PySem.W.fnOf x qual (defArgs st) (defBody st) (defScope st) dV kV doc pm an cdv ct) ps (spX K ps.length C) := by
  refine fn_of lk hcd S (fun vs H Q E h => h.1) fun A outer s H vs Q E hr h => ?_
  obtain ⟨hl, sm, ds, rl, c, q⟩ := h
  have hds : ds.length = ps.length := by rw [← rl.len]; exact hl
  refine ⟨_, pss_w, ?_⟩
  have hlen : N.length - vs.length = N.length - ds.length := by rw [rl.len]
  have S0 : StF K H H H (L2.start N vs) (init N.length ds) := by
    refine ⟨Same.refl _, Same.refl _, sm, ?_, ?_⟩
    · unfold L2.start init
      rw [hlen]
      exact slots_init (m := 0) rl
    · unfold init
      rw [owned_init]
      exact List.nodup_nil
  exact (body A outer s H E hr q ds hds c (L2.start N vs) H H S0).imp (fun _ _ ⟨_, _, _, _, z⟩ => z.elim) (fun _ _ ⟨_, _, z⟩ => z.elim) (fun _ _ ⟨_, _, _, _, z⟩ => z.elim) fun _ _ ⟨_, _, _, _, z⟩ => z.elim
theorem def_okX (F : Fun K x qual st f fd) (S : FnScope N ps (defScope st)) (hm : mg x = some (.ref f)) (hb : ∀ (kV doc pm : Value) (an : Option Addr) (cdv ct : Value) (us : List Value), us.length = ps.length → bindArgs (PySem.W.fnOf x qual (defArgs st) (defBody st) (defScope st) .none kV doc pm an cdv ct) ⟨us, []⟩ = pure (ps.zip us))
    (body : ∀ (cdv : Value) (A : Around) (outer : List Env) (s : Shared) (H : Hp) (E : XK), Room k (A.deeper (envOfC qual (defScope st) s.heap.objs.size f cdv)) → (∀ a H', Same H H' → Smp H' → E (.ref a) (some a) H') → ∀ ds, ds.length = ps.length → C ds →
      PSd (cxOf (CX1 P w cls) P w K mg base N qual (defScope st) f cdv A outer s H E) (init N.length ds) (defBody st) { nx := fun _ => False, rt := fun _ => False }) : CalleeX P w K mg base x (k + 1) ps.length C cls [] [] := by
  have hbd := F.binds hb
  obtain ⟨oc, od, kV, doc, pm, an, cdv, ct, osl, rfl, lk, hcd⟩ := F.ex
  exact ⟨f, _, ps, hm, F.kp, hbd, .nil, fn_x lk hcd S (body cdv)⟩
end
end DL

namespace DL
open PySem PySem.Spec PyProof.Rows L2
section
variable {X : Cx} {pins : List (Addr × Obj)} {σ : St} {F H : Hp} {s : Shared} {h' : Heap} {S : List Addr} {sd : List Slot}
theorem cell_slots {h h' : Heap} {c : Addr} {v : Option Value} (k : h.UpToSlots h') (z : h.IsCell c v) : h'.IsCell c v := by
  obtain ⟨o, ho, hd⟩ := z
  obtain ⟨sl, q⟩ := k c o ho fun vs e => by rw [hd] at e; cases e
  exact ⟨_, q, hd⟩
/-- records of ours have changed, and slots of frames -/
theorem inv_rec (I : Inv X pins σ H s) (hS : ∀ b ∈ S, H b = none ∧ X.s₀.heap.get? b = none ∧ ∀ p ∈ X.pn ++ pins, p.1 ≠ b) (k1 : Heap.StaysIn (cutH s.heap (frs X.stack ++ S)) h') (k4 : s.heap.UpToSlots h') : Inv X pins σ H { s with heap := h' } := by
  have stay : ∀ b o, b ∉ frs X.stack ++ S → s.heap.get? b = some o → h'.get? b = some o := fun b o hb q => k1 b o (by rw [cutH_out hb]; exact q)
  have out : ∀ b o, X.s₀.heap.get? b = some o → b ∉ X.fs → b ∉ frs X.stack ++ S := fun b o q hb hm => by
    rcases List.mem_append.mp hm with hm | hm
    · rcases List.mem_cons.mp (I.stkSub b hm) with e | hm
      · have lt := Heap.lt_size q
        rw [e] at lt
        exact absurd lt (Nat.not_lt.mpr I.ok.above)
      · exact hb hm
    · rw [(hS b hm).2.1] at q
      cases q
  have slot : ∀ b o, X.s₀.heap.get? b = some o → X.H₀ b = none → b ∈ X.fs → b ∉ X.ex → ∃ sl, h'.get? b = some { o with slots := sl } := fun b o q n hb hx => by
    obtain ⟨sl, q1⟩ := I.base.slot b o q n hb hx
    obtain ⟨_, o', q2, nf⟩ := I.ok.funs.mem hb
    rw [q] at q2
    cases q2
    obtain ⟨sl2, q3⟩ := k4 b _ q1 nf
    exact ⟨sl2, q3⟩
  have tr : ∀ b u, H b = some u → b ∉ frs X.stack ++ S := fun b u e hm => by
    rcases List.mem_append.mp hm with hm | hm
    · rw [I.env0.frf b hm] at e
      cases e
    · rw [(hS b hm).1] at e
      cases e
  obtain ⟨m, hn, hl⟩ := id I.loc
  refine ⟨I.ok, I.os, I.bare, ⟨fun b o q n hb hx => stay b o (out b o q hb) (I.base.keep b o q n hb hx), slot, I.base.free, fun b o q hx => ?_, I.base.tups, I.base.frzs, I.base.tbls⟩, ⟨m, k4.ns hn, fun i x v e1 e2 e3 => ?_⟩, fun x c e => ?_, I.free, I.freeC, fun p hp => ?_, fun b u e => ?_, I.len⟩
  · by_cases hb : b ∈ X.fs
    · obtain ⟨sl, q2⟩ := slot b o q (I.ok.frf b hb) hb hx
      exact ⟨_, q2⟩
    · obtain ⟨o1, q1⟩ := I.base.there b o q hx
      exact ⟨o1, stay b o1 (out b o q hb) q1⟩
  · obtain ⟨u, r, q⟩ := hl i x v e1 e2 e3
    refine ⟨u, r, ?_⟩
    rcases q with q | ⟨k, c, e, z⟩
    · exact .inl q
    · exact .inr ⟨k, c, e, cell_slots k4 z⟩
  · obtain ⟨v, z⟩ := I.cell x c e
    exact ⟨v, cell_slots k4 z⟩
  · obtain ⟨e, n, ne, nf, d⟩ := I.pin p hp
    refine ⟨stay p.1 p.2 (fun hm => ?_) e, n, ne, nf, d⟩
    rcases List.mem_append.mp hm with hm | hm
    · rcases List.mem_cons.mp (I.stkSub _ hm) with z | z
      · exact ne z
      · exact nf z
    · exact (hS _ hm).2.2 p hp rfl
  · refine (I.hok b u e).stay (fun c v hc q => stay c v ?_ q) (fun _ q => q) fun _ _ q => q
    rcases hc with z | z
    · rw [z]
      exact tr b u e
    · exact tr c _ z
/-- the same state seen from another start of the frozen heap -/
theorem inv_h0 {ξ : Value → Shared → Prop} {pn : List (Addr × Obj)} (I : Inv X pins σ H s) (S : StF X.K X.H₀ F H σ sd) (hpn : pn = X.pn ++ pins) : Inv { X with H₀ := F, B₀ := F, hB := fun _ _ e _ => e, xe := ξ, pn := pn } [] σ H s := by
  have n0 : ∀ b, F b = none → X.H₀ b = none := fun b n => by
    cases q : X.H₀ b with
    | none => rfl
    | some u => rw [S.base _ _ q] at n; cases n
  have fn : ∀ b, H b = none → F b = none := fun b n => S.sub.free n
  subst hpn
  refine ⟨⟨I.ok.mod, I.ok.kind, I.ok.glob, I.ok.blt, I.ok.above, I.ok.inj, I.ok.has, I.ok.cab, I.ok.hd, I.ok.frames, I.ok.stk, I.ok.exf, fun b o e => ⟨(I.ok.bs b o e).1, fn b (I.bs b o e).2⟩, I.ok.bsz, I.ok.noex, I.ok.exfs, I.ok.funs, fun b hb => ?_⟩, I.os, I.bare,
    ⟨fun b o q n hb hx => I.base.keep b o q (n0 b n) hb hx, fun b o q n hb hx => I.base.slot b o q (n0 b n) hb hx, fun b o q n hx => I.base.free b o q (n0 b n) hx, I.base.there, fun b xs e => S.sub _ _ e, fun b o u e => S.sub _ _ e, fun b ps e => ⟨#[], by rw [S.sub _ _ e]; simp⟩⟩, I.loc, I.cell, I.free, I.freeC, fun p hp => ?_, I.hok, I.len⟩
  · obtain ⟨_, o, q, _⟩ := I.ok.funs.mem hb
    exact fn b (I.base.free b o q (I.ok.frf b hb) (fun hx => I.ok.exfs b hx hb))
  · rw [List.append_nil] at hp
    exact I.pin p hp
theorem inv_h1 {ξ : Value → Shared → Prop} {pn : List (Addr × Obj)} {pins' : List (Addr × Obj)} {σ' : St} {H' : Hp} {s' : Shared} (I0 : Inv X pins σ H s) (S : StF X.K X.H₀ F H σ sd) (hpn : pn = X.pn ++ pins) (I : Inv { X with H₀ := F, B₀ := F, hB := fun _ _ e _ => e, xe := ξ, pn := pn } pins' σ' H' s') : Inv X pins σ' H' s' := by
  subst hpn
  have nf : ∀ b o, X.s₀.heap.get? b = some o → X.H₀ b = none → b ∉ X.ex → F b = none := fun b o q n hx => S.sub.free (I0.base.free b o q n hx)
  refine ⟨I0.ok, I.os, I.bare, ⟨fun b o q n hb hx => I.base.keep b o q (nf b o q n hx) hb hx, fun b o q n hb hx => I.base.slot b o q (nf b o q n hx) hb hx, fun b o q n hx => I.base.free b o q (nf b o q n hx) hx, I.base.there, fun b xs e => I.base.tups b xs (S.base _ _ e), fun b o u e => I.base.frzs b o u (S.base _ _ e), fun b ps e => I.base.tbls b ps (S.base _ _ e)⟩, I.loc, I.cell, I.free, I.freeC, fun p hp => I.pin p (List.mem_append_left _ hp), I.hok, I.len⟩
/-- a name is gone -/
theorem inv_gone {m : Str → Option Value} {j : Nat} {n : Str} {v : Option Value} {t' : Nat} (I : Inv X pins σ H s) (hN : X.N.Nodup) (hj : X.N[j]? = some n) (hk : X.env.scope.names.lookup n = some .local) (hn : s.heap.Ns X.env.locals m)
    (hl : ∀ (i : Nat) (x : Str) (v : V), X.N[i]? = some x → σ[i]? = some (some v) → Vis X.env.scope x → ∃ u, RelV v u ∧ Look X.env s.heap m x u) (hn' : h'.Ns X.env.locals (fun x => if x = n then v else m x)) (hs : Heap.SameBut X.env.locals s.heap h') : Inv X pins (σ.set j none) H { s with heap := h', toks := t' } := by
  have cne := I.cne
  have hiσ : j < σ.length := by rw [I.len]; exact (List.getElem?_eq_some_iff.mp hj).1
  refine ⟨I.ok, I.os, I.bare, ⟨fun b o e n hb hx => ?_, fun b o e n hb hx => ?_, I.base.free, fun b o e hx => ?_, I.base.tups, I.base.frzs, I.base.tbls⟩, ⟨_, hn', fun i y v' e1 e2 e3 => ?_⟩, fun y c e => ?_, I.free, I.freeC, fun p hp => ?_, fun b ob e => ?_, by rw [List.length_set]; exact I.len⟩
  · exact (hs.2 b (Nat.ne_of_lt (Nat.lt_of_lt_of_le (Heap.lt_size e) I.ok.above))).trans (I.base.keep b o e n hb hx)
  · obtain ⟨sl, e1⟩ := I.base.slot b o e n hb hx
    exact ⟨sl, (hs.2 b (Nat.ne_of_lt (Nat.lt_of_lt_of_le (Heap.lt_size e) I.ok.above))).trans e1⟩
  · obtain ⟨o', e1⟩ := I.base.there b o e hx
    exact ⟨o', (hs.2 b (Nat.ne_of_lt (Nat.lt_of_lt_of_le (Heap.lt_size e) I.ok.above))).trans e1⟩
  · by_cases hi : i = j
    · subst hi
      rw [List.getElem?_set_self hiσ] at e2
      cases e2
    · rw [List.getElem?_set_ne (Ne.symm hi)] at e2
      obtain ⟨u', r', q⟩ := hl i y v' e1 e2 e3
      refine ⟨u', r', ?_⟩
      rcases q with ⟨k, e⟩ | ⟨k, c, e, z⟩
      · refine .inl ⟨k, ?_⟩
        have : y ≠ n := fun e => hi (nodup_ix hN e1 (e ▸ hj))
        simp [this, e]
      · exact .inr ⟨k, c, e, z.sameBut hs (cne y c e)⟩
  · obtain ⟨w', z⟩ := I.cell y c e
    exact ⟨w', z.sameBut hs (cne y c e)⟩
  · obtain ⟨e, n, ne, nf, d⟩ := I.pin p hp
    exact ⟨(hs.2 p.1 ne).trans e, n, ne, nf, d⟩
  · refine (I.hok b ob e).stay (fun c w' hc q => (hs.2 c ?_).trans q) (fun _ q => q) fun _ _ q => q
    rintro rfl
    rcases hc with z | hc
    · have := I.free
      rw [z, e] at this
      cases this
    · rw [I.free] at hc
      cases hc
end
end DL

namespace DL
open PySem PySem.Spec PyProof.Rows L2
section
variable {X : Cx} {pins : List (Addr × Obj)} {σ : St} {F H : Hp} {s : Shared} {sd : List Slot} {a T : Addr} {cls : Value} {M : Model} {A : Around} {Ex : Value → Shared → Prop}
/-- an exception in hand: its state, whatever its flight -/
structure Held (X : Cx) (pins : List (Addr × Obj)) (σ : St) (H : Hp) (s : Shared) (a T : Addr) (cls fl : Value) : Prop where
  inv : Inv X pins σ H s
  fa : H a = none ∧ X.s₀.heap.get? a = none ∧ ∀ p ∈ X.pn ++ pins, p.1 ≠ a
  fT : H T = none ∧ X.s₀.heap.get? T = none ∧ ∀ p ∈ X.pn ++ pins, p.1 ≠ T
  obj : ∃ oe vs oT ts a0, s.heap.get? a = some oe ∧ (oe.cls = cls ∧ vs[0]? = some a0) ∧ oe.data = .fields vs ∧ vs[1]? = some (.ref T) ∧ T ≠ a ∧ s.heap.get? T = some oT ∧ oT.data = .fields ts ∧ ts[3]? = some fl
theorem held_out (h : Held X pins σ H s a T cls fl) : ∀ b ∈ [a, T], H b = none ∧ X.s₀.heap.get? b = none ∧ ∀ p ∈ X.pn ++ pins, p.1 ≠ b := fun b hb => by
  simp only [List.mem_cons, List.not_mem_nil, or_false] at hb
  rcases hb with rfl | rfl
  · exact h.fa
  · exact h.fT
/-- the frame is noted -/
theorem held_note {Q : Unit → Shared → Prop} (hst : X.stack = X.env :: X.outer ∧ X.env.frame = some X.env.locals) (hfr : A.frames = some X.stack) (hex : X.ex = []) (h : Held X pins σ H s a T cls .none) (k : ∀ h' T', Held X pins σ H { s with heap := h' } a T' cls (rawInt X.env.locals) → Q () { s with heap := h' }) :
    wpAny M A (noteFrame (.ref a) X.env) Q Ex s := by
  have hS := held_out h
  obtain ⟨oe, vs, oT, ts, a0, he, hc, hd, h1, hTe, hT, hdT, h3⟩ := h.obj
  have I := h.inv
  have fu : Heap.FunFrames s.heap (cutH s.heap (frs X.stack ++ [a, T])) X.stack := funs_base I.env0.funs fun b hb => cutH_in (List.mem_append_left _ hb)
  have fm := hfr
  rw [hst.1] at fm
  have fu2 := fu
  rw [hst.1] at fu2
  have ca : (cutH s.heap (frs X.stack ++ [a, T])).get? a = none := cutH_in (List.mem_append_right _ (by simp))
  have cT : (cutH s.heap (frs X.stack ++ [a, T])).get? T = none := cutH_in (List.mem_append_right _ (by simp))
  refine wpAny_noteFrame_onW (base := cutH s.heap (frs X.stack ++ [a, T])) (cls := cls) (a0 := a0) fm (by rw [hst.1]; exact fu2) hst.2 ⟨oe, vs, T, oT, ts, he, hc, hd, h1, cT, hTe, hT, hdT, h3⟩ (fun b o q => (cutH_sub q).2) ca fun h' L => ?_
  rw [← hst.1] at L
  obtain ⟨k1, k2, ⟨oe', vs', T', oT', ts', he', hc', hd', h1', hnT', hTe', hT', hdT', h3'⟩, k4⟩ := L
  have I2 := inv_rec I hS k1 k4
  have Tn : s.heap.get? T' = none ∨ T' ∈ [a, T] := by
    by_cases hm : T' ∈ frs X.stack ++ [a, T]
    · rcases List.mem_append.mp hm with hm | hm
      · obtain ⟨_, o, q, nf⟩ := k2.mem hm
        rw [hT'] at q
        cases q
        exact (nf ts' hdT').elim
      · exact .inr hm
    · rw [cutH_out hm] at hnT'
      exact .inl hnT'
  refine k h' T' ⟨I2, h.fa, ?_, oe', vs', oT', ts', a0, he', hc', hd', h1', hTe', hT', hdT', h3'⟩
  rcases Tn with q | q
  · refine ⟨?_, ?_, fun p hp z => ?_⟩
    · cases g : H T' with
      | none => rfl
      | some u =>
        obtain ⟨ob, q2⟩ := obj_some (I.hok T' u g)
        rw [q] at q2
        cases q2
    · cases g : X.s₀.heap.get? T' with
      | none => rfl
      | some o =>
        obtain ⟨o1, q1⟩ := I.base.there T' o g (fun hb => by rw [hex] at hb; cases hb)
        rw [q] at q1
        cases q1
    · have := (I.pin p hp).1
      rw [z, q] at this
      cases this
  · exact hS T' q
/-- it is in no flight -/
theorem held_flight {fl : Value} {fr : Option Addr} {Q : Unit → Shared → Prop} (hst : X.stack = X.env :: X.outer ∧ X.env.frame = some X.env.locals) (h : Held X pins σ H s a T cls fl) (k : ∀ h', Held X pins σ H { s with heap := h' } a T cls (fr.elim Value.none fun f => rawInt f) → Q () { s with heap := h' }) :
    wpAny M A (setFlight (.ref a) fr) Q Ex s := by
  have hS := held_out h
  obtain ⟨oe, vs, oT, ts, a0, he, hc, hd, h1, hTe, hT, hdT, h3⟩ := h.obj
  have I := h.inv
  have hsz3 : 3 < ts.size := (Array.getElem?_eq_some_iff.mp h3).1
  have other : ∀ b, b ≠ T → (s.heap.update T (Obj.mapFields (·.setIfInBounds 3 (fr.elim Value.none fun f => rawInt f)))).get? b = s.heap.get? b :=
    fun b hb => Heap.get?_update_other _ _ (Ne.symm hb)
  have noRecord : ∀ b o, s.heap.get? b = some o → (∀ vs, o.data ≠ .fields vs) → b ≠ T := fun b o hb hnf q => by
    rw [q, hT] at hb; injection hb with hb; subst hb; exact hnf ts hdT
  unfold setFlight
  refine wpAny_bind (wpAny_field he hd h1 ?_)
  rw [if_pos (show (Value.ref T != Value.none) = true from by simp)]
  refine wpAny_setField hT hdT hsz3 (k _ ⟨inv_rec I hS (fun b o q => ?_) (fun b o q nf => ⟨o.slots, (other b (noRecord b o q nf)).trans q⟩), h.fa, h.fT, oe, vs, _, _, a0, (other a (Ne.symm hTe)).trans he, hc, hd, h1, hTe, Heap.get?_update_self _ hT (Obj.isFreed_of_fields (Obj.data_mapFields hdT _)), Obj.data_mapFields hdT _, by simp [hsz3]⟩)
  obtain ⟨q1, q2⟩ := cutH_sub q
  exact (other b fun z => q1 (List.mem_append_right _ (by simp [z]))).trans q2
end
section
variable {X : Cx} {sd : List Slot} {pos : Pos} {E : EndD} {cls : Value}
/-- try: a body that raises; except C as n: a suite that goes through -/
theorem psd_try {body suite : List Stmt} {b₀ : Stmt} {xE n : Str} {np hpos : Pos} {CE : Addr} (j : Nat) (hN : X.N.Nodup) (hj : X.N[j]? = some n) (hloc : X.env.scope.names.lookup n = some .local) (hg : Gl X xE) (hm : X.mg xE = some (.ref CE)) (hmt : PySem.W.exmOne X.K cls (.ref CE) = some true)
    (hb : ∀ (ξ : Value → Shared → Prop) (pn : List (Addr × Obj)) (F : Hp), Takes { X with H₀ := F, B₀ := F, hB := fun _ _ e _ => e, xe := ξ, pn := pn } cls sd → PSd { X with H₀ := F, B₀ := F, hB := fun _ _ e _ => e, xe := ξ, pn := pn } sd body { nx := fun _ => False, rt := fun _ => False })
    (hh : ∀ (a : Addr) (oe : Obj) (pn : List (Addr × Obj)), (a, oe) ∈ pn → oe.cls = cls → PSd { X with A := X.A.mark (some (.ref a)), calm := false, pn := pn, xe := fun _ _ => False } (sd.set j (isA a)) (b₀ :: suite) { nx := fun sd' => E.nx (sd'.set j .un), rt := fun _ => False })
    (hB₀ : X.B₀ = X.H₀ := by rfl) (hex : X.ex = [] := by rfl) (hst : X.stack = X.env :: X.outer ∧ X.env.frame = some X.env.locals := by exact ⟨rfl, rfl⟩) (hdb : (xE == ("__debug__" : Str)) = false := by decide) :
    PSd1 X sd (.Try body [.ExceptHandler (some (.Name xE np)) (some n) (b₀ :: suite) hpos] [] [] pos) E := .mk fun σ F H S pins s I => by
  rw [hB₀] at S
  obtain ⟨ξ, hξ⟩ : ∃ ξ : Value → Shared → Prop, ξ = fun e s' => ∃ a T σ' F' H', e = .ref a ∧ Inv X pins σ' H' s' ∧ StF X.K F F' H' σ' sd ∧ Exc X.s₀.heap s'.heap H' a T cls ∧ ∀ p ∈ X.pn ++ pins, p.1 ≠ a ∧ p.1 ≠ T := ⟨_, rfl⟩
  have I' : Inv { X with H₀ := F, B₀ := F, hB := fun _ _ e _ => e, xe := ξ, pn := X.pn ++ pins } [] σ H s := inv_h0 I S rfl
  have S' : StF X.K F F H σ sd := ⟨Same.refl _, S.sub, S.smp, S.slots, S.nd⟩
  have tk : Takes { X with H₀ := F, B₀ := F, hB := fun _ _ e _ => e, xe := ξ, pn := X.pn ++ pins } cls sd := fun pins' σ' F' H' s' a T I2 S2 x2 hp => by
    show ξ _ _
    rw [hξ]
    exact ⟨a, T, σ', F', H', rfl, inv_h1 I S rfl I2, S2, x2, fun p hp' => hp p (List.mem_append_left _ hp')⟩
  refine wpAny_Try_except (wpAny_mono (hb ξ (X.pn ++ pins) F tk σ F H S' [] s I') (fun f s1 q => ?_) fun e s1 hx => ?_)
  · cases f with
    | next => obtain ⟨_, _, _, _, _, _, _, z⟩ := q; exact z.elim
    | brk => obtain ⟨_, _, _, _, _, _, _, z⟩ := q; exact z.elim
    | cont => obtain ⟨_, _, _, _, _, _, _, z⟩ := q; exact z.elim
    | ret u => obtain ⟨_, _, _, _, _, _, _, z⟩ := q; exact z.elim
  · have hx : ξ e s1 := hx
    rw [hξ] at hx
    obtain ⟨a, T, σ1, F1, H1, rfl, I1, S1, x1, hp⟩ := hx
    have hd : Held X pins σ1 H1 s1 a T cls .none := ⟨I1, ⟨x1.free, x1.new, fun p h => (hp p h).1⟩, ⟨x1.freeT, x1.newT, fun p h => (hp p h).2⟩, x1.obj⟩
    refine held_note hst I.ok.frames hex hd fun h2 T2 hd2 => ?_
    refine held_flight hst hd2 fun h3 hd3 => ?_
    have LT : PySem.W.Looks (model X.prog X.w) h3 (typeOf (.ref a)) cls := by
      obtain ⟨oe, vs, oT, ts, a0, he, hc, _⟩ := hd3.obj
      exact hc.1 ▸ (PySem.W.Looks.ld he).andThen .now
    refine wpAny_handleBy_cons (codeAny_handlers_test (Calls.Name_function_global hd3.inv.ok.kind hg (Calls.loadGlobal_global (by rw [hd3.inv.ok.glob]; exact hd3.inv.mod.glob.keeps hd3.inv.bk) hm ((PySem.W.exm_one hd3.inv.kIn LT hmt).at ?_)) hdb)) (by intro q; cases q)
    refine codeAny_handlers_suite_as (held_flight hst hd3 fun h4 hd4 => ?_)
    obtain ⟨oe, vs, oT, ts, a0, he, hc, hdt, _⟩ := hd4.obj
    have fsub : ∀ b ∈ X.fs, b ∈ frs X.stack := fun b hb => by
      unfold frs
      rw [hst.1, List.filterMap_cons, hst.2]
      exact List.mem_cons_of_mem _ hb
    have I5 := hd4.inv.pins_of (pins' := pins ++ [(a, oe)]) fun p hp => by
      rcases List.mem_append.mp hp with hp | hp
      · exact hd4.inv.pin p (List.mem_append_right _ hp)
      · rw [List.mem_singleton.mp hp]
        refine ⟨he, hd4.fa.1, fun z => ?_, fun z => ?_, fun v z => by rw [hdt] at z; cases z⟩
        · obtain ⟨m, ⟨o, es, ep, ho, r, _⟩, _⟩ := hd4.inv.loc
          rw [← z] at ho
          have : oe = o := Option.some.inj (he.symm.trans ho)
          rw [← this, hdt] at r
          cases r
        · obtain ⟨_, o, q, nf⟩ := hd4.inv.stack.mem (fsub a z)
          have : oe = o := Option.some.inj (he.symm.trans q)
          rw [← this] at nf
          exact nf vs hdt
    refine store_ok (v := .ref a) I5 hN hj (.inl hloc) rfl (fun s6 I6 => ?_) (.inr hloc)
    have I7 : Inv { X with A := X.A.mark (some (.ref a)), calm := false, pn := X.pn ++ (pins ++ [(a, oe)]), xe := fun _ _ => False } [] (σ1.set j (some (.ref a))) H1 s6 :=
      ⟨⟨I6.ok.mod, I6.ok.kind, I6.ok.glob, I6.ok.blt, I6.ok.above, I6.ok.inj, I6.ok.has, I6.ok.cab, fun z => (by cases z), I6.ok.frames, I6.ok.stk, I6.ok.exf, I6.ok.bs, I6.ok.bsz, I6.ok.noex, I6.ok.exfs, I6.ok.funs, I6.ok.frf⟩, I6.os, I6.bare, I6.base, I6.loc, I6.cell, I6.free, I6.freeC, fun p hp => by rw [List.append_nil] at hp; exact I6.pin p hp, I6.hok, I6.len⟩
    have S1' : StF X.K X.B₀ F1 H1 σ1 sd := hB₀ ▸ ⟨fun b o e => S1.base _ _ (S.base _ _ e), S1.sub, S1.smp, S1.slots, S1.nd⟩
    have S7 : StF X.K X.B₀ F1 H1 (σ1.set j (some (.ref a))) (sd.set j (isA a)) := S1'.setX j ⟨.ref a, rfl, fun b hb => (by cases hb), fun _ _ _ _ => rfl⟩ List.nodup_nil fun b hb => by cases hb
    refine wpAny_mono (hh a oe _ (by simp) hc.1 (σ1.set j (some (.ref a))) F1 H1 S7 [] s6 I7) (fun f s8 q => ?_) fun _ _ z => False.elim z
    cases f with
    | next =>
      obtain ⟨σ8, H8, I8, sd8, F8, S8, s8', qn⟩ := q
      have I9 : Inv X pins σ8 H8 s8 := ⟨I.ok, I8.os, I8.bare, I8.base, I8.loc, I8.cell, I8.free, I8.freeC, fun p hp => I8.pin p (by
        rw [List.append_nil]
        rcases List.mem_append.mp hp with hp | hp
        · exact List.mem_append_left _ hp
        · exact List.mem_append_right _ (List.mem_append_left _ hp)), I8.hok, I8.len⟩
      obtain ⟨m, hn, hl⟩ := id I9.loc
      refine wpAny_nameGoes_keeps hloc hn (by rw [I9.ok.kind]; rfl) fun h9 v hn9 hs9 => ?_
      exact ⟨σ8.set j none, H8, inv_gone I9 hN hj hloc hn hl hn9 hs9, sd8.set j .un, F8, ⟨S8.base, S8.sub, S8.smp, S8.slots.set (z := .un) (o := none) trivial j, (owned_set (z := .un) j S8.nd (fun l hl => by cases hl) List.nodup_nil).1⟩, fun b o e => s8' _ _ (S1.base _ _ e), qn⟩
    | brk => obtain ⟨_, _, _, _, _, _, _, z⟩ := q; exact z.elim
    | cont => obtain ⟨_, _, _, _, _, _, _, z⟩ := q; exact z.elim
    | ret u => obtain ⟨_, _, _, _, _, _, _, z⟩ := q; exact z.elim
end
end DL

namespace DL
open PySem PySem.Spec PyProof.Rows L2
/-! ### isinstance of an exception in hand -/
section
variable {X : Cx} {sd : List Slot} {e a b c : Expr} {es : List Expr} {pos : Pos} {d : D} {ds : List D} {E : EndD}
theorem call_isinX {ad C : Addr} {oe : Obj} {cv : V} {u : Value} {k : Bool} (hp : (ad, oe) ∈ X.pn) (hc : oe.cls = .ref C) (xc : XCls X.K C) (ru : ∀ u', RelV cv u' → u' = u) (hk : PySem.W.kitOne X.K (.ref C) u = some k) :
    CallR X (.builtin "isinstance") (fun xs H Q => xs = [.ref ad, cv] ∧ Q (.bl k) H) := by
  intro pins s σ H xs us Q I r h
  obtain ⟨rfl, q⟩ := h
  obtain ⟨u1, u2, rfl, r1, r2⟩ := vals2 r
  cases (show u1 = Value.ref ad from r1)
  have e := ru u2 r2
  subst e
  exact PySem.W.kia_one (kitx_exc xc) I.kIn ⟨oe, (I.pin _ (List.mem_append_left _ hp)).1, hc⟩ hk (by intro q; cases q) fun tk => ⟨.bl k, H, I.tok tk, rfl, q⟩
theorem pd_isinX (j : Nat) {ad C CE : Addr} {oe : Obj} {k : Bool} {y x : Str} {p p1 p2 : Pos} (hp : (ad, oe) ∈ X.pn) (hc : oe.cls = .ref C) (xc : XCls X.K C) (hg : Gl X "isinstance") (hm : X.mg "isinstance" = none) (hgx : Gl X x) (hmx : X.mg x = some (.ref CE)) (hk : PySem.W.kitOne X.K (.ref C) (.ref CE) = some k) (hj : sd[j]? = some (isA ad)) (hy : PE X (.Name y p1) (tVar j)) (hdb : (x == ("__debug__" : Str)) = false := by decide)
    (he : starEach (.Name y p1 :: [.Name x p2]) X.env = (false, eval (.Name y p1) X.env) :: starEach [.Name x p2] X.env := by rfl) (hpl : (backTo pos (starEach [.Name x p2] X.env)).any (·.1) = false := by rfl) (hs2 : starEach [.Name x p2] X.env = (false, eval (.Name x p2) X.env) :: starEach [] X.env := by rfl) :
    PEd X sd (.Call (.Name "isinstance" p) [.Name y p1, .Name x p2] [] pos) (.val (.bl k)) := .mk fun σ F H S =>
  (pe_callB (call_isinX (cv := .ref CE) hp hc xc (fun u' r => r) hk) hg hm boot_isinstance (pa_cons hy (pa_cons (pe_glob hgx hmx (v := .ref CE) rfl hdb) pa_nil hs2) he) (by decide) (by decide) he hpl).to
    ⟨.ref ad, isA_get S hj, rfl, F, S, Same.refl _, by simp only [ResOk, Rep]⟩
theorem pd_isinXB (j : Nat) {ad C : Addr} {oe : Obj} {k : Bool} {y x : Str} {n : String} {p p1 p2 : Pos} (hp : (ad, oe) ∈ X.pn) (hc : oe.cls = .ref C) (xc : XCls X.K C) (hg : Gl X "isinstance") (hm : X.mg "isinstance" = none) (hgx : Gl X x) (hmx : X.mg x = none) (hv : bootBuiltins x = some (.type n)) (hk : PySem.W.kitOne X.K (.ref C) (.type n) = some k) (hj : sd[j]? = some (isA ad)) (hy : PE X (.Name y p1) (tVar j)) (hn : x ≠ "__name__" := by decide) (hdb : (x == ("__debug__" : Str)) = false := by decide)
    (he : starEach (.Name y p1 :: [.Name x p2]) X.env = (false, eval (.Name y p1) X.env) :: starEach [.Name x p2] X.env := by rfl) (hpl : (backTo pos (starEach [.Name x p2] X.env)).any (·.1) = false := by rfl) (hs2 : starEach [.Name x p2] X.env = (false, eval (.Name x p2) X.env) :: starEach [] X.env := by rfl) :
    PEd X sd (.Call (.Name "isinstance" p) [.Name y p1, .Name x p2] [] pos) (.val (.bl k)) := .mk fun σ F H S =>
  (pe_callB (call_isinX (cv := .ty n) hp hc xc (fun u' r => r) hk) hg hm boot_isinstance (pa_cons hy (pa_cons (pe_type hgx hmx hv hn hdb) pa_nil hs2) he) (by decide) (by decide) he hpl).to
    ⟨.ref ad, isA_get S hj, rfl, F, S, Same.refl _, by simp only [ResOk, Rep]⟩
end
/-! ### an instance as a frozen thing -/
section
variable {X : Cx} {pins : List (Addr × Obj)} {σ : St} {H H' F : Hp} {s : Shared}
end
def ShG (K : PySem.W.Frag) (C : Addr) (fs : List (Str × D)) : V → Hp → Prop := fun v F => ∃ (x dx : Addr) (od : Obj) (mA : Str → Option Value), v = .ref x ∧ F x = some (exO x (PySem.W.instObj C dx)) ∧ F dx = some (exO dx od) ∧ dx ≠ x ∧ (∀ h : Heap, h.get? dx = some od → h.Ns1 dx mA) ∧ ∀ f d, fs.lookup f = some d → ∃ y u, mA f = some u ∧ RelV y u ∧ Rep K F d y
theorem ShG.mono {K : PySem.W.Frag} {C : Addr} {fs : List (Str × D)} {v : V} {F F' : Hp} (h : ShG K C fs v F) (s : Same F F') : ShG K C fs v F' := by
  obtain ⟨x, dx, od, mA, e, h1, h2, ne, n, q⟩ := h
  exact ⟨x, dx, od, mA, e, s _ _ h1, s _ _ h2, ne, n, fun f d hf => let ⟨y, u, a, b, c⟩ := q f d hf; ⟨y, u, a, b, c.mono s⟩⟩
section
variable {X : Cx} {sd : List Slot} {e a b c : Expr} {es : List Expr} {pos : Pos} {d : D} {ds : List D} {E : EndD}
/-! ### a callee that takes an instance and raises -/
def spS (K : PySem.W.Frag) (n : Nat) (G : V → Hp → Prop) (C : List D → Prop) : Sp := fun vs H _ E => vs.length = n ∧ Smp H ∧ ∃ v us ds, vs = v :: us ∧ G v H ∧ RepL K H ds us ∧ C ds ∧ ∀ a H', Same H H' → Smp H' → E (.ref a) (some a) H'
structure CalleeS (P : Program) (w : World) (K : PySem.W.Frag) (mg : Str → Option Value) (base : Heap) (x : Str) (k n : Nat) (G : V → Hp → Prop) (C : List D → Prop) (cls : Value) : Prop where
  ex : ∃ (f : Addr) (fd : FuncData) (ps : List Str), mg x = some (.ref f) ∧ PySem.W.keepIn K (.ref f) = true ∧ Binds K fd ps [] ∧ FnOk P w K mg base (CX1 P w cls) k f fd ps (spS K n G C)
structure PSh (X : Cx) (sd : List Slot) (e : Expr) (G : V → Hp → Prop) : Prop where
  run : ∀ (σ : St) (F H : Hp), StF X.K X.B₀ F H σ sd → wE X e σ H fun v H' => ∃ F', StF X.K X.B₀ F' H' σ sd ∧ Same F F' ∧ G v F'
end
section
variable {P : Program} {w : World} {K : PySem.W.Frag} {mg : Str → Option Value} {base : Heap} {x qual : Str} {st : Stmt} {f : Addr} {fd : FuncData} {N ps : List Str} {k : Nat} {C : List D → Prop} {cls : Value} {G : V → Hp → Prop}
end
end DL

namespace DL
open PySem PySem.Spec PyProof.Rows L2
/-! ### an exception that leaves a comprehension, or a loop -/
section
variable {X : Cx} {pins : List (Addr × Obj)} {σ : St} {F H : Hp} {s : Shared} {sd : List Slot} {a T : Addr} {cls fl : Value} {E : XK}
theorem cx_of (hex : X.ex = []) (h : Held X pins σ H s a T cls .none) (hE : E (.ref a) (some a) H) : CX1 X.prog X.w cls X.outer X.H₀ X.s₀ E (.ref a) s := by
  have I := h.inv
  have b := I.base
  rw [hex] at b
  exact ⟨a, T, H, rfl, I.os, I.bare, b, I.hok, ⟨h.fa.1, h.fa.2.1, h.fT.1, h.fT.2.1, h.obj⟩, hE⟩
/-- whatever its flight, an exception leaves a frame -/
theorem leave_any {Ex : Value → Shared → Prop} (hex : X.ex = []) (hst : X.stack = X.env :: X.outer ∧ X.env.frame = some X.env.locals) (h : Held X pins σ H s a T cls fl) (hE : E (.ref a) (some a) H) :
    wpAny (model X.prog X.w) X.A (leaving X.env (.ref a)) (fun _ s'' => CX1 X.prog X.w cls X.outer X.H₀ X.s₀ E (.ref a) s'') Ex s := by
  by_cases e : fl = rawInt X.env.locals
  · subst e
    obtain ⟨oe, vs, oT, ts, a0, he, hc, hd, h1, hTe, hT, hdT, h3⟩ := h.obj
    unfold leaving
    refine wpAny_bind (wpAny_noteFrame_inFlight hst.2 he hd h1 hT hdT h3 ?_)
    exact held_flight hst h fun h' h2 => cx_of hex h2 hE
  · have hS := held_out h
    obtain ⟨oe, vs, oT, ts, a0, he, hc, hd, h1, hTe, hT, hdT, h3⟩ := h.obj
    have hsz3 : 3 < ts.size := (Array.getElem?_eq_some_iff.mp h3).1
    have vs1 : 1 < vs.size := (Array.getElem?_eq_some_iff.mp h1).1
    have I := h.inv
    have other : ∀ b, b ≠ T → (s.heap.update T (Obj.mapFields (·.setIfInBounds 3 Value.none))).get? b = s.heap.get? b := fun b hb => Heap.get?_update_other _ _ (Ne.symm hb)
    have noRecord : ∀ b o, s.heap.get? b = some o → (∀ vs, o.data ≠ .fields vs) → b ≠ T := fun b o hb hnf q => by
      rw [q, hT] at hb; injection hb with hb; subst hb; exact hnf ts hdT
    have I2 : Inv X pins σ H { s with heap := s.heap.update T (Obj.mapFields (·.setIfInBounds 3 Value.none)) } := inv_rec I hS (fun b o q => by
      obtain ⟨q1, q2⟩ := cutH_sub q
      exact (other b fun z => q1 (List.mem_append_right _ (by simp [z]))).trans q2) (fun b o q nf => ⟨o.slots, (other b (noRecord b o q nf)).trans q⟩)
    have he2 : (s.heap.update T (Obj.mapFields (·.setIfInBounds 3 Value.none))).get? a = some oe := (other a (Ne.symm hTe)).trans he
    have hS2 : ∀ b ∈ [a, T], H b = none ∧ X.s₀.heap.get? b = none := fun b hb => ⟨(hS b hb).1, (hS b hb).2.1⟩
    obtain ⟨h2, eh⟩ : ∃ h2, h2 = s.heap.update T (Obj.mapFields (·.setIfInBounds 3 Value.none)) := ⟨_, rfl⟩
    rw [← eh] at I2 he2
    have fu : Heap.FunFrames h2 (cutH h2 (frs X.stack ++ [a, T])) X.stack := funs_base I2.env0.funs fun b hb => cutH_in (List.mem_append_left _ hb)
    have fm := I.ok.frames
    rw [hst.1] at fm
    have fu2 := fu
    rw [hst.1] at fu2
    have ca : (cutH h2 (frs X.stack ++ [a, T])).get? a = none := cutH_in (List.mem_append_right _ (by simp))
    unfold leaving noteFrame
    rw [hst.2]
    refine wpAny_bind (wpAny_bind (wpAny_field he hd h1 ?_))
    rw [if_pos (show (Value.ref T != Value.none) = true from by simp)]
    refine wpAny_bind (wpAny_field hT hdT h3 ?_)
    rw [if_neg (by simpa using e)]
    refine wpAny_bind (wpAny_setField hT hdT hsz3 ?_)
    rw [← eh]
    refine wpAny_newEntryW (base := cutH h2 (frs X.stack ++ [a, T])) fm (by rw [hst.1]; exact fu2) hst.2 he2 (fun b o q => (cutH_sub q).2) ca hd vs1 hc.2 fun h' L => ?_
    rw [← hst.1, hc.1] at L
    exact left_cx I2 hex hst hS2 (by simp) L hE
/-- an exception is taken, whatever its flight -/
def TakesA (X : Cx) (cls : Value) (sd : List Slot) : Prop := ∀ (pins : List (Addr × Obj)) (σ : St) (F H : Hp) (s : Shared) (a T : Addr) (fl : Value), Held X pins σ H s a T cls fl → StF X.K X.B₀ F H σ sd → X.xe (.ref a) s
theorem TakesA.tk (h : TakesA X cls sd) : Takes X cls sd := fun pins σ F H s a T I S x hp => h pins σ F H s a T .none ⟨I, ⟨x.free, x.new, fun p q => (hp p q).1⟩, ⟨x.freeT, x.newT, fun p q => (hp p q).2⟩, x.obj⟩ S
end
section
variable {P : Program} {w : World} {K : PySem.W.Frag} {mg : Str → Option Value} {base : Heap} {N : List Str} {qual : Str} {scope : Scope} {f : Addr} {cdv : Value} {A : Around} {outer : List Env} {s : Shared} {H : Hp} {E : XK} {cls : Value} {sd : List Slot}
theorem takes_defA (hE : ∀ a H', Same H H' → Smp H' → E (.ref a) (some a) H') : TakesA (cxOf (CX1 P w cls) P w K mg base N qual scope f cdv A outer s H E) cls sd := fun pins σ F H' s' a T fl h S =>
  leave_any (X := cxOf (CX1 P w cls) P w K mg base N qual scope f cdv A outer s H E) (E := E) rfl ⟨rfl, rfl⟩ h (hE a H' (fun b o e => S.sub _ _ (S.base _ _ e)) S.smp)
end
section
variable {X : Cx} {pins : List (Addr × Obj)} {σ : St} {F H : Hp} {s s' : Shared} {sd : List Slot} {cls : Value} {e tg iter : Expr} {es : List Expr} {pos : Pos} {ds : List D} {Old : Addr → Prop} {E : EndD}
/-- an exception that is newer than Old -/
structure ExcO (Old : Addr → Prop) (h : Heap) (H : Hp) (a T : Addr) (cls : Value) : Prop where
  free : H a = none
  new : ¬ Old a
  freeT : H T = none
  newT : ¬ Old T
  obj : ∃ oe vs oT ts a0, h.get? a = some oe ∧ (oe.cls = cls ∧ vs[0]? = some a0) ∧ oe.data = .fields vs ∧ vs[1]? = some (.ref T) ∧ T ≠ a ∧ h.get? T = some oT ∧ oT.data = .fields ts ∧ ts[3]? = some .none
def TakesO (X : Cx) (Old : Addr → Prop) (cls : Value) (sd : List Slot) : Prop := ∀ (pins : List (Addr × Obj)) (σ : St) (F H : Hp) (s : Shared) (a T : Addr), Inv X pins σ H s → StF X.K X.B₀ F H σ sd → ExcO Old s.heap H a T cls → (∀ p ∈ X.pn ++ pins, p.1 ≠ a ∧ p.1 ≠ T) → X.xe (.ref a) s
def There (X : Cx) (Old : Addr → Prop) : Prop := ∀ (pins : List (Addr × Obj)) (σ : St) (H : Hp) (s : Shared), Inv X pins σ H s → ∀ b, Old b → ∃ o, s.heap.get? b = some o
def Ent (X : Cx) : Addr → Prop := fun b => ∃ o, X.s₀.heap.get? b = some o
theorem there_ent (hex : X.ex = []) : There X (Ent X) := fun pins σ H s I b ⟨o, g⟩ => I.base.there b o g (fun hb => by rw [hex] at hb; cases hb)
theorem Takes.o (h : Takes X cls sd) : TakesO X (Ent X) cls sd := fun pins σ F H s a T I S x hp =>
  h pins σ F H s a T I S ⟨x.free, by
    cases g : X.s₀.heap.get? a with
    | none => rfl
    | some o => exact (x.new ⟨o, g⟩).elim, x.freeT, by
    cases g : X.s₀.heap.get? T with
    | none => rfl
    | some o => exact (x.newT ⟨o, g⟩).elim, x.obj⟩ hp
theorem px_callO {x : Str} {p : Pos} {k n : Nat} {C : List D → Prop} {dvs : List V} {dws : List Value} {dds : List D} (G : CalleeX X.prog X.w X.K X.mg X.base x k n C cls dvs dws) (hh : There X Old) (hr : Room k X.A) (hg : Gl X x) (ha : PAd X sd (e :: es) (ds.map R.val)) (hdv : ∀ H, RepL X.K H dds dvs) (hc : C (ds ++ dds)) (hn : ds.length + dds.length = n) (ht : TakesO X Old cls sd)
    (hdb : (x == ("__debug__" : Str)) = false := by decide) (he : starEach (e :: es) X.env = (false, eval e X.env) :: starEach es X.env := by rfl) (hpl : (backTo pos (starEach es X.env)).any (·.1) = false := by rfl) :
    PEx X sd (.Call (.Name x p) (e :: es) [] pos) := ⟨fun σ F H S pins s I => by
  obtain ⟨f, fd, ps, hm, hk, bd, hd, G⟩ := G.ex
  refine wpAny_Call_Name_kw (ld_glob I hg hm ?_ hdb)
  refine PySem.W.callWith_K (h₀ := X.base) I.ok.mod.kin hk (thn (ha σ F H S pos pins s I) fun us s1 ⟨vs, H1, I1, r, F1, S1, s1', q⟩ => ⟨I1.kIn, ?_⟩) he hpl
  have rl : RepL X.K H1 (ds ++ dds) (vs ++ dvs) := (q.vals.mono S1.sub).app (hdv H1)
  refine run_fnX (Q := fun _ _ => False) (Ex := fun _ _ H' => Same H1 H' ∧ Smp H') G hr bd hd I1 r ⟨by rw [rl.len, List.length_append]; exact hn, S1.smp, ds ++ dds, rl, hc, fun a H' q1 q2 => ⟨q1, q2⟩⟩ fun e s' hcx => ?_
  obtain ⟨a, T, H', rfl, os, bare, un, hok, x, sH, smH⟩ := hcx
  have I2 : Inv X pins σ H' s' := I1.call' os un hok bare (fun b z => absurd z (by simp))
  have nO : ∀ b, s1.heap.get? b = none → ¬ Old b := fun b q z => by
    obtain ⟨o, g⟩ := hh pins σ H1 s1 I1 b z
    rw [q] at g
    cases g
  have nw : ∀ b, s1.heap.get? b = none → ∀ p ∈ X.pn ++ pins, p.1 ≠ b := fun b q p hp z => by
    have := (I1.pin p hp).1
    rw [z, q] at this
    cases this
  exact ht pins σ F1 H' s' a T I2 ⟨S1.base, S1.sub.trans sH, smH, S1.slots.mono (Same.refl _) fun l hl => ⟨(S1.slots.owns hl).1, fun ob e => sH _ _ e⟩, S1.nd⟩ ⟨x.free, nO a x.new, x.freeT, nO T x.newT, x.obj⟩ fun p hp => ⟨nw a x.new p hp, nw T x.newT p hp⟩⟩
theorem inv_xe {ξ ζ : Value → Shared → Prop} {pi : List (Addr × Obj)} (I : Inv { X with xe := ξ } pi σ H s) : Inv { X with xe := ζ } pi σ H s :=
  ⟨⟨I.ok.mod, I.ok.kind, I.ok.glob, I.ok.blt, I.ok.above, I.ok.inj, I.ok.has, I.ok.cab, I.ok.hd, I.ok.frames, I.ok.stk, I.ok.exf, I.ok.bs, I.ok.bsz, I.ok.noex, I.ok.exfs, I.ok.funs, I.ok.frf⟩, I.os, I.bare, I.base, I.loc, I.cell, I.free, I.freeC, I.pin, I.hok, I.len⟩
theorem nd_ns {h h' : Heap} {C : Addr} {m : Str → Option Value} (n : h.Ns C m) : ∃ o, h.get? C = some o ∧ (∀ vs, o.data ≠ .fields vs) ∧ (∀ v, o.data ≠ .cell v) ∧ (h'.get? C = some o → h'.Ns C m) := by
  obtain ⟨o, es, ep, ho, r, q⟩ := n
  exact ⟨o, ho, fun vs z => (by rw [r] at z; cases z), fun v z => (by rw [r] at z; cases z), fun g => ⟨o, es, ep, g, r, q⟩⟩
/-- a comprehension whose n-th element raises -/
theorem px_comp {elt : Expr} {scope : Scope} {N M : List Str} {cap : List (Option Nat)} {sc : Scope} {Tb : D → List Slot} (f : D → D) (n : Nat) (hn : n < ds.length)
    (hi : PId X sd PT0 tg iter ds) (hl : ds.length ≤ 1000) (hsc : X.env.scope = sc) (hcn : compNames scope sc = true) (hM : X.N = M) (hcap : capNames N M scope sc cap = true) (hk : scope.kind = .function)
    (hg : ∀ cl C fp s H ξ d, d ∈ ds → PGd (cxBx X N scope cl C fp s H ξ) (capD cap sd) tg d (Tb d))
    (hle : ∀ d, d ∈ ds → Le (Tb d) (capD cap sd))
    (he : ∀ cl C fp s H ξ k d, ds[k]? = some d → k < n → PEd (cxBx X N scope cl C fp s H ξ) (Tb d) elt (.val (f d)))
    (hx : ∀ cl C fp s H ξ Old d, ds[n]? = some d → There (cxBx X N scope cl C fp s H ξ) Old → TakesO (cxBx X N scope cl C fp s H ξ) Old cls (Tb d) → PEx (cxBx X N scope cl C fp s H ξ) (Tb d) elt)
    (ht : TakesA X cls sd) (hex : X.ex = [] := by rfl) (hst : X.stack = X.env :: X.outer ∧ X.env.frame = some X.env.locals := by exact ⟨rfl, rfl⟩)
    (hc : X.calm = true := by rfl) (hs : ∀ x, foldedSetIterable iter X.env x = pure x := by intro _; rfl) :
    PEx X sd (.ListComp elt [⟨tg, iter, [], 0⟩] scope pos) := ⟨fun σ F H S pins s I => by
  have nm : ∀ y ∈ scope.names, (y.2 = NameKind.free → sc.names.lookup y.1 = some NameKind.cell) ∧ (y.2 = NameKind.local → scope.names.lookup y.1 = some NameKind.local) := fun y hy => by
    have q := List.all_eq_true.mp hcn y hy
    simp only [Bool.and_eq_true, Bool.or_eq_true, Bool.not_eq_true', beq_eq_false_iff_ne, ne_eq, beq_iff_eq] at q
    exact ⟨fun e => q.1.1.resolve_left fun z => z e, fun e => q.2.resolve_left fun z => z e⟩
  have fre : ∀ y ∈ scope.names, y.2 = .free → ∃ c, X.env.cells.lookup y.1 = some c := fun y hy e => I.ok.has y.1 (.inl (by show X.env.scope.names.lookup y.1 = _; rw [hsc]; exact (nm y hy).1 e))
  rw [eval_ListComp]
  refine wpAny_comprehension_free (use := none) rfl hs (closure_eq fre) hk (fun y hy => (nm y hy).2) ?_
  refine thn (hi σ F H S pins s I) fun v s1 h1 => thn h1 fun itv s2 h2 => ?_
  obtain ⟨it, fp, tn, J, H2, e, I2, T, st2, f2, F1, S1, s1', itd⟩ := h2
  subst e
  have S1b : StF X.K H2 H2 H2 (capt cap σ) (capD cap sd) := ⟨Same.refl _, Same.refl _, S1.smp, capD_ok (H' := H2) S1.slots S1.sub cap, by rw [owned_capD]; exact List.nodup_nil⟩
  obtain ⟨Old, hO⟩ : ∃ Old : Addr → Prop, Old = fun b => (∃ o, s2.heap.get? b = some o) ∧ b ∉ fp := ⟨_, rfl⟩
  obtain ⟨ξ, hξ⟩ : ∃ ξ : List (Str × Addr) → Addr → Value → Shared → Prop, ξ = fun cl C e s' => ∃ a T pi σb H', e = .ref a ∧ Inv (cxBx X N scope cl C fp s2 H2 fun _ _ => False) pi σb H' s' ∧ Same H2 H' ∧ Smp H' ∧ ExcO Old s'.heap H' a T cls := ⟨_, rfl⟩
  have hth : ∀ cl C, There (cxBx X N scope cl C fp s2 H2 (ξ cl C)) Old := fun cl C pi σ' H' s' I' b hb => by
    rw [hO] at hb
    obtain ⟨⟨o, g⟩, nf⟩ := hb
    exact I'.base.there b o g nf
  have htk : ∀ cl C sdb, TakesO (cxBx X N scope cl C fp s2 H2 (ξ cl C)) Old cls sdb := fun cl C sdb pi σ' F' H' s' a T I' S' x' _ => by
    show ξ cl C _ _
    rw [hξ]
    exact ⟨a, T, pi, σ', H', rfl, inv_xe (X := cxB X N scope cl C fp s2 H2) I', fun b o q => S'.sub _ _ (S'.base _ _ q), S'.smp, x'⟩
  refine comp_runX ξ (fun cl C e H' s' => ∃ a T, e = .ref a ∧ Same H2 H' ∧ Smp H' ∧ ExcO Old s'.heap H' a T cls) (N := N) (cap := cap) (g := fun v σ2 H3 Q => ∀ cl C, wG (cxBx X N scope cl C fp s2 H2 (ξ cl C)) tg v σ2 H3 Q) (tt := fun σ2 H3 Q => ∀ cl C, wIfs (cxBx X N scope cl C fp s2 H2 (ξ cl C)) [] σ2 H3 Q) (te := fun σ2 H3 Q => ∀ cl C, wE (cxBx X N scope cl C fp s2 H2 (ξ cl C)) elt σ2 H3 Q)
    hc hsc hcn (by rw [hM]; exact hcap) hk I2 T st2 f2 (fun cl C pi s3 σ3 H3 v u Q I3 ru q => q cl C pi s3 u I3 ru) (fun cl C pi s3 σ3 H3 Q I3 q => q cl C pi s3 I3) (fun cl C pi s3 σ3 H3 Q I3 q => q cl C pi s3 I3)
    (fun i m ys σb H3 => m = ds.length - i ∧ i ≤ n ∧ ∃ Fb, StF X.K H2 Fb H3 σb (capD cap sd) ∧ RepL X.K Fb ((ds.take i).map f) ys) ds.length
    ⟨by simp, Nat.zero_le _, H2, S1b, by simpa using RepL.nil⟩ _ (fun cl C e s' z => ?_) (fun cl D C e H' s' z hC h0 hL hcc hpp hfs hns J' => ?_) ?_
  · rw [hξ] at z
    obtain ⟨a, T, pi, σb, H', e1, I', q1, q2, q3⟩ := z
    exact ⟨pi, σb, H', inv_xe (X := cxB X N scope cl C fp s2 H2) I', a, T, e1, q1, q2, q3⟩
  · obtain ⟨a, T', rfl, sH, smH, x⟩ := z
    obtain ⟨m, ns⟩ := hns
    have S' : StF X.K X.B₀ F1 H' σ sd := ⟨S1.base, S1.sub.trans sH, smH, S1.slots.mono (Same.refl _) fun l hl => ⟨(S1.slots.owns hl).1, fun ob e => sH _ _ e⟩, S1.nd⟩
    obtain ⟨oC, gC, nfC, ncC, _⟩ := nd_ns (h' := s'.heap) ns
    have fsub : ∀ b ∈ X.fs, b ∈ frs X.stack := fun b hb => by
      unfold frs
      rw [hst.1, List.filterMap_cons, hst.2]
      exact List.mem_cons_of_mem _ hb
    have Jp : Inv X (pins ++ [(C, oC)]) σ H' s' := J'.pins_of fun p hp => by
      rcases List.mem_append.mp hp with hp | hp
      · exact J'.pin p (List.mem_append_right _ hp)
      · rw [List.mem_singleton.mp hp]
        exact ⟨gC, hC, hL, fun z => hfs (fsub C z), ncC⟩
    have isO : ∀ b o, s2.heap.get? b = some o → b ∉ fp → Old b := fun b o g nf => by rw [hO]; exact ⟨⟨o, g⟩, nf⟩
    have nS : ∀ b, ¬ Old b → X.s₀.heap.get? b = none := fun b nb => by
      cases g : X.s₀.heap.get? b with
      | none => rfl
      | some o =>
        obtain ⟨o1, q1⟩ := I2.base.there b o g (fun hb => by rw [hex] at hb; cases hb)
        refine (nb (isO b o1 q1 fun hb => ?_)).elim
        rcases (f2 b hb).2.2.2.1 with z | z
        · rw [hex] at z; cases z
        · exact absurd (Heap.lt_size g) (Nat.not_lt.mpr z)
    have nP : ∀ b, ¬ Old b → ∀ p ∈ X.pn ++ pins, p.1 ≠ b := fun b nb p hp z => nb (z ▸ isO p.1 p.2 (I2.pin p hp).1 fun hb => (f2 p.1 hb).2.2.2.2.2 p hp rfl)
    obtain ⟨oe, vs, oT, ts, a0, he', hc', hd', h1', hTe, hT', hdT', h3'⟩ := x.obj
    have nCa : C ≠ a := fun z => by
      rw [z, he'] at gC
      exact nfC vs (Option.some.inj gC ▸ hd')
    have nCT : C ≠ T' := fun z => by
      rw [z, hT'] at gC
      exact nfC ts (Option.some.inj gC ▸ hdT')
    have pall : ∀ b, ¬ Old b → C ≠ b → ∀ p ∈ X.pn ++ (pins ++ [(C, oC)]), p.1 ≠ b := fun b nb nc p hp => by
      rw [← List.append_assoc] at hp
      rcases List.mem_append.mp hp with hp | hp
      · exact nP b nb p hp
      · rw [List.mem_singleton.mp hp]
        exact nc
    have hd0 : Held X (pins ++ [(C, oC)]) σ H' s' a T' cls .none := ⟨Jp, ⟨x.free, nS a x.new, pall a x.new nCa⟩, ⟨x.freeT, nS T' x.newT, pall T' x.newT nCT⟩, x.obj⟩
    show wpAny _ _ (noteFrame (.ref a) X.env) _ _ _
    refine held_note hst J'.ok.frames hex hd0 fun h3 T3 hd3 => ?_
    obtain ⟨p1, p2, _⟩ := hd3.inv.pin (C, oC) (List.mem_append_right _ (List.mem_append_right _ (List.mem_singleton_self _)))
    obtain ⟨oC', gC', _, _, up⟩ := nd_ns (h' := h3) ns
    rw [gC] at gC'
    cases gC'
    refine ⟨m, up p1, fun h4 sb cenv hce => ?_⟩
    have J4 : Inv X pins σ H' { ({ s' with heap := h3 } : Shared) with heap := h4, toks := s'.toks } := (hd3.inv.pins_of (pins' := pins) fun p hp => hd3.inv.pin p (List.mem_append_right _ (List.mem_append_left _ hp))).turned (it := C) (fun b o hb g => sb.extBut b o hb g) p2 hL (.inr h0) hcc hpp
    obtain ⟨oe3, vs3, oT3, ts3, a03, he3, hc3, hd3', h13, hTe3, hT3, hdT3, h33⟩ := hd3.obj
    have nCT3 : C ≠ T3 := hd3.fT.2.2 (C, oC) (List.mem_append_right _ (List.mem_append_right _ (List.mem_singleton_self _)))
    have he4 : h4.get? a = some oe3 := sb.extBut a oe3 (Ne.symm nCa) he3
    have hT4 : h4.get? T3 = some oT3 := sb.extBut T3 oT3 (Ne.symm nCT3) hT3
    have sub : ∀ p ∈ X.pn ++ pins, p ∈ X.pn ++ (pins ++ [(C, oC)]) := fun p hp => by rw [← List.append_assoc]; exact List.mem_append_left _ hp
    have hd4 : Held X pins σ H' { s' with heap := h4 } a T3 cls (rawInt X.env.locals) := ⟨J4, ⟨hd3.fa.1, hd3.fa.2.1, fun p hp => hd3.fa.2.2 p (sub p hp)⟩, ⟨hd3.fT.1, hd3.fT.2.1, fun p hp => hd3.fT.2.2 p (sub p hp)⟩, oe3, vs3, oT3, ts3, a03, he4, hc3, hd3', h13, hTe3, hT4, hdT3, h33⟩
    unfold PySem.passOn
    refine wpAny_bind (wpAny_field he4 hd3' h13 ?_)
    rw [if_neg (by simp)]
    refine wpAny_bind (held_flight hst hd4 fun h5 hd5 => ?_)
    exact wpAny_throw (ht pins σ F1 H' _ a T3 _ hd5 S')
  · rintro i m ys σb H3 ⟨rfl, hil, Fb, Sb, rl⟩
    have sF1 : Same F1 Fb := fun b o g => Sb.base _ _ (S1.sub _ _ g)
    obtain ⟨g1, g2, g3⟩ := itd Fb H3 sF1 Sb.sub Sb.smp trivial i
    have hlt : i < ds.length := by omega
    have hd : ds[i]? = some ds[i] := by simp [hlt]
    have hm : ds[i] ∈ ds := List.getElem_mem hlt
    have ylen : ys.length ≤ i := by
      rw [rl.len, List.length_map, List.length_take]
      omega
    refine .inr ⟨g1 hlt, small1000 (by omega), fun ys' σ' H' => i < n ∧ ∃ Fb', StF X.K H2 Fb' H' σ' (capD cap sd) ∧ RepL X.K Fb' ((ds.take (i + 1)).map f) ys', fun ys' σ' H' ⟨hin, Fb', Sb', rl'⟩ => ⟨ds.length - (i + 1), by omega, rfl, hin, Fb', Sb', rl'⟩, fun x H4 y cl C => ?_⟩
    obtain ⟨F4, s4, rp, up⟩ := g3 x H4 ds[i] hd y
    refine (hg cl C fp s2 H2 _ _ hm σb F4 H4 x (up _ _ _ Sb) rp).imp fun σ5 H5 ⟨F5, S5, s5⟩ cl2 C2 => wIfs_nil (iteT fun cl3 C3 => ?_)
    by_cases hin : i < n
    · refine (he cl3 C3 fp s2 H2 _ i _ hd hin σ5 F5 H5 S5).imp fun v H7 ⟨F7, S7, s7, q7⟩ => ⟨hin, F7, S7.le (hle _ hm), ?_⟩
      rw [List.take_add_one, hd, List.map_append]
      exact ((rl.mono (s4.trans s5)).mono s7).app (.one q7)
    · have : i = n := by omega
      subst this
      exact ((hx cl3 C3 fp s2 H2 _ Old _ hd (hth cl3 C3) (htk cl3 C3 _)).run σ5 F5 H5 S5).imp fun _ _ z => z.elim⟩
/-- f(e), where e raises -/
theorem px_arg {x : Str} {p : Pos} {T : String} (hg : Gl X x) (hm : X.mg x = none) (hv : bootBuiltins x = some (.type T)) {rr : List V → Hp → VK → Prop} (hc : CallR X (.type T) rr) (h : PEx X sd e)
    (hn : x ≠ "__name__" := by decide) (hdb : (x == ("__debug__" : Str)) = false := by decide) (he : starEach [e] X.env = (false, eval e X.env) :: starEach [] X.env := by rfl) (hpl : (backTo pos (starEach [] X.env)).any (·.1) = false := by rfl) : PEx X sd (.Call (.Name x p) [e] [] pos) := ⟨fun σ F H S =>
  (pe_callTy hc hg hm hv (pa_cons pe_w pa_nil he) hn hdb he hpl).to ((h.run σ F H S).imp fun _ _ z => z.elim)⟩
/-- targets = e, where e raises -/
theorem psd_asgE (h : PEx X sd e) (hs : swapsWithSole [tg] e pos.line X.env = pure false := by rfl) (hw : swappedStores [tg] e X.env = pure none := by rfl) (h1 : (assignEach [tg] X.env).map (·.2) = [assign tg X.env] := by rfl) : PSd1 X sd (.Assign [tg] e pos) E := .mk fun σ F H S =>
  (ps_asg pe_w pg_w hs hw h1).to ((h.run σ F H S).imp fun _ _ z => z.elim)
end
end DL

namespace DL
open PySem PySem.Spec PyProof.Rows L2
/-! ### dicts with tuples as keys: get with a default, a key told again, handed back, frozen -/
theorem putT_at {ks : List (List Key)} {k : List Key} {v : V} : ∀ {xs : List V} {n : Nat}, ks.Nodup → ks.length = xs.length → ks[n]? = some k → putK (ks.zip xs) k v = ks.zip (xs.set n v) := fun {xs n} nd hl hk => by
  have hn : n < ks.length := (List.getElem?_eq_some_iff.mp hk).1
  have he : ks[n] = k := (List.getElem?_eq_some_iff.mp hk).2
  unfold putK
  rw [if_pos]
  · apply List.ext_getElem
    · simp [hl]
    intro j h1 h2
    have hj : j < ks.length := by simp at h2; omega
    have hjx : j < xs.length := by omega
    rw [List.getElem_map, List.getElem_zip, List.getElem_zip]
    by_cases e : j = n
    · subst e
      simp [he]
    · have ne : ks[j] ≠ k := fun z => e ((List.getElem_inj nd).mp (z.trans he.symm))
      rw [if_neg ne, List.getElem_set_ne (Ne.symm e)]
  · rw [List.any_eq_true]
    refine ⟨(ks[n], xs[n]'(by omega)), ?_, by simp [he]⟩
    refine List.mem_of_getElem? (i := n) ?_
    rw [List.getElem?_zip_eq_some]
    exact ⟨by simp [hn], by simp [show n < xs.length by omega]⟩
section
variable {X : Cx} {sd : List Slot} {e a b c : Expr} {pos : Pos} {d d0 : D} {ds : List D} {ks : List (List Key)} {k : List Key} {st : Stmt} {E : EndD} {l : Addr}
/-- what get does -/
def rGT (X : Cx) : V → List V → Hp → VK → Prop := fun x vs H Q => ∃ (F : Hp) (l ad : Addr) (k : List Key) (y : V) (o : Obj) (kvs : List (List Key × V)), x = .ref l ∧ vs = [.ref ad, y] ∧ Same F H ∧ H l = some (exO l o) ∧ F ad = some (.tup (k.map kV)) ∧ X.A.units + 1 < cLine ∧
  TDo X.prog X.w F l o kvs ∧ Q ((valV kvs k).getD y) H
theorem mt_getT : MtR X "dict.get" (rGT X) := by
  intro pins s σ H x vs v us Q I rx rv h
  obtain ⟨F, l, ad, k, y, o, kvs, rfl, rfl, sF, hl, ha, hu, ⟨z, hm, ts, kt, es, ep, t1, t2, t3, t4⟩, q⟩ := h
  obtain rfl : v = Value.ref l := rx
  cases rv with
  | cons r1 rv =>
    obtain ⟨u, rfl, ru⟩ := Vals.one rv
    rename_i b
    obtain rfl : b = Value.ref ad := r1
    have ho : s.heap.get? l = some o := (I.hok l _ hl).1
    have ktH : KT H kvs ts := kt.keeps fun b ys e => sF _ _ e
    have dd : s.heap.DictOfH (tupleKind (mixKind X.prog X.w)) l ts := ⟨o, es, ep, ho, t1, t2, t3, KT.all I.hok ktH, t4⟩
    refine call_meetsIn PySem.F.slot_dict_get dd.typeIs PySem.F.entry_dict_get (PySem.F.args_dict_get_3 _ _ _) (meetsH_dict_get_default (tupleKind (mixKind X.prog X.w)) l ad hm u) ⟨tupleKind_room_in1 hu, k, ts, key_of I.hok (sF _ _ ha), dd, ?_⟩
    have rl := ktH.val k
    refine ⟨(valV kvs k).getD y, H, I.tok _, ?_, q⟩
    cases hv : valV kvs k with
    | none =>
      rw [hv] at rl
      cases ht : (atKey ts k).map (·.2) with
      | none => exact ru
      | some z => rw [ht] at rl; cases rl
    | some z =>
      rw [hv] at rl
      obtain ⟨w', hw, rw'⟩ := RelO.some_of (v := z) (o := (atKey ts k).map (·.2)) rl
      rw [hw]
      exact rw'
/-- x.get(b, c) -/
theorem pd_get2 (i : Nat) {x : Str} {p ap cp : Pos} (hu : X.A.units + 1 < cLine) (hget : ∀ (σ : St) (F H : Hp), StF X.K X.B₀ F H σ sd → ∃ l o xs, σ[i]? = some (some (.ref l)) ∧ H l = some (exO l o) ∧ RepL X.K F ds xs ∧ ks.length = ds.length ∧ TDo X.prog X.w F l o (ks.zip xs))
    (hb : PEd X sd b (.val (.tup (k.map kD)))) (hc : PEd X sd c (.val d0)) (h1 : ∀ n : Nat, ks[n]? = some k → ds[n]? = some d) (h2 : k ∉ ks → d0 = d)
    (hm : PE X (.Call (.Attribute (.Name x p) "get" ap) [b, c] [] cp) (fun σ H Q => tVar i σ H fun x H1 => (∃ l ob, x = .ref l ∧ H1 l = some (exO l ob) ∧ ob.ExactDict) ∧ (tCons (wE X b) (tCons (wE X c) tNil)) σ H1 fun xs H2 => rGT X x xs H2 Q) := by
      exact pe_dm PySem.F.plainAttrs_dict PySem.F.slot_dict_get PySem.F.type_dict_get mt_getT (pv _) (pa_cons pe_w (pa_cons pe_w pa_nil))) :
    PEd X sd (.Call (.Attribute (.Name x p) "get" ap) [b, c] [] cp) (.val d) := .mk fun σ F H S => hm.to (by
  obtain ⟨l, o, xs, g1, g2, g3, g4, g5⟩ := hget σ F H S
  refine ⟨.ref l, g1, ⟨l, o, rfl, g2, g5.2.2.choose_spec.2.choose_spec.choose_spec.1⟩, (hb σ F H S).imp fun v1 H1 ⟨F1, S1, s1, q1⟩ => (hc σ F1 H1 S1).imp fun v2 H2 ⟨F2, S2, s2, q2⟩ => ?_⟩
  obtain ⟨l', o', xs', f1, f2, f3, f4, f5⟩ := hget σ F2 H2 S2
  rw [g1] at f1
  cases f1
  simp only [ResOk, Rep] at q1
  obtain ⟨ad, ys, rfl, ha, rl⟩ := q1
  rw [rep_keys rl] at ha
  refine ⟨F2, l, ad, k, v2, o', ks.zip xs', rfl, rfl, S2.sub, f2, s2 _ _ ha, hu, f5, F2, S2, s1.trans s2, ?_⟩
  cases hv : valV (ks.zip xs') k with
  | none =>
    have := h2 (valT_no (by rw [f4, f3.len]) hv)
    subst this
    exact q2
  | some z =>
    obtain ⟨n, e1, e2⟩ := valT_some hv
    obtain ⟨v, e3, r⟩ := f3.get (h1 n e1)
    rw [e2] at e3
    cases e3
    exact r)
theorem getT_slot {i : Nat} (hs : sd[i]? = some (odT X.prog X.w X.K l ks ds)) : ∀ (σ : St) (F H : Hp), StF X.K X.B₀ F H σ sd → ∃ l o xs, σ[i]? = some (some (.ref l)) ∧ H l = some (exO l o) ∧ RepL X.K F ds xs ∧ ks.length = ds.length ∧ TDo X.prog X.w F l o (ks.zip xs) := fun σ F H S => by
  obtain ⟨h1, _, o, xs, h3, h4, h5, h6⟩ := odT_get S hs
  exact ⟨l, o, xs, h1, h3, h4, h5, h6⟩
theorem getF_slot {i : Nat} (hs : sd[i]? = some (odF X.prog X.w X.K ks ds)) : ∀ (σ : St) (F H : Hp), StF X.K X.B₀ F H σ sd → ∃ l o xs, σ[i]? = some (some (.ref l)) ∧ H l = some (exO l o) ∧ RepL X.K F ds xs ∧ ks.length = ds.length ∧ TDo X.prog X.w F l o (ks.zip xs) := fun σ F H S => by
  obtain ⟨ov, h1, v0, h2, _, h4⟩ := S.slots.get hs
  obtain ⟨l, o, xs, rfl, g1, g2, g3, g4⟩ := h4 F H (Same.refl _) fun _ _ _ q => q
  subst h2
  exact ⟨l, o, xs, h1, S.sub _ _ g1, g2, g3, g4⟩
/-- x[b] = e, a key that is there -/
theorem psd_dputA (i : Nat) {x : Str} {p p2 : Pos} {n : Nat} (hu : X.A.units + 1 < cLine) (hs : sd[i]? = some (odT X.prog X.w X.K l ks ds)) (hx : PE X (.Name x p) (tVar i)) (h : PEd X sd e (.val d)) (hb : PEd X sd b (.val (.tup (k.map kD)))) (nd : ks.Nodup) (hk : ks[n]? = some k) (hE : E.nx (sd.set i (odT X.prog X.w X.K l ks (ds.set n d))))
    (hsw : swapsWith e (some (.Subscript (.Name x p) b p2)) pos.line X.env = pure false := by rfl) : PSd1 X sd (.Assign [.Subscript (.Name x p) b p2] e pos) E := .mk fun σ F H S pins s I => by
  refine wpAny_Assign_Subscript (thn (h σ F H S pins s I) fun r s1 ⟨v, H1, I1, rv, F1, S1, sF1, q1⟩ => ?_) hsw
  obtain ⟨h1, _⟩ := odT_get S1 hs
  refine thn (hx pins s1 σ H1 (fun v H2 => v = .ref l ∧ H2 = H1) I1 ⟨.ref l, h1, rfl, rfl⟩) fun u s2 ⟨y, H2, I2, ry, e1, e2⟩ => ?_
  subst e1 e2
  obtain rfl : u = Value.ref l := ry
  refine thn (hb σ F1 H2 S1 pins s2 I2) fun iv s3 ⟨y, H3, I3, ry, F3, S3, sF3, q3⟩ => ?_
  obtain ⟨g1, g2, o, xs, g3, g4, g5, z, hm, ts, kt, es, ep, t1, t2, t3, t4⟩ := odT_get S3 hs
  simp only [ResOk, Rep] at q3
  obtain ⟨ad, ys, rfl, ha, rl⟩ := q3
  rw [rep_keys rl] at ha
  obtain rfl : iv = Value.ref ad := ry
  have ho : s3.heap.get? l = some o := (I3.hok l _ g3).1
  have ktH : KT H3 (ks.zip xs) ts := kt.keeps fun b ys e => S3.sub _ _ e
  have dd : s3.heap.DictOfH (tupleKind (mixKind X.prog X.w)) l ts := ⟨o, es, ep, ho, t1, t2, t3, KT.all I3.hok ktH, t4⟩
  have lz : ks.length = xs.length := by rw [g5, g4.len]
  have hz : ts.length ≤ sizeLine := by rw [← Paired.length kt]; exact z
  refine wpAny_setItem_heap (hsz := hz) (tupleKind_room_in1 hu) (key_of I3.hok (S3.sub _ _ ha)) dd fun h' dd' hsm => ?_
  obtain ⟨q, es', ep', hq, u2, u3, u4, _, u5⟩ := dd'
  have I4 := d_write (t' := s3.toks + (tupleKind (mixKind X.prog X.w)).draws k) I3 (ob := exO l q) (by rw [g3]; exact True.intro) hsm ⟨q, hq⟩ (exO_ok hq)
  have kt' := kt.put k ha rv
  rw [putT_at nd lz hk] at kt'
  refine ⟨σ, _, I4, _, F3, S3.reT (z' := odT X.prog X.w X.K l ks (ds.set n d)) hs g1 (fun b ob hb q => ?_) (smp_updE S3.smp l) (odT_mk g2 upd_same (fun v z => by rw [u3] at z; cases z) (g4.set (Rep.mono sF3 q1) n) (by rw [List.length_set, g5]) ⟨by rw [List.length_zip, List.length_set, ← List.length_zip]; exact z, hm, _, kt', es', ep', u2, u3, u4, u5⟩) (show [l].Nodup by simp) fun a ha => .inl ha, sF1.trans sF3, hE⟩
  rw [upd_ne (show b ≠ l from fun z => hb (z ▸ List.mem_singleton_self l))]
  exact q
/-- a fresh dict with tuples as keys -/
def tdR (P : Program) (w : World) (K : PySem.W.Frag) (ks : List (List Key)) (ds : List D) : R := .ox fun v as F H => ∃ l, as = [l] ∧ Gt P w K l ks ds v F H
theorem psd_setTF (i : Nat) {x : Str} {p : Pos} (hN : X.N.Nodup) (hi : X.N[i]? = some x) (hx : Loc X.env.scope x) (h : PEd X sd e (tdR X.prog X.w X.K ks ds)) (hE : E.nx (sd.set i (odF X.prog X.w X.K ks ds))) (hs : swapsWith e (some (.Name x p)) pos.line X.env = pure false := by rfl)
    (hf : X.fn x = true ∨ X.env.scope.names.lookup x = some .local := by first | exact .inl rfl | exact .inr rfl | assumption) : PSd1 X sd (.Assign [.Name x p] e pos) E := .mk fun σ F H S =>
  (ps_set hN hi hx pe_w hs hf).to ((h σ F H S).imp fun v H' ⟨F', S', s', as, nd, q, g⟩ => by
    obtain ⟨l, rfl, rfl, o, xs, g1, nc, g2, hk, td⟩ := g F' H' (Same.refl _) fun _ _ _ z => z
    obtain ⟨S2, s2⟩ := S'.inN (l := l) (ls := []) (fun a ha => (q a ha).1) fun a ha => (q a ha).2.2
    have f1 : (inF F' H' [l]) l = some (exO l o) := by
      rw [inF_in List.mem_cons_self]
      exact g1
    exact ⟨_, _, S2.setX (as := []) i (v := .ref l) ⟨.ref l, rfl, fun a ha => (nomatch ha), fun F2 H2 s3 _ => ⟨l, o, xs, rfl, s3 _ _ f1, (g2.mono s2).mono s3, hk, (td.mono s2).mono s3⟩⟩ List.nodup_nil fun a ha => (nomatch ha), s'.trans s2, hE⟩)
end
end DL

namespace DL
open PySem PySem.Spec PyProof.Rows L2
/-! ### a dict with whole numbers as keys and lists of ours as values -/
section
variable {X : Cx}
def rSI : V → List V → Hp → VK → Prop := fun x vs H Q => ∃ (l : Addr) (k : Key) (y : V) (kvs : List (Key × V)), x = .ref l ∧ vs = [kV k, y] ∧ H l = some (.dK kvs) ∧ kvs.length + 1 ≤ sizeLine ∧ (∀ z, valV kvs k = some z → Q z H) ∧ (valV kvs k = none → Q y (upd H l (.dK (kvs ++ [(k, y)]))))
theorem mt_sdI : MtR X "dict.setdefault" rSI := by
  intro pins s σ H x vs v us Q I rx rv h
  obtain ⟨l, k, y, kvs, rfl, rfl, hl, hz, q1, q2⟩ := h
  obtain rfl : v = Value.ref l := rx
  cases rv with
  | cons r1 rv =>
    obtain ⟨u, rfl, ru⟩ := Vals.one rv
    obtain ⟨z, hd, vs, rel, dd⟩ := dk_of I.hok hl
    refine call_meetsIn PySem.F.slot_dict_setdefault dd.typeIs PySem.F.entry_dict_setdefault (PySem.F.args_dict_setdefault_3 _ _ _) (kt_meets_setdefault (mixKind X.prog X.w) l (kV_is r1) hd u) ⟨vs, dd, by rw [← rel.length]; exact z, fun w' hw => ?_, fun hn h' dd' hsm => ?_⟩
    · have rl := rel.val k
      rw [hw] at rl
      cases hv : valV kvs k with
      | none => rw [hv] at rl; cases rl
      | some z' =>
        rw [hv] at rl
        exact ⟨z', H, I.tok _, rl, q1 z' hv⟩
    · have hn' : valV kvs k = none := by
        have rl := rel.val k
        rw [hn] at rl
        cases hv : valV kvs k with
        | none => rfl
        | some z' => rw [hv] at rl; cases rl
      have rp := rel.put k ru
      rw [putK_new y hn'] at rp
      have he : ∃ q, h'.get? l = some q := let ⟨q, _, _, hq, _⟩ := dd'; ⟨q, hq⟩
      exact ⟨y, _, d_write (t' := s.toks + 1) I (ob := .dK (kvs ++ [(k, y)])) (by rw [hl]; exact True.intro) hsm he (dk_new (by rw [List.length_append]; exact hz) hd rp dd'), ru, q2 hn'⟩
end
def GI (K : PySem.W.Frag) (l : Addr) (ks : List Key) (ls : List Addr) (dss : List (List D)) : V → Hp → Hp → Prop := fun v F H => v = .ref l ∧ H l = some (.dK (ks.zip (ls.map V.ref))) ∧ ks.length = ls.length ∧ InD K F H ls dss
def oI (K : PySem.W.Frag) (l : Addr) (ks : List Key) (ls : List Addr) (dss : List (List D)) : Slot := .ox (l :: ls) (GI K l ks ls dss)
theorem valI_some : ∀ {ks : List Key} {xs : List V} {k : Key} {z : V}, valV (ks.zip xs) k = some z → ∃ n : Nat, ks[n]? = some k ∧ xs[n]? = some z
  | [], _, k, z, h => by cases h
  | _ :: _, [], k, z, h => by cases h
  | j :: js, y :: ys, k, z, h => by
    rw [List.zip_cons_cons] at h
    by_cases e : j = k
    · rw [valV_pos (p := (j, y)) e] at h
      cases h
      exact ⟨0, by simp [e], rfl⟩
    · rw [valV_neg (p := (j, y)) (k := k) e] at h
      obtain ⟨n, h1, h2⟩ := valI_some h
      exact ⟨n + 1, by simpa using h1, by simpa using h2⟩
theorem valI_no : ∀ {ks : List Key} {xs : List V} {k : Key}, ks.length = xs.length → valV (ks.zip xs) k = none → k ∉ ks
  | [], _, k, _, _ => by simp
  | _ :: _, [], k, h, _ => by simp at h
  | j :: js, y :: ys, k, hl, h => by
    rw [List.zip_cons_cons] at h
    by_cases e : j = k
    · rw [valV_pos (p := (j, y)) e] at h
      cases h
    · rw [valV_neg (p := (j, y)) (k := k) e] at h
      have := valI_no (by simpa using hl) h
      simp [this, Ne.symm e]
section
variable {K : PySem.W.Frag} {H₀ F F' H H' : Hp} {σ : St} {sd : List Slot} {i : Nat} {l : Addr} {ks : List Key} {ls : List Addr} {dss : List (List D)}
theorem oI_get (S : StF K H₀ F H σ sd) (hs : sd[i]? = some (oI K l ks ls dss)) : σ[i]? = some (some (.ref l)) ∧ (∀ a ∈ l :: ls, F a = none) ∧ H l = some (.dK (ks.zip (ls.map V.ref))) ∧ ks.length = ls.length ∧ InD K F H ls dss ∧ (l :: ls).Nodup := by
  obtain ⟨o, h1, v, h2, h3, h4⟩ := S.slots.get hs
  obtain ⟨e, g1, g2, g3⟩ := h4 F H (Same.refl _) fun _ _ _ q => q
  subst e h2
  exact ⟨h1, fun a ha => (h3 a ha).1, g1, g2, g3, ownT_nodup S.nd hs⟩
theorem oI_mk (hF : ∀ a ∈ l :: ls, F a = none) (h1 : H l = some (.dK (ks.zip (ls.map V.ref)))) (hl : ks.length = ls.length) (h2 : InD K F H ls dss) : SlotOk K F H (oI K l ks ls dss) (some (.ref l)) := by
  refine ⟨.ref l, rfl, fun a ha => ⟨hF a ha, ?_⟩, fun F' H' s k => ⟨rfl, k l List.mem_cons_self _ h1, hl, h2.mono2 s fun a ha ob e => k a (List.mem_cons_of_mem _ ha) ob e⟩⟩
  rcases List.mem_cons.mp ha with rfl | ha
  · exact ⟨_, h1, trivial⟩
  · obtain ⟨t, ht⟩ := List.getElem?_of_mem ha
    obtain ⟨_, xs, _, q, _⟩ := h2.get ht
    exact ⟨_, q, trivial⟩
theorem smp_updO {o : HO} (h : Smp H) (a : Addr) (z : SmpO o) : Smp (upd H a o) := fun b u e => by
  by_cases q : b = a
  · subst q
    rw [upd_same] at e
    cases e
    exact z
  · rw [upd_ne q] at e
    exact h _ _ e
end
section
variable {X : Cx} {sd : List Slot} {e a b c tg iter : Expr} {pos : Pos} {d : D} {ds : List D} {ks : List Key} {st : Stmt} {E : EndD} {l : Addr} {ls : List Addr} {dss : List (List D)}
theorem psd_dnewI (i : Nat) {x : Str} {p p2 : Pos} (hN : X.N.Nodup) (hi : X.N[i]? = some x) (hx : Loc X.env.scope x) (hE : ∀ l, E.nx (sd.set i (oI X.K l [] [] []))) (hs : swapsWith (.Dict [] [] p2) (some (.Name x p)) pos.line X.env = pure false := by rfl)
    (hf : X.fn x = true ∨ X.env.scope.names.lookup x = some .local := by first | exact .inl rfl | exact .inr rfl | assumption) : PSd1 X sd (.Assign [.Name x p] (.Dict [] [] p2) pos) E := .mk fun σ F H S =>
  (ps_set hN hi hx pe_dnewK hs hf).to fun q hq => by
    have fp : F q = none := S.sub.free hq
    have no : q ∉ owned sd := fun hl => by
      obtain ⟨_, ob, h, _⟩ := S.slots.owns hl
      rw [hq] at h
      cases h
    have S1 : StF X.K X.B₀ F (upd H q (.dK [])) σ sd := by
      refine ⟨S.base, fun b u e => ?_, smp_updO S.smp q trivial, S.slots.mono (Same.refl _) fun l hl => ?_, S.nd⟩
      · rw [upd_ne (ne_of_none e fp)]
        exact S.sub _ _ e
      · obtain ⟨n, ys, y, _⟩ := S.slots.owns hl
        have hne : l ≠ q := ne_of_none y hq
        exact ⟨n, fun ys e => by rw [upd_ne hne]; exact e⟩
    refine ⟨_, F, S1.setT i (oI_mk (K := X.K) (ks := []) (ls := []) (dss := []) (fun a ha => by rw [List.mem_singleton.mp ha]; exact fp) upd_same rfl trivial) (by simp) fun a ha => ?_, Same.refl _, hE q⟩
    rw [List.mem_singleton.mp ha]
    exact no
/-- x.setdefault(b, []).append(e), whole numbers as keys -/
theorem psd_sdAppI (i : Nat) {x : Str} {p ap1 cp1 p5 ap cp : Pos} {k : Int} (hs : sd[i]? = some (oI X.K l ks ls dss)) (hx : PE X (.Name x p) (tVar i)) (hb : PEd X sd b (.val (.int k))) (h : ∀ z, PEd X (sd.set i z) e (.val d)) (hl : dss.length ≤ 1000) (hl2 : ∀ ds ∈ dss, ds.length ≤ 1000)
    (hE1 : ∀ n ds, ks[n]? = some (.inl k) → dss[n]? = some ds → E.nx (sd.set i (oI X.K l ks ls (dss.set n (ds ++ [d])))))
    (hE2 : (.inl k : Key) ∉ ks → ∀ a, E.nx (sd.set i (oI X.K l (ks ++ [.inl k]) (ls ++ [a]) (dss ++ [[d]]))))
    (hm : PE X (.Call (.Attribute (.Call (.Attribute (.Name x p) "setdefault" ap1) [b, .List [] p5] [] cp1) "append" ap) [e] [] cp)
      (tBM X.K "list" rAppend (tBM X.K "dict" rSI (tVar i) (tCons (wE X b) (tCons (wE X (.List [] p5)) tNil))) (tCons (wE X e) tNil)) := by
        exact pe_bm PySem.F.plainAttrs_list PySem.F.slot_list_append PySem.F.type_list_append mt_append (pe_bm PySem.F.plainAttrs_dict PySem.F.slot_dict_setdefault PySem.F.type_dict_setdefault mt_sdI (pv _) (pa_cons pe_w (pa_cons pe_w pa_nil))) (pa_cons pe_w pa_nil))
    (hsw : swapsWith (.Call (.Attribute (.Call (.Attribute (.Name x p) "setdefault" ap1) [b, .List [] p5] [] cp1) "append" ap) [e] [] cp) none pos.line X.env = pure false := by rfl) :
    PSd1 X sd (.Expr (.Call (.Attribute (.Call (.Attribute (.Name x p) "setdefault" ap1) [b, .List [] p5] [] cp1) "append" ap) [e] [] cp) pos) E := .mk fun σ F H S =>
  (ps_expr hm hsw).to (by
    obtain ⟨h1, h2, h3, hk, h4, h5⟩ := oI_get S hs
    have il : i < sd.length := (List.getElem?_eq_some_iff.mp hs).1
    have fin : ∀ (F2 H2 : Hp) (ks2 : List Key) (ls2 : List Addr) (dss2 : List (List D)) (n : Nat) (ad : Addr) (ds : List D), StF X.K X.B₀ F2 H2 σ (sd.set i (oI X.K l ks2 ls2 dss2)) → Same F F2 → ls2[n]? = some ad → dss2[n]? = some ds → ds.length ≤ 1000 → E.nx (sd.set i (oI X.K l ks2 ls2 (dss2.set n (ds ++ [d])))) →
        tyV X.K "list" (.ref ad) H2 ∧ (tCons (wE X e) tNil) σ H2 fun xs H3 => rAppend (.ref ad) xs H3 fun _ H4 => (lft X F E).nx σ H4 := fun F2 H2 ks2 ls2 dss2 n ad ds S2 s2 hn hd hdl hE => by
      have hs2 : (sd.set i (oI X.K l ks2 ls2 dss2))[i]? = some (oI X.K l ks2 ls2 dss2) := List.getElem?_set_self il
      obtain ⟨g1, g2, _, gk, g4, g5⟩ := oI_get S2 hs2
      obtain ⟨ds', xs, e1, e2, e3⟩ := g4.get hn
      refine ⟨.inl ⟨rfl, xs, .of e2⟩, (h _ σ F2 H2 S2).imp fun v H3 ⟨F3, S3, s3, q3⟩ => ?_⟩
      obtain ⟨f1, f2, f3, fk, f4, f5⟩ := oI_get S3 hs2
      obtain ⟨ds3, xs3, u1, u2, u3⟩ := f4.get hn
      rw [hd] at u1
      cases u1
      have nl : l ≠ ad := fun z => (List.nodup_cons.mp f5).1 (z ▸ List.mem_of_getElem? hn)
      have W : StF X.K X.B₀ F3 (upd H3 ad (.lst (xs3 ++ [v]))) σ ((sd.set i (oI X.K l ks2 ls2 dss2)).set i (oI X.K l ks2 ls2 (dss2.set n (ds ++ [d])))) := S3.reT (z' := oI X.K l ks2 ls2 (dss2.set n (ds ++ [d]))) hs2 f1 (fun b ob hb q => by
        rw [upd_ne (show b ≠ ad from fun z => hb (z ▸ List.mem_cons_of_mem _ (List.mem_of_getElem? hn)))]
        exact q) (smp_updO S3.smp ad trivial) (oI_mk f2 (by rw [upd_ne nl]; exact f3) fk (f4.set (List.nodup_cons.mp f5).2 hn (u3.app (.one q3)))) f5 fun a ha => .inl ha
      rw [set_set] at W
      exact ⟨ad, xs3, v, rfl, rfl, u2, by rw [u3.len]; exact small1000 hdl, _, F3, W, s2.trans s3, hE⟩
    refine ⟨.ref l, h1, .inr (.inr (.inl ⟨rfl, .inl ⟨_, h3⟩⟩)), (hb σ F H S).imp fun v1 H1 ⟨F1, S1, s1, q1⟩ => ((pd_lst (ds := []) pad_nil (Nat.zero_le _) : PEd X sd (.List [] p5) (.own [])) σ F1 H1 S1).imp fun v2 H2 ⟨F2, S2, s2, q2⟩ => ?_⟩
    obtain ⟨g1, g2, g3, gk, g4, g5⟩ := oI_get S2 hs
    simp only [ResOk, Rep] at q1
    subst q1
    obtain ⟨a, xs, rfl, fa, ha2, rl2, na⟩ := q2
    have xn : xs = [] := List.eq_nil_of_length_eq_zero (by rw [rl2.len]; rfl)
    subst xn
    have zl : (ks.zip (ls.map V.ref)).length = dss.length := by rw [List.length_zip, List.length_map, ← gk, Nat.min_self, gk, g4.len]
    refine ⟨l, .inl k, .ref a, ks.zip (ls.map V.ref), rfl, rfl, g3, by rw [zl]; have := small1000 hl; omega, fun z hz => ?_, fun hz => ?_⟩
    · obtain ⟨n, e1, e2⟩ := valI_some hz
      rw [List.getElem?_map] at e2
      obtain ⟨an, e3, rfl⟩ := Option.map_eq_some_iff.mp e2
      obtain ⟨ds, xs, d1, d2, d3⟩ := g4.get e3
      have S2' : StF X.K X.B₀ F2 H2 σ (sd.set i (oI X.K l ks ls dss)) := by rw [slot_same hs]; exact S2
      exact fin F2 H2 ks ls dss n an ds S2' (s1.trans s2) e3 d1 (hl2 ds (List.mem_of_getElem? d1)) (hE1 n ds e1 d1)
    · have hne : a ∉ l :: ls := fun z => na (List.mem_flatMap.mpr ⟨_, List.mem_of_getElem? hs, z⟩)
      have hal : a ≠ l := fun z => hne (z ▸ List.mem_cons_self)
      have ez : ks.zip (ls.map V.ref) ++ [((Sum.inl k : Key), V.ref a)] = (ks ++ [(Sum.inl k : Key)]).zip ((ls ++ [a]).map V.ref) := by
        rw [List.map_append, List.zip_append (by rw [List.length_map]; exact gk)]
        rfl
      have S3 : StF X.K X.B₀ F2 (upd H2 l (.dK (ks.zip (ls.map V.ref) ++ [((Sum.inl k : Key), V.ref a)]))) σ (sd.set i (oI X.K l (ks ++ [.inl k]) (ls ++ [a]) (dss ++ [[]]))) := by
        refine S2.reT (z' := oI X.K l (ks ++ [.inl k]) (ls ++ [a]) (dss ++ [[]])) hs g1 (fun b ob hb q => ?_) (smp_updO (o := .dK (ks.zip (ls.map V.ref) ++ [((Sum.inl k : Key), V.ref a)])) S2.smp l trivial) (oI_mk (fun b hb => ?_) (by rw [upd_same, ez]) (by rw [List.length_append, List.length_append, gk]; rfl) ?_) ?_ fun b hb => ?_
        · rw [upd_ne (show b ≠ l from fun z => hb (z ▸ List.mem_cons_self))]
          exact q
        · rcases List.mem_cons.mp hb with rfl | hb
          · exact g2 _ List.mem_cons_self
          · rcases List.mem_append.mp hb with hb | hb
            · exact g2 b (List.mem_cons_of_mem _ hb)
            · rw [List.mem_singleton.mp hb]
              exact fa
        · refine InD.snoc (g4.mono2 (Same.refl _) fun b hb ob q => ?_) ?_
          · rw [upd_ne (show b ≠ l from fun z => (List.nodup_cons.mp g5).1 (z ▸ hb))]
            exact q
          · rw [upd_ne hal]
            exact ha2
        · show (l :: (ls ++ [a])).Nodup
          refine List.nodup_cons.mpr ⟨fun z => ?_, List.nodup_append.mpr ⟨(List.nodup_cons.mp g5).2, by simp, fun x hx y hy e => ?_⟩⟩
          · rcases List.mem_append.mp z with z | z
            · exact (List.nodup_cons.mp g5).1 z
            · exact hal (List.mem_singleton.mp z).symm
          · rw [List.mem_singleton.mp hy] at e
            exact hne (List.mem_cons_of_mem _ (e ▸ hx))
        · rcases List.mem_cons.mp hb with rfl | hb
          · exact .inl List.mem_cons_self
          · rcases List.mem_append.mp hb with hb | hb
            · exact .inl (List.mem_cons_of_mem _ hb)
            · rw [List.mem_singleton.mp hb]
              exact .inr na
      have hE := hE2 (valI_no (by rw [List.length_map]; exact gk) hz) a
      have en : (dss ++ [[]]).set dss.length ([] ++ [d]) = dss ++ [[d]] := by simp
      exact fin F2 _ (ks ++ [.inl k]) (ls ++ [a]) (dss ++ [[]]) dss.length a [] S3 (s1.trans s2) (by rw [← g4.len]; simp) (by simp) (Nat.zero_le _) (by rw [en]; exact hE))
/-- it is given to all -/
theorem psd_frzI (i : Nat) {sts : List Stmt} (hs : sd[i]? = some (oI X.K l ks ls dss)) (h : PSd X (sd.set i (.val (.dki ks (dss.map D.lst)))) sts E) : PSd X sd sts E := .mk fun σ F H S pins s I => by
  obtain ⟨h1, h2, h3, hk, h4, h5⟩ := oI_get S hs
  obtain ⟨ob, I'⟩ := inv_frz I S.smp h3 (S.h0 (h2 l List.mem_cons_self))
  have S0 := S.le (le_set_un sd i)
  have no : ∀ b ∈ owned (sd.set i .un), b ∉ l :: ls := fun b hb z => not_ownedZ S.nd hs z hb
  have nl : ∀ b ∈ ls, b ≠ l := fun b hb z => (List.nodup_cons.mp h5).1 (z ▸ hb)
  obtain ⟨F2, eF⟩ : ∃ F2, F2 = upd (inF F H (l :: ls)) l (.frz ob (.dK (ks.zip (ls.map V.ref)))) := ⟨_, rfl⟩
  have s1 : Same F F2 := fun b u e => by
    have hb : b ∉ l :: ls := fun z => by rw [h2 b z] at e; cases e
    rw [eF, upd_ne (show b ≠ l from fun z => hb (z ▸ List.mem_cons_self)), inF_ni hb]
    exact e
  have fl : ∀ b ∈ ls, F2 b = H b := fun b hb => by rw [eF, upd_ne (nl b hb), inF_in (List.mem_cons_of_mem _ hb)]
  have S1 : StF X.K X.B₀ F2 (upd H l (.frz ob (.dK (ks.zip (ls.map V.ref))))) σ (sd.set i .un) := by
    refine ⟨fun b u e => s1 _ _ (S0.base _ _ e), fun b u e => ?_, smp_updO S0.smp l trivial, S0.slots.mono s1 fun l' hl => ?_, S0.nd⟩
    · by_cases h : b = l
      · subst h
        rw [eF, upd_same] at e
        rw [upd_same]
        exact e
      · rw [upd_ne h]
        by_cases hb : b ∈ ls
        · rw [fl b hb] at e
          exact e
        · rw [eF, upd_ne h, inF_ni (by simp [h, hb])] at e
          exact S0.sub _ _ e
    · have hn := no l' hl
      have hne : l' ≠ l := fun z => hn (z ▸ List.mem_cons_self)
      refine ⟨?_, fun ys e => by rw [upd_ne hne]; exact e⟩
      rw [eF, upd_ne hne, inF_ni hn]
      exact (S0.slots.owns hl).1
  have r2 : RepL X.K F2 (dss.map D.lst) (ls.map V.ref) := rep_dss (h4.mono2 s1 fun a ha ob e => by rw [fl a ha]; exact e)
  have S2 := S1.set (d := .dki ks (dss.map D.lst)) (v := .ref l) i (by simp only [Rep]; exact ⟨l, ls.map V.ref, rfl, ⟨ob, by rw [eF, upd_same]⟩, by rw [List.length_map, hk, h4.len], r2⟩)
  rw [set_set, set_same h1] at S2
  exact lft_up s1 (h σ _ _ S2) pins s I'
/-! ### for k in d -/
def Itk (a : Addr) (ob : Obj) (kvs : List (Key × V)) : It where
  go := fun i H => H a = some (.frz ob (.dK kvs)) ∧ i < kvs.length
  yld := fun i H x H' => H' = H ∧ ∃ p, kvs[i]? = some p ∧ x = kV p.1
  stop := fun i H => H a = some (.frz ob (.dK kvs)) ∧ kvs.length ≤ i
theorem kV_of {P : Program} {w : World} {k : Key} {u : Value} (h : (mixKind P w).is k u = true) : RelV (kV k) u := by
  rw [mixKind_is] at h
  cases k with
  | inl i =>
    have h : Value.isInt i u = true := h
    cases u with
    | int j t =>
      have e : j = i := by simpa [Value.isInt] using h
      rw [e]
      exact ⟨t, rfl⟩
    | _ => cases h
  | inr x =>
    have h : Value.isStrOf x u = true := h
    cases u with
    | str j t =>
      have e : j = x := by simpa [Value.isStrOf] using h
      rw [e]
      exact ⟨t, rfl⟩
    | _ => cases h
theorem dat_of {P : Program} {w : World} {H : Hp} {h : Heap} {a : Addr} {ob : Obj} {kvs : List (Key × V)} {es : Array DictEntry} {ep : Nat} (hd : ob.data = .dict es ep) (ok : ObjOk P w H h a (.frz ob (.dK kvs))) : ∃ vs, KV kvs vs ∧ h.DictAt (mixKind P w) a vs ep := by
  obtain ⟨g, _, _, vs, rel, o, es', ep', g', c, d, r⟩ := ok
  rw [g] at g'
  cases g'
  rw [hd] at d
  cases d
  exact ⟨vs, rel, ob, es, g, c, hd, r⟩
theorem KV.get {κ : Type} : ∀ {kvs : List (κ × V)} {vs : List (κ × Value)} {i : Nat} {p : κ × V}, KV kvs vs → kvs[i]? = some p → ∃ v, vs[i]? = some (p.1, v)
  | _, _, i, p, .nil, h => by simp at h
  | _, _, 0, p, .cons (b := q) r t, h => by
    simp at h
    subst h
    exact ⟨q.2, by simp [r.1]⟩
  | _, _, i + 1, p, .cons r t, h => by
    obtain ⟨v, e⟩ := KV.get t (by simpa using h)
    exact ⟨v, by simpa using e⟩
theorem turn_keys {P : Program} {w : World} {K : PySem.W.Frag} {tg : Expr} {a : Addr} {ob : Obj} {kvs : List (Key × V)} {es : Array DictEntry} {ep : Nat} (hd : ob.data = .dict es ep) (it : Addr) : Turn P w K tg (Itk a ob kvs) [it] it (fun i h => h.IsKeyIter it a i kvs.length ep) where
  mem := by simp
  obj := fun i h st b hb => by
    have e : b = it := by simpa using hb
    subst e
    obtain ⟨o, e, c, d⟩ := st
    exact ⟨o, e, fun v z => by rw [d] at z; cases z⟩
  keep := fun i h h' st k => by
    obtain ⟨o, e, c, d⟩ := st
    exact ⟨o, k it (by simp) o e, c, d⟩
  item := by
    intro X hP hw hK hc i pins s σ H E I hf st hg
    subst hP hw hK
    obtain ⟨hq, hx⟩ := hg
    obtain ⟨vs, rel, dat⟩ := dat_of hd (I.hok a _ hq)
    have hp : kvs[i]? = some kvs[i] := by simp [hx]
    obtain ⟨v, hv⟩ := KV.get rel hp
    obtain ⟨f0, f1, f2, f3, f4, f5⟩ := hf it (by simp)
    refine wpAny_pyNext_dict_item (by rw [← rel.length]; exact st) dat hv fun key h' hk st' sb => ?_
    have I1 : Inv X pins σ H { s with heap := h' } := I.turned (t' := s.toks) (fun b o hb e => (sb.2 b hb).trans e) f0 f1 f3 f4 f5
    obtain ⟨o, e, c, d⟩ := id st'
    exact ⟨key, rfl, go_of (s := { s with heap := h' }) e c d (by decide) ⟨kV kvs[i].1, H, I1, kV_of hk, ⟨rfl, _, hp, rfl⟩, by rw [rel.length]; exact st', fun b hb => (hf b hb).1⟩⟩
  done := by
    intro X hP hw hK hc i pins s σ H E I hf st hg
    subst hP hw hK
    obtain ⟨hq, hx⟩ := hg
    obtain ⟨vs, rel, dat⟩ := dat_of hd (I.hok a _ hq)
    obtain ⟨f0, f1, f2, f3, f4, f5⟩ := hf it (by simp)
    have hl := rel.length
    exact wpAny_pyNext_dict_end (I.ok.hd hc) (by rw [← rel.length]; exact st) dat (by simp; omega) fun h' eb => ⟨rfl, I.turned (t' := s.toks) (fun b o hb e => eb b o hb e) f0 f1 f3 f4 f5⟩
  self := fun _ _ _ _ _ st h => wpAny_pyIter_keyiter st h
theorem pid_keys (h : PEd X sd iter (.val (.dki ks ds))) : PId X sd PT0 tg iter (ks.map kD) := .mk fun σ F H S pins s I => by
  refine thn (h σ F H S pins s I) fun v s1 ⟨x, H1, I1, r1, F1, S1, s1', q1⟩ => ?_
  simp only [ResOk, Rep] at q1
  obtain ⟨a, xs, rfl, ⟨ob, ha⟩, ln, rl⟩ := q1
  cases r1
  have ok := I1.hok a _ (S1.sub _ _ ha)
  obtain ⟨g, _, hsm, vs, rel, o, es, ep, g', c, d, r⟩ := id ok
  rw [g] at g'
  cases g'
  obtain ⟨vs, rel, dat⟩ := dat_of d ok
  refine wpAny_pyIter_dict hsm dat ?_
  have zl : (ks.zip xs).length = (ks.map kD).length := by rw [List.length_zip, rl.len, ← ln, Nat.min_self, List.length_map]
  refine ⟨s1.heap.objs.size, [s1.heap.objs.size], _, Itk a ob (ks.zip xs), H1, rfl, I1.kept (t' := s1.toks) fun b o e => Heap.get?_push_of_some _ e, turn_keys d _, ⟨_, Heap.get?_push_size _ rfl, rfl, by rw [rel.length]; rfl⟩, fun b hb => ?_, F1, S1, s1', fun F' H' sF sH sm _ i => ?_⟩
  · have e : b = s1.heap.objs.size := by simpa using hb
    subst e
    exact I1.fpOk (Nat.le_refl _) (I1.hok.fresh (Nat.le_refl _))
  · have ha' := sH _ _ (sF _ _ ha)
    refine ⟨fun hi => ⟨ha', by rw [zl]; exact hi⟩, fun hi => ⟨ha', by rw [zl]; exact hi⟩, fun x H2 dd hdd y => ?_⟩
    obtain ⟨rfl, p, hp, rfl⟩ := y
    rw [List.getElem?_map] at hdd
    obtain ⟨k, hk, rfl⟩ := Option.map_eq_some_iff.mp hdd
    have e : p.1 = k := by
      have := (List.getElem?_zip_eq_some.mp hp).1
      rw [hk] at this
      exact (Option.some.inj this).symm
    rw [e]
    refine ⟨F', Same.refl _, ?_, fun _ _ _ S => S⟩
    cases k <;> simp only [kD, kV, Rep]
/-! ### d == {} -/
theorem for0 {α : Type} (b : α) (f : Nat → α → Sem (ForInStep α)) : (forIn [:0] b f : Sem α) = pure b := by
  rw [Std.Legacy.Range.forIn_eq_forIn_range']
  rfl
theorem meets_eq0 {prog : Program} {w : World} (a b : Addr) : MeetsIn prog w (Builtin.«dict.__eq__» ⟨[.ref a, .ref b], []⟩) (fun A R s => (a == sysModules) = false ∧ (b == sysModules) = false ∧ ∃ oa es ep ob ep', s.heap.get? a = some oa ∧ oa.ExactDict ∧ oa.data = .dict es ep ∧ s.heap.get? b = some ob ∧ ob.ExactDict ∧ ob.data = .dict #[] ep' ∧ R (.ok (.ret (.bool (decide (es.size = 0))))) s) :=
  .of_wp fun A R s ⟨sa, sb, oa, es, ep, ob, ep', ga, ca, da, gb, cb, db, hR⟩ => by
    show wpAny _ _ (Builtin.Dict.dictSlotArgs "__eq__" ⟨[.ref a, .ref b], []⟩ >>= _) _ _ s
    refine wpAny_bind ?_
    unfold Builtin.Dict.dictSlotArgs
    refine wpAny_bind (wpAny_notOrdered_dict ⟨oa, ga, ca.1⟩ ?_)
    show wpAny _ _ (pure (Value.ref a, Value.ref b)) _ _ s
    refine wpAny_pure ?_
    refine wpAny_bind (wpAny_isInstance (T := "dict") (b := true) ⟨ob, gb, cb.1⟩ (by with_unfolding_all rfl) ?_)
    rw [if_neg (by decide)]
    refine wpAny_bind (wpAny_pure (wpAny_bind (wpAny_pure (wpAny_bind ?_))))
    unfold Builtin.Dict.samePairs Builtin.Dict.showsAll
    rw [sa, sb]
    refine wpAny_bind (wpAny_pure (wpAny_bind (wpAny_pure (wpAny_bind (wpAny_dictEntries ga da (wpAny_bind (wpAny_dictEntries gb db ?_)))))))
    by_cases z : es.size = 0
    · rw [if_neg (by simp [z])]
      refine wpAny_bind (wpAny_dictEpoch ga da ?_)
      rw [z]
      refine wpAny_bind ?_
      rw [for0]
      refine wpAny_pure (wpAny_pure (wpAny_pure ⟨_, rfl, ?_⟩))
      rw [z] at hR
      exact hR
    · rw [if_pos (by simp [z])]
      refine wpAny_bind (wpAny_rule (wpAny_pure (wpAny_pure ⟨_, rfl, ?_⟩)))
      rw [decide_eq_false z] at hR
      exact hR
theorem op_eq0 (hu : X.A.units < cLine) : OpR X (compareOp .Eq) (fun x y H Q => ∃ a b ob kvs, x = .ref a ∧ y = .ref b ∧ H a = some (.frz ob (.dK kvs)) ∧ H b = some (.dK []) ∧ Q (.bl kvs.isEmpty) H) := by
  intro pins s σ H x y v u Q I rx ry h
  obtain ⟨a, b, ob, kvs, rfl, rfl, ha, hb, q⟩ := h
  obtain rfl : v = Value.ref a := rx
  obtain rfl : u = Value.ref b := ry
  obtain ⟨ga, _, sa, vs, rel, o, es, ep, g', ca, da, _, pa, _⟩ := I.hok a _ ha
  rw [ga] at g'
  cases g'
  obtain ⟨_, sb, ws, rel2, o2, es2, ep2, gb, cb, db, _, pb, _⟩ := I.hok b _ hb
  have w0 : ws = [] := List.eq_nil_of_length_eq_zero (by rw [← rel2.length]; rfl)
  subst w0
  have e0 : es2 = #[] := by
    have := pb.length
    rw [List.length_nil] at this
    exact Array.eq_empty_of_size_eq_zero (by simpa using this)
  subst e0
  have ln : es.size = kvs.length := by
    have := pa.length
    rw [← rel.length] at this
    simpa using this
  show wpAny _ _ (richCompare .Eq (.ref a) (.ref b)) _ _ _
  refine wpAny_richCompare_same_room (T := "dict") ⟨_, ga, ca.1⟩ ⟨_, gb, cb.1⟩ PySem.F.slot_dict_eq (call_meetsIn PySem.F.slot_dict_eq ⟨_, ga, ca.1⟩ PySem.F.entry_dict_eq (PySem.F.args_dict_eq_2 _ _) (meets_eq0 a b) ⟨sa, sb, _, es, ep, _, ep2, ga, ca, da, gb, cb, db, ?_⟩) hu
  refine ⟨fun z => (by cases z), V.bl kvs.isEmpty, H, I, ?_, q⟩
  show Value.bool _ = Value.bool _
  congr 1
  rw [ln]
  cases kvs <;> simp
theorem pd_eq0 (hu : X.A.units < cLine) (ha : PEd X sd a (.val (.dki ks ds))) (hb : PEd X sd b (.val .dic)) : PEd X sd (.Compare a [.Eq] [b] pos) (.val (.bl ks.isEmpty)) :=
  pd_cmp2 (op_eq0 hu) ha hb trivial (nomark _) fun σ F H v u Q S q1 q2 k => by
    simp only [ResOk, Rep] at q1 q2
    obtain ⟨p, xs, rfl, ⟨ob, hp⟩, ln, rl⟩ := q1
    obtain ⟨q, rfl, hq⟩ := q2
    refine ⟨p, q, ob, _, rfl, rfl, S.sub _ _ hp, S.sub _ _ hq, ?_⟩
    have : (ks.zip xs).isEmpty = ks.isEmpty := by
      cases ks with
      | nil => rfl
      | cons k ks =>
        have : xs.length = ks.length + 1 := by rw [rl.len, ← ln]; rfl
        cases xs with
        | nil => cases this
        | cons x xs => rfl
    rw [this]
    exact k F H S (Same.refl _)
end
end DL

namespace DL
open PySem PySem.Spec PyProof.Rows L2
section
variable {X : Cx} {sd : List Slot} {a b : Expr} {pos : Pos} {ds : List D}
theorem RepL.rep {K : PySem.W.Frag} {H : Hp} {ds : List D} {xs : List V} (r : RepL K H ds xs) : ∀ k : Nat, RepL K H (List.replicate k ds).flatten (List.replicate k xs).flatten
  | 0 => .nil
  | k + 1 => by
    rw [List.replicate_succ, List.replicate_succ, List.flatten_cons, List.flatten_cons]
    exact r.app (RepL.rep r k)
theorem pd_repL {k : Nat} (ha : PEd X sd a (.bor ds)) (hb : PEd X sd b (.val (.int (k : Int)))) (hk : k ≤ 1000) (hz : ds.length * k ≤ 1000) : PEd X sd (.BinOp a .Mult b pos) (.own (List.replicate k ds).flatten) :=
  pd_op2 op_rep ha hb trivial fun σ F H v u Q S q1 q2 kk => by
    simp only [ResOk, Rep] at q2
    subst q2
    obtain ⟨l, xs, rfl, hl, rl, _⟩ := q1
    refine ⟨l, (k : Int), xs, rfl, rfl, hl, by omega, by omega, by rw [rl.len, Int.toNat_natCast, sizeLine_eq]; omega, fun p hp => ?_⟩
    rw [Int.toNat_natCast]
    obtain ⟨S2, fp, no⟩ := S.layO (xs := (List.replicate k xs).flatten) hp
    exact kk _ F _ S2 (Same.refl _) ⟨p, _, rfl, fp, upd_same, rl.rep k, no⟩
end
end DL

namespace DL
open PySem PySem.Spec PyProof.Rows L2
/-! ### a list that holds a wish of ours and a number -/
def GW (K : PySem.W.Frag) (m : List Bool) (l0 l : Addr) (ls : List Addr) (dss : List (List D)) : V → Hp → Hp → Prop := fun v F H => v = .ref l0 ∧ H l0 = some (.lst [.ref l, .int 0]) ∧ H l = some (.lst (shp V.non V.ref m ls)) ∧ InD K F H ls dss
def oW (K : PySem.W.Frag) (m : List Bool) (l0 l : Addr) (ls : List Addr) (dss : List (List D)) : Slot := .ox (l0 :: l :: ls) (GW K m l0 l ls dss)
def wR (K : PySem.W.Frag) (m : List Bool) (dss : List (List D)) : R := .ox fun v as F H => ∃ l0 l ls, as = l0 :: l :: ls ∧ GW K m l0 l ls dss v F H
section
variable {X : Cx} {sd : List Slot} {e a b c ix : Expr} {es : List Expr} {pos : Pos} {d : D} {ds : List D} {E : EndD} {l : Addr} {ls : List Addr} {dss : List (List D)} {m : List Bool}
/-- x[0] = e, x the list [None, 0], e a fresh wish -/
theorem psd_setixW (i : Nat) {x : Str} {p tp p2 : Pos} {j : Nat} {l0 : Addr} (hs : sd[i]? = some (.own l0 [.non, .int 0])) (hx : PE X (.Name x p) (tVar i)) (h : PEd X sd e (ooR X.K m dss)) (hE : ∀ l ls, E.nx (sd.set i (oW X.K m l0 l ls dss)))
    (ha : ∀ v, assign (.Subscript (.Name x p) (.Constant (.int 0) j p2) tp) X.env v = (do
      let ov ← holding [v] (eval (.Name x p) X.env)
      let iv ← holding [v, ov] (eval (.Constant (.int 0) j p2) X.env)
      standAt tp
      holding [v, ov, iv] (setItem ov iv v)
      release [v, ov, iv] []) := by intro _; rfl)
    (hs1 : swapsWithSole [.Subscript (.Name x p) (.Constant (.int 0) j p2) tp] e pos.line X.env = pure false := by rfl) (hw : swappedStores [.Subscript (.Name x p) (.Constant (.int 0) j p2) tp] e X.env = pure none := by rfl)
    (h1 : (assignEach [.Subscript (.Name x p) (.Constant (.int 0) j p2) tp] X.env).map (·.2) = [assign (.Subscript (.Name x p) (.Constant (.int 0) j p2) tp) X.env] := by rfl) : PSd1 X sd (.Assign [.Subscript (.Name x p) (.Constant (.int 0) j p2) tp] e pos) E := .mk fun σ F H S =>
  (ps_asg pe_w (pg_sub hx pe_int set_list ha) hs1 hw h1).to ((h σ F H S).imp fun v H1 ⟨F1, S1, s1, as, nd, q, g⟩ => by
    obtain ⟨l, ls, rfl, rfl, g1, g2⟩ := g F1 H1 (Same.refl _) fun _ _ _ z => z
    obtain ⟨o, k1, k2, n1, xs, q0, rl⟩ := S1.slots.get hs
    have ex : xs = [.non, .int 0] := by
      obtain ⟨y, ys, rfl, r1, rl⟩ := rl.uncons
      obtain ⟨z, zs, rfl, r2, rl⟩ := rl.uncons
      simp only [Rep, RepL] at r1 r2 rl
      rw [r1, r2, rl]
    subst ex
    have ow : l0 ∈ owned sd := List.mem_flatMap.mpr ⟨_, List.mem_of_getElem? hs, List.mem_singleton_self l0⟩
    have nl : ∀ b ∈ l :: ls, b ≠ l0 := fun b hb z => (q b hb).2.2 (z ▸ ow)
    refine ⟨.ref l0, by rw [k1, k2], l0, _, (0 : Int), 0, rfl, rfl, q0, rfl, _, F1, S1.reT (z' := oW X.K m l0 l ls dss) hs (by rw [k1, k2]) (fun b ob hb e => ?_) (smp_updO S1.smp l0 trivial) ⟨.ref l0, rfl, fun b hb => ?_, fun F' H' sF k => ?_⟩ (List.nodup_cons.mpr ⟨fun z => nl l0 z rfl, nd⟩) (fun b hb => ?_), s1, hE l ls⟩
    · rw [upd_ne (show b ≠ l0 from fun z => hb (z ▸ List.mem_singleton_self l0))]
      exact e
    · rcases List.mem_cons.mp hb with rfl | hb
      · exact ⟨n1, _, upd_same, trivial⟩
      · obtain ⟨f1, ⟨ob, f2, f3⟩, _⟩ := q b hb
        exact ⟨f1, ob, by rw [upd_ne (nl b hb)]; exact f2, f3⟩
    · refine ⟨rfl, k l0 List.mem_cons_self _ upd_same, k l (by simp) _ (by rw [upd_ne (nl l List.mem_cons_self)]; exact g1), g2.mono2 sF fun b hb ob e => k b (by simp [hb]) ob (by rw [upd_ne (nl b (List.mem_cons_of_mem _ hb))]; exact e)⟩
    · rcases List.mem_cons.mp hb with rfl | hb
      · exact .inl (List.mem_singleton_self _)
      · exact .inr (q b hb).2.2)
/-- a, b = e, e such a list -/
theorem psd_unW (i j : Nat) {k : Nat} {tp : Pos} (hc : X.calm = true) (hg : PGs X es (gNs [i, j])) (h : PEd X sd e (wR X.K m dss)) (hE : ∀ l ls, E.nx ((sd.set i (oO X.K m l ls dss)).set j (.val (.int 0))))
    (hn : (assignEach es X.env).length = 2 := by rfl) (hst : (assignEach es X.env).findIdx? (·.1) = none := by rfl)
    (hs : swapsWithSole [.Tuple es k tp] e pos.line X.env = pure false := by rfl) (hw : swappedStores [.Tuple es k tp] e X.env = pure none := by rfl)
    (h1 : (assignEach [.Tuple es k tp] X.env).map (·.2) = [assign (.Tuple es k tp) X.env] := by rfl) : PSd1 X sd (.Assign [.Tuple es k tp] e pos) E := .mk fun σ F H S =>
  (ps_asg pe_w (pg_lst hc hg hn hst) hs hw h1).to ((h σ F H S).imp fun v H1 ⟨F1, S1, s1, as, nd, q, g⟩ => by
    obtain ⟨l0, l, ls, rfl, rfl, g0, g1, g2⟩ := g F1 H1 (Same.refl _) fun _ _ _ z => z
    have nd2 := (List.nodup_cons.mp nd).2
    have S2 := S1.setX i (oO_mk (K := X.K) (m := m) (fun b hb => (q b (List.mem_cons_of_mem _ hb)).1) g1 g2) nd2 fun b hb => (q b (List.mem_cons_of_mem _ hb)).2.2
    exact ⟨l0, _, rfl, .of g0, rfl, .ref l, _, rfl, .int 0, _, rfl, rfl, _, F1, S2.set (d := .int 0) (v := .int 0) j (by simp only [Rep]), s1, hE l ls⟩)
/-- x[ix], one of the lists of a wish of ours -/
theorem sub_oO (i : Nat) {x : Str} {p p4 : Pos} {n : Nat} {σ : St} {F H : Hp} (S : StF X.K X.B₀ F H σ sd) (hs : sd[i]? = some (oO X.K m l ls dss)) (hx : PE X (.Name x p) (tVar i)) (hi : PEd X sd ix (.val (.int (n : Int)))) (hm : m[n]? = some true) (hcnt : dss.length = m.count true) (hpx : PlainIx ix) :
    wE X (.Subscript (.Name x p) ix p4) σ H fun v H' => ∃ ad F', v = .ref ad ∧ ls[(m.take n).count true]? = some ad ∧ StF X.K X.B₀ F' H' σ sd ∧ Same F F' := (pe_ix ix_list hx pe_w hpx).to (by
  obtain ⟨h1, h2, h3, h4, h5⟩ := oO_get S hs
  refine ⟨.ref l, h1, (hi σ F H S).imp fun u H2 ⟨F2, S2, s2, q2⟩ => ?_⟩
  simp only [ResOk, Rep] at q2
  obtain ⟨g1, g2, g3, g4, g5⟩ := oO_get S2 hs
  obtain ⟨ad, e1, e2⟩ := shp_t V.non V.ref (m := m) (as := ls) (t := n) (by rw [g4.len]; exact hcnt) hm
  exact ⟨l, _, (n : Int), .ref ad, rfl, q2, .of g3, atI_nat e2, ad, F2, rfl, e1, S2, s2⟩)
/-- x[ix].clear() -/
theorem psd_clrAtO (i : Nat) {x : Str} {p p4 ap cp : Pos} {n : Nat} (hs : sd[i]? = some (oO X.K m l ls dss)) (hx : PE X (.Name x p) (tVar i)) (hi : PEd X sd ix (.val (.int (n : Int)))) (hm : m[n]? = some true) (hcnt : dss.length = m.count true) (hpx : PlainIx ix) (hE : E.nx (sd.set i (oO X.K m l ls (dss.set ((m.take n).count true) []))))
    (hmt : PE X (.Call (.Attribute (.Subscript (.Name x p) ix p4) "clear" ap) [] [] cp) (tBM0 X.K "list" rClear (wE X (.Subscript (.Name x p) ix p4))) := by exact pe_bm0 PySem.F.plainAttrs_list PySem.F.slot_list_clear PySem.F.type_list_clear mt_clear pe_w)
    (hsw : swapsWith (.Call (.Attribute (.Subscript (.Name x p) ix p4) "clear" ap) [] [] cp) none pos.line X.env = pure false := by rfl) :
    PSd1 X sd (.Expr (.Call (.Attribute (.Subscript (.Name x p) ix p4) "clear" ap) [] [] cp) pos) E := .mk fun σ F H S =>
  (ps_expr hmt hsw).to ((sub_oO i S hs hx hi hm hcnt hpx).imp fun v H1 ⟨ad, F1, ev, ha, S1, s1⟩ => by
    subst ev
    obtain ⟨g1, g2, g3, g4, g5⟩ := oO_get S1 hs
    obtain ⟨ms, xs, e1, e2, _⟩ := g4.get ha
    have S2 := S1.wrO (es := []) (ys := []) hs ha .nil
    exact ⟨.inl ⟨rfl, _, .of e2⟩, ad, _, rfl, rfl, e2, _, F1, S2, s1, hE⟩)
/-- try, and nothing is raised -/
theorem psd_tryN {body : List Stmt} {h₀ : ExceptHandler} {hs : List ExceptHandler} (hb : PSd X sd body E) (hxe : X.xe = (fun _ _ => False) := by rfl) : PSd1 X sd (.Try body (h₀ :: hs) [] [] pos) E := .mk fun σ F H S pins s I => by
  have h := hb σ F H S pins s I
  rw [hxe] at h
  refine wpAny_Try_except (wpAny_mono h (fun f s1 q => ?_) fun _ _ z => z.elim)
  cases f with
  | next =>
    obtain ⟨σ', H', I', q⟩ := q
    exact pss_nil pins s1 σ' H' (lft X F E) I' q
  | brk => exact q
  | cont => exact q
  | ret u => exact q
theorem vals_refs : ∀ {cs : List Addr} {its : List Value}, Vals (cs.map V.ref) its → its = cs.map Value.ref
  | [], _, h => by cases h; rfl
  | a :: cs, _, h => by
    cases h with
    | cons r rv =>
      rw [vals_refs rv, List.map_cons]
      cases (show _ = Value.ref a from r)
      rfl
/-- isinstance(e, (C1, C2, C3, C4)), e an exception in hand -/
theorem call_isinXT {ad C : Addr} {oe : Obj} {cs : List Addr} {k : Bool} (hp : (ad, oe) ∈ X.pn) (hc : oe.cls = .ref C) (xc : XCls X.K C) (hk : PySem.W.kitAny X.K (.ref C) (cs.map Value.ref) = some k) :
    CallR X (.builtin "isinstance") (fun xs H Q => ∃ tp, xs = [.ref ad, .ref tp] ∧ H tp = some (.tup (cs.map V.ref)) ∧ Q (.bl k) H) := by
  intro pins s σ H xs us Q I r h
  obtain ⟨tp, rfl, ht, q⟩ := h
  obtain ⟨u1, u2, rfl, r1, r2⟩ := vals2 r
  cases (show u1 = Value.ref ad from r1)
  cases (show u2 = Value.ref tp from r2)
  obtain ⟨_, its, rv, ⟨cls, dd, data, sl⟩, g, c, ⟨n, hd⟩, hdd⟩ := I.hok tp _ ht
  simp only at c hd hdd
  subst c hd hdd
  have ei := vals_refs rv
  subst ei
  exact PySem.W.kia_tup (kitx_exc xc) I.kIn ⟨oe, (I.pin _ (List.mem_append_left _ hp)).1, hc⟩ g hk (by intro q; cases q) fun tk => ⟨.bl k, H, I.tok tk, rfl, q⟩
theorem pd_isinXT (j : Nat) {ad C C1 C2 C3 C4 : Addr} {oe : Obj} {k : Bool} {y x1 x2 x3 x4 : Str} {x0 : Nat} {p p0 p1 p2 p3 p4 tp : Pos} (hp : (ad, oe) ∈ X.pn) (hc : oe.cls = .ref C) (xc : XCls X.K C) (hg : Gl X "isinstance") (hm : X.mg "isinstance" = none)
    (g1 : Gl X x1) (m1 : X.mg x1 = some (.ref C1)) (g2 : Gl X x2) (m2 : X.mg x2 = some (.ref C2)) (g3 : Gl X x3) (m3 : X.mg x3 = some (.ref C3)) (g4 : Gl X x4) (m4 : X.mg x4 = some (.ref C4)) (hk : PySem.W.kitAny X.K (.ref C) [.ref C1, .ref C2, .ref C3, .ref C4] = some k) (hj : sd[j]? = some (isA ad)) (hy : PE X (.Name y p0) (tVar j))
    (d1 : (x1 == ("__debug__" : Str)) = false := by decide) (d2 : (x2 == ("__debug__" : Str)) = false := by decide) (d3 : (x3 == ("__debug__" : Str)) = false := by decide) (d4 : (x4 == ("__debug__" : Str)) = false := by decide)
    (s1 : starEach [.Name x1 p1, .Name x2 p2, .Name x3 p3, .Name x4 p4] X.env = (false, eval (.Name x1 p1) X.env) :: starEach [.Name x2 p2, .Name x3 p3, .Name x4 p4] X.env := by rfl) (s2 : starEach [.Name x2 p2, .Name x3 p3, .Name x4 p4] X.env = (false, eval (.Name x2 p2) X.env) :: starEach [.Name x3 p3, .Name x4 p4] X.env := by rfl)
    (s3 : starEach [.Name x3 p3, .Name x4 p4] X.env = (false, eval (.Name x3 p3) X.env) :: starEach [.Name x4 p4] X.env := by rfl) (s4 : starEach [.Name x4 p4] X.env = (false, eval (.Name x4 p4) X.env) :: starEach [] X.env := by rfl)
    (he : starEach (.Name y p0 :: [.Tuple [.Name x1 p1, .Name x2 p2, .Name x3 p3, .Name x4 p4] x0 tp]) X.env = (false, eval (.Name y p0) X.env) :: starEach [.Tuple [.Name x1 p1, .Name x2 p2, .Name x3 p3, .Name x4 p4] x0 tp] X.env := by rfl)
    (hpl : (backTo pos (starEach [.Tuple [.Name x1 p1, .Name x2 p2, .Name x3 p3, .Name x4 p4] x0 tp] X.env)).any (·.1) = false := by rfl)
    (hs2 : starEach [.Tuple [.Name x1 p1, .Name x2 p2, .Name x3 p3, .Name x4 p4] x0 tp] X.env = (false, eval (.Tuple [.Name x1 p1, .Name x2 p2, .Name x3 p3, .Name x4 p4] x0 tp) X.env) :: starEach [] X.env := by rfl) :
    PEd X sd (.Call (.Name "isinstance" p) [.Name y p0, .Tuple [.Name x1 p1, .Name x2 p2, .Name x3 p3, .Name x4 p4] x0 tp] [] pos) (.val (.bl k)) := .mk fun σ F H S =>
  (pe_callB (call_isinXT (cs := [C1, C2, C3, C4]) hp hc xc hk) hg hm boot_isinstance (pa_cons hy (pa_cons (pe_tup (pa_cons (pe_glob g1 m1 (v := .ref C1) rfl d1) (pa_cons (pe_glob g2 m2 (v := .ref C2) rfl d2) (pa_cons (pe_glob g3 m3 (v := .ref C3) rfl d3) (pa_cons (pe_glob g4 m4 (v := .ref C4) rfl d4) pa_nil s4) s3) s2) s1)) pa_nil hs2) he) (by decide) (by decide) he hpl).to
    ⟨.ref ad, isA_get S hj, by show 4 ≤ sizeLine; decide, fun q hq => by
      obtain ⟨S2, s2⟩ := S.lay (o := .tup [.ref C1, .ref C2, .ref C3, .ref C4]) hq trivial
      exact ⟨q, rfl, upd_same, _, S2, s2, by simp only [ResOk, Rep]⟩⟩
end
end DL

namespace DL
open PySem PySem.Spec PyProof.Rows L2
/-! ### wishes of examples -/
abbrev Wnt := List (Option Int)
abbrev Exs := List (List Int × Wnt)
def oiD : Option Int → D
  | none => .non
  | some i => .int i
def oiO : D → Option Int
  | .int i => some i
  | _ => none
theorem oiO_D (o : Option Int) : oiO (oiD o) = o := by cases o <;> rfl
def wnD (w : Wnt) : D := .tup (w.map oiD)
def exD (x : List Int × Wnt) : D := .tup [tupI x.1, wnD x.2]
/-! two words -/
def bw : Option Int → Option Int → Option (Option Int)
  | none, b => some b
  | some x, none => some (some x)
  | some x, some y => if y = x then some (some x) else none
def bwt : Wnt → Wnt → Option Wnt
  | [], _ => some []
  | _ :: _, [] => some []
  | a :: u, b :: v => match bw a b, bwt u v with
    | some c, some x => some (c :: x)
    | _, _ => none
theorem bwt_some : ∀ {u v x : Wnt}, u.length = v.length → bwt u v = some x → x.length = u.length ∧ ∀ b, b < u.length → bw (u.getD b none) (v.getD b none) = some (x.getD b none)
  | [], [], x, _, h => by cases h; exact ⟨rfl, fun b hb => by simp at hb⟩
  | [], _ :: _, _, hl, _ => by simp at hl
  | _ :: _, [], _, hl, _ => by simp at hl
  | a :: u, b :: v, x, hl, h => by
    unfold bwt at h
    cases e1 : bw a b with
    | none => rw [e1] at h; cases h
    | some c =>
      cases e2 : bwt u v with
      | none => rw [e1, e2] at h; cases h
      | some y =>
        rw [e1, e2] at h
        cases h
        obtain ⟨l, q⟩ := bwt_some (by simpa using hl) e2
        refine ⟨by simp [l], fun i hi => ?_⟩
        cases i with
        | zero => simpa using e1
        | succ i => simpa using q i (by simpa using hi)
theorem bwt_none : ∀ {u v : Wnt}, u.length = v.length → bwt u v = none → ∃ n, n < u.length ∧ bw (u.getD n none) (v.getD n none) = none ∧ ∀ k, k < n → ∃ c, bw (u.getD k none) (v.getD k none) = some c
  | [], _, _, h => by cases h
  | _ :: _, [], _, h => by cases h
  | a :: u, b :: v, hl, h => by
    unfold bwt at h
    cases e1 : bw a b with
    | none => exact ⟨0, by simp, by simpa using e1, fun k hk => by omega⟩
    | some c =>
      cases e2 : bwt u v with
      | some y => rw [e1, e2] at h; cases h
      | none =>
        obtain ⟨n, h1, h2, h3⟩ := bwt_none (by simpa using hl) e2
        refine ⟨n + 1, by simpa using h1, by simpa using h2, fun k hk => ?_⟩
        cases k with
        | zero => exact ⟨c, by simpa using e1⟩
        | succ k => simpa using h3 k (by omega)
theorem bw_self (a : Option Int) : bw a a = some a := by
  cases a with
  | none => rfl
  | some x => exact if_pos rfl
theorem bwt_self : ∀ w : Wnt, bwt w w = some w
  | [] => rfl
  | a :: w => by
    unfold bwt
    rw [bw_self, bwt_self w]
theorem bw_l {a b c : Option Int} (h : bw a b = some c) {x : Int} (e : a = some x) : c = some x := by
  subst e
  cases b with
  | none => cases h; rfl
  | some y =>
    have h : (if y = x then some (some x) else none) = some c := h
    split at h
    · cases h; rfl
    · cases h
theorem bw_r {a b c : Option Int} (h : bw a b = some c) {x : Int} (e : b = some x) : c = some x := by
  subst e
  cases a with
  | none => cases h; rfl
  | some y =>
    have h : (if x = y then some (some y) else none) = some c := h
    split at h
    · rename_i q; cases h; rw [q]
    · cases h
theorem bw_of {a b c : Option Int} (h : bw a b = some c) {x : Int} (e : c = some x) : a = some x ∨ b = some x := by
  subst e
  cases a with
  | none => cases h; exact .inr rfl
  | some y =>
    cases b with
    | none => cases h; exact .inl rfl
    | some z =>
      have h : (if z = y then some (some y) else none) = some (some x) := h
      split at h
      · cases h; exact .inl rfl
      · cases h
theorem bw_no {a b : Option Int} (h : bw a b = none) : ∃ x y, a = some x ∧ b = some y ∧ y ≠ x := by
  cases a with
  | none => cases h
  | some x =>
    cases b with
    | none => cases h
    | some y =>
      have h : (if y = x then some (some x) else none) = none := h
      split at h
      · cases h
      · rename_i q; exact ⟨x, y, rfl, rfl, q⟩
/-! gathered -/
def gstep (G : List (List Int) × List Wnt) (x : List Int × Wnt) : Option (List (List Int) × List Wnt) :=
  if x.1 ∈ G.1 then (bwt (G.2.getD (G.1.idxOf x.1) []) x.2).map fun u => (G.1, G.2.set (G.1.idxOf x.1) u) else some (G.1 ++ [x.1], G.2 ++ [x.2])
def gthN (E : Exs) : Nat → Option (List (List Int) × List Wnt)
  | 0 => some ([], [])
  | t + 1 => (gthN E t).bind fun G => gstep G (E.getD t ([], []))
def gth (E : Exs) := gthN E E.length
structure EOk (p : Int × Int) (E : Exs) : Prop where
  fil : ∀ x ∈ E, x.1 ∈ filA p
  len : ∀ x ∈ E, x.2.length = p.2.toNat
  wd : ∀ x ∈ E, ∀ b w, x.2.getD b none = some w → 0 ≤ w ∧ w < ((2 ^ p.1.toNat : Nat) : Int)
structure GOk (n : Nat) (E : Exs) (t : Nat) (G : List (List Int) × List Wnt) : Prop where
  nd : G.1.Nodup
  ln : G.1.length = G.2.length
  mem : ∀ f, f ∈ G.1 ↔ ∃ i, i < t ∧ (E.getD i ([], [])).1 = f
  wl : ∀ u ∈ G.2, u.length = n
  has : ∀ i, i < t → ∀ b w, b < n → (E.getD i ([], [])).2.getD b none = some w → (G.2.getD (G.1.idxOf (E.getD i ([], [])).1) []).getD b none = some w
  from_ : ∀ f ∈ G.1, ∀ b w, b < n → (G.2.getD (G.1.idxOf f) []).getD b none = some w → ∃ i, i < t ∧ (E.getD i ([], [])).1 = f ∧ (E.getD i ([], [])).2.getD b none = some w
theorem gok0 (n : Nat) (E : Exs) : GOk n E 0 ([], []) := ⟨List.nodup_nil, rfl, fun f => ⟨fun h => (nomatch h), fun ⟨i, h, _⟩ => (by omega)⟩, fun u h => (nomatch h), fun i h => (by omega), fun f h => (nomatch h)⟩
theorem getD_set_ne {α : Type} {l : List α} {i j : Nat} {a d : α} (h : i ≠ j) : (l.set i a).getD j d = l.getD j d := by
  simp [List.getD, List.getElem?_set_ne h]
theorem getD_set_self {α : Type} {l : List α} {i : Nat} {a d : α} (h : i < l.length) : (l.set i a).getD i d = a := by
  simp [List.getD, h]
theorem gok_step {n : Nat} {E : Exs} {t : Nat} {G G' : List (List Int) × List Wnt} (hw : (E.getD t ([], [])).2.length = n) (O : GOk n E t G) (h : gstep G (E.getD t ([], [])) = some G') : GOk n E (t + 1) G' := by
  obtain ⟨x, ex⟩ : ∃ x, E.getD t ([], []) = x := ⟨_, rfl⟩
  rw [ex] at h hw
  have lt1 : ∀ {i : Nat}, i < t + 1 → i < t ∨ i = t := fun {i} h => by omega
  unfold gstep at h
  split at h
  · rename_i hm
    obtain ⟨u, hu, e⟩ := Option.map_eq_some_iff.mp h
    subst e
    have il : G.1.idxOf x.1 < G.1.length := List.idxOf_lt_length_of_mem hm
    have il2 : G.1.idxOf x.1 < G.2.length := by rw [← O.ln]; exact il
    have um := getD_mem (d := ([] : Wnt)) il2
    have ul := O.wl _ um
    obtain ⟨l1, l2⟩ := bwt_some (by rw [ul, hw]) hu
    have idx : ∀ f ∈ G.1, f ≠ x.1 → G.1.idxOf x.1 ≠ G.1.idxOf f := fun f hf ne e => ne (by
      have a := List.getElem_idxOf (List.idxOf_lt_length_of_mem hf)
      have b := List.getElem_idxOf il
      rw [← a, ← b]
      congr 1
      exact e.symm)
    refine ⟨O.nd, by rw [List.length_set]; exact O.ln, fun f => ?_, fun v hv => ?_, fun i hi b w hb hq => ?_, fun f hf b w hb hq => ?_⟩
    · rw [O.mem f]
      constructor
      · rintro ⟨i, h1, h2⟩
        exact ⟨i, by omega, h2⟩
      · rintro ⟨i, h1, h2⟩
        rcases lt1 h1 with q | q
        · exact ⟨i, q, h2⟩
        · subst q
          rw [ex] at h2
          rw [← h2]
          exact (O.mem _).mp hm
    · rcases List.mem_or_eq_of_mem_set hv with q | q
      · exact O.wl v q
      · rw [q, l1, ul]
    · rcases lt1 hi with q | q
      · have := O.has i q b w hb hq
        by_cases ef : (E.getD i ([], [])).1 = x.1
        · rw [ef] at this ⊢
          rw [getD_set_self il2]
          exact bw_l (l2 b (by rw [ul]; exact hb)) this
        · rw [getD_set_ne (idx _ ((O.mem _).mpr ⟨i, q, rfl⟩) ef)]
          exact this
      · subst q
        rw [ex] at hq ⊢
        rw [getD_set_self il2]
        exact bw_r (l2 b (by rw [ul]; exact hb)) hq
    · by_cases ef : f = x.1
      · subst ef
        rw [getD_set_self il2] at hq
        rcases bw_of (l2 b (by rw [ul]; exact hb)) hq with q | q
        · obtain ⟨i, h1, h2, h3⟩ := O.from_ _ hf b w hb q
          exact ⟨i, by omega, h2, h3⟩
        · exact ⟨t, by omega, by rw [ex], by rw [ex]; exact q⟩
      · rw [getD_set_ne (idx f hf ef)] at hq
        obtain ⟨i, h1, h2, h3⟩ := O.from_ f hf b w hb hq
        exact ⟨i, by omega, h2, h3⟩
  · rename_i hm
    cases h
    have il : ∀ f ∈ G.1, (G.1 ++ [x.1]).idxOf f = G.1.idxOf f := fun f hf => by rw [List.idxOf_append, if_pos hf]
    have ix : (G.1 ++ [x.1]).idxOf x.1 = G.2.length := by
      rw [List.idxOf_append, if_neg hm, O.ln]
      simp
    have g1 : ∀ f ∈ G.1, (G.2 ++ [x.2]).getD (G.1.idxOf f) [] = G.2.getD (G.1.idxOf f) [] := fun f hf => by
      have := List.idxOf_lt_length_of_mem hf
      rw [O.ln] at this
      simp [List.getD, List.getElem?_append_left this]
    have g2 : (G.2 ++ [x.2]).getD G.2.length [] = x.2 := by simp [List.getD]
    refine ⟨List.nodup_append.mpr ⟨O.nd, by simp, fun a ha b hb e => hm (by rw [← List.mem_singleton.mp hb, ← e]; exact ha)⟩, by simp [O.ln], fun f => ?_, fun v hv => ?_, fun i hi b w hb hq => ?_, fun f hf b w hb hq => ?_⟩
    · rw [List.mem_append, O.mem f, List.mem_singleton]
      constructor
      · rintro (⟨i, h1, h2⟩ | h2)
        · exact ⟨i, by omega, h2⟩
        · exact ⟨t, by omega, by rw [ex, h2]⟩
      · rintro ⟨i, h1, h2⟩
        rcases lt1 h1 with q | q
        · exact .inl ⟨i, q, h2⟩
        · subst q
          rw [ex] at h2
          exact .inr h2.symm
    · rcases List.mem_append.mp hv with q | q
      · exact O.wl v q
      · rw [List.mem_singleton.mp q]
        exact hw
    · rcases lt1 hi with q | q
      · have mf := (O.mem _).mpr ⟨i, q, rfl⟩
        rw [il _ mf, g1 _ mf]
        exact O.has i q b w hb hq
      · subst q
        rw [ex] at hq ⊢
        rw [ix, g2]
        exact hq
    · rcases List.mem_append.mp hf with q | q
      · rw [il f q, g1 f q] at hq
        obtain ⟨i, h1, h2, h3⟩ := O.from_ f q b w hb hq
        exact ⟨i, by omega, h2, h3⟩
      · have q := List.mem_singleton.mp q
        subst q
        rw [ix, g2] at hq
        exact ⟨t, by omega, by rw [ex], by rw [ex]; exact hq⟩
theorem gok {p : Int × Int} {E : Exs} (O : EOk p E) : ∀ {t : Nat} {G : List (List Int) × List Wnt}, t ≤ E.length → gthN E t = some G → GOk p.2.toNat E t G
  | 0, G, _, h => by cases h; exact gok0 _ _
  | t + 1, G, ht, h => by
    obtain ⟨G0, h0, h1⟩ := Option.bind_eq_some_iff.mp (show (gthN E t).bind _ = some G from h)
    exact gok_step (O.len _ (getD_mem (by omega))) (gok O (by omega) h0) h1
/-! the law's own way -/
def insQ (E : Exs) (f : List Int) (n : Nat) : List (Nat × Int) := E.flatMap fun x => if x.1 = f then (List.range n).filterMap fun b => (x.2.getD b none).map fun w => (b, w) else []
theorem ins_mem {E : Exs} {f : List Int} {n b : Nat} {w : Int} : (b, w) ∈ insQ E f n ↔ b < n ∧ ∃ x ∈ E, x.1 = f ∧ x.2.getD b none = some w := by
  unfold insQ
  rw [List.mem_flatMap]
  constructor
  · rintro ⟨x, hx, h⟩
    split at h
    · rename_i e
      obtain ⟨b', hb, h⟩ := List.mem_filterMap.mp h
      obtain ⟨w', hw, h⟩ := Option.map_eq_some_iff.mp h
      cases h
      exact ⟨List.mem_range.mp hb, x, hx, e, hw⟩
    · cases h
  · rintro ⟨hb, x, hx, e, hw⟩
    refine ⟨x, hx, ?_⟩
    rw [if_pos e]
    exact List.mem_filterMap.mpr ⟨b, List.mem_range.mpr hb, by rw [hw]; rfl⟩
def hasQ (L : List (Nat × Int)) (g : List Int) : Bool := decide (∀ q ∈ L, g.getD q.1 0 = q.2)
def dueF (p : Int × Int) (E : Exs) (f : List Int) : Option (List (List Int)) := if insQ E f p.2.toNat = [] then none else some ((filA p).filter fun g => hasQ (insQ E f p.2.toNat) g)
def dueQ34 (p : Int × Int) (E : Exs) : List (Option (List (List Int))) := (filA p).map (dueF p E)
/-! the program's -/
def hw1 (x : Int) (o : Option Int) : Bool := match o with
  | none => true
  | some w => decide (x = w)
def hwQ (f : List Int) (u : Wnt) : Bool := ((List.range (min f.length u.length)).map fun i => hw1 (f.getD i 0) (u.getD i none)).all id
def noW (u : Wnt) : Bool := (u.map Option.isNone).all id
def choQ (p : Int × Int) (u : Wnt) : Option (List (List Int)) := if noW u = true then none else some ((filA p).filter fun g => hwQ g u)
def wantQ (G : List (List Int) × List Wnt) (f : List Int) : Wnt := if f ∈ G.1 then G.2.getD (G.1.idxOf f) [] else []
def wofQ (p : Int × Int) (G : List (List Int) × List Wnt) : List (Option (List (List Int))) := (filA p).map fun f => choQ p (wantQ G f)
theorem hw_iff {f : List Int} {u : Wnt} (h : f.length = u.length) : hwQ f u = true ↔ ∀ b w, b < u.length → u.getD b none = some w → f.getD b 0 = w := by
  unfold hwQ
  rw [List.all_map, List.all_eq_true, h, Nat.min_self]
  constructor
  · intro q b w hb e
    have := q b (List.mem_range.mpr hb)
    have this : hw1 (f.getD b 0) (u.getD b none) = true := this
    rw [e] at this
    exact of_decide_eq_true this
  · intro q b hb
    have hb := List.mem_range.mp hb
    show hw1 (f.getD b 0) (u.getD b none) = true
    cases e : u.getD b none with
    | none => rfl
    | some w => exact decide_eq_true (q b w hb e)
theorem no_iff {u : Wnt} : noW u = true ↔ ∀ b, b < u.length → u.getD b none = none := by
  unfold noW
  rw [List.all_map, List.all_eq_true]
  constructor
  · intro q b hb
    have := q (u.getD b none) (getD_mem hb)
    exact Option.isNone_iff_eq_none.mp this
  · intro q o ho
    obtain ⟨b, hb, rfl⟩ := List.getElem_of_mem ho
    have := q b hb
    have e : u.getD b none = u[b] := by simp [List.getD, hb]
    rw [e] at this
    show u[b].isNone = true
    rw [this]
    rfl
section
variable {p : Int × Int} {E : Exs} {G : List (List Int) × List Wnt} {f g : List Int}
theorem ins_want (O : EOk p E) (h : gth E = some G) {b : Nat} {w : Int} (hb : b < p.2.toNat) : (b, w) ∈ insQ E f p.2.toNat ↔ (wantQ G f).getD b none = some w := by
  have K := gok O (Nat.le_refl _) h
  rw [ins_mem]
  unfold wantQ
  constructor
  · rintro ⟨_, x, hx, rfl, hw⟩
    obtain ⟨i, hi, rfl⟩ := List.getElem_of_mem hx
    have e : E.getD i ([], []) = E[i] := by simp [List.getD, hi]
    have m : E[i].1 ∈ G.1 := (K.mem _).mpr ⟨i, hi, by rw [e]⟩
    rw [if_pos m]
    have := K.has i hi b w hb (by rw [e]; exact hw)
    rw [e] at this
    exact this
  · intro q
    split at q
    · rename_i m
      obtain ⟨i, hi, e1, e2⟩ := K.from_ f m b w hb q
      exact ⟨hb, _, getD_mem hi, e1, e2⟩
    · simp at q
theorem want_len (O : EOk p E) (h : gth E = some G) (hf : f ∈ G.1) : (wantQ G f).length = p.2.toNat := by
  have K := gok O (Nat.le_refl _) h
  unfold wantQ
  rw [if_pos hf]
  exact K.wl _ (getD_mem (by rw [← K.ln]; exact List.idxOf_lt_length_of_mem hf))
theorem cho_due (hp : p ∈ sizes14) (O : EOk p E) (h : gth E = some G) : choQ p (wantQ G f) = dueF p E f := by
  have K := gok O (Nat.le_refl _) h
  by_cases hf : f ∈ G.1
  · have wl := want_len O h hf
    have e0 : noW (wantQ G f) = true ↔ insQ E f p.2.toNat = [] := by
      rw [no_iff, wl]
      constructor
      · intro q
        refine List.eq_nil_iff_forall_not_mem.mpr fun ⟨b, w⟩ hm => ?_
        have hb := (ins_mem.mp hm).1
        have := (ins_want O h hb).mp hm
        rw [q b hb] at this
        cases this
      · intro q b hb
        cases e : (wantQ G f).getD b none with
        | none => rfl
        | some w =>
          have := (ins_want O h hb).mpr e
          rw [q] at this
          cases this
    unfold choQ dueF
    by_cases z : insQ E f p.2.toNat = []
    · rw [if_pos (e0.mpr z), if_pos z]
    · rw [if_neg (fun q => z (e0.mp q)), if_neg z]
      refine congrArg some (List.filter_congr fun g hg => ?_)
      have gl := (fil_Fil hp hg).len
      apply Bool.eq_iff_iff.mpr
      rw [hw_iff (by rw [gl, wl]), wl]
      unfold hasQ
      rw [decide_eq_true_iff]
      constructor
      · rintro q ⟨b, w⟩ hm
        have hb := (ins_mem.mp hm).1
        exact q b w hb ((ins_want O h hb).mp hm)
      · intro q b w hb e
        exact q (b, w) ((ins_want O h hb).mpr e)
  · have z : insQ E f p.2.toNat = [] := List.eq_nil_iff_forall_not_mem.mpr fun ⟨b, w⟩ hm => by
      have hb := (ins_mem.mp hm).1
      have := (ins_want O h hb).mp hm
      unfold wantQ at this
      rw [if_neg hf] at this
      simp at this
    unfold choQ dueF wantQ
    rw [if_neg hf, if_pos (show noW [] = true from rfl), if_pos z]
theorem wof_due (hp : p ∈ sizes14) (O : EOk p E) (h : gth E = some G) : wofQ p G = dueQ34 p E := List.map_congr_left fun f _ => cho_due hp O h
/-- what is wanted can be had -/
theorem due_ne (hp : p ∈ sizes14) (O : EOk p E) (h : gth E = some G) : some [] ∉ dueQ34 p E := fun hm => by
  obtain ⟨f, _, e⟩ := List.mem_map.mp hm
  unfold dueF at e
  split at e
  · cases e
  · rename_i ne
    have e := Option.some.inj e
    obtain ⟨g, hg⟩ : ∃ g, g = (List.range p.2.toNat).map fun b => ((wantQ G f).getD b none).getD 0 := ⟨_, rfl⟩
    have gb : ∀ b, b < p.2.toNat → g.getD b 0 = ((wantQ G f).getD b none).getD 0 := fun b hb => by rw [hg]; simp [List.getD, hb]
    have gm : g ∈ filA p := by
      refine fil_mem (by rw [hg]; simp) fun w hw => ?_
      rw [hg] at hw
      obtain ⟨b, hb, rfl⟩ := List.mem_map.mp hw
      have hb := List.mem_range.mp hb
      cases q : (wantQ G f).getD b none with
      | none =>
        refine ⟨Int.le_refl _, ?_⟩
        show (0 : Int) < ((2 ^ p.1.toNat : Nat) : Int)
        have : 0 < 2 ^ p.1.toNat := Nat.pow_pos (by decide)
        omega
      | some w =>
        obtain ⟨_, x, hx, _, hw⟩ := ins_mem.mp ((ins_want (f := f) O h hb).mpr q)
        exact O.wd x hx b w hw
    have : g ∈ (filA p).filter fun g => hasQ (insQ E f p.2.toNat) g := List.mem_filter.mpr ⟨gm, decide_eq_true fun ⟨b, w⟩ hq => by
      have hb := (ins_mem.mp hq).1
      show g.getD b 0 = w
      rw [gb b hb, (ins_want O h hb).mp hq]
      rfl⟩
    rw [e] at this
    cases this
/-- two that are unlike can't -/
theorem due_no (O : EOk p E) : ∀ {t : Nat}, t ≤ E.length → gthN E t = none → some [] ∈ dueQ34 p E
  | 0, _, h => by cases h
  | t + 1, ht, h => by
    cases h0 : gthN E t with
    | none => exact due_no O (by omega) h0
    | some G =>
      have K := gok O (by omega) h0
      have h1 : gstep G (E.getD t ([], [])) = none := by
        have h : (gthN E t).bind _ = none := h
        rw [h0] at h
        exact h
      have xm : E.getD t ([], []) ∈ E := getD_mem (by omega)
      obtain ⟨x, ex⟩ : ∃ x, E.getD t ([], []) = x := ⟨_, rfl⟩
      rw [ex] at h1 xm
      unfold gstep at h1
      split at h1
      · rename_i hm
        have hu := Option.map_eq_none_iff.mp h1
        have il2 : G.1.idxOf x.1 < G.2.length := by rw [← K.ln]; exact List.idxOf_lt_length_of_mem hm
        have ul := K.wl _ (getD_mem (d := ([] : Wnt)) il2)
        obtain ⟨b, hb, q, _⟩ := bwt_none (by rw [ul, O.len x xm]) hu
        rw [ul] at hb
        obtain ⟨v, w, e1, e2, ne⟩ := bw_no q
        obtain ⟨i, hi, f1, f2⟩ := K.from_ x.1 hm b v hb e1
        have m1 : (b, v) ∈ insQ E x.1 p.2.toNat := ins_mem.mpr ⟨hb, _, getD_mem (by omega), f1, f2⟩
        have m2 : (b, w) ∈ insQ E x.1 p.2.toNat := ins_mem.mpr ⟨hb, x, xm, rfl, e2⟩
        refine List.mem_map.mpr ⟨x.1, O.fil x xm, ?_⟩
        unfold dueF
        rw [if_neg (fun z => by rw [z] at m1; cases m1)]
        refine congrArg some (List.filter_eq_nil_iff.mpr fun g _ hg => ?_)
        have hg := of_decide_eq_true hg
        exact ne ((hg _ m2).symm.trans (hg _ m1))
      · cases h1
theorem due_rev : dueQ34 p E.reverse = dueQ34 p E := by
  refine List.map_congr_left fun f _ => ?_
  have e : ∀ q, q ∈ insQ E.reverse f p.2.toNat ↔ q ∈ insQ E f p.2.toNat := fun ⟨b, w⟩ => by
    rw [ins_mem, ins_mem]
    simp only [List.mem_reverse]
  unfold dueF
  by_cases z : insQ E f p.2.toNat = []
  · rw [if_pos z, if_pos (List.eq_nil_iff_forall_not_mem.mpr fun q hq => by
      have := (e q).mp hq
      rw [z] at this
      cases this)]
  · rw [if_neg z, if_neg (fun y => z (List.eq_nil_iff_forall_not_mem.mpr fun q hq => by
      have := (e q).mpr hq
      rw [y] at this
      cases this))]
    refine congrArg some (List.filter_congr fun g _ => ?_)
    unfold hasQ
    rw [decide_eq_decide]
    exact ⟨fun h q hq => h q ((e q).mpr hq), fun h q hq => h q ((e q).mp hq)⟩
theorem EOk.rev (O : EOk p E) : EOk p E.reverse := ⟨fun x hx => O.fil x (List.mem_reverse.mp hx), fun x hx => O.len x (List.mem_reverse.mp hx), fun x hx => O.wd x (List.mem_reverse.mp hx)⟩
theorem due_nil : dueQ34 p [] = (filA p).map fun _ => none := List.map_congr_left fun f _ => rfl
theorem due_wish (hp : p ∈ sizes14) : ∀ o ∈ dueQ34 p E, ∀ L, o = some L → L.length ≤ 64 ∧ ∀ ws ∈ L, ws ∈ filA p := fun o ho L hL => by
  obtain ⟨f, _, rfl⟩ := List.mem_map.mp ho
  unfold dueF at hL
  split at hL
  · cases hL
  · cases hL
    exact ⟨Nat.le_trans (List.length_filter_le _ _) (fil_900 hp), fun ws hw => (List.mem_filter.mp hw).1⟩
end
end DL

namespace DL
open PySem PySem.Spec PyProof.Rows L2
/-! ### wishes of examples: what the defs tell -/
theorem boot_veK : bootBuiltins "ValueError" = some (.type "ValueError") := by boot_by_name
structure Xk34 (K : PySem.W.Frag) (mg : Str → Option Value) (CN : Addr) : Prop where
  xc : XCls K CN
  ex : PySem.W.excIn K CN bmVE "ValueError.__new__" = true
  le : ∃ C : Addr, mg "LeastError" = some (.ref C) ∧ PySem.W.exmOne K (.ref CN) (.ref C) = some true
  nw : mg "NoWish" = some (.ref CN) ∧ PySem.W.kitOne K (.ref CN) (.ref CN) = some true
  ve : mg "ValueError" = none ∧ PySem.W.kitOne K (.ref CN) (.type "ValueError") = some true
  nc : ∃ C : Addr, mg "NoChange" = some (.ref C) ∧ PySem.W.kitOne K (.ref CN) (.ref C) = some false
  nt : ∃ C : Addr, mg "NoText" = some (.ref C) ∧ PySem.W.kitOne K (.ref CN) (.ref C) = some false
  nd : ∃ C : Addr, mg "NoWindow" = some (.ref C) ∧ PySem.W.kitOne K (.ref CN) (.ref C) = some false
  tg : ∃ C : Addr, mg "TooGreat" = some (.ref C) ∧ PySem.W.kitOne K (.ref CN) (.ref C) = some false
theorem kit_any4 {K : PySem.W.Frag} {t a b c d : Value} (h1 : PySem.W.kitOne K t a = some false) (h2 : PySem.W.kitOne K t b = some false) (h3 : PySem.W.kitOne K t c = some false) (h4 : PySem.W.kitOne K t d = some false) : PySem.W.kitAny K t [a, b, c, d] = some false := by
  rw [PySem.W.kitAny.eq_def]
  simp only [h1]
  rw [PySem.W.kitAny.eq_def]
  simp only [h2]
  rw [PySem.W.kitAny.eq_def]
  simp only [h3]
  rw [PySem.W.kitAny.eq_def]
  simp only [h4]
  rw [PySem.W.kitAny.eq_def]
def CBw : List D → R → Prop := fun ds r => ∃ a b c, bw a b = some c ∧ ds = [oiD a, oiD b] ∧ r = .val (oiD c)
def XBw : List D → Prop := fun ds => ∃ a b, bw a b = none ∧ ds = [oiD a, oiD b]
def CBwt : List D → R → Prop := fun ds r => ∃ u v x, u.length = v.length ∧ u.length ≤ 100 ∧ bwt u v = some x ∧ ds = [wnD u, wnD v] ∧ r = .val (wnD x)
def XBwt : List D → Prop := fun ds => ∃ u v, u.length = v.length ∧ u.length ≤ 100 ∧ bwt u v = none ∧ ds = [wnD u, wnD v]
def CWbf (P : Program) (w : World) (K : PySem.W.Frag) : List D → R → Prop := fun ds r => ∃ p E G, p ∈ sizes14 ∧ EOk p E ∧ E.length ≤ 100 ∧ gth E = some G ∧ ds = [.lst (E.map exD)] ∧ r = tdR P w K (G.1.map kY) (G.2.map wnD)
def XWbf : List D → Prop := fun ds => ∃ p E, p ∈ sizes14 ∧ EOk p E ∧ E.length ≤ 100 ∧ gth E = none ∧ ds = [.lst (E.map exD)]
def CHw : List D → R → Prop := fun ds r => ∃ f u, f.length ≤ 100 ∧ ds = [tupI f, wnD u] ∧ r = .val (.bl (hwQ f u))
def choR : Option (List (List Int)) → R
  | none => .val .non
  | some c => .own (c.map tupI)
def CCho : List D → R → Prop := fun ds r => ∃ p u, p ∈ sizes14 ∧ u.length ≤ 100 ∧ ds = [sizD p, wnD u] ∧ r = choR (choQ p u)
def CWof (K : PySem.W.Frag) : List D → R → Prop := fun ds r => ∃ p E G, p ∈ sizes14 ∧ EOk p E ∧ E.length ≤ 100 ∧ gth E = some G ∧ ds = [sizD p, .lst (E.map exD)] ∧ r = ooR K (mkM (dueQ34 p E)) (mkL (dueQ34 p E))
def XWof : List D → Prop := fun ds => ∃ p E, p ∈ sizes14 ∧ EOk p E ∧ E.length ≤ 100 ∧ gth E = none ∧ ds = [sizD p, .lst (E.map exD)]
/-! the law's own -/
def cel34 (ns : List Int) (st m : Nat) (c : Int) : List Int := if c % 8 = 5 then (streamL (c / 8) m).map fun x => x * 2147483647 + x / 7 else (ns.drop st).take m
theorem cel34_len (ns : List Int) (st m : Nat) (c : Int) : (cel34 ns st m c).length ≤ m := by
  unfold cel34
  split
  · rw [List.length_map, stream_len]
    exact Nat.le_refl _
  · rw [List.length_take]
    omega
def CCel34 : List D → R → Prop := fun ds r => ∃ (ns : List Int) (st m : Nat) (c : Int), m ≤ 200 ∧ st ≤ 200 ∧ ns.length ≤ 63 ∧ ds = [.scr ns, .int (st : Int), .int (m : Int), .int c] ∧ r = .own ((cel34 ns st m c).map D.int)
def restQ (c : Int) : Nat → Int
  | 0 => c / 64
  | b + 1 => restQ c b / 192
def wordQ (p : Int × Int) (c : Int) (f : List Int) (b : Nat) : Int := (if c / 7 % 3 = 0 then restQ c b / 3 else f.getD b 0 * 2 + (b : Int) + c / 1000003 % 2) % ((2 ^ p.1.toNat : Nat) : Int)
def wtQ (p : Int × Int) (c : Int) (f : List Int) (b : Nat) : Option Int := if restQ c b % 3 = 0 then none else some (wordQ p c f b)
def wtN (p : Int × Int) (c : Int) (f : List Int) (t : Nat) : Wnt := (List.range t).map (wtQ p c f)
theorem wtN_succ (p : Int × Int) (c : Int) (f : List Int) (t : Nat) : wtN p c f (t + 1) = wtN p c f t ++ [wtQ p c f t] := by
  unfold wtN
  rw [List.range_succ, List.map_append]
  rfl
def exE (p : Int × Int) (c : Int) : List Int × Wnt := ((filA p).getD (c % ((filA p).length : Int)).toNat [], wtN p c ((filA p).getD (c % ((filA p).length : Int)).toNat []) p.2.toNat)
def exQ (p : Int × Int) (cs : List Int) : Exs := cs.map (exE p)
theorem two_pos (p : Int × Int) : (0 : Int) < ((2 ^ p.1.toNat : Nat) : Int) := by
  have : 0 < 2 ^ p.1.toNat := Nat.pow_pos (by decide)
  omega
theorem exQ_ok {p : Int × Int} (cs : List Int) : EOk p (exQ p cs) := by
  have l0 : (0 : Int) < ((filA p).length : Int) := by have := fil_pos (p := p); omega
  refine ⟨fun x hx => ?_, fun x hx => ?_, fun x hx b w hw => ?_⟩
  · obtain ⟨c, _, rfl⟩ := List.mem_map.mp hx
    have a1 := Int.emod_nonneg c (Int.ne_of_gt l0)
    have a2 := Int.emod_lt_of_pos c l0
    exact getD_mem (by omega)
  · obtain ⟨c, _, rfl⟩ := List.mem_map.mp hx
    show (wtN _ _ _ _).length = _
    unfold wtN
    rw [List.length_map, List.length_range]
  · obtain ⟨c, _, rfl⟩ := List.mem_map.mp hx
    have hw : (wtN p c ((filA p).getD (c % ((filA p).length : Int)).toNat []) p.2.toNat).getD b none = some w := hw
    by_cases hb : b < p.2.toNat
    · have e : (wtN p c ((filA p).getD (c % ((filA p).length : Int)).toNat []) p.2.toNat).getD b none = wtQ p c ((filA p).getD (c % ((filA p).length : Int)).toNat []) b := by
        unfold wtN
        simp [List.getD, hb]
      rw [e] at hw
      unfold wtQ at hw
      split at hw
      · cases hw
      · cases hw
        exact ⟨Int.emod_nonneg _ (Int.ne_of_gt (two_pos p)), Int.emod_lt_of_pos _ (two_pos p)⟩
    · rw [List.getD, List.getElem?_eq_none (by unfold wtN; rw [List.length_map, List.length_range]; omega)] at hw
      cases hw
def CEx34 : List D → R → Prop := fun ds r => ∃ (p : Int × Int) (cs : List Int), p ∈ sizes14 ∧ cs.length ≤ 100 ∧ ds = [.lst (cs.map D.int), sizD p] ∧ r = .own ((exQ p cs).map exD)
def kpE (p : Int × Int) (x : List Int × Wnt) : List Int × Wnt := (x.1, x.2.map (Option.map fun _ => (x.1.getD 0 0 + 1) % ((2 ^ p.1.toNat : Nat) : Int)))
theorem kp_ok {p : Int × Int} {E : Exs} (O : EOk p E) : EOk p (E.map (kpE p)) := by
  refine ⟨fun x hx => ?_, fun x hx => ?_, fun x hx b w hw => ?_⟩
  · obtain ⟨y, hy, rfl⟩ := List.mem_map.mp hx
    exact O.fil y hy
  · obtain ⟨y, hy, rfl⟩ := List.mem_map.mp hx
    show (y.2.map _).length = _
    rw [List.length_map]
    exact O.len y hy
  · obtain ⟨y, hy, rfl⟩ := List.mem_map.mp hx
    have hw : (y.2.map (Option.map fun _ => (y.1.getD 0 0 + 1) % ((2 ^ p.1.toNat : Nat) : Int))).getD b none = some w := hw
    rw [List.getD, List.getElem?_map] at hw
    cases q : y.2[b]? with
    | none => rw [q] at hw; cases hw
    | some o =>
      rw [q] at hw
      cases o with
      | none => cases hw
      | some z =>
        cases hw
        exact ⟨Int.emod_nonneg _ (Int.ne_of_gt (two_pos p)), Int.emod_lt_of_pos _ (two_pos p)⟩
/-! the law's dict -/
def dins (T : List Nat × List (List Int)) (q : Nat × Int) : List Nat × List (List Int) := if q.1 ∈ T.1 then (T.1, T.2.set (T.1.idxOf q.1) (T.2.getD (T.1.idxOf q.1) [] ++ [q.2])) else (T.1 ++ [q.1], T.2 ++ [[q.2]])
def dctQ (L : List (Nat × Int)) : List Nat × List (List Int) := L.foldl dins ([], [])
theorem dct_snoc (L : List (Nat × Int)) (q : Nat × Int) : dctQ (L ++ [q]) = dins (dctQ L) q := by
  unfold dctQ
  rw [List.foldl_append]
  rfl
structure DOk (L : List (Nat × Int)) (T : List Nat × List (List Int)) : Prop where
  nd : T.1.Nodup
  ln : T.1.length = T.2.length
  mem : ∀ b, b ∈ T.1 ↔ ∃ w, (b, w) ∈ L
  val : ∀ b ∈ T.1, ∀ w, w ∈ T.2.getD (T.1.idxOf b) [] ↔ (b, w) ∈ L
  le : T.2.length ≤ L.length ∧ ∀ l ∈ T.2, l.length ≤ L.length
theorem dok_step {L : List (Nat × Int)} {T : List Nat × List (List Int)} (O : DOk L T) (q : Nat × Int) : DOk (L ++ [q]) (dins T q) := by
  have lq : (L ++ [q]).length = L.length + 1 := by simp
  unfold dins
  by_cases hm : q.1 ∈ T.1
  · rw [if_pos hm]
    have il : T.1.idxOf q.1 < T.1.length := List.idxOf_lt_length_of_mem hm
    have il2 : T.1.idxOf q.1 < T.2.length := by rw [← O.ln]; exact il
    have idx : ∀ f ∈ T.1, f ≠ q.1 → T.1.idxOf q.1 ≠ T.1.idxOf f := fun f hf ne e => ne (by
      have a := List.getElem_idxOf (List.idxOf_lt_length_of_mem hf)
      have b := List.getElem_idxOf il
      rw [← a, ← b]
      congr 1
      exact e.symm)
    refine ⟨O.nd, by rw [List.length_set]; exact O.ln, fun b => ?_, fun b hb w => ?_, by rw [List.length_set, lq]; have := O.le.1; omega, fun l hl => ?_⟩
    · rw [O.mem b]
      constructor
      · rintro ⟨w, h⟩
        exact ⟨w, List.mem_append_left _ h⟩
      · rintro ⟨w, h⟩
        rcases List.mem_append.mp h with h | h
        · exact ⟨w, h⟩
        · cases List.mem_singleton.mp h
          exact (O.mem _).mp hm
    · by_cases e : b = q.1
      · subst e
        rw [getD_set_self il2, List.mem_append, List.mem_append, O.val _ hm w, List.mem_singleton, List.mem_singleton]
        constructor
        · rintro (h | h)
          · exact .inl h
          · rw [h]; exact .inr rfl
        · rintro (h | h)
          · exact .inl h
          · exact .inr (congrArg Prod.snd h)
      · rw [getD_set_ne (idx b hb e), O.val b hb w, List.mem_append, List.mem_singleton]
        constructor
        · exact .inl
        · rintro (h | h)
          · exact h
          · exact (e (congrArg Prod.fst h)).elim
    · rw [lq]
      rcases List.mem_or_eq_of_mem_set hl with h | h
      · have := O.le.2 l h; omega
      · rw [h, List.length_append]
        have := O.le.2 _ (getD_mem (d := ([] : List Int)) il2)
        show _ + 1 ≤ _
        omega
  · rw [if_neg hm]
    have il : ∀ f ∈ T.1, (T.1 ++ [q.1]).idxOf f = T.1.idxOf f := fun f hf => by rw [List.idxOf_append, if_pos hf]
    have ix : (T.1 ++ [q.1]).idxOf q.1 = T.2.length := by
      rw [List.idxOf_append, if_neg hm, O.ln]
      simp
    have g1 : ∀ f ∈ T.1, (T.2 ++ [[q.2]]).getD (T.1.idxOf f) [] = T.2.getD (T.1.idxOf f) [] := fun f hf => by
      have := List.idxOf_lt_length_of_mem hf
      rw [O.ln] at this
      simp [List.getD, List.getElem?_append_left this]
    have g2 : (T.2 ++ [[q.2]]).getD T.2.length [] = [q.2] := by simp [List.getD]
    refine ⟨List.nodup_append.mpr ⟨O.nd, by simp, fun a ha b hb e => hm (by rw [← List.mem_singleton.mp hb, ← e]; exact ha)⟩, by simp [O.ln], fun b => ?_, fun b hb w => ?_, by rw [List.length_append, lq]; have := O.le.1; show _ + 1 ≤ _; omega, fun l hl => ?_⟩
    · rw [List.mem_append, O.mem b, List.mem_singleton]
      constructor
      · rintro (⟨w, h⟩ | h)
        · exact ⟨w, List.mem_append_left _ h⟩
        · exact ⟨q.2, List.mem_append_right _ (by rw [h]; simp)⟩
      · rintro ⟨w, h⟩
        rcases List.mem_append.mp h with h | h
        · exact .inl ⟨w, h⟩
        · exact .inr (congrArg Prod.fst (List.mem_singleton.mp h))
    · rcases List.mem_append.mp hb with hb | hb
      · rw [il b hb, g1 b hb, O.val b hb w, List.mem_append, List.mem_singleton]
        constructor
        · exact .inl
        · rintro (h | h)
          · exact h
          · have := congrArg Prod.fst h
            exact (hm (by rw [← show b = q.1 from this]; exact hb)).elim
      · have hb := List.mem_singleton.mp hb
        subst hb
        rw [ix, g2, List.mem_singleton, List.mem_append, List.mem_singleton]
        constructor
        · intro h
          rw [h]
          exact .inr rfl
        · rintro (h | h)
          · exact (hm ((O.mem _).mpr ⟨w, h⟩)).elim
          · exact congrArg Prod.snd h
    · rw [lq]
      rcases List.mem_append.mp hl with h | h
      · have := O.le.2 l h; omega
      · rw [List.mem_singleton.mp h]
        show 1 ≤ _
        omega
theorem dok : ∀ L : List (Nat × Int), DOk L (dctQ L) := fun L => by
  have : ∀ (L2 L1 : List (Nat × Int)) (T : List Nat × List (List Int)), DOk L1 T → DOk (L1 ++ L2) (L2.foldl dins T) := fun L2 => by
    induction L2 with
    | nil => intro L1 T O; rw [List.append_nil]; exact O
    | cons q L2 ih =>
      intro L1 T O
      have := ih (L1 ++ [q]) (dins T q) (dok_step O q)
      rwa [List.append_assoc] at this
  exact this L [] ([], []) ⟨List.nodup_nil, rfl, fun b => ⟨fun h => (nomatch h), fun ⟨w, h⟩ => (nomatch h)⟩, fun b h => (nomatch h), Nat.le_refl _, fun l h => (nomatch h)⟩
def kN (ks : List Nat) : List Key := ks.map fun (b : Nat) => (Sum.inl ((b : Nat) : Int) : Key)
def dlD (ws : List (List Int)) : List D := ws.map fun l => .lst (l.map D.int)
def CWt34 : List D → R → Prop := fun ds r => ∃ p E f, p ∈ sizes14 ∧ EOk p E ∧ E.length ≤ 100 ∧ ds = [sizD p, .lst (E.map exD), tupI f] ∧ r = .val (.dki (kN (dctQ (insQ E f p.2.toNat)).1) (dlD (dctQ (insQ E f p.2.toNat)).2))
def CHas34 : List D → R → Prop := fun ds r => ∃ (f : List Int) (L : List (Nat × Int)), L.length ≤ 1000 ∧ (∀ q ∈ L, q.1 < f.length) ∧ ds = [tupI f, .dki (kN (dctQ L).1) (dlD (dctQ L).2)] ∧ r = .val (.bl (hasQ L f))
def CDue34 : List D → R → Prop := fun ds r => ∃ p E, p ∈ sizes14 ∧ EOk p E ∧ E.length ≤ 100 ∧ ds = [sizD p, .lst (E.map exD), .lst ((filA p).map tupI)] ∧ r = .own ((dueQ34 p E).map wsD)
def CTold34 (K : PySem.W.Frag) : List D → R → Prop := fun ds r => ∃ p E, p ∈ sizes14 ∧ EOk p E ∧ E.length ≤ 100 ∧ ds = [sizD p, .lst (E.map exD)] ∧ ((∃ G, gth E = some G ∧ r = wR K (mkM (dueQ34 p E)) (mkL (dueQ34 p E))) ∨ (gth E = none ∧ r = .own [.non, .int 1]))
def CRt34 : List D → R → Prop := fun ds r => ∃ p E, p ∈ sizes14 ∧ EOk p E ∧ E.length ≤ 100 ∧ ds = [sizD p, .lst (E.map exD), .lst ((dueQ34 p E).map wsD)] ∧ r = .val (.bl true)
/-! the insertions, step by step -/
def insB (w : Wnt) (n : Nat) : List (Nat × Int) := (List.range n).filterMap fun b => (w.getD b none).map fun x => (b, x)
theorem insB_succ (w : Wnt) (n : Nat) : insB w (n + 1) = insB w n ++ (match w.getD n none with | none => [] | some x => [(n, x)]) := by
  unfold insB
  rw [List.range_succ, List.filterMap_append]
  congr 1
  rw [List.filterMap_cons, List.filterMap_nil]
  cases w.getD n none <;> rfl
def insT (E : Exs) (f : List Int) (n t : Nat) : List (Nat × Int) := insQ (E.take t) f n
theorem insT_succ {E : Exs} {f : List Int} {n t : Nat} (ht : t < E.length) : insT E f n (t + 1) = insT E f n t ++ (if (E.getD t ([], [])).1 = f then insB (E.getD t ([], [])).2 n else []) := by
  unfold insT insQ
  rw [List.take_add_one, List.flatMap_append]
  congr 1
  have : E[t]? = some (E.getD t ([], [])) := by simp [List.getD, ht]
  rw [this]
  show List.flatMap _ [_] = _
  rw [List.flatMap_cons, List.flatMap_nil, List.append_nil]
  rfl
theorem insB_len (w : Wnt) (n : Nat) : (insB w n).length ≤ n := by
  unfold insB
  refine Nat.le_trans (List.length_filterMap_le _ _) ?_
  rw [List.length_range]
  exact Nat.le_refl _
theorem insT_len (E : Exs) (f : List Int) (n : Nat) : ∀ t, t ≤ E.length → (insT E f n t).length ≤ t * n
  | 0, _ => by unfold insT insQ; simp
  | t + 1, h => by
    rw [insT_succ (by omega), List.length_append]
    have := insT_len E f n t (by omega)
    have e : (t + 1) * n = t * n + n := Nat.succ_mul t n
    split
    · have := insB_len (E.getD t ([], [])).2 n
      omega
    · simp
      omega
theorem kN_nd {ks : List Nat} (h : ks.Nodup) : (kN ks).Nodup := by
  unfold kN List.Nodup
  rw [List.pairwise_map]
  exact h.imp fun {a b} q e => q (by
    have e : (Sum.inl (a : Int) : Key) = Sum.inl (b : Int) := e
    have := Sum.inl.inj e
    omega)
theorem ex_get {E : Exs} {k : Nat} {d : D} (h : (E.map exD)[k]? = some d) : k < E.length ∧ d = exD (E.getD k ([], [])) := by
  have hk : k < E.length := by
    have := (List.getElem?_eq_some_iff.mp h).1
    simpa using this
  rw [List.getElem?_map] at h
  have : E[k]? = some (E.getD k ([], [])) := by simp [List.getD, hk]
  rw [this] at h
  exact ⟨hk, (Option.some.inj h).symm⟩
theorem oi_get {w : Wnt} {k : Nat} {d : D} (h : (w.map oiD)[k]? = some d) : k < w.length ∧ d = oiD (w.getD k none) := by
  have hk : k < w.length := by
    have := (List.getElem?_eq_some_iff.mp h).1
    simpa using this
  rw [List.getElem?_map] at h
  have : w[k]? = some (w.getD k none) := by simp [List.getD, hk]
  rw [this] at h
  exact ⟨hk, (Option.some.inj h).symm⟩
theorem oi_at {w : Wnt} {k : Nat} (h : k < w.length) : (w.map oiD)[k]? = some (oiD (w.getD k none)) := by simp [List.getD, h]
theorem isN_oi (o : Option Int) : isN (oiD o) = o.isNone := by cases o <;> rfl
theorem pl_oi (o : Option Int) : pl (oiD o) = true := by cases o <;> rfl
theorem shp_set {α β : Type} (n : β) (g : α → β) (a : α) : ∀ {m : List Bool} {as : List α} {t : Nat}, as.length = m.count true → m[t]? = some true → shp n g m (as.set ((m.take t).count true) a) = (shp n g m as).set t (g a)
  | [], _, t, _, h => by simp at h
  | false :: m, as, 0, _, h => by simp at h
  | true :: m, [], 0, h, _ => by simp at h
  | true :: m, b :: as, 0, _, _ => rfl
  | false :: m, as, t + 1, hl, h => by
    have hl : as.length = m.count true := by simpa using hl
    have e : ((false :: m).take (t + 1)).count true = (m.take t).count true := by simp
    rw [e]
    show n :: shp n g m _ = n :: (shp n g m as).set t (g a)
    rw [shp_set n g a hl (by simpa using h)]
  | true :: m, [], t + 1, h, _ => by simp at h
  | true :: m, b :: as, t + 1, hl, h => by
    have hl : as.length = m.count true := by simpa using hl
    have e : ((true :: m).take (t + 1)).count true = (m.take t).count true + 1 := by simp
    rw [e]
    show g b :: shp n g m _ = g b :: (shp n g m as).set t (g a)
    rw [← shp_set n g a hl (by simpa using h)]
end DL

namespace DL
open PySem PySem.Spec PyProof.Rows L2
/-! ### all(l), l a list of truths -/
theorem bools_at {bs : List Bool} {its : List Value} {i : Nat} {v : Value} (r : Vals (bs.map V.bl) its) (h : its[i]? = some v) : ∃ b, bs[i]? = some b ∧ v = .bool b := by
  have hi : i < its.length := (List.getElem?_eq_some_iff.mp h).1
  have hl := r.length
  rw [List.length_map] at hl
  have hb : i < bs.length := by omega
  obtain ⟨u, h1, h2⟩ := r.get (i := i) (x := .bl bs[i]) (by simp [hb])
  rw [h] at h1
  cases h1
  exact ⟨bs[i], by simp [hb], h2⟩
theorem range_allB (bs : List Bool) : ((List.range bs.length).all fun i => (bs[i]?).getD true) = bs.all id := by
  apply Bool.eq_iff_iff.mpr
  simp only [List.all_eq_true, List.mem_range, id_eq]
  constructor
  · intro h b hb
    obtain ⟨i, hi, rfl⟩ := List.getElem_of_mem hb
    have := h i hi
    simpa [hi] using this
  · intro h i hi
    have := h bs[i] (List.getElem_mem hi)
    simpa [hi] using this
section
variable {X : Cx} {sd : List Slot} {e a b c : Expr} {pos : Pos} {ds : List D}
theorem call_allB (hc : X.calm = true) : CallR X (.builtin "all") (fun xs H Q => ∃ (a : Addr) (bs : List Bool), xs = [.ref a] ∧ SqL X.K H a (bs.map V.bl) ∧ Q (.bl (bs.all id)) H) := by
  intro pins s σ H xs us Q I r h
  obtain ⟨a, bs, rfl, ha, q⟩ := h
  obtain ⟨u, rfl, ru⟩ := vals1 r
  cases ru
  obtain ⟨its, rv, p, hz⟩ := I.list ha
  have hl := rv.length
  rw [List.length_map] at hl
  have isl : s.heap.IsList a its.toArray := p.isList
  have alt : a < s.heap.objs.size := by obtain ⟨o, ho, _⟩ := isl; exact Heap.lt_size ho
  refine call_all_walk (wpAny_pyIter_list isl ?_)
  refine ⟨s.heap.objs.size, [s.heap.objs.size, a], [s.heap.objs.size], its.toArray.size, _, _, fun i => (bs[i]?).getD true, rfl, Walks.list (A := X.A.in1) (I.ok.hd hc) _ a (Nat.ne_of_lt alt) its.toArray, ⟨⟨_, Heap.get?_push_size _ rfl, rfl, rfl⟩, isl.push _⟩, fun i v s' Q' E' hP hQ => ?_, fun h' tk hk => ?_⟩
  · obtain ⟨b, e, rfl⟩ := bools_at rv (by simpa using hP)
    simp only [e, Option.getD_some] at hQ
    exact wpAny_truthy_bool hQ
  · have e : ((List.range its.toArray.size).all fun i => (bs[i]?).getD true) = bs.all id := by
      rw [List.size_toArray, ← hl]
      exact range_allB bs
    rw [e]
    exact ⟨.bl (bs.all id), H, I.kept (t' := tk) fun b o g => hk b o (fun z => by
      have z : b = s.heap.objs.size := by simpa using z
      exact absurd (Heap.lt_size g) (by rw [z]; exact Nat.lt_irrefl _)) (Heap.get?_push_of_some _ g), rfl, q⟩
theorem RepL.bls {K : PySem.W.Frag} {H : Hp} : ∀ {bs : List Bool} {xs : List V}, RepL K H (bs.map D.bl) xs → xs = bs.map V.bl
  | [], xs, r => by simpa only [List.map_nil, RepL] using r
  | n :: ns, xs, r => by
    rw [List.map_cons] at r
    obtain ⟨y, ys, rfl, a, rl⟩ := r.uncons
    simp only [Rep] at a
    rw [a, RepL.bls rl]
    rfl
theorem pd_allL {p : Pos} {bs : List Bool} (hg : Gl X "all") (hm : X.mg "all" = none) (ha : PEd X sd e (.bor (bs.map D.bl))) (hc : X.calm = true := by rfl) (hst : starEach [e] X.env = (false, eval e X.env) :: starEach [] X.env := by rfl) : PEd X sd (.Call (.Name "all" p) [e] [] pos) (.val (.bl (bs.all id))) :=
  pd_callB (he := hst) (call_allB hc) hg hm boot_all (pad_cons ha pad_nil trivial hst) fun σ F H vs Q S q k => by
    cases q with
    | cons q1 q2 =>
      cases q2
      obtain ⟨p, xs, rfl, hp, rl, _⟩ := q1
      exact ⟨p, bs, rfl, .of (by rw [← rl.bls]; exact hp), k _ F H S (Same.refl _) (by simp only [ResOk, Rep])⟩
end
/-! ### changes -/
abbrev Ch := Nat × Nat × List Nat
def wcQ (row : List Nat) (c : Ch) : List Nat := row.take c.1 ++ c.2.2 ++ row.drop (c.1 + c.2.1)
def prcI (L : List SK) (row : List Nat) : Int := sumI (prcL L row)
def endQ (p : Int × Int) (L : List SK) (row : List Nat) (o : Option (List Nat)) : List (List Int) := (filA p).map fun ws => match o with
  | none => rowQ p L row ws
  | some l => l.map fun j => (rowQ p L row ws).getD j 0
def winB (row : List Nat) (c : Ch) : Bool := decide (1 ≤ c.2.1 ∧ c.1 + c.2.1 ≤ row.length)
def hoQ (p : Int × Int) (L : List SK) (row : List Nat) (c : Ch) (o : Option (List Nat)) : Bool := winB row c && (decide (prcI L c.2.2 < prcI L ((row.drop c.1).take c.2.1)) && decide (endQ p L (wcQ row c) o = endQ p L row o))
def RowOk (L : List SK) (row : List Nat) : Prop := ∀ t ∈ row, t < L.length
theorem RowOk.wc {L : List SK} {row : List Nat} {c : Ch} (h : RowOk L row) (hc : RowOk L c.2.2) : RowOk L (wcQ row c) := fun t ht => by
  unfold wcQ at ht
  rcases List.mem_append.mp ht with ht | ht
  · rcases List.mem_append.mp ht with ht | ht
    · exact h t (List.mem_of_mem_take ht)
    · exact hc t ht
  · exact h t (List.mem_of_mem_drop ht)
theorem wc_len (row : List Nat) (c : Ch) : (wcQ row c).length ≤ row.length + c.2.2.length := by
  unfold wcQ
  rw [List.length_append, List.length_append, List.length_take, List.length_drop]
  by_cases h : c.1 ≤ row.length
  · omega
  · omega
/-- rows and the changes between them -/
structure Chn (p : Int × Int) (L : List SK) (o : Option (List Nat)) (row : List Nat) (cs : List Ch) (rs : List (List Nat)) : Prop where
  len : rs.length = cs.length + 1
  hd : rs.getD 0 [] = row
  st : ∀ i, i < cs.length → hoQ p L (rs.getD i []) (cs.getD i (0, 0, [])) o = true ∧ rs.getD (i + 1) [] = wcQ (rs.getD i []) (cs.getD i (0, 0, []))
  ok : ∀ r ∈ rs, RowOk L r ∧ r.length ≤ 8 + 9 * cs.length
  pc : ∀ c ∈ cs, RowOk L c.2.2 ∧ c.2.2.length ≤ 9
theorem Chn.start {p : Int × Int} {L : List SK} {o : Option (List Nat)} {row : List Nat} (h : RowOk L row) (h8 : row.length ≤ 8) : Chn p L o row [] [row] :=
  ⟨rfl, rfl, fun i hi => absurd hi (Nat.not_lt_zero _), fun r hr => by rw [List.mem_singleton.mp hr]; exact ⟨h, by simpa using h8⟩, fun c hc => nomatch hc⟩
theorem getD_app_l {α : Type} (l m : List α) (d : α) {i : Nat} (h : i < l.length) : (l ++ m).getD i d = l.getD i d := by
  simp [List.getD, List.getElem?_append_left h]
theorem getD_app_r {α : Type} (l : List α) (x d : α) : (l ++ [x]).getD l.length d = x := by
  simp [List.getD]
theorem Chn.more {p : Int × Int} {L : List SK} {o : Option (List Nat)} {row : List Nat} {cs : List Ch} {rs : List (List Nat)} {c : Ch} (C : Chn p L o row cs rs) (hc : RowOk L c.2.2) (h9 : c.2.2.length ≤ 9) (hh : hoQ p L (rs.getD cs.length []) c o = true) : Chn p L o row (cs ++ [c]) (rs ++ [wcQ (rs.getD cs.length []) c]) := by
  have l1 := C.len
  have mem : rs.getD cs.length [] ∈ rs := DL.getD_mem (by omega)
  obtain ⟨ok1, ok2⟩ := C.ok _ mem
  refine ⟨by simp [l1], by rw [getD_app_l _ _ _ (by omega)]; exact C.hd, fun i hi => ?_, fun r hr => ?_, fun x hx => ?_⟩
  · rw [List.length_append, List.length_singleton] at hi
    by_cases q : i < cs.length
    · rw [getD_app_l rs _ _ (by omega), getD_app_l cs _ _ q, getD_app_l rs _ _ (by omega)]
      exact C.st i q
    · have : i = cs.length := by omega
      subst this
      rw [getD_app_l rs _ _ (by omega), getD_app_r cs]
      refine ⟨hh, ?_⟩
      rw [← l1, getD_app_r rs]
  · rcases List.mem_append.mp hr with hr | hr
    · obtain ⟨a, b⟩ := C.ok r hr
      exact ⟨a, by rw [List.length_append, List.length_singleton]; omega⟩
    · rw [List.mem_singleton.mp hr]
      refine ⟨ok1.wc hc, ?_⟩
      have := wc_len (rs.getD cs.length []) c
      rw [List.length_append, List.length_singleton]
      omega
  · rcases List.mem_append.mp hx with hx | hx
    · exact C.pc x hx
    · rw [List.mem_singleton.mp hx]
      exact ⟨hc, h9⟩
end DL

namespace DL
open PySem PySem.Spec PyProof.Rows L2
theorem byKey {G K : Prop} (h : K → G) (k : K) : G := h k
def fbw : D → D
  | .tup [a, b] => oiD ((bw (oiO a) (oiO b)).getD none)
  | _ => .non
theorem zip_oi {u v : Wnt} : ∀ d ∈ zipD (u.map oiD) (v.map oiD), ∃ t : Nat, t < u.length ∧ t < v.length ∧ d = .tup [oiD (u.getD t none), oiD (v.getD t none)] := fun d hd => by
  obtain ⟨t, ht⟩ := List.getElem?_of_mem hd
  obtain ⟨x, y, q1, q2, rfl⟩ := zipD_get ht
  obtain ⟨q3, rfl⟩ := oi_get q1
  obtain ⟨q4, rfl⟩ := oi_get q2
  exact ⟨t, q3, q4, rfl⟩
theorem zip_bwt {u v x : Wnt} (hl : u.length = v.length) (h : bwt u v = some x) : ((zipD (u.map oiD) (v.map oiD)).filter fun _ => true).map fbw = x.map oiD := by
  obtain ⟨l1, l2⟩ := bwt_some hl h
  rw [List.filter_eq_self.mpr (fun _ _ => rfl)]
  unfold zipD
  rw [List.length_map, List.length_map, ← hl, Nat.min_self, List.map_map]
  apply List.ext_getElem
  · simp [l1]
  intro i h1 h2
  have hi : i < u.length := by simpa using h1
  have hv : i < v.length := by omega
  have hx : i < x.length := by omega
  rw [List.getElem_map, List.getElem_map, List.getElem_range]
  have a : (u.map oiD).getD i .non = oiD (u.getD i none) := by simp [List.getD, hi]
  have b : (v.map oiD).getD i .non = oiD (v.getD i none) := by simp [List.getD, hv]
  show fbw (.tup [(u.map oiD).getD i .non, (v.map oiD).getD i .non]) = _
  rw [a, b]
  show oiD ((bw (oiO _) (oiO _)).getD none) = _
  rw [oiO_D, oiO_D, l2 i hi]
  simp [List.getD, hx]
theorem gthN_pre {E : Exs} : ∀ {n t : Nat} {G : List (List Int) × List Wnt}, gthN E n = some G → t ≤ n → ∃ G', gthN E t = some G'
  | 0, t, G, h, ht => by
    have : t = 0 := by omega
    subst this
    exact ⟨G, h⟩
  | n + 1, t, G, h, ht => by
    by_cases e : t = n + 1
    · subst e
      exact ⟨G, h⟩
    · obtain ⟨G0, h0, _⟩ := Option.bind_eq_some_iff.mp (show (gthN E n).bind _ = some G from h)
      exact gthN_pre h0 (by omega)
theorem idx_at {ks : List (List Int)} {f : List Int} (nd : ks.Nodup) {n : Nat} (h : (ks.map kY)[n]? = some (kY f)) : f ∈ ks ∧ n = ks.idxOf f := by
  rw [List.getElem?_map] at h
  obtain ⟨g, hg, e⟩ := Option.map_eq_some_iff.mp h
  have e := kY_inj e
  subst e
  have hm := List.mem_of_getElem? hg
  obtain ⟨hn, e2⟩ := List.getElem?_eq_some_iff.mp hg
  refine ⟨hm, ?_⟩
  have := List.getElem_idxOf (List.idxOf_lt_length_of_mem hm)
  exact (List.getElem_inj nd).mp (e2.trans this.symm)
theorem at_idx {ks : List (List Int)} {f : List Int} (h : f ∈ ks) : (ks.map kY)[ks.idxOf f]? = some (kY f) := by
  rw [List.getElem?_map]
  have := List.idxOf_lt_length_of_mem h
  simp [this, List.getElem_idxOf this]
theorem wn_at {us : List Wnt} {n : Nat} (h : n < us.length) : (us.map wnD)[n]? = some (wnD (us.getD n [])) := by simp [List.getD, h]
theorem kY_notin {ks : List (List Int)} {f : List Int} (h : f ∉ ks) : kY f ∉ ks.map kY := fun q => by
  obtain ⟨g, hg, e⟩ := List.mem_map.mp q
  exact h (kY_inj e ▸ hg)
end DL

set_option maxHeartbeats 400000
namespace K34
open PySem PySem.Spec PyProof.Rows L2 DL
def top (i : Nat) : Stmt := PySem.Challenge.pw_leastrow_k34_wishes_of_examples.main.body.getD i (.Pass ⟨0, 0, 0, 0⟩)
abbrev sCount : Stmt := top 8
abbrev sEach : Stmt := top 9
abbrev sFill : Stmt := top 10
abbrev sBw : Stmt := top 12
abbrev sBwt : Stmt := top 13
abbrev sWbf : Stmt := top 14
abbrev sHw : Stmt := top 15
abbrev sCho : Stmt := top 16
abbrev sWof : Stmt := top 17
abbrev sCellAt : Stmt := top 19
abbrev sLWhole : Stmt := top 20
abbrev sStream : Stmt := top 21
abbrev sSizeB : Stmt := top 22
abbrev sTwo : Stmt := top 23
abbrev sLFill : Stmt := top 24
abbrev sSmall : Stmt := top 25
abbrev sFilC : Stmt := top 26
abbrev sIsWish : Stmt := top 27
abbrev sCel : Stmt := top 28
abbrev sEx : Stmt := top 29
abbrev sWt : Stmt := top 30
abbrev sHas : Stmt := top 31
abbrev sDue : Stmt := top 32
abbrev sTold : Stmt := top 33
abbrev sRt : Stmt := top 34
abbrev sLaw : Stmt := top 35
section
variable {P : Program} {w : World} {K : PySem.W.Frag} {mg : Str → Option Value} {base : Heap} {f : Addr} {fd : FuncData}
theorem noLs_map {α : Type} (g : α → D) (h : ∀ a, noL (g a) = true) : ∀ l : List α, noLs (l.map g) = true
  | [] => rfl
  | a :: l => by
    show (noL (g a) && noLs (l.map g)) = true
    rw [h a, noLs_map g h l]
    rfl
def CCount : List D → R → Prop := fun ds r => ∃ p : Int × Int, ds = [sizD p] ∧ 0 ≤ p.1 ∧ p.1 ≤ 60 ∧ r = .val (.int (2 ^ p.1.toNat))
theorem ok_count (F : Fun K "word_count" "word_count" sCount f fd) (zrange : mg "range" = none) (hm : mg "word_count" = some (.ref f)) : Callee P w K mg base "word_count" 1 1 CCount := by
  have nd : (["size", "count", "bit"] : List Str).Nodup := by decide +kernel
  refine def_ok (N := ["size", "count", "bit"]) (ps := ["size"]) (k := 0) F ⟨rfl, rfl, rfl, nd, rfl, by decide +kernel, by decide +kernel⟩ hm (fun _ _ _ _ _ _ us hl => match us, hl with | [_], _ => rfl) fun cdv A outer s H E hr ds r hl c => ?_
  obtain ⟨p, rfl, h0, h1, rfl⟩ := c
  have ep : p.1 = ((p.1.toNat : Nat) : Int) := by omega
  refine psd_cons (psd_set 1 nd rfl (Or.inl rfl) pd_int ?_)
  refine psd_cons (psd_for (ds := rangeD 0 p.1.toNat) (fun k => [.val (sizD p), .val (.int (2 ^ k)), .un]) (fun k => [.val (sizD p), .val (.int (2 ^ k)), .val (.int (0 + (k : Int)))]) (pid_range (n := p.1.toNat) rfl zrange (PEd.cast (pd_ixT (n := 0) (d := .int p.1) (pd_var 0 rfl (pv 0)) pd_int rfl fun _ _ => rfl) (by rw [← ep])) (by omega)) ⟨.inr rfl, .inr rfl, .inr rfl, trivial⟩ (fun i d hd => ?_) (fun i d hd => ?_) ?_)
  · obtain ⟨_, rfl⟩ := rangeD_get hd
    exact pgd_name 2 (pg_name (i := 2) nd rfl (Or.inl rfl))
  · refine psd_one (psd_set 1 nd rfl (Or.inl rfl) (pd_iiC op_mulG (pd_var 1 rfl (pv 1)) pd_int (mul64 (by decide) (by decide))) ?_)
    exact ⟨.inr rfl, .inr rfl, .inl rfl, trivial⟩
  · refine psd_one (psd_ret (pd_var 1 rfl (pv 1)) trivial ?_)
    rw [rangeD_len]
def CEach : List D → R → Prop := fun ds r => ∃ (L : List (List Int)) (m : Nat), ds = [.lst (L.map tupI), .int (m : Int)] ∧ L.length * m ≤ 900 ∧ m ≤ 64 ∧ (∀ s ∈ L, s.length ≤ 100) ∧ r = .own ((L.flatMap fun s => (List.range m).map fun (w : Nat) => s ++ [(w : Int)]).map tupI)
theorem ok_each (F : Fun K "with_each_word" "with_each_word" sEach f fd) (zrange : mg "range" = none) (hm : mg "with_each_word" = some (.ref f)) : Callee P w K mg base "with_each_word" 1 2 CEach := by
  have nd : (["starts", "count", "longer", "start"] : List Str).Nodup := by decide +kernel
  refine def_ok (N := ["starts", "count", "longer", "start"]) (ps := ["starts", "count"]) (k := 0) F ⟨rfl, rfl, rfl, nd, rfl, by decide +kernel, by decide +kernel⟩ hm (fun _ _ _ _ _ _ us hl => match us, hl with | [_, _], _ => rfl) fun cdv A outer s H E hr ds r hl c => ?_
  obtain ⟨L, m, rfl, hL, hm64, hs, rfl⟩ := c
  have nd2 : (["word", "start"] : List Str).Nodup := by decide +kernel
  refine psd_cons (psd_setO 2 nd rfl (Or.inl rfl) (pd_lst (ds := []) pad_nil (Nat.zero_le _)) fun l => ?_)
  refine psd_cons (psd_for (ds := L.map tupI) (fun k => [.val (.lst (L.map tupI)), .val (.int (m : Int)), .own l (((L.take k).flatMap fun s => (List.range m).map fun (w : Nat) => s ++ [(w : Int)]).map tupI), .un]) (fun k => [.val (.lst (L.map tupI)), .val (.int (m : Int)), .own l (((L.take k).flatMap fun s => (List.range m).map fun (w : Nat) => s ++ [(w : Int)]).map tupI), .val (tupI (L.getD k []))]) (pid_list (pd_var 0 rfl (pv 0))) ⟨.inr rfl, .inr rfl, .inr rfl, .inr rfl, trivial⟩ (fun k d hd => ?_) (fun k d hd => ?_) ?_)
  · obtain ⟨_, rfl⟩ := tups_get hd
    exact pgd_name 3 (pg_name (i := 3) nd rfl (Or.inr rfl))
  · obtain ⟨hk, rfl⟩ := tups_get hd
    have hmem : L.getD k [] ∈ L := getD_mem hk
    have et : L.take (k + 1) = L.take k ++ [L.getD k []] := by
      rw [List.take_add_one]
      simp [List.getD, hk]
    have lk : (L.take k).length * m + m ≤ 900 := by
      have h1 : (L.take k).length + 1 ≤ L.length := by rw [List.length_take]; omega
      have h2 := Nat.mul_le_mul_right m h1
      rw [Nat.succ_mul] at h2
      omega
    have comp : ∀ {pos : Pos}, PEd (cxOf CX0 P w K mg base ["starts", "count", "longer", "start"] "with_each_word" (defScope sEach) f cdv A outer s H E).nox [.val (.lst (L.map tupI)), .val (.int (m : Int)), .own l (((L.take k).flatMap fun s => (List.range m).map fun (w : Nat) => s ++ [(w : Int)]).map tupI), .val (tupI (L.getD k []))] (match (defBody sEach).getD 1 (.Pass ⟨0, 0, 0, 0⟩) with | .For _ _ [.Expr (.Call _ [c] _ _) _] _ _ => c | _ => .Constant .none 0 ⟨0, 0, 0, 0⟩) (.own (((rangeD 0 m).filter fun _ => true).map fun d => D.tup ((L.getD k []).map D.int ++ [d]))) := fun {pos} => by
      refine pd_comp (N := ["word", "start"]) (M := ["starts", "count", "longer", "start"]) (cap := [none, some 3]) (sc := defScope sEach) (Tb := fun d => [.val d, .val (tupI (L.getD k []))]) (fun _ => true) (fun d => D.tup ((L.getD k []).map D.int ++ [d])) (pid_range (n := m) rfl zrange (pd_var 1 rfl (pv 1)) (by omega)) (by rw [rangeD_len]; omega) rfl (by decide +kernel) rfl (by decide +kernel) rfl (fun cl C fp s H d _ => pgd_name 0 (pg_name (i := 0) nd2 rfl (Or.inl rfl))) (fun d _ => ⟨.inl rfl, .inr rfl, trivial⟩) (fun cl C fp s H d _ => .inl ⟨rfl, rfl⟩) fun cl C fp s H d _ _ => ?_
      refine pd_catT (pd_var 1 rfl (pv 1)) (pd_tup (ds := [d]) (pad_cons (pd_var 0 rfl (pv 0)) pad_nil) (Nat.le_of_ble_eq_true rfl)) ?_
      have := hs _ hmem
      simp only [List.length_map, List.length_cons, List.length_nil]
      omega
    have ec : ((rangeD 0 m).filter fun _ => true).map (fun d => D.tup ((L.getD k []).map D.int ++ [d])) = ((List.range m).map fun (w : Nat) => L.getD k [] ++ [(w : Int)]).map tupI := by
      rw [List.filter_eq_self.mpr (fun _ _ => rfl)]
      unfold rangeD
      rw [List.map_map, List.map_map]
      refine List.map_congr_left fun w _ => ?_
      simp [tupI]
    refine psd_one (psd_extend 2 rfl (pv 2) (PEd.val (comp (pos := ⟨0, 0, 0, 0⟩))) ?_ ?_)
    · rw [List.length_map, flatMap_len, ec, List.length_map, List.length_map, List.length_range]
      omega
    · refine ⟨.inr rfl, .inr rfl, .inr ?_, .inl rfl, trivial⟩
      rw [et, ec, List.flatMap_append, List.map_append]
      simp
  · refine psd_one (psd_retO 2 rfl (pv 2) ?_)
    show R.own _ = R.own _
    rw [List.length_map, List.take_length]
def CFill : List D → R → Prop := fun ds r => ∃ p, p ∈ sizes14 ∧ ds = [sizD p] ∧ r = .own ((filI (2 ^ p.1.toNat) p.2.toNat).map tupI)
theorem ok_fill (F : Fun K "fillings" "fillings" sFill f fd) (zrange : mg "range" = none) (hm : mg "fillings" = some (.ref f)) (GC : Callee P w K mg base "word_count" 1 1 CCount) (GE : Callee P w K mg base "with_each_word" 1 2 CEach) : Callee P w K mg base "fillings" 2 1 CFill := by
  have nd : (["size", "count", "told", "box"] : List Str).Nodup := by decide +kernel
  refine def_ok (N := ["size", "count", "told", "box"]) (ps := ["size"]) (k := 1) F ⟨rfl, rfl, rfl, nd, rfl, by decide +kernel, by decide +kernel⟩ hm (fun _ _ _ _ _ _ us hl => match us, hl with | [_], _ => rfl) fun cdv A outer s H E hr ds r hl c => ?_
  obtain ⟨p, hp, rfl, rfl⟩ := c
  obtain ⟨h1, h2, h3, h4, h5⟩ := sz14 p hp
  have e2 : p.2 = ((p.2.toNat : Nat) : Int) := by omega
  have m64 : 2 ^ p.1.toNat ≤ 64 := by
    have : p.1.toNat ≤ 6 := by omega
    exact Nat.le_trans (Nat.pow_le_pow_right (by decide) this) (by decide)
  have ec : (2 : Int) ^ p.1.toNat = ((2 ^ p.1.toNat : Nat) : Int) := by push_cast; rfl
  refine psd_cons (psd_set 1 nd rfl (Or.inl rfl) (pd_call (ds := [sizD p]) GC hr rfl (pad_cons (pd_var 0 rfl (pv 0)) pad_nil) ⟨p, rfl, by omega, by omega, rfl⟩ trivial rfl) ?_)
  refine psd_cons (psd_setO (ds := [tupI []]) 2 nd rfl (Or.inl rfl) (pd_lst (ds := [tupI []]) (pad_cons (pd_tup (ds := []) pad_nil (Nat.zero_le _)) pad_nil) (Nat.le_of_ble_eq_true rfl)) fun l => ?_)
  refine psd_cons (psd_forG (ds := rangeD 0 p.2.toNat) (fun k sd => ∃ l, sd = [.val (sizD p), .val (.int (2 ^ p.1.toNat)), .own l ((filI (2 ^ p.1.toNat) k).map tupI), .un]) (pid_range (n := p.2.toNat) rfl zrange (PEd.cast (pd_ixT (n := 1) (d := .int p.2) (pd_var 0 rfl (pv 0)) pd_int rfl fun _ _ => rfl) (by rw [← e2])) (by omega)) ⟨_, Le.refl _, l, rfl⟩ (fun k d sdk hd hk => ?_) fun sdn hn => ?_)
  · obtain ⟨hk2, rfl⟩ := rangeD_get hd
    obtain ⟨l2, rfl⟩ := hk
    refine ⟨[.val (sizD p), .val (.int (2 ^ p.1.toNat)), .own l2 ((filI (2 ^ p.1.toNat) k).map tupI), .val (.int (0 + (k : Int)))], pgd_name 3 (pg_name (i := 3) nd rfl (Or.inl rfl)), ?_⟩
    refine psd_frz 2 rfl ?_
    refine psd_one (psd_setO 2 nd rfl (Or.inl rfl) (pd_call (ds := [.lst ((filI (2 ^ p.1.toNat) k).map tupI), .int ((2 ^ p.1.toNat : Nat) : Int)]) GE hr rfl (pad_cons (pd_var 2 rfl (pv 2)) (pad_cons (PEd.cast (pd_var 1 rfl (pv 1)) (by rw [ec])) pad_nil)) ⟨filI (2 ^ p.1.toNat) k, 2 ^ p.1.toNat, rfl, ?_, m64, fun s hs => ?_, rfl⟩ trivial rfl) fun l3 => ?_)
    · rw [fil_len]
      exact pow_small p hp k hk2
    · rw [fil_lens _ _ s hs]
      omega
    · exact ⟨[.val (sizD p), .val (.int (2 ^ p.1.toNat)), .own l3 ((filI (2 ^ p.1.toNat) (k + 1)).map tupI), .un], ⟨.inr rfl, .inr rfl, .inr rfl, .inl rfl, trivial⟩, l3, rfl⟩
  · rw [rangeD_len] at hn
    obtain ⟨l2, rfl⟩ := hn
    exact psd_one (psd_retO 2 rfl (pv 2) rfl)
theorem ok_bw34 {CN : Addr} (F : Fun K "both_words" "both_words" sBw f fd) (xk : Xk34 K mg CN) (hm : mg "both_words" = some (.ref f)) : Callee P w K mg base "both_words" 1 2 CBw ∧ CalleeX P w K mg base "both_words" 1 2 XBw (.ref CN) [] [] := by
  have nd : (["one", "other"] : List Str).Nodup := by decide +kernel
  constructor
  · refine def_ok (N := ["one", "other"]) (ps := ["one", "other"]) (k := 0) F ⟨rfl, rfl, rfl, nd, rfl, by decide +kernel, by decide +kernel⟩ hm (fun _ _ _ _ _ _ us hl => match us, hl with | [_, _], _ => rfl) fun cdv A outer s H E hr ds r hl c => ?_
    obtain ⟨a, b, c, h, rfl, rfl⟩ := c
    cases a with
    | none =>
      cases h
      exact psd_cons (psd_ifT (ptd_isN (d := .non) (pd_var 0 rfl (pv 0)) pd_non) rfl (psd_one (psd_ret (pd_var 1 rfl (pv 1)) trivial rfl)))
    | some x =>
      refine psd_cons (psd_ifF (ptd_isN (d := .int x) (pd_var 0 rfl (pv 0)) pd_non) rfl (psd_nil ?_))
      cases b with
      | none =>
        cases h
        exact psd_cons (psd_ifT (k := true) (PWd.pt (pwd_or (k := true) (j := true) (ptd_isN (d := .non) (pd_var 1 rfl (pv 1)) pd_non) fun h => by cases h)) rfl (psd_one (psd_ret (r := .val (.int x)) (pd_var 0 rfl (pv 0)) trivial rfl)))
      | some y =>
        have h : (if y = x then some (some x) else none) = some c := h
        split at h
        · rename_i e
          cases h
          exact psd_cons (psd_ifT (k := true) (PWd.pt (pwd_or (k := false) (j := true) (ptd_isN (d := .int y) (pd_var 1 rfl (pv 1)) pd_non) fun _ => pwd_or1 (PTd.cast (ptd_eqI (i := y) (j := x) (pd_var 1 rfl (pv 1)) (pd_var 0 rfl (pv 0))) (decide_eq_true e)))) rfl (psd_one (psd_ret (r := .val (.int x)) (pd_var 0 rfl (pv 0)) trivial rfl)))
        · cases h
  · refine def_okX (N := ["one", "other"]) (ps := ["one", "other"]) (k := 0) F ⟨rfl, rfl, rfl, nd, rfl, by decide +kernel, by decide +kernel⟩ hm (fun _ _ _ _ _ _ us hl => match us, hl with | [_, _], _ => rfl) fun cdv A outer s H E hr hE ds hl c => ?_
    obtain ⟨a, b, h, rfl⟩ := c
    obtain ⟨x, y, rfl, rfl, ne⟩ := bw_no h
    refine psd_cons (psd_ifF (ptd_isN (d := .int x) (pd_var 0 rfl (pv 0)) pd_non) rfl (psd_nil ?_))
    refine psd_cons (psd_ifF (k := false) (PWd.pt (pwd_or (k := false) (j := false) (ptd_isN (d := .int y) (pd_var 1 rfl (pv 1)) pd_non) fun _ => pwd_or1 (PTd.cast (ptd_eqI (i := y) (j := x) (pd_var 1 rfl (pv 1)) (pd_var 0 rfl (pv 0))) (decide_eq_false ne)))) rfl (psd_nil ?_))
    exact psd_one (psd_raise (ds := [.str _]) rfl xk.nw.1 xk.ex (takes_defN hE) (pad_cons pd_str pad_nil) (Nat.le_of_ble_eq_true rfl))
theorem ok_bwt34 {CN : Addr} (F : Fun K "both_wanted" "both_wanted" sBwt f fd) (ztuple : mg "tuple" = none) (zzip : mg "zip" = none) (hm : mg "both_wanted" = some (.ref f)) (GB : Callee P w K mg base "both_words" 1 2 CBw ∧ CalleeX P w K mg base "both_words" 1 2 XBw (.ref CN) [] []) : Callee P w K mg base "both_wanted" 2 2 CBwt ∧ CalleeX P w K mg base "both_wanted" 2 2 XBwt (.ref CN) [] [] := by
  have nd : (["one", "other"] : List Str).Nodup := by decide +kernel
  have nd2 : (["word", "another"] : List Str).Nodup := by decide +kernel
  constructor
  · refine def_ok (N := ["one", "other"]) (ps := ["one", "other"]) (k := 1) F ⟨rfl, rfl, rfl, nd, rfl, by decide +kernel, by decide +kernel⟩ hm (fun _ _ _ _ _ _ us hl => match us, hl with | [_, _], _ => rfl) fun cdv A outer s H E hr ds r hl c => ?_
    obtain ⟨u, v, x, hl2, h9, h, rfl, rfl⟩ := c
    obtain ⟨l1, l2⟩ := bwt_some hl2 h
    refine psd_one (psd_ret (pd_tupleL (ds := x.map oiD) rfl ztuple (PEd.bor (PEd.val (PEd.cast (pd_comp (ds := zipD (u.map oiD) (v.map oiD)) (N := ["word", "another"]) (M := ["one", "other"]) (cap := [none, none]) (sc := defScope sBwt) (Tb := fun d => match d with | .tup [a, b] => [.val a, .val b] | _ => [.un, .un]) (fun _ => true) fbw (pid_zip true true rfl zzip (pd_var 0 rfl (pv 0)) (pd_var 1 rfl (pv 1))) (by rw [zipD_len, List.length_map, List.length_map]; omega) rfl (by decide +kernel) rfl (by decide +kernel) rfl (fun cl C fp s H d hd => ?_) (fun d hd => ?_) (fun cl C fp s H d hd => .inl ⟨rfl, rfl⟩) fun cl C2 fp s H d hd _ => ?_) (by rw [zip_bwt hl2 h]))))) trivial rfl)
    · obtain ⟨t, ht, ht2, rfl⟩ := zip_oi d hd
      exact pgd_tup (js := [0, 1]) rfl (pgs_cons (pg_name (i := 0) nd2 rfl (Or.inl rfl)) (pgs_cons (pg_name (i := 1) nd2 rfl (Or.inl rfl)) pgs_nil)) rfl rfl
    · obtain ⟨t, ht, ht2, rfl⟩ := zip_oi d hd
      exact ⟨.inl rfl, .inl rfl, trivial⟩
    · obtain ⟨t, ht, ht2, rfl⟩ := zip_oi d hd
      show PEd _ _ _ (.val (oiD ((bw (oiO (oiD _)) (oiO (oiD _))).getD none)))
      rw [oiO_D, oiO_D, l2 t ht]
      exact pd_call (ds := [oiD (u.getD t none), oiD (v.getD t none)]) (r := .val (oiD (x.getD t none))) GB.1 hr rfl (pad_cons (pd_var 0 rfl (pv 0)) (pad_cons (pd_var 1 rfl (pv 1)) pad_nil)) ⟨_, _, _, l2 t ht, rfl, rfl⟩ trivial rfl
  · refine def_okX (N := ["one", "other"]) (ps := ["one", "other"]) (k := 1) F ⟨rfl, rfl, rfl, nd, rfl, by decide +kernel, by decide +kernel⟩ hm (fun _ _ _ _ _ _ us hl => match us, hl with | [_, _], _ => rfl) fun cdv A outer s H E hr hE ds hl c => ?_
    obtain ⟨u, v, hl2, h9, h, rfl⟩ := c
    obtain ⟨n, hn, q1, q2⟩ := bwt_none hl2 h
    have zl : (zipD (u.map oiD) (v.map oiD)).length = u.length := by rw [zipD_len, List.length_map, List.length_map, ← hl2, Nat.min_self]
    have zg : ∀ {k : Nat} {d : D}, (zipD (u.map oiD) (v.map oiD))[k]? = some d → d = .tup [oiD (u.getD k none), oiD (v.getD k none)] := fun {k d} hd => by
      obtain ⟨x, y, p1, p2, rfl⟩ := zipD_get hd
      obtain ⟨_, rfl⟩ := oi_get p1
      obtain ⟨_, rfl⟩ := oi_get p2
      rfl
    refine psd_one (psd_retE (px_arg rfl ztuple PyProof.Rows.boot_tuple call_tuple_of (px_comp (cls := .ref CN) (ds := zipD (u.map oiD) (v.map oiD)) (N := ["word", "another"]) (M := ["one", "other"]) (cap := [none, none]) (sc := defScope sBwt) (Tb := fun d => match d with | .tup [a, b] => [.val a, .val b] | _ => [.un, .un]) fbw n (by rw [zl]; exact hn) (pid_zip true true rfl zzip (pd_var 0 rfl (pv 0)) (pd_var 1 rfl (pv 1))) (by rw [zl]; omega) rfl (by decide +kernel) rfl (by decide +kernel) rfl (fun cl C fp s H ξ d hd => ?_) (fun d hd => ?_) (fun cl C fp s H ξ k d hd hk => ?_) (fun cl C fp s H ξ Old d hd hth htk => ?_) (takes_defA hE))))
    · obtain ⟨t, ht, ht2, rfl⟩ := zip_oi d hd
      exact pgd_tup (js := [0, 1]) rfl (pgs_cons (pg_name (i := 0) nd2 rfl (Or.inl rfl)) (pgs_cons (pg_name (i := 1) nd2 rfl (Or.inl rfl)) pgs_nil)) rfl rfl
    · obtain ⟨t, ht, ht2, rfl⟩ := zip_oi d hd
      exact ⟨.inl rfl, .inl rfl, trivial⟩
    · have := zg hd
      subst this
      obtain ⟨c, hc⟩ := q2 k hk
      show PEd _ _ _ (.val (oiD ((bw (oiO (oiD _)) (oiO (oiD _))).getD none)))
      rw [oiO_D, oiO_D, hc]
      exact pd_call (ds := [oiD (u.getD k none), oiD (v.getD k none)]) (r := .val (oiD c)) GB.1 hr rfl (pad_cons (pd_var 0 rfl (pv 0)) (pad_cons (pd_var 1 rfl (pv 1)) pad_nil)) ⟨_, _, _, hc, rfl, rfl⟩ trivial rfl
    · have := zg hd
      subst this
      exact px_callO (ds := [oiD (u.getD n none), oiD (v.getD n none)]) (dds := []) GB.2 hth hr rfl (pad_cons (pd_var 0 rfl (pv 0)) (pad_cons (pd_var 1 rfl (pv 1)) pad_nil)) (fun _ => RepL.nil) ⟨_, _, q1, rfl⟩ rfl htk
theorem gth_len {E : Exs} : ∀ {t : Nat} {G : List (List Int) × List Wnt}, gthN E t = some G → G.2.length ≤ t
  | 0, G, h => by cases h; exact Nat.le_refl _
  | t + 1, G, h => by
    obtain ⟨G0, h0, h1⟩ := Option.bind_eq_some_iff.mp (show (gthN E t).bind _ = some G from h)
    have := gth_len h0
    unfold gstep at h1
    split at h1
    · obtain ⟨u, _, rfl⟩ := Option.map_eq_some_iff.mp h1
      rw [List.length_set]
      omega
    · cases h1
      rw [List.length_append]
      show _ + 1 ≤ _
      omega
theorem ok_wbf34 {CN : Addr} (F : Fun K "wanted_by_filling" "wanted_by_filling" sWbf f fd) (hm : mg "wanted_by_filling" = some (.ref f)) (GB : Callee P w K mg base "both_wanted" 2 2 CBwt ∧ CalleeX P w K mg base "both_wanted" 2 2 XBwt (.ref CN) [] []) : Callee P w K mg base "wanted_by_filling" 3 1 (CWbf P w K) ∧ CalleeX P w K mg base "wanted_by_filling" 3 1 XWbf (.ref CN) [] [] := by
  have nd : (["examples", "gathered", "filling", "wanted"] : List Str).Nodup := by decide +kernel
  constructor
  · refine def_ok (N := ["examples", "gathered", "filling", "wanted"]) (ps := ["examples"]) (k := 2) F ⟨rfl, rfl, rfl, nd, rfl, by decide +kernel, by decide +kernel⟩ hm (fun _ _ _ _ _ _ us hl => match us, hl with | [_], _ => rfl) fun cdv A outer s H E hr ds r hl c => ?_
    obtain ⟨p, L, Gf, hp, O, h9, hG, rfl, rfl⟩ := c
    obtain ⟨z1, z2, z3, z4, z5⟩ := sz14 p hp
    have hu : (A.deeper (envOfC "wanted_by_filling" (defScope sWbf) s.heap.objs.size f cdv)).units + 1 < cLine := by have := hr.un; omega
    refine psd_cons (psd_dnewT 1 nd rfl (Or.inl rfl) fun l => ?_)
    refine psd_cons (psd_forG (ds := L.map exD) (fun t sd => ∃ G, gthN L t = some G ∧ sd = [.val (.lst (L.map exD)), odT P w K l (G.1.map kY) (G.2.map wnD), .un, .un]) (pid_list (pd_var 0 rfl (pv 0))) ⟨_, Le.refl _, ([], []), rfl, rfl⟩ (fun t d sdt hd ht => ?_) (fun sdn hn => ?_))
    · obtain ⟨htl, rfl⟩ := ex_get hd
      obtain ⟨G, hGt, rfl⟩ := ht
      have K0 := gok O (by omega) hGt
      have xm : L.getD t ([], []) ∈ L := getD_mem htl
      have wl := O.len _ xm
      have gs : gthN L (t + 1) = gstep G (L.getD t ([], [])) := by
        show (gthN L t).bind _ = _
        rw [hGt]
        rfl
      have gl : G.2.length ≤ t := by
        have := gth_len hGt
        omega
      generalize L.getD t ([], []) = x at xm wl gs
      refine ⟨[.val (.lst (L.map exD)), odT P w K l (G.1.map kY) (G.2.map wnD), .val (tupI x.1), .val (wnD x.2)], pgd_tup (ds := [tupI x.1, wnD x.2]) (js := [2, 3]) rfl (pgs_cons (pg_name (i := 2) nd rfl (Or.inl rfl)) (pgs_cons (pg_name (i := 3) nd rfl (Or.inl rfl)) pgs_nil)) rfl rfl, ?_⟩
      by_cases hm : x.1 ∈ G.1
      · have il : G.1.idxOf x.1 < G.2.length := by rw [← K0.ln]; exact List.idxOf_lt_length_of_mem hm
        have ul := K0.wl _ (getD_mem (d := ([] : Wnt)) il)
        have gs : gthN L (t + 1) = (bwt (G.2.getD (G.1.idxOf x.1) []) x.2).map fun u => (G.1, G.2.set (G.1.idxOf x.1) u) := by rw [gs]; exact if_pos hm
        cases hb : bwt (G.2.getD (G.1.idxOf x.1) []) x.2 with
        | none =>
          rw [hb] at gs
          obtain ⟨G', e⟩ := gthN_pre (t := t + 1) hG htl
          rw [gs] at e
          cases e
        | some u =>
          rw [hb] at gs
          refine psd_one (psd_dputA (n := G.1.idxOf x.1) (k := kY x.1) (d := wnD u) 1 hu rfl (pv 1) (pd_call (ds := [wnD (G.2.getD (G.1.idxOf x.1) []), wnD x.2]) GB.1 hr rfl (pad_cons (pd_get2 (k := kY x.1) (d := wnD (G.2.getD (G.1.idxOf x.1) [])) 1 hu (getT_slot rfl) (PEd.cast (pd_var 2 rfl (pv 2)) (by rw [kY_D])) (pd_var 3 rfl (pv 3)) (fun n hn => by obtain ⟨_, e⟩ := idx_at K0.nd hn; rw [e]; exact wn_at il) fun q => (q (List.mem_map.mpr ⟨_, hm, rfl⟩)).elim) (pad_cons (pd_var 3 rfl (pv 3)) pad_nil)) ⟨_, _, u, by rw [ul, wl], by rw [ul]; omega, hb, rfl, rfl⟩ trivial rfl) (PEd.cast (pd_var 2 rfl (pv 2)) (by rw [kY_D])) (kY_nodup K0.nd) (at_idx hm) ?_)
          refine ⟨[.val (.lst (L.map exD)), odT P w K l (G.1.map kY) ((G.2.set (G.1.idxOf x.1) u).map wnD), .un, .un], ⟨.inr rfl, .inr ?_, .inl rfl, .inl rfl, trivial⟩, _, gs, rfl⟩
          rw [List.map_set]
          rfl
      · have gs : gthN L (t + 1) = some (G.1 ++ [x.1], G.2 ++ [x.2]) := by rw [gs]; exact if_neg hm
        refine psd_one (psd_dputT (k := kY x.1) (d := wnD x.2) 1 hu rfl (pv 1) (pd_call (ds := [wnD x.2, wnD x.2]) GB.1 hr rfl (pad_cons (pd_get2 (k := kY x.1) (d := wnD x.2) 1 hu (getT_slot rfl) (PEd.cast (pd_var 2 rfl (pv 2)) (by rw [kY_D])) (pd_var 3 rfl (pv 3)) (fun n hn => (hm (idx_at K0.nd hn).1).elim) fun _ => rfl) (pad_cons (pd_var 3 rfl (pv 3)) pad_nil)) ⟨_, _, x.2, rfl, by rw [wl]; omega, bwt_self _, rfl, rfl⟩ trivial rfl) (PEd.cast (pd_var 2 rfl (pv 2)) (by rw [kY_D])) (kY_notin hm) (by rw [List.length_map]; omega) ?_)
        refine ⟨[.val (.lst (L.map exD)), odT P w K l ((G.1 ++ [x.1]).map kY) ((G.2 ++ [x.2]).map wnD), .un, .un], ⟨.inr rfl, .inr ?_, .inl rfl, .inl rfl, trivial⟩, _, gs, rfl⟩
        rw [List.map_append, List.map_append]
        rfl
    · obtain ⟨G, hGt, rfl⟩ := hn
      rw [List.length_map] at hGt
      have e : G = Gf := by
        have hG : gthN L L.length = some Gf := hG
        rw [hG] at hGt
        exact (Option.some.inj hGt).symm
      subst e
      exact psd_one (psd_retX 1 rfl (pv 1) (fun v F H q => ⟨l, rfl, q⟩) rfl)
  · refine def_okX (N := ["examples", "gathered", "filling", "wanted"]) (ps := ["examples"]) (k := 2) F ⟨rfl, rfl, rfl, nd, rfl, by decide +kernel, by decide +kernel⟩ hm (fun _ _ _ _ _ _ us hl => match us, hl with | [_], _ => rfl) fun cdv A outer s H E hr hE ds hl c => ?_
    obtain ⟨p, L, hp, O, h9, hG, rfl⟩ := c
    obtain ⟨z1, z2, z3, z4, z5⟩ := sz14 p hp
    have hu : (A.deeper (envOfC "wanted_by_filling" (defScope sWbf) s.heap.objs.size f cdv)).units + 1 < cLine := by have := hr.un; omega
    refine psd_cons (psd_dnewT 1 nd rfl (Or.inl rfl) fun l => ?_)
    refine psd_cons (psd_forG (ds := L.map exD) (fun t sd => ∃ G, gthN L t = some G ∧ sd = [.val (.lst (L.map exD)), odT P w K l (G.1.map kY) (G.2.map wnD), .un, .un]) (pid_list (pd_var 0 rfl (pv 0))) ⟨_, Le.refl _, ([], []), rfl, rfl⟩ (fun t d sdt hd ht => ?_) (fun sdn hn => ?_) (hp := PassesOwn.leaving))
    · obtain ⟨htl, rfl⟩ := ex_get hd
      obtain ⟨G, hGt, rfl⟩ := ht
      have K0 := gok O (by omega) hGt
      have xm : L.getD t ([], []) ∈ L := getD_mem htl
      have wl := O.len _ xm
      have gs : gthN L (t + 1) = gstep G (L.getD t ([], [])) := by
        show (gthN L t).bind _ = _
        rw [hGt]
        rfl
      have gl : G.2.length ≤ t := by
        have := gth_len hGt
        omega
      generalize L.getD t ([], []) = x at xm wl gs
      refine ⟨[.val (.lst (L.map exD)), odT P w K l (G.1.map kY) (G.2.map wnD), .val (tupI x.1), .val (wnD x.2)], pgd_tup (ds := [tupI x.1, wnD x.2]) (js := [2, 3]) rfl (pgs_cons (pg_name (i := 2) nd rfl (Or.inl rfl)) (pgs_cons (pg_name (i := 3) nd rfl (Or.inl rfl)) pgs_nil)) rfl rfl, ?_⟩
      by_cases hm : x.1 ∈ G.1
      · have il : G.1.idxOf x.1 < G.2.length := by rw [← K0.ln]; exact List.idxOf_lt_length_of_mem hm
        have ul := K0.wl _ (getD_mem (d := ([] : Wnt)) il)
        have gs : gthN L (t + 1) = (bwt (G.2.getD (G.1.idxOf x.1) []) x.2).map fun u => (G.1, G.2.set (G.1.idxOf x.1) u) := by rw [gs]; exact if_pos hm
        cases hb : bwt (G.2.getD (G.1.idxOf x.1) []) x.2 with
        | none =>
          rw [hb] at gs
          exact psd_one (psd_asgE (px_callO (ds := [wnD (G.2.getD (G.1.idxOf x.1) []), wnD x.2]) (dds := []) GB.2 (there_ent rfl) hr rfl (pad_cons (pd_get2 (k := kY x.1) (d := wnD (G.2.getD (G.1.idxOf x.1) [])) 1 hu (getT_slot rfl) (PEd.cast (pd_var 2 rfl (pv 2)) (by rw [kY_D])) (pd_var 3 rfl (pv 3)) (fun n hn => by obtain ⟨_, e⟩ := idx_at K0.nd hn; rw [e]; exact wn_at il) fun q => (q (List.mem_map.mpr ⟨_, hm, rfl⟩)).elim) (pad_cons (pd_var 3 rfl (pv 3)) pad_nil)) (fun _ => RepL.nil) ⟨_, _, by rw [ul, wl], by rw [ul]; omega, hb, rfl⟩ rfl (Takes.o (TakesA.tk (takes_defA hE)))))
        | some u =>
          rw [hb] at gs
          refine psd_one (psd_dputA (n := G.1.idxOf x.1) (k := kY x.1) (d := wnD u) 1 hu rfl (pv 1) (pd_call (ds := [wnD (G.2.getD (G.1.idxOf x.1) []), wnD x.2]) GB.1 hr rfl (pad_cons (pd_get2 (k := kY x.1) (d := wnD (G.2.getD (G.1.idxOf x.1) [])) 1 hu (getT_slot rfl) (PEd.cast (pd_var 2 rfl (pv 2)) (by rw [kY_D])) (pd_var 3 rfl (pv 3)) (fun n hn => by obtain ⟨_, e⟩ := idx_at K0.nd hn; rw [e]; exact wn_at il) fun q => (q (List.mem_map.mpr ⟨_, hm, rfl⟩)).elim) (pad_cons (pd_var 3 rfl (pv 3)) pad_nil)) ⟨_, _, u, by rw [ul, wl], by rw [ul]; omega, hb, rfl, rfl⟩ trivial rfl) (PEd.cast (pd_var 2 rfl (pv 2)) (by rw [kY_D])) (kY_nodup K0.nd) (at_idx hm) ?_)
          refine ⟨[.val (.lst (L.map exD)), odT P w K l (G.1.map kY) ((G.2.set (G.1.idxOf x.1) u).map wnD), .un, .un], ⟨.inr rfl, .inr ?_, .inl rfl, .inl rfl, trivial⟩, _, gs, rfl⟩
          rw [List.map_set]
          rfl
      · have gs : gthN L (t + 1) = some (G.1 ++ [x.1], G.2 ++ [x.2]) := by rw [gs]; exact if_neg hm
        refine psd_one (psd_dputT (k := kY x.1) (d := wnD x.2) 1 hu rfl (pv 1) (pd_call (ds := [wnD x.2, wnD x.2]) GB.1 hr rfl (pad_cons (pd_get2 (k := kY x.1) (d := wnD x.2) 1 hu (getT_slot rfl) (PEd.cast (pd_var 2 rfl (pv 2)) (by rw [kY_D])) (pd_var 3 rfl (pv 3)) (fun n hn => (hm (idx_at K0.nd hn).1).elim) fun _ => rfl) (pad_cons (pd_var 3 rfl (pv 3)) pad_nil)) ⟨_, _, x.2, rfl, by rw [wl]; omega, bwt_self _, rfl, rfl⟩ trivial rfl) (PEd.cast (pd_var 2 rfl (pv 2)) (by rw [kY_D])) (kY_notin hm) (by rw [List.length_map]; omega) ?_)
        refine ⟨[.val (.lst (L.map exD)), odT P w K l ((G.1 ++ [x.1]).map kY) ((G.2 ++ [x.2]).map wnD), .un, .un], ⟨.inr rfl, .inr ?_, .inl rfl, .inl rfl, trivial⟩, _, gs, rfl⟩
        rw [List.map_append, List.map_append]
        rfl
    · obtain ⟨G, hGt, rfl⟩ := hn
      rw [List.length_map] at hGt
      have hG : gthN L L.length = none := hG
      rw [hG] at hGt
      cases hGt
def fhw : D → D
  | .tup [a, b] => .bl (hw1 ((oiO a).getD 0) (oiO b))
  | _ => .non
theorem ok_hw34 (F : Fun K "has_wanted" "has_wanted" sHw f fd) (zall : mg "all" = none) (zzip : mg "zip" = none) (hm : mg "has_wanted" = some (.ref f)) : Callee P w K mg base "has_wanted" 1 2 CHw := by
  have nd : (["filling", "wanted"] : List Str).Nodup := by decide +kernel
  have nd2 : (["word", "want"] : List Str).Nodup := by decide +kernel
  refine def_ok (N := ["filling", "wanted"]) (ps := ["filling", "wanted"]) (k := 0) F ⟨rfl, rfl, rfl, nd, rfl, by decide +kernel, by decide +kernel⟩ hm (fun _ _ _ _ _ _ us hl => match us, hl with | [_, _], _ => rfl) fun cdv A outer s H E hr ds r hl c => ?_
  obtain ⟨g, u, g9, rfl, rfl⟩ := c
  have zl : (zipD (g.map D.int) (u.map oiD)).length = min g.length u.length := by rw [zipD_len, List.length_map, List.length_map]
  have sh : ∀ d ∈ zipD (g.map D.int) (u.map oiD), ∃ t : Nat, t < g.length ∧ t < u.length ∧ d = .tup [.int (g.getD t 0), oiD (u.getD t none)] := fun d hd => by
    obtain ⟨t, ht⟩ := List.getElem?_of_mem hd
    obtain ⟨x, y, q1, q2, rfl⟩ := zipD_get ht
    obtain ⟨q3, rfl⟩ := ints_get q1
    obtain ⟨q4, rfl⟩ := oi_get q2
    exact ⟨t, q3, q4, rfl⟩
  have ec : ((zipD (g.map D.int) (u.map oiD)).filter fun _ => true).map fhw = ((List.range (min g.length u.length)).map fun i => hw1 (g.getD i 0) (u.getD i none)).map D.bl := by
    rw [List.filter_eq_self.mpr (fun _ _ => rfl)]
    unfold zipD
    rw [List.length_map, List.length_map, List.map_map, List.map_map]
    refine List.map_congr_left fun j hj => ?_
    have hj := List.mem_range.mp hj
    have a : (g.map D.int).getD j .non = .int (g.getD j 0) := by simp [List.getD, show j < g.length by omega]
    have b : (u.map oiD).getD j .non = oiD (u.getD j none) := by simp [List.getD, show j < u.length by omega]
    show fhw (.tup [(g.map D.int).getD j .non, (u.map oiD).getD j .non]) = _
    rw [a, b]
    show D.bl (hw1 ((oiO (.int _)).getD 0) (oiO (oiD _))) = _
    rw [oiO_D]
    rfl
  refine psd_one (psd_ret (pd_allL (bs := (List.range (min g.length u.length)).map fun i => hw1 (g.getD i 0) (u.getD i none)) rfl zall (PEd.bor (PEd.val (PEd.cast (pd_comp (ds := zipD (g.map D.int) (u.map oiD)) (N := ["word", "want"]) (M := ["filling", "wanted"]) (cap := [none, none]) (sc := defScope sHw) (Tb := fun d => match d with | .tup [a, b] => [.val a, .val b] | _ => [.un, .un]) (fun _ => true) fhw (pid_zip true true rfl zzip (pd_var 0 rfl (pv 0)) (pd_var 1 rfl (pv 1))) (by rw [zl]; omega) rfl (by decide +kernel) rfl (by decide +kernel) rfl (fun cl C fp s H d hd => ?_) (fun d hd => ?_) (fun cl C fp s H d hd => .inl ⟨rfl, rfl⟩) fun cl C2 fp s H d hd _ => ?_) (by rw [ec]))))) trivial rfl)
  · obtain ⟨t, ht, ht2, rfl⟩ := sh d hd
    exact pgd_tup (js := [0, 1]) rfl (pgs_cons (pg_name (i := 0) nd2 rfl (Or.inl rfl)) (pgs_cons (pg_name (i := 1) nd2 rfl (Or.inl rfl)) pgs_nil)) rfl rfl
  · obtain ⟨t, ht, ht2, rfl⟩ := sh d hd
    exact ⟨.inl rfl, .inl rfl, trivial⟩
  · obtain ⟨t, ht, ht2, rfl⟩ := sh d hd
    show PEd _ _ _ (.val (.bl (hw1 ((oiO (.int _)).getD 0) (oiO (oiD _)))))
    rw [oiO_D]
    cases u.getD t none with
    | none => exact PEd.cast (pd_or (k := true) (j := true) (pd_isN (d := .non) (pd_var 1 rfl (pv 1)) pd_non) fun h => by cases h) rfl
    | some y => exact PEd.cast (pd_or (k := false) (j := decide (g.getD t 0 = y)) (pd_isN (d := .int y) (pd_var 1 rfl (pv 1)) pd_non) fun _ => pd_one (pd_eqI (i := g.getD t 0) (j := y) (pd_var 0 rfl (pv 0)) (pd_var 1 rfl (pv 1)))) rfl
theorem ok_cho34 (F : Fun K "choice_of" "choice_of" sCho f fd) (zall : mg "all" = none) (hm : mg "choice_of" = some (.ref f)) (GF : Callee P w K mg base "fillings" 2 1 CFill) (GH : Callee P w K mg base "has_wanted" 1 2 CHw) : Callee P w K mg base "choice_of" 3 2 CCho := by
  have nd : (["size", "wanted"] : List Str).Nodup := by decide +kernel
  have nd1 : (["want"] : List Str).Nodup := by decide +kernel
  have nd2 : (["filling", "wanted"] : List Str).Nodup := by decide +kernel
  refine def_ok (N := ["size", "wanted"]) (ps := ["size", "wanted"]) (k := 2) F ⟨rfl, rfl, rfl, nd, rfl, by decide +kernel, by decide +kernel⟩ hm (fun _ _ _ _ _ _ us hl => match us, hl with | [_, _], _ => rfl) fun cdv A outer s H E hr ds r hl c => ?_
  obtain ⟨p, u, hp, u9, rfl, rfl⟩ := c
  have hr1 := hr.mono (show 1 ≤ 2 by decide)
  have f9 : (filA p).length ≤ 64 := fil_900 hp
  obtain ⟨h1, h2, h3, h4, h5⟩ := sz14 p hp
  have sh : ∀ d ∈ u.map oiD, ∃ o, d = oiD o := fun d hd => by
    obtain ⟨o, _, rfl⟩ := List.mem_map.mp hd
    exact ⟨o, rfl⟩
  have ec : ((u.map oiD).filter fun _ => true).map (fun d => D.bl (isN d)) = (u.map Option.isNone).map D.bl := by
    rw [List.filter_eq_self.mpr (fun _ _ => rfl), List.map_map, List.map_map]
    refine List.map_congr_left fun o _ => ?_
    show D.bl (isN (oiD o)) = _
    rw [isN_oi]
    rfl
  refine psd_cons (psd_if (k := noW u) (ptd_val (pd_allL (bs := u.map Option.isNone) rfl zall (PEd.bor (PEd.val (PEd.cast (pd_comp (ds := u.map oiD) (N := ["want"]) (M := ["size", "wanted"]) (cap := [none]) (sc := defScope sCho) (Tb := fun d => [.val d]) (fun _ => true) (fun d => D.bl (isN d)) (pid_tup (pd_var 1 rfl (pv 1))) (by rw [List.length_map]; omega) rfl (by decide +kernel) rfl (by decide +kernel) rfl (fun cl C fp s H d hd => pgd_name 0 (pg_name (i := 0) nd1 rfl (Or.inl rfl))) (fun d hd => ⟨.inl rfl, trivial⟩) (fun cl C fp s H d hd => .inl ⟨rfl, rfl⟩) fun cl C2 fp s H d hd _ => pd_isN (pd_var 0 rfl (pv 0)) pd_non) (by rw [ec])))))) (fun h => ?_) fun h => psd_nil ?_)
  · have e : choQ p u = none := if_pos h
    rw [e]
    exact psd_one (psd_ret pd_non trivial rfl)
  · have e : choQ p u = some ((filA p).filter fun g => hwQ g u) := if_neg (by rw [h]; decide)
    rw [e]
    have ef : (((filA p).map tupI).filter fun d => hwQ (intsOf d) u).map (fun d => d) = ((filA p).filter fun g => hwQ g u).map tupI := by
      rw [List.map_id', List.filter_map]
      refine congrArg (List.map tupI) (List.filter_congr fun g _ => ?_)
      show hwQ (intsOf (tupI g)) u = _
      rw [intsOf_tup]
    refine psd_one (psd_ret (PEd.cast (pd_comp (ds := (filA p).map tupI) (N := ["filling", "wanted"]) (M := ["size", "wanted"]) (cap := [none, some 1]) (sc := defScope sCho) (Tb := fun d => [.val d, .val (wnD u)]) (fun d => hwQ (intsOf d) u) (fun d => d) (pid_list (PEd.val (pd_call (ds := [sizD p]) GF hr rfl (pad_cons (pd_var 0 rfl (pv 0)) pad_nil) ⟨p, hp, rfl, rfl⟩ trivial rfl))) (by rw [List.length_map]; omega) rfl (by decide +kernel) rfl (by decide +kernel) rfl (fun cl C fp s H d hd => pgd_name 0 (pg_name (i := 0) nd2 rfl (Or.inl rfl))) (fun d hd => ⟨.inl rfl, .inr rfl, trivial⟩) (fun cl C fp s H d hd => .inr ⟨_, rfl, ?_⟩) fun cl C2 fp s H d hd _ => (pd_var 0 rfl (pv 0))) (by rw [ef]; rfl)) trivial rfl)
    obtain ⟨g, hg, rfl⟩ := mem_tups hd
    rw [intsOf_tup]
    exact ptd_val (pd_call (ds := [tupI g, wnD u]) GH hr1 rfl (pad_cons (pd_var 0 rfl (pv 0)) (pad_cons (pd_var 1 rfl (pv 1)) pad_nil)) ⟨g, u, by rw [(fil_Fil hp hg).len]; omega, rfl, rfl⟩ trivial rfl)
theorem ok_wof34 {CN : Addr} (F : Fun K "wish_of" "wish_of" sWof f fd) (hm : mg "wish_of" = some (.ref f)) (GB : Callee P w K mg base "wanted_by_filling" 3 1 (CWbf P w K) ∧ CalleeX P w K mg base "wanted_by_filling" 3 1 XWbf (.ref CN) [] []) (GC : Callee P w K mg base "choice_of" 3 2 CCho) (GF : Callee P w K mg base "fillings" 2 1 CFill) : Callee P w K mg base "wish_of" 4 2 (CWof K) ∧ CalleeX P w K mg base "wish_of" 4 2 XWof (.ref CN) [] [] := by
  have nd : (["size", "examples", "gathered"] : List Str).Nodup := by decide +kernel
  have nd2 : (["filling", "size", "gathered"] : List Str).Nodup := by decide +kernel
  constructor
  · refine def_ok (N := ["size", "examples", "gathered"]) (ps := ["size", "examples"]) (k := 3) F ⟨rfl, rfl, rfl, nd, rfl, by decide +kernel, by decide +kernel⟩ hm (fun _ _ _ _ _ _ us hl => match us, hl with | [_, _], _ => rfl) fun cdv A outer s H E hr ds r hl c => ?_
    obtain ⟨p, L, G, hp, O, h9, hG, rfl, rfl⟩ := c
    have hr2 := hr.mono (show 2 ≤ 3 by decide)
    have f9 : (filA p).length ≤ 64 := fil_900 hp
    obtain ⟨h1, h2, h3, h4, h5⟩ := sz14 p hp
    have hu : (A.deeper (envOfC "wish_of" (defScope sWof) s.heap.objs.size f cdv)).units + 1 < cLine := by have := hr.un; omega
    have K0 := gok O (Nat.le_refl _) hG
    refine psd_cons (psd_setTF (ks := G.1.map kY) (ds := G.2.map wnD) 2 nd rfl (Or.inr rfl) (pd_call (ds := [.lst (L.map exD)]) GB.1 hr rfl (pad_cons (pd_var 1 rfl (pv 1)) pad_nil) ⟨p, L, G, hp, O, h9, hG, rfl, rfl⟩ trivial rfl) ?_)
    have nf : ∀ d es, (choQ p (wantQ G (intsOf d))).map (List.map tupI) = some es → noLs es = true := fun d es he => by
      obtain ⟨M, _, rfl⟩ := Option.map_eq_some_iff.mp he
      exact noLs_map tupI (fun ws => noLs_int ws) M
    have ec : (((filA p).map tupI).filter fun _ => true).map (fun d => (choQ p (wantQ G (intsOf d))).map (List.map tupI)) = (dueQ34 p L).map (Option.map (List.map tupI)) := by
      rw [List.filter_eq_self.mpr (fun _ _ => rfl), List.map_map, ← wof_due hp O hG]
      unfold wofQ
      rw [List.map_map]
      refine List.map_congr_left fun g _ => ?_
      show (choQ p (wantQ G (intsOf (tupI g)))).map _ = _
      rw [intsOf_tup]
      rfl
    refine psd_one (psd_ret (PEd.cast (pd_compO (ds := (filA p).map tupI) (N := ["filling", "size", "gathered"]) (M := ["size", "examples", "gathered"]) (cap := [none, some 0, some 2]) (sc := defScope sWof) (Tb := fun d => [.val d, .val (sizD p), odF P w K (G.1.map kY) (G.2.map wnD)]) (fun _ => true) (fun d => (choQ p (wantQ G (intsOf d))).map (List.map tupI)) nf (pid_list (PEd.val (pd_call (ds := [sizD p]) GF hr2 rfl (pad_cons (pd_var 0 rfl (pv 0)) pad_nil) ⟨p, hp, rfl, rfl⟩ trivial rfl))) (by rw [List.length_map]; omega) rfl (by decide +kernel) rfl (by decide +kernel) rfl (fun cl C fp s H d _ => pgd_name 0 (pg_name (i := 0) nd2 rfl (Or.inl rfl))) (fun d _ => ⟨.inl rfl, .inr rfl, .inr rfl, trivial⟩) (fun cl C fp s H d hd => .inl ⟨rfl, rfl⟩) fun cl C2 fp s H d hd _ => ?_) (by rw [ec, opt_mkM, opt_mkL]; rfl)) trivial rfl)
    obtain ⟨g, hg, rfl⟩ := mem_tups hd
    rw [intsOf_tup]
    have wl : (wantQ G g).length ≤ 100 := by
      by_cases q : g ∈ G.1
      · rw [want_len O hG q]
        omega
      · unfold wantQ
        rw [if_neg q]
        exact Nat.zero_le _
    have g1 : ∀ n : Nat, (G.1.map kY)[n]? = some (kY g) → (G.2.map wnD)[n]? = some (wnD (wantQ G g)) := fun n hn => by
      obtain ⟨q, e⟩ := idx_at K0.nd hn
      unfold wantQ
      rw [if_pos q, e]
      exact wn_at (by rw [← K0.ln]; exact List.idxOf_lt_length_of_mem q)
    have g2 : kY g ∉ G.1.map kY → D.tup [] = wnD (wantQ G g) := fun q => by
      have q : g ∉ G.1 := fun z => q (List.mem_map.mpr ⟨g, z, rfl⟩)
      unfold wantQ
      rw [if_neg q]
      rfl
    cases e : choQ p (wantQ G g) with
    | none => exact pd_call (ds := [sizD p, wnD (wantQ G g)]) (r := .val .non) GC hr rfl (pad_cons (pd_var 1 rfl (pv 1)) (pad_cons (pd_get2 (k := kY g) (d0 := .tup []) (d := wnD (wantQ G g)) 2 hu (getF_slot rfl) (PEd.cast (pd_var 0 rfl (pv 0)) (by rw [kY_D])) (pd_tup (ds := []) pad_nil (Nat.le_of_ble_eq_true rfl)) g1 g2) pad_nil)) ⟨p, _, hp, wl, rfl, by rw [e]; rfl⟩ trivial rfl
    | some c => exact pd_call (ds := [sizD p, wnD (wantQ G g)]) (r := .own (c.map tupI)) GC hr rfl (pad_cons (pd_var 1 rfl (pv 1)) (pad_cons (pd_get2 (k := kY g) (d0 := .tup []) (d := wnD (wantQ G g)) 2 hu (getF_slot rfl) (PEd.cast (pd_var 0 rfl (pv 0)) (by rw [kY_D])) (pd_tup (ds := []) pad_nil (Nat.le_of_ble_eq_true rfl)) g1 g2) pad_nil)) ⟨p, _, hp, wl, rfl, by rw [e]; rfl⟩ trivial rfl
  · refine def_okX (N := ["size", "examples", "gathered"]) (ps := ["size", "examples"]) (k := 3) F ⟨rfl, rfl, rfl, nd, rfl, by decide +kernel, by decide +kernel⟩ hm (fun _ _ _ _ _ _ us hl => match us, hl with | [_, _], _ => rfl) fun cdv A outer s H E hr hE ds hl c => ?_
    obtain ⟨p, L, hp, O, h9, hG, rfl⟩ := c
    exact psd_cons (psd_setE 2 nd rfl (Or.inr rfl) (px_callO (ds := [.lst (L.map exD)]) (dds := []) GB.2 (there_ent rfl) hr rfl (pad_cons (pd_var 1 rfl (pv 1)) pad_nil) (fun _ => RepL.nil) ⟨p, L, hp, O, h9, hG, rfl⟩ rfl (Takes.o (TakesA.tk (takes_defA hE)))))
theorem ok_cellat (F : Fun K "_law_cell_at" "_law_cell_at" sCellAt f fd) (zlen : mg "len" = none) (hm : mg "_law_cell_at" = some (.ref f)) : Callee P w K mg base "_law_cell_at" 1 2 CCell := by
  have nd : (["_law_script", "_law_k"] : List Str).Nodup := by decide +kernel
  refine def_ok (N := ["_law_script", "_law_k"]) (ps := ["_law_script", "_law_k"]) (k := 0) F ⟨rfl, rfl, rfl, nd, rfl, by decide +kernel, by decide +kernel⟩ hm (fun _ _ _ _ _ _ us hl => match us, hl with | [_, _], _ => rfl) fun cdv A outer s H E hr ds r hl c => ?_
  obtain ⟨ns, k, rfl, hk, rfl⟩ := c
  refine psd_cons (psd_if (ptd_cI op_lt (pd_var 1 rfl (pv 1)) (pd_lenS rfl zlen (pd_var 0 rfl (pv 0))) (nomark _)) (fun h => ?_) fun h => psd_nil ?_)
  · have h' : k < ns.length := by simpa using h
    exact psd_one (psd_ret (pd_ixS (z := ns.getD k 0) (pd_var 0 rfl (pv 0)) (pd_var 1 rfl (pv 1)) (by simp [h']) fun _ _ => rfl) trivial rfl)
  · have h' : ¬ k < ns.length := by simpa using h
    refine psd_one (psd_ret pd_int trivial ?_)
    show R.val (.int 0) = R.val (.int (ns.getD k 0))
    simp [List.getD, h']
def noScr (d : D) : Prop := ∀ ns, d ≠ .scr ns
def CWhole : List D → R → Prop := fun ds r => ∃ d, ds = [d] ∧ noScr d ∧ r = .val (.bl (isI d))
theorem ok_lwhole (F : Fun K "_law_whole" "_law_whole" sLWhole f fd) (zisinstance : mg "isinstance" = none) (zint : mg "int" = none) (zbool : mg "bool" = none) (hm : mg "_law_whole" = some (.ref f)) : Callee P w K mg base "_law_whole" 1 1 CWhole := by
  have nd : (["_law_found"] : List Str).Nodup := by decide +kernel
  refine def_ok (N := ["_law_found"]) (ps := ["_law_found"]) (k := 0) F ⟨rfl, rfl, rfl, nd, rfl, by decide +kernel, by decide +kernel⟩ hm (fun _ _ _ _ _ _ us hl => match us, hl with | [_], _ => rfl) fun cdv A outer s H E hr ds r hl c => ?_
  obtain ⟨d, rfl, hd, rfl⟩ := c
  refine psd_one (psd_ret (pd_and (pd_isin rfl zisinstance rfl zint PyProof.Rows.boot_int (pd_var 0 rfl (pv 0)) hd (kit_int _ d)) fun _ => pd_one (pd_not (pd_isin rfl zisinstance rfl zbool PyProof.Rows.boot_bool (pd_var 0 rfl (pv 0)) hd (kit_bool _ d)))) trivial ?_)
  cases d <;> rfl
theorem ok_stream (F : Fun K "_law_stream" "_law_stream" sStream f fd) (zrange : mg "range" = none) (hm : mg "_law_stream" = some (.ref f)) : Callee P w K mg base "_law_stream" 1 2 CStream := by
  have nd : (["_law_cell", "_law_many", "_law_found", "_law_k", "_law_number"] : List Str).Nodup := by decide +kernel
  refine def_ok (N := ["_law_cell", "_law_many", "_law_found", "_law_k", "_law_number"]) (ps := ["_law_cell", "_law_many"]) (k := 0) F ⟨rfl, rfl, rfl, nd, rfl, by decide +kernel, by decide +kernel⟩ hm (fun _ _ _ _ _ _ us hl => match us, hl with | [_, _], _ => rfl) fun cdv A outer s H E hr ds r hl c => ?_
  obtain ⟨c, m, rfl, hm2, rfl⟩ := c
  refine psd_cons (psd_setO 2 nd rfl (Or.inl rfl) (pd_lst (ds := []) pad_nil (Nat.zero_le _)) fun l => ?_)
  refine psd_cons (psd_if (ptd_eqI (pd_iiC op_mod (pd_var 0 rfl (pv 0)) pd_int (by decide)) pd_int) (fun h => ?_) fun h => psd_nil ?_)
  · have h' : c % 2 = 1 := by simpa using h
    refine psd_cons (psd_set 0 nd rfl (Or.inl rfl) (pd_iiC op_fdivG (pd_var 0 rfl (pv 0)) pd_int ⟨by decide, by decide⟩) ?_)
    refine psd_cons (psd_for (ds := rangeD 0 m) (fun t => [.val (.int (divL (c / 2) (List.replicate t 2147483647))), .val (.int (m : Int)), .own l ((digL (c / 2) (List.replicate t 2147483647)).map D.int), .un, .un]) (fun t => [.val (.int (divL (c / 2) (List.replicate t 2147483647))), .val (.int (m : Int)), .own l ((digL (c / 2) (List.replicate t 2147483647)).map D.int), .val (.int (0 + (t : Int))), .un]) (pid_range (n := m) rfl zrange (pd_var 1 rfl (pv 1)) (by omega)) ⟨.inr rfl, .inr rfl, .inr rfl, .inr rfl, .inr rfl, trivial⟩ (fun t d hd => ?_) (fun t d hd => ?_) ?_)
    · obtain ⟨_, rfl⟩ := rangeD_get hd
      exact pgd_name 3 (pg_name (i := 3) nd rfl (Or.inl rfl))
    · obtain ⟨ht, rfl⟩ := rangeD_get hd
      have et : List.replicate (t + 1) (2147483647 : Int) = List.replicate t 2147483647 ++ [2147483647] := List.replicate_succ'
      refine psd_cons (psd_append 2 rfl (pv 2) (pd_iiC op_mod (pd_var 0 rfl (pv 0)) pd_int (by decide)) ?_ ?_)
      · rw [List.length_map, digL_len, List.length_replicate]
        omega
      · refine psd_one (psd_set 0 nd rfl (Or.inl rfl) (pd_iiC op_fdivG (pd_var 0 rfl (pv 0)) pd_int ⟨by decide, by decide +kernel⟩) ?_)
        refine ⟨.inr ?_, .inr rfl, .inr ?_, .inl rfl, .inr rfl, trivial⟩
        · rw [et, divL_snoc]
        · rw [et, digL_snoc, List.map_append]
          rfl
    · refine psd_one (psd_retO 2 rfl (pv 2) ?_)
      show R.own _ = R.own _
      rw [rangeD_len]
      unfold streamL
      rw [if_pos h']
  have h' : ¬ c % 2 = 1 := by simpa using h
  have x0 : 0 ≤ c / 2 % 2147483647 + 48271 ∧ c / 2 % 2147483647 + 48271 < 2147600000 := by
    have a1 := Int.emod_nonneg (c / 2) (show (2147483647 : Int) ≠ 0 by decide)
    have a2 := Int.emod_lt_of_pos (c / 2) (show (0 : Int) < 2147483647 by decide)
    omega
  refine psd_cons (psd_set 4 nd rfl (Or.inl rfl) (pd_ii op_add (pd_iiC op_mod (pd_iiC op_fdivG (pd_var 0 rfl (pv 0)) pd_int ⟨by decide, by decide⟩) pd_int (by decide)) pd_int) ?_)
  have es : streamL c m = (strE (c / 2 % 2147483647 + 48271) (m + 1)).drop 1 := by unfold streamL; rw [if_neg h']
  rw [es]
  generalize c / 2 % 2147483647 + 48271 = x at x0
  have big : ∀ z : Int, 0 ≤ z ∧ z < 2147600000 → z.natAbs < 2 ^ 250 := fun z hz => Nat.lt_of_le_of_lt (by omega : z.natAbs ≤ 2147600000) (by decide)
  refine psd_cons (psd_for (ds := rangeD 0 (m + 1)) (fun t => [.val (.int c), .val (.int (m : Int)), .own l ((strE x t).map D.int), .un, .val (.int (strN x t))]) (fun t => [.val (.int c), .val (.int (m : Int)), .own l ((strE x t).map D.int), .val (.int (0 + (t : Int))), .val (.int (strN x t))]) (pid_range (n := m + 1) rfl zrange (PEd.ic (pd_ii op_add (pd_var 1 rfl (pv 1)) pd_int) (by omega)) (by omega)) ⟨.inr rfl, .inr rfl, .inr rfl, .inr rfl, .inr rfl, trivial⟩ (fun t d hd => ?_) (fun t d hd => ?_) ?_)
  · obtain ⟨_, rfl⟩ := rangeD_get hd
    exact pgd_name 3 (pg_name (i := 3) nd rfl (Or.inl rfl))
  · obtain ⟨ht, rfl⟩ := rangeD_get hd
    have r0 := strN_rng x x0 t
    have r1 := strN_rng x x0 (t + 1)
    refine psd_cons (psd_set (d := .int (strN x (t + 1))) 4 nd rfl (Or.inl rfl) (PEd.ic (pd_iiC op_mod (pd_ii op_add (pd_ii op_add (pd_iiC op_mulG (pd_var 4 rfl (pv 4)) (pd_var 4 rfl (pv 4)) (mul_small (big _ r0) (big _ r0))) (pd_iiC op_mulG pd_int (pd_var 4 rfl (pv 4)) (mul_small (by decide) (big _ r0)))) (pd_var 3 rfl (pv 3))) pd_int (by decide)) (by show _ = (_ + _ + (t : Int)) % _; rw [Int.zero_add])) ?_)
    refine psd_one (psd_append (d := .int ((strN x (t + 1) * 40692 + 7 * (t : Int)) % 2147483399)) 2 rfl (pv 2) (PEd.ic (pd_iiC op_mod (pd_ii op_add (pd_iiC op_mulG (pd_var 4 rfl (pv 4)) pd_int (mul_small (big _ r1) (by decide))) (pd_iiC op_mulG pd_int (pd_var 3 rfl (pv 3)) (mul_small (by decide) (Nat.lt_of_le_of_lt (by omega : _ ≤ 1000) (by decide))))) pd_int (by decide)) (by rw [Int.zero_add])) ?_ ?_)
    · unfold strE
      rw [List.length_map, List.length_map, List.length_range]
      omega
    · refine ⟨.inr rfl, .inr rfl, .inr ?_, .inl rfl, .inr rfl, trivial⟩
      rw [strE_snoc, List.map_append]
      rfl
  · rw [rangeD_len]
    have e : DL.cutD ((strE x (m + 1)).map D.int) (some 1) none = ((strE x (m + 1)).drop 1).map D.int := by
      have l1 : ((strE x (m + 1)).map D.int).length = m + 1 := by simp [strE]
      unfold DL.cutD
      rw [show HT.sIx ((strE x (m + 1)).map D.int).length 0 (some 1) = 1 from by rw [l1]; exact (HT.sIx_nat (m + 1) 0 1).trans (by omega), HT.sIx_none, List.map_drop, List.take_of_length_le (by rw [List.length_drop]; omega)]
    exact psd_one (psd_ret (PEd.cast (pd_slL (ol := some 1) (oh := none) (pd_varB 2 rfl (pv 2)) pd_int trivial) (by rw [e])) trivial rfl)
theorem ok_sizeB (F : Fun K "_law_size" "_law_size" sSizeB f fd) (hm : mg "_law_size" = some (.ref f)) : Callee P w K mg base "_law_size" 1 1 CSizeB := by
  have nd : (["_law_cell", "_law_some"] : List Str).Nodup := by decide +kernel
  refine def_ok (N := ["_law_cell", "_law_some"]) (ps := ["_law_cell"]) (k := 0) F ⟨rfl, rfl, rfl, nd, rfl, by decide +kernel, by decide +kernel⟩ hm (fun _ _ _ _ _ _ us hl => match us, hl with | [_], _ => rfl) fun cdv A outer s H E hr ds r hl c => ?_
  obtain ⟨z, rfl, rfl⟩ := c
  refine psd_cons (psd_setO (ds := [sizD (2, 2), sizD (1, 2), sizD (2, 1), sizD (1, 3), sizD (3, 1), sizD (1, 4), sizD (4, 1)]) 1 nd rfl (Or.inl rfl) (pd_lst (ds := [sizD (2, 2), sizD (1, 2), sizD (2, 1), sizD (1, 3), sizD (3, 1), sizD (1, 4), sizD (4, 1)]) ?_ (Nat.le_of_ble_eq_true rfl)) fun l => ?_)
  · repeat' (first | exact pad_nil | refine pad_cons (pd_two rfl rfl) ?_)
  have h0 := Int.emod_nonneg z (show (14 : Int) ≠ 0 by decide)
  have h1 := Int.emod_lt_of_pos z (show (0 : Int) < 14 by decide)
  refine psd_one (psd_ret (pd_ixLi (i := z % 14) (d := sizD (sizeB z)) (ds := sizesB.map sizD) (PEd.bor (PEd.val (pd_catL (d1 := [sizD (2, 2), sizD (1, 2), sizD (2, 1), sizD (1, 3), sizD (3, 1), sizD (1, 4), sizD (4, 1)]) (d2 := [sizD (1, 1), sizD (2, 3), sizD (3, 2), sizD (1, 5), sizD (5, 1), sizD (1, 6), sizD (6, 1)]) (pd_varB 1 rfl (pv 1)) (pd_lst (ds := [sizD (1, 1), sizD (2, 3), sizD (3, 2), sizD (1, 5), sizD (5, 1), sizD (1, 6), sizD (6, 1)]) ?_ (Nat.le_of_ble_eq_true rfl)).val.bor (Nat.le_of_ble_eq_true rfl)))) (pd_iiC op_mod (pd_var 0 rfl (pv 0)) pd_int (by decide)) h0 ?_ fun _ _ => rfl) trivial rfl)
  · repeat' (first | exact pad_nil | refine pad_cons (pd_two rfl rfl) ?_)
  · rw [List.getElem?_map]
    unfold sizeB
    have hlt : (z % 14).toNat < sizesB.length := by
      show _ < 14
      omega
    simp [List.getD, hlt]
theorem ok_two (F : Fun K "_law_two" "_law_two" sTwo f fd) (hm : mg "_law_two" = some (.ref f)) : Callee P w K mg base "_law_two" 1 1 CTwo := by
  have nd : (["_law_k"] : List Str).Nodup := by decide +kernel
  refine def_ok (N := ["_law_k"]) (ps := ["_law_k"]) (k := 0) F ⟨rfl, rfl, rfl, nd, rfl, by decide +kernel, by decide +kernel⟩ hm (fun _ _ _ _ _ _ us hl => match us, hl with | [_], _ => rfl) fun cdv A outer s H E hr ds r hl c => ?_
  obtain ⟨k, rfl, h0, h6, rfl⟩ := c
  refine psd_one (psd_ret (pd_ixLi (i := k) (d := .int ((2 ^ k.toNat : Nat) : Int)) (PEd.bor (PEd.val (pd_lst (ds := [.int 1, .int 2, .int 4, .int 8, .int 16, .int 32, .int 64]) ?_ (Nat.le_of_ble_eq_true rfl)))) (pd_var 0 rfl (pv 0)) h0 (pow_tab _ (by omega)) fun _ _ => rfl) trivial rfl)
  repeat' (first | exact pad_nil | refine pad_cons pd_int ?_)
def CLFill : List D → R → Prop := fun ds r => ∃ p, p ∈ sizes14 ∧ ds = [sizD p] ∧ r = .own ((filI (2 ^ p.1.toNat) p.2.toNat).map tupI)
theorem ok_lfillB (F : Fun K "_law_fillings" "_law_fillings" sLFill f fd) (zrange : mg "range" = none) (hm : mg "_law_fillings" = some (.ref f)) (GT : Callee P w K mg base "_law_two" 1 1 CTwo) : Callee P w K mg base "_law_fillings" 2 1 CLFill := by
  have nd : (["_law_size_here", "_law_found", "_law_box", "_law_longer", "_law_filling_here"] : List Str).Nodup := by decide +kernel
  refine def_ok (N := ["_law_size_here", "_law_found", "_law_box", "_law_longer", "_law_filling_here"]) (ps := ["_law_size_here"]) (k := 1) F ⟨rfl, rfl, rfl, nd, rfl, by decide +kernel, by decide +kernel⟩ hm (fun _ _ _ _ _ _ us hl => match us, hl with | [_], _ => rfl) fun cdv A outer s H E hr ds r hl c => ?_
  obtain ⟨p, hp, rfl, rfl⟩ := c
  obtain ⟨h1, h2, h3, h4, h5⟩ := sz14 p hp
  have e2 : p.2 = ((p.2.toNat : Nat) : Int) := by omega
  have nd2 : (["_law_word", "_law_filling_here"] : List Str).Nodup := by decide +kernel
  have m64 : 2 ^ p.1.toNat ≤ 64 := by
    have : p.1.toNat ≤ 6 := by omega
    exact Nat.le_trans (Nat.pow_le_pow_right (by decide) this) (by decide)
  refine psd_cons (psd_setO (ds := [tupI []]) 1 nd rfl (Or.inl rfl) (pd_lst (ds := [tupI []]) (pad_cons (pd_tup (ds := []) pad_nil (Nat.zero_le _)) pad_nil) (Nat.le_of_ble_eq_true rfl)) fun l => ?_)
  refine psd_cons (psd_forG (ds := rangeD 0 p.2.toNat) (fun k sd => ∃ l, sd = [.val (sizD p), .own l ((filI (2 ^ p.1.toNat) k).map tupI), .un, .un, .un]) (pid_range (n := p.2.toNat) rfl zrange (PEd.cast (pd_ixT (n := 1) (d := .int p.2) (pd_var 0 rfl (pv 0)) pd_int rfl fun _ _ => rfl) (by rw [← e2])) (by omega)) ⟨_, Le.refl _, l, rfl⟩ (fun k d sdk hd hk => ?_) fun sdn hn => ?_)
  · obtain ⟨hk2, rfl⟩ := rangeD_get hd
    obtain ⟨l2, rfl⟩ := hk
    have hsm : (filI (2 ^ p.1.toNat) k).length * 2 ^ p.1.toNat ≤ 900 := by
      rw [fil_len]
      exact pow_small p hp k hk2
    have lens := fil_lens (2 ^ p.1.toNat) k
    have eL : filI (2 ^ p.1.toNat) (k + 1) = (filI (2 ^ p.1.toNat) k).flatMap fun s => (List.range (2 ^ p.1.toNat)).map fun (w : Nat) => s ++ [(w : Int)] := rfl
    rw [eL]
    generalize filI (2 ^ p.1.toNat) k = L at *
    refine ⟨_, pgd_name 2 (pg_name (i := 2) nd rfl (Or.inl rfl)), psd_frz 1 rfl ?_⟩
    refine psd_cons (psd_setO 3 nd rfl (Or.inl rfl) (pd_lst (ds := []) pad_nil (Nat.zero_le _)) fun l3 => ?_)
    refine psd_cons (psd_for (ds := L.map tupI) (fun t => [.val (sizD p), .val (.lst (L.map tupI)), .un, .own l3 (((L.take t).flatMap fun s => (List.range (2 ^ p.1.toNat)).map fun (w : Nat) => s ++ [(w : Int)]).map tupI), .un]) (fun t => [.val (sizD p), .val (.lst (L.map tupI)), .un, .own l3 (((L.take t).flatMap fun s => (List.range (2 ^ p.1.toNat)).map fun (w : Nat) => s ++ [(w : Int)]).map tupI), .val (tupI (L.getD t []))]) (pid_list (pd_var 1 rfl (pv 1))) ⟨.inr rfl, .inr rfl, .inl rfl, .inr rfl, .inr rfl, trivial⟩ (fun t d hd => ?_) (fun t d hd => ?_) ?_)
    · obtain ⟨_, rfl⟩ := tups_get hd
      exact pgd_name 4 (pg_name (i := 4) nd rfl (Or.inr rfl))
    · obtain ⟨ht, rfl⟩ := tups_get hd
      have hmem : L.getD t [] ∈ L := DL.getD_mem ht
      have et : L.take (t + 1) = L.take t ++ [L.getD t []] := by
        rw [List.take_add_one]
        simp [List.getD, ht]
      have lk : (L.take t).length * 2 ^ p.1.toNat + 2 ^ p.1.toNat ≤ 900 := by
        have h1 : (L.take t).length + 1 ≤ L.length := by rw [List.length_take]; omega
        have h2 := Nat.mul_le_mul_right (2 ^ p.1.toNat) h1
        rw [Nat.succ_mul] at h2
        omega
      have ec : ((rangeD 0 (2 ^ p.1.toNat)).filter fun _ => true).map (fun d => D.tup ((L.getD t []).map D.int ++ [d])) = ((List.range (2 ^ p.1.toNat)).map fun (w : Nat) => L.getD t [] ++ [(w : Int)]).map tupI := by
        rw [List.filter_eq_self.mpr (fun _ _ => rfl)]
        unfold rangeD
        rw [List.map_map, List.map_map]
        refine List.map_congr_left fun w _ => ?_
        simp [tupI]
      have lt := lens _ hmem
      refine psd_one (psd_extend (ds2 := ((List.range (2 ^ p.1.toNat)).map fun (w : Nat) => L.getD t [] ++ [(w : Int)]).map tupI) 3 rfl (pv 3) (PEd.val (PEd.cast (pd_comp (N := ["_law_word", "_law_filling_here"]) (M := ["_law_size_here", "_law_found", "_law_box", "_law_longer", "_law_filling_here"]) (cap := [none, some 4]) (sc := defScope sLFill) (Tb := fun d => [.val d, .val (tupI (L.getD t []))]) (fun _ => true) (fun d => D.tup ((L.getD t []).map D.int ++ [d])) (pid_range (n := 2 ^ p.1.toNat) rfl zrange (PEd.cast (pd_call (ds := [.int p.1]) (r := .val (.int ((2 ^ p.1.toNat : Nat) : Int))) GT hr rfl (pad_cons (pd_ixT (n := 0) (pd_var 0 rfl (pv 0)) pd_int rfl fun _ _ => rfl) pad_nil) ⟨p.1, rfl, by omega, by omega, rfl⟩ trivial rfl) rfl) (by omega)) (by rw [rangeD_len]; omega) rfl (by decide +kernel) rfl (by decide +kernel) rfl (fun cl C fp s H d _ => pgd_name 0 (pg_name (i := 0) nd2 rfl (Or.inl rfl))) (fun d _ => ⟨.inl rfl, .inr rfl, trivial⟩) (fun cl C fp s H d _ => .inl ⟨rfl, rfl⟩) fun cl C fp s H d _ _ => pd_catT (pd_var 1 rfl (pv 1)) (pd_tup (ds := [d]) (pad_cons (pd_var 0 rfl (pv 0)) pad_nil) (Nat.le_of_ble_eq_true rfl)) ?_) (by rw [ec]))) ?_ ?_)
      · simp only [List.length_map, List.length_cons, List.length_nil]
        omega
      · rw [List.length_map, flatMap_len, List.length_map, List.length_map, List.length_range]
        omega
      · refine ⟨.inr rfl, .inr rfl, .inr rfl, .inr ?_, .inl rfl, trivial⟩
        rw [et, List.flatMap_append, List.map_append]
        simp
    · rw [List.length_map, List.take_length]
      refine psd_one (psd_move 1 3 rfl nd rfl (Or.inl rfl) (pv 3) ?_)
      exact ⟨_, Le.refl _, l3, rfl⟩
  · obtain ⟨l2, rfl⟩ := hn
    refine psd_one (psd_retO 1 rfl (pv 1) ?_)
    show R.own _ = R.own _
    rw [rangeD_len]
theorem ok_small (F : Fun K "_law_small" "_law_small" sSmall f fd) (hm : mg "_law_small" = some (.ref f)) (GZ : Callee P w K mg base "_law_size" 1 1 CSizeB) : Callee P w K mg base "_law_small" 2 1 CSmall := by
  have nd : (["_law_cell"] : List Str).Nodup := by decide +kernel
  refine def_ok (N := ["_law_cell"]) (ps := ["_law_cell"]) (k := 1) F ⟨rfl, rfl, rfl, nd, rfl, by decide +kernel, by decide +kernel⟩ hm (fun _ _ _ _ _ _ us hl => match us, hl with | [_], _ => rfl) fun cdv A outer s H E hr ds r hl c => ?_
  obtain ⟨c, rfl, rfl⟩ := c
  have a1 := Int.emod_nonneg c (show (4 : Int) ≠ 0 by decide)
  have a2 := Int.emod_lt_of_pos c (show (0 : Int) < 4 by decide)
  refine psd_one (psd_ret (pd_call (ds := [.int (smallQ c)]) GZ hr rfl (pad_cons (pd_ixLi (i := c % 4) (d := .int (smallQ c)) (PEd.bor (PEd.val (pd_lst (ds := [.int (c / 4 % 7), .int (c / 4 % 8), .int (c / 4 % 10), .int (c / 4 % 14)]) ?_ (Nat.le_of_ble_eq_true rfl)))) (pd_iiC op_mod (pd_var 0 rfl (pv 0)) pd_int (by decide)) a1 (ints_at' (V := [c / 4 % 7, c / 4 % 8, c / 4 % 10, c / 4 % 14]) (k := (c % 4).toNat) (by show _ < 4; omega)) fun _ _ => rfl) pad_nil) ⟨_, rfl, rfl⟩ trivial rfl) trivial rfl)
  exact pad_cons (pd_iiC op_mod (pd_iiC op_fdivG (pd_var 0 rfl (pv 0)) pd_int ⟨by decide, by decide⟩) pd_int (by decide)) (pad_cons (pd_iiC op_mod (pd_iiC op_fdivG (pd_var 0 rfl (pv 0)) pd_int ⟨by decide, by decide⟩) pd_int (by decide)) (pad_cons (pd_iiC op_mod (pd_iiC op_fdivG (pd_var 0 rfl (pv 0)) pd_int ⟨by decide, by decide⟩) pd_int (by decide)) (pad_cons (pd_iiC op_mod (pd_iiC op_fdivG (pd_var 0 rfl (pv 0)) pd_int ⟨by decide, by decide⟩) pd_int (by decide)) pad_nil)))
theorem ok_fillingB (F : Fun K "_law_filling" "_law_filling" sFilC f fd) (zisinstance : mg "isinstance" = none) (ztuple : mg "tuple" = none) (hm : mg "_law_filling" = some (.ref f)) (GW : Callee P w K mg base "_law_whole" 1 1 CWhole) : Callee P w K mg base "_law_filling" 2 2 CFilB := by
  have nd : (["_law_found", "_law_due_here"] : List Str).Nodup := by decide +kernel
  refine def_ok (N := ["_law_found", "_law_due_here"]) (ps := ["_law_found", "_law_due_here"]) (k := 1) F ⟨rfl, rfl, rfl, nd, rfl, by decide +kernel, by decide +kernel⟩ hm (fun _ _ _ _ _ _ us hl => match us, hl with | [_, _], _ => rfl) fun cdv A outer s H E hr ds r hl c => ?_
  obtain ⟨ws, vs, rfl, hl2, rfl⟩ := c
  have nd2 : (["_law_word"] : List Str).Nodup := by decide +kernel
  have hu : (A.deeper (envOfC "_law_filling" (defScope sFilC) s.heap.objs.size f cdv)).units + 4 < cLine := by have := hr.un; omega
  refine psd_cons (psd_if (k := !decide (ws = vs)) (PWd.pt (PWd.cast (pwd_or (k := false) (ptd_not (k := true) (ptd_val (PEd.cast (pd_isin rfl zisinstance rfl ztuple PyProof.Rows.boot_tuple (pd_var 0 rfl (pv 0)) (fun _ => by simp [tupI]) (kit_tuple _ _)) rfl))) fun _ => pwd_or1 (ptd_neD (ra := .val (tupI ws)) (rb := .val (tupI vs)) (pd_var 0 rfl (pv 0)) (pd_var 1 rfl (pv 1)) trivial trivial (.inl ⟨rfl, rfl⟩) (pl_tupI _) (pl_tupI _) (u_of' hu (by show dep (tupI ws) + 1 ≤ 4; rw [dep_tupI]; decide)))) (by show (false || !deq (tupI ws) (tupI vs)) = _; rw [deq_tupI, Bool.false_or]))) (fun h => ?_) fun h => psd_nil ?_)
  · have h' : ¬ ws = vs := by simpa using h
    refine psd_one (psd_ret pd_bl trivial ?_)
    rw [decide_eq_false h']
  · have h' : ws = vs := by simpa using h
    have ef : ((ws.map D.int).filter fun d => !isI d).map (fun d => d) = [] := by
      have g : ∀ ws : List Int, (ws.map D.int).filter (fun d => !isI d) = [] := fun ws => by
        induction ws with
        | nil => rfl
        | cons w ws ih => exact ih
      rw [g]
      rfl
    refine psd_one (psd_ret (PEd.cast (pd_eqD (ra := .val (.lst [])) (rb := .val (.lst [])) (PEd.val (PEd.cast (pd_comp (ds := ws.map D.int) (N := ["_law_word"]) (M := ["_law_found", "_law_due_here"]) (cap := [none]) (sc := defScope sFilC) (Tb := fun d => [.val d]) (fun d => !isI d) (fun d => d) (pid_tup (pd_var 0 rfl (pv 0))) (by rw [List.length_map]; omega) rfl (by decide +kernel) rfl (by decide +kernel) rfl (fun cl C fp s H d _ => pgd_name 0 (pg_name (i := 0) nd2 rfl (Or.inl rfl))) (fun d _ => ⟨.inl rfl, trivial⟩) (fun cl C fp s H d hd => .inr ⟨_, rfl, ptd_not (ptd_val (pd_call (ds := [d]) (r := .val (.bl (isI d))) GW hr rfl (pad_cons (pd_var 0 rfl (pv 0)) pad_nil) ⟨d, rfl, ?_, rfl⟩ trivial rfl))⟩) fun cl C fp s H d _ _ => (pd_var 0 rfl (pv 0))) (by rw [ef]))) (PEd.val (pd_lst (ds := []) pad_nil (Nat.le_of_ble_eq_true rfl))) trivial trivial (.inr ⟨rfl, rfl⟩) rfl rfl (u_of' hu (by decide))) ?_) trivial rfl)
    · obtain ⟨w, _, rfl⟩ := List.mem_map.mp hd
      intro ns e
      cases e
    · rw [decide_eq_true h']
      rfl
def CIsWish : List D → R → Prop := fun ds r => ∃ W : List (Option (List (List Int))), (∀ o ∈ W, ∀ L, o = some L → ∀ ws ∈ L, ws.length ≤ 100) ∧ ds = [.lst (W.map wsD), .lst (W.map wsD)] ∧ r = .val (.bl true)
theorem ok_iswish (F : Fun K "_law_is_wish" "_law_is_wish" sIsWish f fd) (zisinstance : mg "isinstance" = none) (zlist : mg "list" = none) (zlen : mg "len" = none) (zzip : mg "zip" = none) (hm : mg "_law_is_wish" = some (.ref f)) (GJ : Callee P w K mg base "_law_filling" 2 2 CFilB) : Callee P w K mg base "_law_is_wish" 3 2 CIsWish := by
  have nd : (["_law_found", "_law_due_here", "_law_one", "_law_other", "_law_here", "_law_there"] : List Str).Nodup := by decide +kernel
  refine def_ok (N := ["_law_found", "_law_due_here", "_law_one", "_law_other", "_law_here", "_law_there"]) (ps := ["_law_found", "_law_due_here"]) (k := 2) F ⟨rfl, rfl, rfl, nd, rfl, by decide +kernel, by decide +kernel⟩ hm (fun _ _ _ _ _ _ us hl => match us, hl with | [_, _], _ => rfl) fun cdv A outer s H E hr ds r hl c => ?_
  obtain ⟨W, hW, rfl, rfl⟩ := c
  refine psd_cons (psd_ifF (k := false) (PWd.pt (pwd_or (k := false) (j := false) (ptd_not (k := true) (ptd_val (PEd.cast (pd_isin rfl zisinstance rfl zlist PyProof.Rows.boot_list (pd_var 0 rfl (pv 0)) (fun _ => by simp) (kit_list _ _)) rfl))) fun _ => pwd_or1 (PTd.cast (ptd_neI (pd_lenL rfl zlen (PEd.bor (pd_var 0 rfl (pv 0)))) (pd_lenL rfl zlen (PEd.bor (pd_var 1 rfl (pv 1))))) (by simp)))) rfl (psd_nil ?_))
  refine psd_cons (psd_for (ds := zipD (W.map wsD) (W.map wsD)) (fun _ => [.val (.lst (W.map wsD)), .val (.lst (W.map wsD)), .un, .un, .un, .un]) (fun t => [.val (.lst (W.map wsD)), .val (.lst (W.map wsD)), .val (wsD (W.getD t none)), .val (wsD (W.getD t none)), .un, .un]) (pid_zip false false rfl zzip (pd_var 0 rfl (pv 0)) (pd_var 1 rfl (pv 1))) (Le.refl _) (fun t d hd => ?_) (fun t d hd => ?_) ?_)
  · obtain ⟨x, y, e1, e2, rfl⟩ := zipD_get hd
    obtain ⟨ht, rfl⟩ := ws_get e1
    obtain ⟨_, rfl⟩ := ws_get e2
    exact pgd_tup (js := [2, 3]) rfl (pgs_cons (pg_name (i := 2) nd rfl (Or.inl rfl)) (pgs_cons (pg_name (i := 3) nd rfl (Or.inl rfl)) pgs_nil)) rfl rfl
  · obtain ⟨x, y, e1, e2, rfl⟩ := zipD_get hd
    obtain ⟨ht, rfl⟩ := ws_get e1
    have ho := hW _ (DL.getD_mem (d := none) ht)
    generalize W.getD t none = o at ho
    refine psd_one (psd_if (k := o.isNone) (PTd.cast (ptd_isN (pd_var 3 rfl (pv 3)) pd_non) (isN_ws o)) (fun h => ?_) fun h => ?_)
    · have e : o = none := by cases o with | none => rfl | some _ => cases h
      subst e
      exact psd_one (psd_ifF (k := false) (PTd.cast (ptd_notN (pd_var 2 rfl (pv 2)) pd_non) rfl) rfl (psd_nil ⟨.inr rfl, .inr rfl, .inl rfl, .inl rfl, .inr rfl, .inr rfl, trivial⟩))
    · obtain ⟨L, e⟩ : ∃ L, o = some L := by cases o with | none => cases h | some L => exact ⟨L, rfl⟩
      subst e
      refine psd_one (psd_ifF (k := false) (PWd.pt (pwd_or (k := false) (j := false) (ptd_not (k := true) (ptd_val (PEd.cast (pd_isin (d := .lst (L.map tupI)) rfl zisinstance rfl zlist PyProof.Rows.boot_list (pd_var 2 rfl (pv 2)) (fun _ => by simp) (kit_list _ _)) rfl))) fun _ => pwd_or1 (PTd.cast (ptd_neI (pd_lenL (ds := L.map tupI) rfl zlen (PEd.bor (pd_var 2 rfl (pv 2)))) (pd_lenL (ds := L.map tupI) rfl zlen (PEd.bor (pd_var 3 rfl (pv 3))))) (by simp)))) rfl ?_)
      refine psd_one (psd_for (ds := zipD (L.map tupI) (L.map tupI)) (fun _ => [.val (.lst (W.map wsD)), .val (.lst (W.map wsD)), .val (wsD (some L)), .val (wsD (some L)), .un, .un]) (fun u => [.val (.lst (W.map wsD)), .val (.lst (W.map wsD)), .val (wsD (some L)), .val (wsD (some L)), .val (tupI (L.getD u [])), .val (tupI (L.getD u []))]) (pid_zip false false rfl zzip (pd_var 2 rfl (pv 2)) (pd_var 3 rfl (pv 3))) (Le.refl _) (fun u d hd => ?_) (fun u d hd => ?_) ?_)
      · obtain ⟨x, y, e1, e2, rfl⟩ := zipD_get hd
        obtain ⟨hu, rfl⟩ := tups_get e1
        obtain ⟨_, rfl⟩ := tups_get e2
        exact pgd_tup (js := [4, 5]) rfl (pgs_cons (pg_name (i := 4) nd rfl (Or.inl rfl)) (pgs_cons (pg_name (i := 5) nd rfl (Or.inl rfl)) pgs_nil)) rfl rfl
      · obtain ⟨x, y, e1, e2, rfl⟩ := zipD_get hd
        obtain ⟨hu, rfl⟩ := tups_get e1
        refine psd_one (psd_ifF (k := false) (ptd_not (k := true) (ptd_val (pd_call (ds := [tupI (L.getD u []), tupI (L.getD u [])]) (r := .val (.bl true)) GJ hr rfl (pad_cons (pd_var 4 rfl (pv 4)) (pad_cons (pd_var 5 rfl (pv 5)) pad_nil)) ⟨_, _, rfl, ho L rfl _ (DL.getD_mem hu), by simp⟩ trivial rfl))) rfl (psd_nil ?_))
        exact ⟨.inr rfl, .inr rfl, .inr rfl, .inr rfl, .inl rfl, .inl rfl, trivial⟩
      · exact ⟨.inr rfl, .inr rfl, .inl rfl, .inl rfl, .inr rfl, .inr rfl, trivial⟩
  · exact psd_one (psd_ret pd_bl trivial rfl)
theorem ok_cel34 (F : Fun K "_law_cells" "_law_cells" sCel f fd) (hm : mg "_law_cells" = some (.ref f)) (GX : Callee P w K mg base "_law_stream" 1 2 CStream) : Callee P w K mg base "_law_cells" 2 4 CCel34 := by
  have nd : (["_law_script", "_law_start", "_law_most", "_law_cell"] : List Str).Nodup := by decide +kernel
  have nd1 : (["_law_x"] : List Str).Nodup := by decide +kernel
  refine def_ok (N := ["_law_script", "_law_start", "_law_most", "_law_cell"]) (ps := ["_law_script", "_law_start", "_law_most", "_law_cell"]) (k := 1) F ⟨rfl, rfl, rfl, nd, rfl, by decide +kernel, by decide +kernel⟩ hm (fun _ _ _ _ _ _ us hl => match us, hl with | [_, _, _, _], _ => rfl) fun cdv A outer s H E hr ds r hl c => ?_
  obtain ⟨ns, st, m, c, hm2, hst, hns, rfl, rfl⟩ := c
  refine psd_cons (psd_if (ptd_eqI (pd_iiC op_mod (pd_var 3 rfl (pv 3)) pd_int (by decide)) pd_int) (fun h => ?_) fun h => psd_nil ?_)
  · have h' : c % 8 = 5 := by simpa using h
    have ec : (((streamL (c / 8) m).map D.int).filter fun _ => true).map (fun d => match d with | .int x => D.int (x * 2147483647 + x / 7) | _ => D.non) = (cel34 ns st m c).map D.int := by
      unfold cel34
      rw [if_pos h', List.filter_eq_self.mpr (fun _ _ => rfl), List.map_map, List.map_map]
      rfl
    refine psd_one (psd_ret (PEd.cast (pd_comp (ds := (streamL (c / 8) m).map D.int) (N := ["_law_x"]) (M := ["_law_script", "_law_start", "_law_most", "_law_cell"]) (cap := [none]) (sc := defScope sCel) (Tb := fun d => [.val d]) (fun _ => true) (fun d => match d with | .int x => D.int (x * 2147483647 + x / 7) | _ => D.non) (pid_list (PEd.val (pd_call (ds := [.int (c / 8), .int (m : Int)]) GX hr rfl (pad_cons (pd_iiC op_fdivG (pd_var 3 rfl (pv 3)) pd_int ⟨by decide, by decide⟩) (pad_cons (pd_var 2 rfl (pv 2)) pad_nil)) ⟨_, m, rfl, hm2, rfl⟩ trivial rfl))) (by rw [List.length_map, stream_len]; omega) rfl (by decide +kernel) rfl (by decide +kernel) rfl (fun cl C fp s H d hd => pgd_name 0 (pg_name (i := 0) nd1 rfl (Or.inl rfl))) (fun d hd => ⟨.inl rfl, trivial⟩) (fun cl C fp s H d hd => .inl ⟨rfl, rfl⟩) fun cl C2 fp s H d hd _ => ?_) (by rw [ec])) trivial rfl)
    obtain ⟨t, ht⟩ := List.getElem?_of_mem hd
    obtain ⟨q1, rfl⟩ := ints_get ht
    rw [stream_len] at q1
    have b := stream_at (c / 8) (m := m) (i := t) q1
    generalize (streamL (c / 8) m).getD t 0 = x at b
    exact pd_ii op_add (pd_iiC op_mulG (pd_var 0 rfl (pv 0)) pd_int (mul_small (Nat.lt_of_le_of_lt (by omega : _ ≤ 200000000000) (by decide)) (by decide))) (pd_iiC op_fdivG (pd_var 0 rfl (pv 0)) pd_int ⟨by decide, by decide⟩)
  · have h' : ¬ c % 8 = 5 := by simpa using h
    refine psd_one (psd_ret (pd_slS (ol := some (st : Int)) (oh := some ((st + m : Nat) : Int)) (pd_var 0 rfl (pv 0)) (pd_var 1 rfl (pv 1)) (PEd.ic (pd_ii op_add (pd_var 1 rfl (pv 1)) (pd_var 2 rfl (pv 2))) (by omega))) trivial ?_)
    unfold cel34
    rw [if_neg h']
    unfold DL.cutD
    rw [HT.sIx_nat, HT.sIx_nat, List.length_map, List.map_take, List.map_drop]
    congr 1
    by_cases q : st ≤ ns.length
    · rw [Nat.min_eq_left q]
      rw [List.take_eq_take_iff]
      simp
      omega
    · rw [Nat.min_eq_right (by omega), List.drop_of_length_le (by rw [List.length_map]; omega), List.drop_of_length_le (by rw [List.length_map]; omega)]
      simp
theorem ok_ex34 (F : Fun K "_law_examples" "_law_examples" sEx f fd) (zlen : mg "len" = none) (zrange : mg "range" = none) (ztuple : mg "tuple" = none) (hm : mg "_law_examples" = some (.ref f)) (GF : Callee P w K mg base "_law_fillings" 2 1 CLFill) (GT : Callee P w K mg base "_law_two" 1 1 CTwo) : Callee P w K mg base "_law_examples" 3 2 CEx34 := by
  have nd : (["_law_cells_here", "_law_size_here", "_law_some", "_law_examples_here", "_law_cell", "_law_filling_here", "_law_rest", "_law_wanted_here", "_law_box", "_law_word"] : List Str).Nodup := by decide +kernel
  refine def_ok (N := ["_law_cells_here", "_law_size_here", "_law_some", "_law_examples_here", "_law_cell", "_law_filling_here", "_law_rest", "_law_wanted_here", "_law_box", "_law_word"]) (ps := ["_law_cells_here", "_law_size_here"]) (k := 2) F ⟨rfl, rfl, rfl, nd, rfl, by decide +kernel, by decide +kernel⟩ hm (fun _ _ _ _ _ _ us hl => match us, hl with | [_, _], _ => rfl) fun cdv A outer s H E hr ds r hl c => ?_
  obtain ⟨p, cs, hp, h9, rfl, rfl⟩ := c
  have hr1 := hr.mono (show 1 ≤ 2 by decide)
  have f9 : (filA p).length ≤ 64 := fil_900 hp
  have l0 : (0 : Int) < ((filA p).length : Int) := by have := fil_pos (p := p); omega
  obtain ⟨h1, h2, h3, h4, h5⟩ := sz14 p hp
  have e2 : p.2 = ((p.2.toNat : Nat) : Int) := by omega
  have e1 : p.1 = ((p.1.toNat : Nat) : Int) := by omega
  have tp := two_pos p
  have m64 : 2 ^ p.1.toNat ≤ 64 := by
    have : p.1.toNat ≤ 6 := by omega
    exact Nat.le_trans (Nat.pow_le_pow_right (by decide) this) (by decide)
  refine psd_cons (psd_setO (ds := (filA p).map tupI) 2 nd rfl (Or.inl rfl) (pd_call (ds := [sizD p]) GF hr rfl (pad_cons (pd_var 1 rfl (pv 1)) pad_nil) ⟨p, hp, rfl, rfl⟩ trivial rfl) fun l2 => psd_frz 2 rfl ?_)
  refine psd_cons (psd_setO (ds := []) 3 nd rfl (Or.inl rfl) (pd_lst (ds := []) pad_nil (Nat.zero_le _)) fun l => ?_)
  refine psd_cons (psd_for (ds := cs.map D.int) (fun t => [.val (.lst (cs.map D.int)), .val (sizD p), .val (.lst ((filA p).map tupI)), .own l ((exQ p (cs.take t)).map exD), .un, .un, .un, .un, .un, .un]) (fun t => [.val (.lst (cs.map D.int)), .val (sizD p), .val (.lst ((filA p).map tupI)), .own l ((exQ p (cs.take t)).map exD), .val (.int (cs.getD t 0)), .un, .un, .un, .un, .un]) (pid_list (pd_var 0 rfl (pv 0))) (Le.refl _) (fun t d hd => ?_) (fun t d hd => ?_) ?_)
  · obtain ⟨_, rfl⟩ := int_get hd
    exact pgd_name 4 (pg_name (i := 4) nd rfl (Or.inl rfl))
  · obtain ⟨ht, rfl⟩ := int_get hd
    have fin : (exQ p (cs.take (t + 1))).map exD = (exQ p (cs.take t)).map exD ++ [exD (exE p (cs.getD t 0))] := by
      rw [take_snoc 0 ht]
      unfold exQ
      rw [List.map_append, List.map_append]
      rfl
    have ln : ((exQ p (cs.take t)).map exD).length ≤ 1000 := by
      unfold exQ
      rw [List.length_map, List.length_map, List.length_take]
      omega
    rw [fin]
    clear fin
    generalize (exQ p (cs.take t)).map exD = done at ln
    generalize cs.getD t 0 = c
    have a1 := Int.emod_nonneg c (Int.ne_of_gt l0)
    have a2 := Int.emod_lt_of_pos c l0
    have gm : (filA p).getD (c % ((filA p).length : Int)).toNat [] ∈ filA p := getD_mem (by omega)
    have gf := fil_Fil hp gm
    have eE : exE p c = ((filA p).getD (c % ((filA p).length : Int)).toNat [], wtN p c ((filA p).getD (c % ((filA p).length : Int)).toNat []) p.2.toNat) := rfl
    refine psd_cons (psd_set (d := tupI ((filA p).getD (c % ((filA p).length : Int)).toNat [])) 5 nd rfl (Or.inl rfl) (pd_ixLi (i := c % ((filA p).length : Int)) (PEd.bor (pd_var 2 rfl (pv 2))) (pd_iiC op_mod (pd_var 4 rfl (pv 4)) (PEd.ic (pd_lenL rfl zlen (PEd.bor (pd_var 2 rfl (pv 2)))) (by rw [List.length_map])) l0) a1 (tups_at (by omega)) fun _ _ => rfl) ?_)
    rw [eE]
    clear eE
    generalize (filA p).getD (c % ((filA p).length : Int)).toNat [] = g at gm gf
    refine psd_cons (psd_set (d := .int (restQ c 0)) 6 nd rfl (Or.inl rfl) (pd_iiC op_fdivG (pd_var 4 rfl (pv 4)) pd_int ⟨by decide, by decide⟩) ?_)
    refine psd_cons (psd_setO (ds := []) 7 nd rfl (Or.inl rfl) (pd_lst (ds := []) pad_nil (Nat.zero_le _)) fun l7 => ?_)
    refine psd_cons (psd_for (ds := rangeD 0 p.2.toNat) (fun b => [.val (.lst (cs.map D.int)), .val (sizD p), .val (.lst ((filA p).map tupI)), .own l done, .val (.int c), .val (tupI g), .val (.int (restQ c b)), .own l7 ((wtN p c g b).map oiD), .un, .un]) (fun b => [.val (.lst (cs.map D.int)), .val (sizD p), .val (.lst ((filA p).map tupI)), .own l done, .val (.int c), .val (tupI g), .val (.int (restQ c b)), .own l7 ((wtN p c g b).map oiD), .val (.int (0 + (b : Int))), .un]) (pid_range (n := p.2.toNat) rfl zrange (PEd.cast (pd_ixT (n := 1) (d := .int p.2) (pd_var 1 rfl (pv 1)) pd_int rfl fun _ _ => rfl) (by rw [← e2])) (by omega)) (Le.refl _) (fun b d hd => ?_) (fun b d hd => ?_) ?_)
    · obtain ⟨_, rfl⟩ := rangeD_get hd
      exact pgd_name 8 (pg_name (i := 8) nd rfl (Or.inl rfl))
    · obtain ⟨hb, rfl⟩ := rangeD_get hd
      rw [Int.zero_add]
      have wln : ((wtN p c g b).map oiD).length ≤ 1000 := by
        unfold wtN
        rw [List.length_map, List.length_map, List.length_range]
        omega
      have wfin : (wtN p c g (b + 1)).map oiD = (wtN p c g b).map oiD ++ [oiD (wtQ p c g b)] := by
        rw [wtN_succ, List.map_append]
        rfl
      have er : restQ c (b + 1) = restQ c b / 192 := rfl
      rw [wfin, er]
      have ew : wtQ p c g b = if restQ c b % 3 = 0 then none else some (wordQ p c g b) := rfl
      have eo : wordQ p c g b = (if c / 7 % 3 = 0 then restQ c b / 3 else g.getD b 0 * 2 + (b : Int) + c / 1000003 % 2) % ((2 ^ p.1.toNat : Nat) : Int) := rfl
      generalize restQ c b = rs at ew eo
      generalize (wtN p c g b).map oiD = wd at wln
      have gb : b < g.length := by rw [gf.len]; exact hb
      have gr := gf.wd _ (getD_mem (d := (0 : Int)) gb)
      refine byKey (K := ∀ sd', Le sd' [.val (.lst (cs.map D.int)), .val (sizD p), .val (.lst ((filA p).map tupI)), .own l done, .val (.int c), .val (tupI g), .val (.int rs), .own l7 (wd ++ [oiD (wtQ p c g b)]), .un, .un] → PSd _ sd' _ _) (fun key => psd_cons (psd_if (k := decide (rs % 3 = 0)) (ptd_eqI (pd_iiC op_mod (pd_var 6 rfl (pv 6)) pd_int (by decide)) pd_int) (fun q => psd_one (psd_append (d := .non) 7 rfl (pv 7) pd_non wln (key _ ⟨.inr rfl, .inr rfl, .inr rfl, .inr rfl, .inr rfl, .inr rfl, .inr rfl, .inr (by rw [ew, if_pos (of_decide_eq_true q)]; rfl), .inl rfl, .inl rfl, trivial⟩))) fun q => ?_)) fun sd' le => psd_le le ?_
      · have q := of_decide_eq_false q
        refine psd_cons (psd_set (d := .int (g.getD b 0 * 2 + (b : Int) + c / 1000003 % 2)) 9 nd rfl (Or.inl rfl) (pd_ii op_add (pd_ii op_add (pd_iiC op_mulG (pd_ixT (n := b) (d := .int (g.getD b 0)) (pd_var 5 rfl (pv 5)) (pd_var 8 rfl (pv 8)) (by rw [List.getElem?_map]; simp [List.getD, gb]) fun _ _ => rfl) pd_int (mul_small (Nat.lt_of_le_of_lt (by omega : _ ≤ 1000) (by decide)) (by decide))) (pd_var 8 rfl (pv 8))) (pd_iiC op_mod (pd_iiC op_fdivG (pd_var 4 rfl (pv 4)) pd_int ⟨by decide, by decide⟩) pd_int (by decide))) ?_)
        refine byKey (K := ∀ o : Int, o = (if c / 7 % 3 = 0 then rs / 3 else g.getD b 0 * 2 + (b : Int) + c / 1000003 % 2) → PSd _ [.val (.lst (cs.map D.int)), .val (sizD p), .val (.lst ((filA p).map tupI)), .own l done, .val (.int c), .val (tupI g), .val (.int rs), .own l7 wd, .val (.int (b : Int)), .val (.int o)] _ _) (fun key2 => psd_cons (psd_if (k := decide (c / 7 % 3 = 0)) (ptd_eqI (pd_iiC op_mod (pd_iiC op_fdivG (pd_var 4 rfl (pv 4)) pd_int ⟨by decide, by decide⟩) pd_int (by decide)) pd_int) (fun z => psd_one (psd_set (d := .int (rs / 3)) 9 nd rfl (Or.inl rfl) (pd_iiC op_fdivG (pd_var 6 rfl (pv 6)) pd_int ⟨by decide, by decide⟩) (key2 _ (by rw [if_pos (of_decide_eq_true z)])))) fun z => psd_nil (key2 _ (by rw [if_neg (of_decide_eq_false z)])))) ?_
        intro o ho
        refine psd_one (psd_append (d := .int (o % ((2 ^ p.1.toNat : Nat) : Int))) 7 rfl (pv 7) (pd_iiC op_mod (pd_var 9 rfl (pv 9)) (pd_call (ds := [.int p.1]) (r := .val (.int ((2 ^ p.1.toNat : Nat) : Int))) GT hr1 rfl (pad_cons (pd_ixT (n := 0) (d := .int p.1) (pd_var 1 rfl (pv 1)) pd_int rfl fun _ _ => rfl) pad_nil) ⟨p.1, rfl, by omega, by omega, rfl⟩ trivial rfl) tp) wln ?_)
        refine psd_le (sd' := [.val (.lst (cs.map D.int)), .val (sizD p), .val (.lst ((filA p).map tupI)), .own l done, .val (.int c), .val (tupI g), .val (.int rs), .own l7 (wd ++ [oiD (wtQ p c g b)]), .un, .un]) ⟨.inr rfl, .inr rfl, .inr rfl, .inr rfl, .inr rfl, .inr rfl, .inr rfl, .inr ?_, .inl rfl, .inl rfl, trivial⟩ (key _ (Le.refl _))
        rw [ew, if_neg q, eo, ← ho]
        rfl
      · exact psd_one (psd_set (d := .int (rs / 192)) 6 nd rfl (Or.inl rfl) (pd_iiC op_fdivG (pd_var 6 rfl (pv 6)) pd_int ⟨by decide, by decide⟩) (Le.refl _))
    rw [rangeD_len]
    refine psd_one (psd_append (d := exD (g, wtN p c g p.2.toNat)) 3 rfl (pv 3) (pd_tup (ds := [tupI g, wnD (wtN p c g p.2.toNat)]) (pad_cons (pd_var 5 rfl (pv 5)) (pad_cons (pd_tupleL rfl ztuple (pd_varB 7 rfl (pv 7))) pad_nil)) (Nat.le_of_ble_eq_true rfl)) ln ⟨.inr rfl, .inr rfl, .inr rfl, .inr rfl, .inl rfl, .inl rfl, .inl rfl, .inl rfl, .inr rfl, .inr rfl, trivial⟩)
  · rw [List.length_map, List.take_length]
    exact psd_one (psd_retO 3 rfl (pv 3) rfl)
def dsI (ws : List (List Int)) : List (List D) := ws.map fun l => l.map D.int
theorem dsI_D (ws : List (List Int)) : (dsI ws).map D.lst = dlD ws := by
  unfold dsI dlD
  rw [List.map_map]
  rfl
theorem kN_at {ks : List Nat} (nd : ks.Nodup) {n b : Nat} (h : (kN ks)[n]? = some (Sum.inl (b : Int))) : b ∈ ks ∧ n = ks.idxOf b := by
  unfold kN at h
  rw [List.getElem?_map] at h
  obtain ⟨g, hg, e⟩ := Option.map_eq_some_iff.mp h
  have e : g = b := by
    have := Sum.inl.inj e
    omega
  subst e
  have hm := List.mem_of_getElem? hg
  obtain ⟨hn, e2⟩ := List.getElem?_eq_some_iff.mp hg
  have := List.getElem_idxOf (List.idxOf_lt_length_of_mem hm)
  exact ⟨hm, (List.getElem_inj nd).mp (e2.trans this.symm)⟩
theorem kN_in {ks : List Nat} {b : Nat} (h : b ∈ ks) : (Sum.inl (b : Int) : Key) ∈ kN ks := List.mem_map.mpr ⟨b, h, rfl⟩
theorem ok_wt34 (F : Fun K "_law_wanted" "_law_wanted" sWt f fd) (zrange : mg "range" = none) (hm : mg "_law_wanted" = some (.ref f)) : Callee P w K mg base "_law_wanted" 1 3 CWt34 := by
  have nd : (["_law_size_here", "_law_examples_here", "_law_filling_here", "_law_found", "_law_start", "_law_wanted_here", "_law_box"] : List Str).Nodup := by decide +kernel
  refine def_ok (N := ["_law_size_here", "_law_examples_here", "_law_filling_here", "_law_found", "_law_start", "_law_wanted_here", "_law_box"]) (ps := ["_law_size_here", "_law_examples_here", "_law_filling_here"]) (k := 0) F ⟨rfl, rfl, rfl, nd, rfl, by decide +kernel, by decide +kernel⟩ hm (fun _ _ _ _ _ _ us hl => match us, hl with | [_, _, _], _ => rfl) fun cdv A outer s H E hr ds r hl c => ?_
  obtain ⟨p, L, g, hp, O, h9, rfl, rfl⟩ := c
  obtain ⟨h1, h2, h3, h4, h5⟩ := sz14 p hp
  have e2 : p.2 = ((p.2.toNat : Nat) : Int) := by omega
  have hu : (A.deeper (envOfC "_law_wanted" (defScope sWt) s.heap.objs.size f cdv)).units + 4 < cLine := by have := hr.un; omega
  refine psd_cons (psd_dnewI 3 nd rfl (Or.inl rfl) fun l => ?_)
  refine psd_cons (psd_forG (ds := L.map exD) (fun t sd => ∃ ls, sd = [.val (sizD p), .val (.lst (L.map exD)), .val (tupI g), oI K l (kN (dctQ (insT L g p.2.toNat t)).1) ls (dsI (dctQ (insT L g p.2.toNat t)).2), .un, .un, .un]) (pid_list (pd_var 1 rfl (pv 1))) ⟨_, Le.refl _, [], rfl⟩ (fun t d sdt hd ht => ?_) (fun sdn hn => ?_))
  · obtain ⟨htl, rfl⟩ := ex_get hd
    obtain ⟨ls0, rfl⟩ := ht
    have xm : L.getD t ([], []) ∈ L := getD_mem htl
    have wl := O.len _ xm
    have es := insT_succ (f := g) (n := p.2.toNat) htl
    have il := insT_len L g p.2.toNat t (by omega)
    have il2 : t * p.2.toNat ≤ 100 * 6 := Nat.mul_le_mul (by omega) (by omega)
    generalize L.getD t ([], []) = x at xm wl es
    generalize insT L g p.2.toNat t = M at es il
    refine ⟨[.val (sizD p), .val (.lst (L.map exD)), .val (tupI g), oI K l (kN (dctQ M).1) ls0 (dsI (dctQ M).2), .val (tupI x.1), .val (wnD x.2), .un], pgd_tup (ds := [tupI x.1, wnD x.2]) (js := [4, 5]) rfl (pgs_cons (pg_name (i := 4) nd rfl (Or.inl rfl)) (pgs_cons (pg_name (i := 5) nd rfl (Or.inl rfl)) pgs_nil)) rfl rfl, ?_⟩
    refine psd_one (psd_forG (ds := rangeD 0 p.2.toNat) (fun b sd => ∃ ls, sd = [.val (sizD p), .val (.lst (L.map exD)), .val (tupI g), oI K l (kN (dctQ (M ++ if x.1 = g then insB x.2 b else [])).1) ls (dsI (dctQ (M ++ if x.1 = g then insB x.2 b else [])).2), .val (tupI x.1), .val (wnD x.2), .un]) (pid_range (n := p.2.toNat) rfl zrange (PEd.cast (pd_ixT (n := 1) (d := .int p.2) (pd_var 0 rfl (pv 0)) pd_int rfl fun _ _ => rfl) (by rw [← e2])) (by omega)) ⟨_, Le.refl _, ls0, by
      have : (M ++ if x.1 = g then insB x.2 0 else []) = M := by
        split
        · show M ++ [] = M
          rw [List.append_nil]
        · rw [List.append_nil]
      rw [this]⟩ (fun b d sdb hd hb => ?_) (fun sdn hn => ?_))
    · obtain ⟨hb2, rfl⟩ := rangeD_get hd
      obtain ⟨ls, rfl⟩ := hb
      rw [Int.zero_add]
      have bl : b < x.2.length := by rw [wl]; exact hb2
      refine ⟨_, pgd_name 6 (pg_name (i := 6) nd rfl (Or.inl rfl)), ?_⟩
      have nx := insB_succ x.2 b
      have ib := insB_len x.2 b
      have ml : (M ++ if x.1 = g then insB x.2 b else []).length ≤ 700 := by
        rw [List.length_append]
        split
        · omega
        · simp
          omega
      have isx : (x.2.map oiD)[b]? = some (oiD (x.2.getD b none)) := oi_at bl
      refine psd_one (psd_if (k := decide (x.1 = g) && !(x.2.getD b none).isNone) (PWd.pt (pwd_and (k := decide (x.1 = g)) (j := !(x.2.getD b none).isNone) (PTd.cast (ptd_eqD (ra := .val (tupI x.1)) (rb := .val (tupI g)) (pd_var 4 rfl (pv 4)) (pd_var 2 rfl (pv 2)) trivial trivial (.inl ⟨rfl, rfl⟩) (pl_tupI _) (pl_tupI _) (u_of' hu (by show dep (tupI x.1) + 1 ≤ 4; rw [dep_tupI]; decide))) (by show deq (tupI x.1) (tupI g) = _; rw [deq_tupI])) fun _ => pwd_and1 (PTd.cast (ptd_notN (d := oiD (x.2.getD b none)) (pd_ixT (n := b) (pd_var 5 rfl (pv 5)) (pd_var 6 rfl (pv 6)) isx fun _ _ => rfl) pd_non) (by rw [isN_oi])))) (fun h => ?_) fun h => psd_nil ?_)
      · rw [Bool.and_eq_true] at h
        have q1 := of_decide_eq_true h.1
        cases q2 : x.2.getD b none with
        | none => rw [q2] at h; cases h.2
        | some z =>
          rw [q2] at nx isx
          have en : (M ++ if x.1 = g then insB x.2 (b + 1) else []) = (M ++ if x.1 = g then insB x.2 b else []) ++ [(b, z)] := by
            rw [if_pos q1, if_pos q1, nx, List.append_assoc]
          generalize (M ++ if x.1 = g then insB x.2 b else []) = M2 at en ml
          have D2 := dok M2
          refine psd_one (psd_sdAppI (k := (b : Int)) (d := .int z) 3 rfl (pv 3) (pd_var 6 rfl (pv 6)) (fun _ => pd_ixT (n := b) (d := .int z) (pd_var 5 rfl (pv 5)) (pd_var 6 rfl (pv 6)) isx fun _ _ => rfl) (by unfold dsI; rw [List.length_map]; have := D2.le.1; omega) (fun ds hds => ?_) (fun n ds hn hd2 => ?_) fun hnot a => ?_)
          · obtain ⟨y, hy, rfl⟩ := List.mem_map.mp hds
            rw [List.length_map]
            have := D2.le.2 y hy
            omega
          · obtain ⟨m1, m2⟩ := kN_at D2.nd hn
            refine ⟨[.val (sizD p), .val (.lst (L.map exD)), .val (tupI g), oI K l (kN (dctQ (M2 ++ [(b, z)])).1) ls (dsI (dctQ (M2 ++ [(b, z)])).2), .val (tupI x.1), .val (wnD x.2), .un], ⟨.inr rfl, .inr rfl, .inr rfl, .inr ?_, .inr rfl, .inr rfl, .inl rfl, trivial⟩, ls, by rw [en]⟩
            rw [dct_snoc]
            have e3 : dins (dctQ M2) (b, z) = ((dctQ M2).1, (dctQ M2).2.set ((dctQ M2).1.idxOf b) ((dctQ M2).2.getD ((dctQ M2).1.idxOf b) [] ++ [z])) := if_pos m1
            rw [e3]
            have hi : (dctQ M2).1.idxOf b < (dctQ M2).2.length := by rw [← D2.ln]; exact List.idxOf_lt_length_of_mem m1
            have e4 : ds = ((dctQ M2).2.getD ((dctQ M2).1.idxOf b) []).map D.int := by
              rw [m2] at hd2
              unfold dsI at hd2
              rw [List.getElem?_map] at hd2
              have : (dctQ M2).2[(dctQ M2).1.idxOf b]? = some ((dctQ M2).2.getD ((dctQ M2).1.idxOf b) []) := by simp [List.getD, hi]
              rw [this] at hd2
              exact (Option.some.inj hd2).symm
            rw [e4, m2]
            unfold dsI
            rw [List.map_set, List.map_append]
            rfl
          · have m1 : b ∉ (dctQ M2).1 := fun q => hnot (kN_in q)
            refine ⟨[.val (sizD p), .val (.lst (L.map exD)), .val (tupI g), oI K l (kN (dctQ (M2 ++ [(b, z)])).1) (ls ++ [a]) (dsI (dctQ (M2 ++ [(b, z)])).2), .val (tupI x.1), .val (wnD x.2), .un], ⟨.inr rfl, .inr rfl, .inr rfl, .inr ?_, .inr rfl, .inr rfl, .inl rfl, trivial⟩, ls ++ [a], by rw [en]⟩
            rw [dct_snoc]
            have e3 : dins (dctQ M2) (b, z) = ((dctQ M2).1 ++ [b], (dctQ M2).2 ++ [[z]]) := if_neg m1
            rw [e3]
            unfold dsI kN
            rw [List.map_append, List.map_append]
            rfl
      · have en : (M ++ if x.1 = g then insB x.2 (b + 1) else []) = (M ++ if x.1 = g then insB x.2 b else []) := by
          by_cases q1 : x.1 = g
          · rw [if_pos q1, if_pos q1, nx]
            rw [decide_eq_true q1, Bool.true_and] at h
            cases q2 : x.2.getD b none with
            | none => simp
            | some z => rw [q2] at h; cases h
          · rw [if_neg q1, if_neg q1]
        exact ⟨[.val (sizD p), .val (.lst (L.map exD)), .val (tupI g), oI K l (kN (dctQ (M ++ if x.1 = g then insB x.2 b else [])).1) ls (dsI (dctQ (M ++ if x.1 = g then insB x.2 b else [])).2), .val (tupI x.1), .val (wnD x.2), .un], ⟨.inr rfl, .inr rfl, .inr rfl, .inr rfl, .inr rfl, .inr rfl, .inl rfl, trivial⟩, ls, by rw [en]⟩
    · obtain ⟨ls, rfl⟩ := hn
      rw [rangeD_len]
      exact ⟨[.val (sizD p), .val (.lst (L.map exD)), .val (tupI g), oI K l (kN (dctQ (M ++ if x.1 = g then insB x.2 p.2.toNat else [])).1) ls (dsI (dctQ (M ++ if x.1 = g then insB x.2 p.2.toNat else [])).2), .un, .un, .un], ⟨.inr rfl, .inr rfl, .inr rfl, .inr rfl, .inl rfl, .inl rfl, .inr rfl, trivial⟩, ls, by rw [es]⟩
  · obtain ⟨ls, rfl⟩ := hn
    rw [List.length_map]
    have et : insT L g p.2.toNat L.length = insQ L g p.2.toNat := by unfold insT; rw [List.take_length]
    rw [et]
    refine psd_frzI 3 rfl ?_
    rw [dsI_D]
    exact psd_one (psd_ret (pd_var 3 rfl (pv 3)) trivial rfl)
theorem ok_has34 (F : Fun K "_law_has" "_law_has" sHas f fd) (hm : mg "_law_has" = some (.ref f)) : Callee P w K mg base "_law_has" 1 2 CHas34 := by
  have nd : (["_law_filling_here", "_law_wanted_here", "_law_box"] : List Str).Nodup := by decide +kernel
  have nd2 : (["_law_word", "_law_filling_here", "_law_box"] : List Str).Nodup := by decide +kernel
  refine def_ok (N := ["_law_filling_here", "_law_wanted_here", "_law_box"]) (ps := ["_law_filling_here", "_law_wanted_here"]) (k := 0) F ⟨rfl, rfl, rfl, nd, rfl, by decide +kernel, by decide +kernel⟩ hm (fun _ _ _ _ _ _ us hl => match us, hl with | [_, _], _ => rfl) fun cdv A outer s H E hr ds r hl c => ?_
  obtain ⟨g, L, l9, hb, rfl, rfl⟩ := c
  have hu : (A.deeper (envOfC "_law_has" (defScope sHas) s.heap.objs.size f cdv)).units + 4 < cLine := by have := hr.un; omega
  have D0 := dok L
  generalize dctQ L = T at D0
  have kl : (kN T.1).length = T.1.length := by unfold kN; rw [List.length_map]
  refine psd_cons (psd_forG (ds := (kN T.1).map kD) (fun k sd => (∀ j, j < k → ∀ z ∈ T.2.getD j [], g.getD (T.1.getD j 0) 0 = z) ∧ sd = [.val (tupI g), .val (.dki (kN T.1) (dlD T.2)), .un]) (pid_keys (pd_var 1 rfl (pv 1))) ⟨_, Le.refl _, fun j hj => by omega, rfl⟩ (fun k d sdk hd hk => ?_) fun sdn hn => ?_)
  · obtain ⟨hn, rfl⟩ := hk
    have hk : k < T.1.length := by
      have := (List.getElem?_eq_some_iff.mp hd).1
      rw [List.length_map, kl] at this
      exact this
    have hk2 : k < T.2.length := by rw [← D0.ln]; exact hk
    have ek : (kN T.1)[k]? = some (Sum.inl ((T.1.getD k 0 : Nat) : Int)) := by
      unfold kN
      rw [List.getElem?_map]
      simp [List.getD, hk]
    have ed : d = .int ((T.1.getD k 0 : Nat) : Int) := by
      rw [List.getElem?_map, ek] at hd
      exact (Option.some.inj hd).symm
    subst ed
    have bm : T.1.getD k 0 ∈ T.1 := getD_mem hk
    have bi : T.1.idxOf (T.1.getD k 0) = k := ((kN_at D0.nd ek).2).symm
    have bg : T.1.getD k 0 < g.length := by
      obtain ⟨z, hz⟩ := (D0.mem _).mp bm
      exact hb _ hz
    have vl := D0.val _ bm
    rw [bi] at vl
    have ew : (dlD T.2)[k]? = some (.lst ((T.2.getD k []).map D.int)) := by
      unfold dlD
      rw [List.getElem?_map]
      simp [List.getD, hk2]
    have wl : (T.2.getD k []).length ≤ 1000 := by
      have := D0.le.2 _ (getD_mem (d := ([] : List Int)) hk2)
      omega
    generalize ews : T.2.getD k [] = ws at vl ew wl
    generalize eb : T.1.getD k 0 = b at ek bm bi bg vl
    refine ⟨[.val (tupI g), .val (.dki (kN T.1) (dlD T.2)), .val (.int (b : Int))], pgd_name 2 (pg_name (i := 2) nd rfl (Or.inr rfl)), ?_⟩
    have ef : ((ws.map D.int).filter fun d => match d with | .int z => !decide (z = g.getD b 0) | _ => true).map (fun d => d) = (ws.filter fun z => !decide (z = g.getD b 0)).map D.int := by
      rw [List.map_id', List.filter_map]
      rfl
    refine psd_one (psd_if (k := !(ws.filter fun z => !decide (z = g.getD b 0)).isEmpty) (PTd.cast (ptd_neD (ra := .val (.lst ((ws.filter fun z => !decide (z = g.getD b 0)).map D.int))) (rb := .val (.lst [])) (PEd.val (PEd.cast (pd_comp (ds := ws.map D.int) (N := ["_law_word", "_law_filling_here", "_law_box"]) (M := ["_law_filling_here", "_law_wanted_here", "_law_box"]) (cap := [none, some 0, some 2]) (sc := defScope sHas) (Tb := fun d => [.val d, .val (tupI g), .val (.int (b : Int))]) (fun d => match d with | .int z => !decide (z = g.getD b 0) | _ => true) (fun d => d) (pid_list (pd_dget (n := k) (k := (b : Int)) (d := .lst (ws.map D.int)) (by show (A.deeper _).units + 1 < cLine; omega) (pd_var 1 rfl (pv 1)) (pd_var 2 rfl (pv 2)) (kN_nd D0.nd) ek ew fun _ _ => rfl)) (by rw [List.length_map]; exact wl) rfl (by decide +kernel) rfl (by decide +kernel) rfl (fun cl C fp s H d hd => pgd_name 0 (pg_name (i := 0) nd2 rfl (Or.inl rfl))) (fun d hd => ⟨.inl rfl, .inr rfl, .inr rfl, trivial⟩) (fun cl C fp s H d hd => .inr ⟨_, rfl, ?_⟩) fun cl C2 fp s H d hd _ => (pd_var 0 rfl (pv 0))) (by rw [ef]))) (PEd.val (pd_lst (ds := []) pad_nil (Nat.le_of_ble_eq_true rfl))) trivial trivial (.inr ⟨rfl, rfl⟩) ?_ rfl ?_) ?_) (fun h => ?_) fun h => psd_nil ?_)
    · obtain ⟨z, _, rfl⟩ := List.mem_map.mp hd
      exact ptd_neI (pd_var 0 rfl (pv 0)) (pd_ixT (n := b) (d := .int (g.getD b 0)) (pd_var 1 rfl (pv 1)) (pd_var 2 rfl (pv 2)) (by rw [List.getElem?_map]; simp [List.getD, bg]) fun _ _ => rfl)
    · exact plL_ints _
    · exact u_of' hu (by show depL _ + 1 + 1 ≤ 4; rw [depL_ints]; decide)
    · show (!deqL _ []) = _
      congr 1
      cases (ws.filter fun z => !decide (z = g.getD b 0)) <;> rfl
    · refine psd_one (psd_ret pd_bl trivial ?_)
      have : hasQ L g = false := by
        refine decide_eq_false fun q => ?_
        cases e : ws.filter fun z => !decide (z = g.getD b 0) with
        | nil => rw [e] at h; cases h
        | cons y ys =>
          have my : y ∈ ws.filter fun z => !decide (z = g.getD b 0) := by rw [e]; exact List.mem_cons_self
          obtain ⟨m1, m2⟩ := List.mem_filter.mp my
          have := q (b, y) ((vl y).mp m1)
          rw [show y = g.getD b 0 from this.symm] at m2
          simp at m2
      show DL.R.val _ = DL.R.val _
      rw [this]
    · refine ⟨[.val (tupI g), .val (.dki (kN T.1) (dlD T.2)), .un], ⟨.inr rfl, .inr rfl, .inl rfl, trivial⟩, fun j hj z hz => ?_, rfl⟩
      by_cases q : j < k
      · exact hn j q z hz
      · have : j = k := by omega
        subst this
        rw [ews] at hz
        rw [eb]
        refine Decidable.byContradiction fun ne => ?_
        have my : z ∈ ws.filter fun z => !decide (z = g.getD b 0) := List.mem_filter.mpr ⟨hz, by rw [decide_eq_false fun q => ne q.symm]; rfl⟩
        cases e : ws.filter fun z => !decide (z = g.getD b 0) with
        | nil => rw [e] at my; cases my
        | cons y ys => rw [e] at h; cases h
  · obtain ⟨hn, rfl⟩ := hn
    rw [List.length_map, kl] at hn
    have : hasQ L g = true := decide_eq_true fun ⟨b, z⟩ hq => by
      have bm := (D0.mem b).mpr ⟨z, hq⟩
      have hi := List.idxOf_lt_length_of_mem bm
      have := hn _ hi z ((D0.val b bm z).mpr hq)
      have e : T.1.getD (T.1.idxOf b) 0 = b := by
        simp [List.getD, hi, List.getElem_idxOf hi]
      rw [e] at this
      exact this
    refine psd_one (psd_ret pd_bl trivial ?_)
    show DL.R.val _ = DL.R.val _
    rw [this]
theorem dct_nil {M : List (Nat × Int)} : (kN (dctQ M).1).isEmpty = decide (M = []) := by
  cases M with
  | nil => rfl
  | cons q M =>
    have hq : q.1 ∈ (dctQ (q :: M)).1 := ((dok (q :: M)).mem q.1).mpr ⟨q.2, List.mem_cons_self⟩
    rw [decide_eq_false (by simp)]
    generalize (dctQ (q :: M)).1 = ks at hq
    cases ks with
    | nil => cases hq
    | cons a b => rfl
theorem ok_due34 (F : Fun K "_law_due" "_law_due" sDue f fd) (zint : mg "int" = none) (hm : mg "_law_due" = some (.ref f)) (GW : Callee P w K mg base "_law_wanted" 1 3 CWt34) (GH : Callee P w K mg base "_law_has" 1 2 CHas34) : Callee P w K mg base "_law_due" 2 3 CDue34 := by
  have nd : (["_law_size_here", "_law_examples_here", "_law_some", "_law_wish", "_law_filling_here", "_law_wanted_here", "_law_may"] : List Str).Nodup := by decide +kernel
  have nd2 : (["_law_one", "_law_wanted_here"] : List Str).Nodup := by decide +kernel
  refine def_ok (N := ["_law_size_here", "_law_examples_here", "_law_some", "_law_wish", "_law_filling_here", "_law_wanted_here", "_law_may"]) (ps := ["_law_size_here", "_law_examples_here", "_law_some"]) (k := 1) F ⟨rfl, rfl, rfl, nd, rfl, by decide +kernel, by decide +kernel⟩ hm (fun _ _ _ _ _ _ us hl => match us, hl with | [_, _, _], _ => rfl) fun cdv A outer s H E hr ds r hl c => ?_
  obtain ⟨p, L, hp, O, h9, rfl, rfl⟩ := c
  have f9 : (filA p).length ≤ 64 := fil_900 hp
  obtain ⟨h1, h2, h3, h4, h5⟩ := sz14 p hp
  have hu : (A.deeper (envOfC "_law_due" (defScope sDue) s.heap.objs.size f cdv)).units < cLine := by have := hr.un; omega
  refine psd_cons (psd_setO (ds := []) 3 nd rfl (Or.inl rfl) (pd_lst (ds := []) pad_nil (Nat.le_of_ble_eq_true rfl)) fun l3 => ?_)
  refine psd_cons (psd_forG (ds := (filA p).map tupI) (fun t sd => sd = [.val (sizD p), .val (.lst (L.map exD)), .val (.lst ((filA p).map tupI)), .own l3 (((dueQ34 p L).take t).map wsD), .un, .un, .un]) (pid_list (pd_var 2 rfl (pv 2))) ⟨_, Le.refl _, rfl⟩ (fun t d sdt hd ht => ?_) fun sdn hn => ?_)
  · obtain ⟨t2, rfl⟩ := tups_get hd
    subst ht
    have es : (dueQ34 p L).take (t + 1) = (dueQ34 p L).take t ++ [dueF p L ((filA p).getD t [])] := by
      rw [List.take_add_one]
      congr 1
      unfold dueQ34
      rw [List.getElem?_map]
      simp [List.getD, t2]
    have gm : (filA p).getD t [] ∈ filA p := getD_mem t2
    rw [es]
    have wl : (((dueQ34 p L).take t).map wsD).length ≤ 1000 := by rw [List.length_map, List.length_take]; omega
    generalize (dueQ34 p L).take t = Wt at wl
    generalize (filA p).getD t [] = g at gm
    refine ⟨[.val (sizD p), .val (.lst (L.map exD)), .val (.lst ((filA p).map tupI)), .own l3 (Wt.map wsD), .val (tupI g), .un, .un], pgd_name 4 (pg_name (i := 4) nd rfl (Or.inl rfl)), ?_⟩
    refine psd_cons (psd_set (d := .dki (kN (dctQ (insQ L g p.2.toNat)).1) (dlD (dctQ (insQ L g p.2.toNat)).2)) 5 nd rfl (Or.inr rfl) (pd_call (ds := [sizD p, .lst (L.map exD), tupI g]) GW hr rfl (pad_cons (pd_var 0 rfl (pv 0)) (pad_cons (pd_var 1 rfl (pv 1)) (pad_cons (pd_var 4 rfl (pv 4)) pad_nil))) ⟨p, L, g, hp, O, h9, rfl, rfl⟩ trivial rfl) ?_)
    have ml : (insQ L g p.2.toNat).length ≤ 1000 := by
      have q1 := insT_len L g p.2.toNat L.length (Nat.le_refl _)
      have q2 : L.length * p.2.toNat ≤ 100 * 6 := Nat.mul_le_mul h9 (by omega)
      unfold insT at q1
      rw [List.take_length] at q1
      omega
    have mb : ∀ q ∈ insQ L g p.2.toNat, q.1 < p.2.toNat := fun q hq => (ins_mem.mp (show (q.1, q.2) ∈ _ from hq)).1
    have ed : dueF p L g = if insQ L g p.2.toNat = [] then none else some ((filA p).filter fun x => hasQ (insQ L g p.2.toNat) x) := rfl
    rw [ed]
    generalize insQ L g p.2.toNat = M at ml mb
    have ef : (((filA p).map tupI).filter fun d => hasQ M (intsOf d)).map (fun d => d) = ((filA p).filter fun g => hasQ M g).map tupI := by
      rw [List.map_id', List.filter_map]
      refine congrArg (List.map tupI) (List.filter_congr fun g _ => ?_)
      show hasQ M (intsOf (tupI g)) = _
      rw [intsOf_tup]
    refine psd_cons (psd_setCO (ds := (filA p).map tupI) 6 (fun d => hasQ M (intsOf d)) (fun d => d) nd rfl rfl (by rfl) (pid_list (pd_var 2 rfl (pv 2))) (by rw [List.length_map]; omega) (N := ["_law_one", "_law_wanted_here"]) (M := ["_law_size_here", "_law_examples_here", "_law_some", "_law_wish", "_law_filling_here", "_law_wanted_here", "_law_may"]) (cap := [none, some 5]) (sc := defScope sDue) (Tb := fun d => [.val d, .val (.dki (kN (dctQ M).1) (dlD (dctQ M).2))]) rfl (by decide +kernel) rfl (by decide +kernel) rfl (fun cl C fp s H d _ => pgd_name 0 (pg_name (i := 0) nd2 rfl (Or.inl rfl))) (fun d _ => ⟨.inl rfl, .inr rfl, trivial⟩) (fun cl C fp s H d hd => .inr ⟨_, rfl, ?_⟩) (fun cl C fp s H d hd _ => (pd_var 0 rfl (pv 0))) fun l6 => psd_frz 6 rfl ?_)
    · obtain ⟨x, hx, rfl⟩ := mem_tups hd
      rw [intsOf_tup]
      exact ptd_val (pd_call (ds := [tupI x, .dki (kN (dctQ M).1) (dlD (dctQ M).2)]) GH hr rfl (pad_cons (pd_var 0 rfl (pv 0)) (pad_cons (pd_var 1 rfl (pv 1)) pad_nil)) ⟨x, M, ml, fun q hq => by rw [(fil_Fil hp hx).len]; exact mb q hq, rfl, rfl⟩ trivial rfl)
    · rw [ef]
      refine psd_one (psd_append (d := wsD (if M = [] then none else some ((filA p).filter fun x => hasQ M x))) 3 rfl (pv 3) (pd_ixLi (ds := [.lst (((filA p).filter fun x => hasQ M x).map tupI), .non]) (PEd.bor (PEd.val (pd_lst (ds := [.lst (((filA p).filter fun x => hasQ M x).map tupI), .non]) (pad_cons (pd_var 6 rfl (pv 6)) (pad_cons pd_non pad_nil)) (Nat.le_of_ble_eq_true rfl)))) (pd_intB rfl zint (pd_eq0 hu (pd_var 5 rfl (pv 5)) pd_dic)) (by split <;> decide) ?_ fun _ _ => rfl) wl ?_)
      · rw [dct_nil]
        by_cases q : M = []
        · rw [decide_eq_true q, if_pos q]
          rfl
        · rw [decide_eq_false q, if_neg q]
          rfl
      · refine ⟨[.val (sizD p), .val (.lst (L.map exD)), .val (.lst ((filA p).map tupI)), .own l3 (Wt.map wsD ++ [wsD (if M = [] then none else some ((filA p).filter fun x => hasQ M x))]), .un, .un, .un], ⟨.inr rfl, .inr rfl, .inr rfl, .inr rfl, .inl rfl, .inl rfl, .inl rfl, trivial⟩, ?_⟩
        rw [List.map_append]
        rfl
  · subst hn
    rw [List.length_map]
    have el : (dueQ34 p L).length = (filA p).length := by unfold dueQ34; rw [List.length_map]
    rw [← el, List.take_length]
    exact psd_one (psd_retO 3 rfl (pv 3) rfl)
theorem ok_told34 {CN : Addr} (F : Fun K "_law_told" "_law_told" sTold f fd) (zisinstance : mg "isinstance" = none) (zint : mg "int" = none) (xk : Xk34 K mg CN) (hm : mg "_law_told" = some (.ref f)) (GW : Callee P w K mg base "wish_of" 4 2 (CWof K) ∧ CalleeX P w K mg base "wish_of" 4 2 XWof (.ref CN) [] []) : Callee P w K mg base "_law_told" 5 2 (CTold34 K) := by
  have nd : (["_law_size_here", "_law_examples_here", "_law_found", "e"] : List Str).Nodup := by decide +kernel
  refine def_ok (N := ["_law_size_here", "_law_examples_here", "_law_found", "e"]) (ps := ["_law_size_here", "_law_examples_here"]) (k := 4) F ⟨rfl, rfl, rfl, nd, rfl, by decide +kernel, by decide +kernel⟩ hm (fun _ _ _ _ _ _ us hl => match us, hl with | [_, _], _ => rfl) fun cdv A outer s H E hr ds r hl c => ?_
  obtain ⟨p, L, hp, O, h9, rfl, hc⟩ := c
  refine psd_cons (psd_setO (ds := [.non, .int 0]) 2 nd rfl (Or.inl rfl) (pd_lst (ds := [.non, .int 0]) (pad_cons pd_non (pad_cons pd_int pad_nil)) (Nat.le_of_ble_eq_true rfl)) fun l2 => ?_)
  rcases hc with ⟨G, hG, rfl⟩ | ⟨hG, rfl⟩
  · refine psd_cons (psd_tryN (psd_one (psd_setixW (m := mkM (dueQ34 p L)) (dss := mkL (dueQ34 p L)) 2 rfl (pv 2) (pd_call (ds := [sizD p, .lst (L.map exD)]) GW.1 hr rfl (pad_cons (pd_var 0 rfl (pv 0)) (pad_cons (pd_var 1 rfl (pv 1)) pad_nil)) ⟨p, L, G, hp, O, h9, hG, rfl, rfl⟩ trivial rfl) fun l ls => ?_)))
    exact psd_one (psd_retX 2 rfl (pv 2) (fun v F H g => ⟨l2, l, ls, rfl, g⟩) rfl)
  · obtain ⟨CL, m1, q1⟩ := xk.le
    obtain ⟨C1, k1⟩ := xk.nc
    obtain ⟨C2, k2⟩ := xk.nt
    obtain ⟨C3, k3⟩ := xk.nd
    obtain ⟨C4, k4⟩ := xk.tg
    refine psd_cons (psd_try (cls := .ref CN) 3 nd rfl rfl rfl m1 q1 (fun ξ pn F0 tk => ?_) fun a oe pn hp' hc => ?_)
    · exact psd_one (psd_asgE (px_callO (ds := [sizD p, .lst (L.map exD)]) (dds := []) GW.2 (there_ent rfl) hr rfl (pad_cons (pd_var 0 rfl (pv 0)) (pad_cons (pd_var 1 rfl (pv 1)) pad_nil)) (fun _ => RepL.nil) ⟨p, L, hp, O, h9, hG, rfl⟩ rfl (Takes.o tk)))
    · refine psd_cons (psd_setix (ds := [.non, .int 0]) (d := .int 2) (n := 1) 2 rfl (pv 2) pd_int pd_int (by decide) ?_)
      refine psd_one (psd_if (k := true) (PWd.pt (pwd_and (k := true) (j := true) (ptd_val (pd_isinXB 3 hp' hc xk.xc rfl zisinstance rfl xk.ve.1 boot_veK xk.ve.2 rfl (pv 3))) fun _ => pwd_and1 (ptd_val (pd_isinX 3 hp' hc xk.xc rfl zisinstance rfl xk.nw.1 xk.nw.2 rfl (pv 3))))) (fun _ => ?_) fun h => by cases h)
      refine psd_one (psd_setix (ds := [.non, .int 2]) (d := .int 1) (n := 1) 2 rfl (pv 2) (PEd.cast (pd_ii op_add pd_int (pd_intB rfl zint (pd_isinXT 3 hp' hc xk.xc rfl zisinstance rfl k1.1 rfl k2.1 rfl k3.1 rfl k4.1 (kit_any4 k1.2 k2.2 k3.2 k4.2) rfl (pv 3)))) rfl) pd_int (by decide) ?_)
      exact psd_one (psd_retO 2 rfl (pv 2) rfl)
theorem any_nil : ∀ W : List (Option (List (List Int))), ((W.map wsD).any fun z => deq z (.lst [])) = decide (some [] ∈ W)
  | [] => rfl
  | o :: W => by
    rw [List.map_cons, List.any_cons, any_nil W]
    have : deq (wsD o) (.lst []) = decide (o = some []) := by
      cases o with
      | none => rfl
      | some c => cases c <;> rfl
    rw [this]
    by_cases q : o = some []
    · rw [q]
      simp
    · rw [decide_eq_false q, Bool.false_or]
      by_cases q2 : some [] ∈ W
      · rw [decide_eq_true q2, decide_eq_true (List.mem_cons_of_mem _ q2)]
      · rw [decide_eq_false q2, decide_eq_false fun z => (List.mem_cons.mp z).elim (fun e => q e.symm) q2]
theorem ok_rt34 (F : Fun K "_law_right" "_law_right" sRt f fd) (zlen : mg "len" = none) (hm : mg "_law_right" = some (.ref f)) (GT : Callee P w K mg base "_law_told" 5 2 (CTold34 K)) (GI : Callee P w K mg base "_law_is_wish" 3 2 CIsWish) : Callee P w K mg base "_law_right" 6 3 CRt34 := by
  have nd : (["_law_size_here", "_law_examples_here", "_law_due_here", "_law_found", "_law_refused", "_law_at"] : List Str).Nodup := by decide +kernel
  refine def_ok (N := ["_law_size_here", "_law_examples_here", "_law_due_here", "_law_found", "_law_refused", "_law_at"]) (ps := ["_law_size_here", "_law_examples_here", "_law_due_here"]) (k := 5) F ⟨rfl, rfl, rfl, nd, rfl, by decide +kernel, by decide +kernel⟩ hm (fun _ _ _ _ _ _ us hl => match us, hl with | [_, _, _], _ => rfl) fun cdv A outer s H E hr ds r hl c => ?_
  obtain ⟨p, L, hp, O, h9, rfl, rfl⟩ := c
  have hr3 := hr.mono (show 3 ≤ 5 by decide)
  have hu : (A.deeper (envOfC "_law_right" (defScope sRt) s.heap.objs.size f cdv)).units + 4 < cLine := by have := hr.un; omega
  have f9 : (filA p).length ≤ 64 := fil_900 hp
  have f0 := fil_pos (p := p)
  have el : (dueQ34 p L).length = (filA p).length := by unfold dueQ34; rw [List.length_map]
  obtain ⟨h1, h2, h3, h4, h5⟩ := sz14 p hp
  have wok : ∀ o ∈ dueQ34 p L, ∀ M, o = some M → ∀ ws ∈ M, ws.length ≤ 100 := fun o ho M hM ws hw => by
    rw [(fil_Fil hp ((due_wish hp o ho M hM).2 ws hw)).len]
    omega
  cases hG : gth L with
  | none =>
    have hn := due_no O (Nat.le_refl _) (show gthN L L.length = none from hG)
    generalize dueQ34 p L = W at hn wok el
    refine psd_cons (psd_asg (d := .lst [.non, .int 1]) (PEd.val (pd_call (ds := [sizD p, .lst (L.map exD)]) (r := .own [.non, .int 1]) GT hr rfl (pad_cons (pd_var 0 rfl (pv 0)) (pad_cons (pd_var 1 rfl (pv 1)) pad_nil)) ⟨p, L, hp, O, h9, rfl, .inr ⟨hG, rfl⟩⟩ trivial rfl)) (pgd_lst (js := [3, 4]) rfl (pgs_cons (pg_name (i := 3) nd rfl (Or.inl rfl)) (pgs_cons (pg_name (i := 4) nd rfl (Or.inl rfl)) pgs_nil)) rfl rfl) ?_)
    refine psd_cons (psd_if (k := true) (PTd.cast (ptd_inDL (d := .lst []) (ds := W.map wsD) (PEd.val (pd_lst (ds := []) pad_nil (Nat.le_of_ble_eq_true rfl))) (pd_var 2 rfl (pv 2)) rfl (plL_ws W) (by have := depL_ws W; show (A.deeper _).units + 1 + _ < cLine; omega)) (by rw [any_nil, decide_eq_true hn])) (fun _ => ?_) fun h => by cases h)
    exact psd_one (psd_ret (r := .val (.bl true)) (PEd.cast (pd_eqI (i := 1) (j := 1) (pd_var 4 rfl (pv 4)) pd_int) rfl) trivial rfl)
  | some G =>
    have hn := due_ne hp O hG
    have rt : CTold34 K [sizD p, .lst (L.map exD)] (wR K (mkM (dueQ34 p L)) (mkL (dueQ34 p L))) := ⟨p, L, hp, O, h9, rfl, .inl ⟨G, hG, rfl⟩⟩
    generalize dueQ34 p L = W at hn wok el rt
    refine psd_cons (psd_unW (m := mkM W) (dss := mkL W) 3 4 rfl (pgs_cons (pg_name (i := 3) nd rfl (Or.inl rfl)) (pgs_cons (pg_name (i := 4) nd rfl (Or.inl rfl)) pgs_nil)) (pd_call (ds := [sizD p, .lst (L.map exD)]) GT hr rfl (pad_cons (pd_var 0 rfl (pv 0)) (pad_cons (pd_var 1 rfl (pv 1)) pad_nil)) rt trivial rfl) fun l3 ls3 => ?_)
    refine psd_le (sd' := [.val (sizD p), .val (.lst (L.map exD)), .val (.lst (W.map wsD)), oO K (mkM W) l3 ls3 (mkL W), .val (.int 0), .un]) (Le.refl _) ?_
    refine psd_cons (psd_ifF (k := false) (PTd.cast (ptd_inDL (d := .lst []) (ds := W.map wsD) (PEd.val (pd_lst (ds := []) pad_nil (Nat.le_of_ble_eq_true rfl))) (pd_var 2 rfl (pv 2)) rfl (plL_ws W) (by have := depL_ws W; show (A.deeper _).units + 1 + _ < cLine; omega)) (by rw [any_nil, decide_eq_false hn])) rfl (psd_nil ?_))
    refine psd_cons (psd_ifF (k := false) (PTd.lendO 3 rfl (oth_n rfl) (PWd.pt (pwd_or (k := false) (j := false) (PTd.cast (ptd_neI (i := 0) (j := 0) (pd_var 4 rfl (pv 4)) pd_int) rfl) fun _ => pwd_or1 (ptd_not (k := true) (ptd_val (pd_call (ds := [.lst (W.map wsD), .lst (W.map wsD)]) (r := .val (.bl true)) GI hr3 rfl (pad_cons (PEd.cast (pd_var 3 rfl (pv 3)) (by rw [shp_ws])) (pad_cons (pd_var 2 rfl (pv 2)) pad_nil)) ⟨W, wok, rfl, rfl⟩ trivial rfl)))))) rfl (psd_nil ?_))
    have hat : L.length % W.length < W.length := Nat.mod_lt _ (by omega)
    refine psd_cons (psd_set (d := .int ((L.length % W.length : Nat) : Int)) 5 nd rfl (Or.inl rfl) (PEd.lendO 3 rfl (oth_n rfl) rfl (PEd.ic (pd_iiC op_mod (i := (L.length : Int)) (j := (W.length : Int)) (PEd.ic (pd_lenL rfl zlen (PEd.bor (pd_var 1 rfl (pv 1)))) (by rw [List.length_map])) (PEd.ic (pd_lenL rfl zlen (PEd.bor (pd_var 3 rfl (pv 3)))) (by rw [shp_ws, List.length_map])) (by omega)) (by rw [Int.natCast_emod]))) ?_)
    generalize L.length % W.length = n at hat
    have mc := mk_cnt W
    have hmn : (mkM W)[n]? = some (W.getD n none).isSome := by
      unfold mkM
      rw [List.getElem?_map]
      simp [List.getD, hat]
    have hwn : (W.map wsD)[n]? = some (wsD (W.getD n none)) := by
      rw [List.getElem?_map]
      simp [List.getD, hat]
    have hm1 : (W.getD n none).isSome = true → (mkM W)[n]? = some true := fun h => by rw [hmn, h]
    have k1 : (W.getD n none).isSome = true → ∃ Z, shp D.non D.lst (mkM W) ((mkL W).set (((mkM W).take n).count true) []) = Z ∧ Z.length = W.length ∧ Z.take n ++ Z.drop (n + 1) = (W.take n ++ W.drop (n + 1)).map wsD := fun h => ⟨_, shp_set D.non D.lst [] mc (hm1 h), by rw [List.length_set, shp_ws, List.length_map], by rw [cut_set, shp_ws, List.map_append, List.map_take, List.map_drop]⟩
    have k2 : ∃ Z, shp D.non D.lst (mkM W) (mkL W) = Z ∧ Z.length = W.length ∧ Z.take n ++ Z.drop (n + 1) = (W.take n ++ W.drop (n + 1)).map wsD := ⟨_, shp_ws W, List.length_map _, by rw [List.map_append, List.map_take, List.map_drop]⟩
    refine byKey (K := ∀ dss, (∃ Z, shp D.non D.lst (mkM W) dss = Z ∧ Z.length = W.length ∧ Z.take n ++ Z.drop (n + 1) = (W.take n ++ W.drop (n + 1)).map wsD) → PSd _ [.val (sizD p), .val (.lst (L.map exD)), .val (.lst (W.map wsD)), oO K (mkM W) l3 ls3 dss, .val (.int 0), .val (.int (n : Int))] _ _) (fun key => psd_cons (psd_if (k := (W.getD n none).isSome) (PTd.lendO 3 rfl (oth_n rfl) (PTd.cast (ptd_notN (d := wsD (W.getD n none)) (pd_ixL (n := n) (PEd.bor (pd_var 3 rfl (pv 3))) (pd_var 5 rfl (pv 5)) (by rw [shp_ws]; exact hwn) fun _ _ => rfl) pd_non) (by cases W.getD n none <;> rfl))) (fun h => psd_one (psd_clrAtO 3 rfl (pv 3) (pd_var 5 rfl (pv 5)) (hm1 h) mc (fun _ _ => rfl) (key _ (k1 h)))) fun h => psd_nil (key _ k2))) ?_
    rintro dss ⟨Z, hZ, zl, zc⟩
    have zl2 : (Z.take n).length + (Z.drop (n + 1)).length ≤ 1000 := by
      rw [List.length_take, List.length_drop]
      omega
    have wl2 : ((W.map wsD).take n).length + ((W.map wsD).drop (n + 1)).length ≤ 1000 := by
      rw [List.length_take, List.length_drop, List.length_map]
      omega
    refine psd_one (psd_ret (PEd.lendO 3 rfl (oth_n rfl) rfl (pd_call (ds := [.lst ((W.take n ++ W.drop (n + 1)).map wsD), .lst ((W.take n ++ W.drop (n + 1)).map wsD)]) (r := .val (.bl true)) GI hr3 rfl (pad_cons (PEd.val (PEd.cast (pd_catL (d1 := Z.take n) (d2 := Z.drop (n + 1)) (PEd.bor (PEd.val (PEd.cast (pd_slL (ol := none) (oh := some (n : Int)) (PEd.bor (pd_var 3 rfl (pv 3))) trivial (pd_var 5 rfl (pv 5))) (by rw [cutD_take, hZ])))) (PEd.bor (PEd.val (PEd.cast (pd_slL (ol := some ((n + 1 : Nat) : Int)) (oh := none) (PEd.bor (pd_var 3 rfl (pv 3))) (PEd.ic (pd_ii op_add (pd_var 5 rfl (pv 5)) pd_int) (by omega)) trivial) (by rw [cutD_drop, hZ])))) zl2) (by rw [zc]))) (pad_cons (PEd.val (PEd.cast (pd_catL (d1 := (W.map wsD).take n) (d2 := (W.map wsD).drop (n + 1)) (PEd.bor (PEd.val (PEd.cast (pd_slL (ol := none) (oh := some (n : Int)) (PEd.bor (pd_var 2 rfl (pv 2))) trivial (pd_var 5 rfl (pv 5))) (by rw [cutD_take])))) (PEd.bor (PEd.val (PEd.cast (pd_slL (ol := some ((n + 1 : Nat) : Int)) (oh := none) (PEd.bor (pd_var 2 rfl (pv 2))) (PEd.ic (pd_ii op_add (pd_var 5 rfl (pv 5)) pd_int) (by omega)) trivial) (by rw [cutD_drop])))) wl2) (by rw [List.map_append, List.map_take, List.map_drop]))) pad_nil)) ⟨W.take n ++ W.drop (n + 1), fun o ho => wok o ((List.mem_append.mp ho).elim List.mem_of_mem_take List.mem_of_mem_drop), rfl, rfl⟩ trivial rfl)) trivial rfl)
section
variable {X : Cx} {sd : List Slot} {a b : Expr} {pos : Pos} {d : D}
theorem pd_notN (ha : PEd X sd a (.val d)) (hb : PEd X sd b (.val .non)) : PEd X sd (.Compare a [.IsNot] [b] pos) (.val (.bl (!isN d))) :=
  pd_cmp2 op_notN ha hb trivial (nomark _) fun σ F H v u Q S q1 q2 k => by
    simp only [ResOk, Rep] at q2
    have q1 : Rep _ _ _ _ := q1
    exact ⟨q2, by rw [rep_isN q1]; exact k F H S (Same.refl _)⟩
end
theorem pickA_rev {α : Type} (l : List α) : pickA l none none (some (-1)) = l.reverse := by
  have e : pickIx l.length none none (some (-1)) = (List.range l.length).map fun k => l.length - 1 - k := by
    show sliceRange ((l.length : Int) - 1) (-1) (-1) = _
    unfold sliceRange
    have c : (if (-1 : Int) > 0 then (if (l.length : Int) - 1 < -1 then (-1 - ((l.length : Int) - 1) + -1 - 1) / -1 else 0) else (if (l.length : Int) - 1 > -1 then ((l.length : Int) - 1 - -1 - -1 - 1) / (- -1) else 0)).toNat = l.length := by
      rw [if_neg (by decide), show (- -1 : Int) = 1 from rfl, Int.ediv_one]
      split <;> omega
    show (List.range (if (-1 : Int) > 0 then (if (l.length : Int) - 1 < -1 then (-1 - ((l.length : Int) - 1) + -1 - 1) / -1 else 0) else (if (l.length : Int) - 1 > -1 then ((l.length : Int) - 1 - -1 - -1 - 1) / (- -1) else 0)).toNat).map _ = _
    rw [c]
    refine List.map_congr_left fun k hk => ?_
    have := List.mem_range.mp hk
    omega
  unfold pickA
  rw [e]
  apply List.ext_getElem?
  intro i
  have g : ∀ ks : List Nat, (∀ k ∈ ks, k < l.length) → (ks.map fun k => l.length - 1 - k).filterMap (l[·]?) = ks.filterMap fun k => l.reverse[k]? := fun ks => by
    induction ks with
    | nil => intro _; rfl
    | cons k ks ih =>
      intro h
      have hk := h k List.mem_cons_self
      rw [List.map_cons, List.filterMap_cons, List.filterMap_cons, ih fun k hk => h k (List.mem_cons_of_mem _ hk), List.getElem?_reverse hk]
  rw [g _ fun k hk => List.mem_range.mp hk]
  have : (List.range l.length).filterMap (fun k => l.reverse[k]?) = l.reverse := by
    have z : ∀ m : List α, (List.range m.length).filterMap (fun k => m[k]?) = m := fun m => by
      induction m with
      | nil => rfl
      | cons y m ih =>
        rw [List.length_cons, List.range_succ_eq_map, List.filterMap_cons, List.filterMap_map]
        show y :: _ = _
        congr 1
    have := z l.reverse
    rw [List.length_reverse] at this
    exact this
  rw [this]
theorem pl_wn (u : Wnt) : pl (wnD u) = true := plL_map' oiD pl_oi u
theorem dep_oi (o : Option Int) : dep (oiD o) ≤ 0 := by cases o <;> exact Nat.le_refl _
theorem dep_wn (u : Wnt) : dep (wnD u) ≤ 1 := Nat.succ_le_succ (depL_map' oiD 0 dep_oi u)
theorem pl_ex (x : List Int × Wnt) : pl (exD x) = true := by
  show (pl (tupI x.1) && (pl (wnD x.2) && true)) = true
  rw [pl_tupI, pl_wn]
  rfl
theorem dep_ex (x : List Int × Wnt) : dep (exD x) ≤ 2 := by
  show max (dep (tupI x.1)) (max (dep (wnD x.2)) 0) + 1 ≤ 2
  have := dep_wn x.2
  rw [dep_tupI]
  omega
theorem ok_law (F : Fun K "law" "law" sLaw f fd) (zlist : mg "list" = none) (zlen : mg "len" = none) (zint : mg "int" = none) (ztuple : mg "tuple" = none) (GC : Callee P w K mg base "_law_cell_at" 1 2 CCell) (GZ : Callee P w K mg base "_law_small" 2 1 CSmall) (GF : Callee P w K mg base "_law_fillings" 2 1 CLFill) (GL : Callee P w K mg base "_law_cells" 2 4 CCel34) (GE : Callee P w K mg base "_law_examples" 3 2 CEx34) (GT : Callee P w K mg base "_law_two" 1 1 CTwo) (GD : Callee P w K mg base "_law_due" 2 3 CDue34) (GR : Callee P w K mg base "_law_right" 6 3 CRt34) : FnOk P w K mg base CX0 7 f fd ["_law_script"] (spC K 1 CLaw) := by
  have nd : (["_law_script", "_law_size_here", "_law_some", "_law_examples_here", "_law_kept", "_law_filling_here", "_law_wanted_here", "_law_one", "_law_due_here", "_law_handed"] : List Str).Nodup := by decide +kernel
  have nd2 : (["_law_word", "_law_one"] : List Str).Nodup := by decide +kernel
  refine def_fn (N := ["_law_script", "_law_size_here", "_law_some", "_law_examples_here", "_law_kept", "_law_filling_here", "_law_wanted_here", "_law_one", "_law_due_here", "_law_handed"]) (ps := ["_law_script"]) (k := 6) F ⟨rfl, rfl, rfl, nd, rfl, by decide +kernel, by decide +kernel⟩ fun cdv A outer s H E hr ds r hl c => ?_
  obtain ⟨ns, rfl, hns, rfl⟩ := c
  have hr1 := hr.mono (show 1 ≤ 6 by decide)
  have hr2 := hr.mono (show 2 ≤ 6 by decide)
  have hr3 := hr.mono (show 3 ≤ 6 by decide)
  have hu : (A.deeper (envOfC "law" (defScope sLaw) s.heap.objs.size f cdv)).units + 6 < cLine := by have := hr.un; omega
  have cell : ∀ {sd : List Slot} {p1 p2 p3 p4 : Pos} {j1 : Nat} (k : Nat), k ≤ 1000 → sd[0]? = some (.val (.scr ns)) → PEd (cxOf CX0 P w K mg base ["_law_script", "_law_size_here", "_law_some", "_law_examples_here", "_law_kept", "_law_filling_here", "_law_wanted_here", "_law_one", "_law_due_here", "_law_handed"] "law" (defScope sLaw) f cdv A outer s H E).nox sd (.Call (.Name "_law_cell_at" p1) [.Name "_law_script" p2, .Constant (.int (k : Int)) j1 p3] [] p4) (.val (.int (ns.getD k 0))) := fun k hk hs => pd_call (ds := [.scr ns, .int (k : Int)]) GC hr1 rfl (pad_cons (pd_var 0 hs (pv 0)) (pad_cons pd_int pad_nil)) ⟨ns, k, rfl, hk, rfl⟩ trivial rfl
  refine psd_cons (psd_set (d := sizD (sizeB (smallQ (ns.getD 0 0)))) 1 nd rfl (Or.inl rfl) (pd_call (ds := [.int (ns.getD 0 0)]) GZ hr2 rfl (pad_cons (cell 0 (by decide) rfl) pad_nil) ⟨_, rfl, rfl⟩ trivial rfl) ?_)
  have hp := sizeB_mem (smallQ (ns.getD 0 0))
  generalize sizeB (smallQ (ns.getD 0 0)) = p at hp
  refine psd_cons (psd_setO (ds := (filA p).map tupI) 2 nd rfl (Or.inl rfl) (pd_call (ds := [sizD p]) GF hr2 rfl (pad_cons (pd_var 1 rfl (pv 1)) pad_nil) ⟨p, hp, rfl, rfl⟩ trivial rfl) fun l => psd_frz 2 rfl ?_)
  have f9 : (filA p).length ≤ 64 := fil_900 hp
  obtain ⟨h1, h2, h3, h4, h5⟩ := sz14 p hp
  have tp := two_pos p
  have cl := cel34_len ns 2 60 (ns.getD 1 0 / 2)
  refine psd_cons (psd_setO (ds := (exQ p (cel34 ns 2 60 (ns.getD 1 0 / 2))).map exD) 3 nd rfl (Or.inl rfl) (pd_call (ds := [.lst ((cel34 ns 2 60 (ns.getD 1 0 / 2)).map D.int), sizD p]) GE hr3 rfl (pad_cons (PEd.val (pd_call (ds := [.scr ns, .int ((2 : Nat) : Int), .int ((60 : Nat) : Int), .int (ns.getD 1 0 / 2)]) GL hr2 rfl (pad_cons (pd_var 0 rfl (pv 0)) (pad_cons pd_int (pad_cons pd_int (pad_cons (pd_iiC op_fdivG (cell 1 (by decide) rfl) pd_int ⟨by decide, by decide⟩) pad_nil)))) ⟨ns, 2, 60, _, by decide, by decide, hns, rfl, rfl⟩ trivial rfl)) (pad_cons (pd_var 1 rfl (pv 1)) pad_nil)) ⟨p, _, hp, by omega, rfl, rfl⟩ trivial rfl) fun l => psd_frz 3 rfl ?_)
  have O0 : EOk p (exQ p (cel34 ns 2 60 (ns.getD 1 0 / 2))) := exQ_ok _
  have l0 : (exQ p (cel34 ns 2 60 (ns.getD 1 0 / 2))).length ≤ 100 := by unfold exQ; rw [List.length_map]; omega
  generalize exQ p (cel34 ns 2 60 (ns.getD 1 0 / 2)) = L0 at O0 l0
  refine byKey (K := ∀ L, EOk p L → L.length ≤ 100 → PSd _ [.val (.scr ns), .val (sizD p), .val (.lst ((filA p).map tupI)), .val (.lst (L.map exD)), .un, .un, .un, .un, .un, .un] _ _) (fun key => psd_cons (psd_if (k := decide (ns.getD 1 0 % 2 = 1)) (ptd_eqI (pd_iiC op_mod (cell 1 (by decide) rfl) pd_int (by decide)) pd_int) (fun _ => ?_) fun _ => psd_nil (key L0 O0 l0))) ?_
  · refine psd_cons (psd_setO (ds := []) 4 nd rfl (Or.inl rfl) (pd_lst (ds := []) pad_nil (Nat.le_of_ble_eq_true rfl)) fun l4 => ?_)
    refine psd_cons (psd_forG (ds := L0.map exD) (fun t sd => sd = [.val (.scr ns), .val (sizD p), .val (.lst ((filA p).map tupI)), .val (.lst (L0.map exD)), .own l4 (((L0.take t).map (kpE p)).map exD), .un, .un, .un, .un, .un]) (pid_list (pd_var 3 rfl (pv 3))) ⟨_, Le.refl _, rfl⟩ (fun t d sdt hd ht => ?_) fun sdn hn => ?_)
    · obtain ⟨tl, rfl⟩ := ex_get hd
      subst ht
      have xm : L0.getD t ([], []) ∈ L0 := getD_mem tl
      have es : ((L0.take (t + 1)).map (kpE p)).map exD = ((L0.take t).map (kpE p)).map exD ++ [exD (kpE p (L0.getD t ([], [])))] := by
        rw [take_snoc ([], []) tl, List.map_append, List.map_append]
        rfl
      have ln : (((L0.take t).map (kpE p)).map exD).length ≤ 1000 := by
        rw [List.length_map, List.length_map, List.length_take]
        omega
      rw [es]
      generalize ((L0.take t).map (kpE p)).map exD = done at ln
      generalize L0.getD t ([], []) = x at xm
      have xl := O0.len x xm
      have xf := fil_Fil hp (O0.fil x xm)
      refine ⟨[.val (.scr ns), .val (sizD p), .val (.lst ((filA p).map tupI)), .val (.lst (L0.map exD)), .own l4 done, .val (tupI x.1), .val (wnD x.2), .un, .un, .un], pgd_tup (ds := [tupI x.1, wnD x.2]) (js := [5, 6]) rfl (pgs_cons (pg_name (i := 5) nd rfl (Or.inl rfl)) (pgs_cons (pg_name (i := 6) nd rfl (Or.inl rfl)) pgs_nil)) rfl rfl, ?_⟩
      have x0 : 0 < x.1.length := by rw [xf.len]; omega
      refine psd_cons (psd_set (d := .int ((x.1.getD 0 0 + 1) % ((2 ^ p.1.toNat : Nat) : Int))) 7 nd rfl (Or.inr rfl) (pd_iiC op_mod (pd_ii op_add (pd_ixT (n := 0) (d := .int (x.1.getD 0 0)) (pd_var 5 rfl (pv 5)) pd_int (by rw [List.getElem?_map]; simp [List.getD, x0]) fun _ _ => rfl) pd_int) (pd_call (ds := [.int p.1]) (r := .val (.int ((2 ^ p.1.toNat : Nat) : Int))) GT hr1 rfl (pad_cons (pd_ixT (n := 0) (d := .int p.1) (pd_var 1 rfl (pv 1)) pd_int rfl fun _ _ => rfl) pad_nil) ⟨p.1, rfl, by omega, by omega, rfl⟩ trivial rfl) tp) ?_)
      have ek : kpE p x = (x.1, x.2.map (Option.map fun _ => (x.1.getD 0 0 + 1) % ((2 ^ p.1.toNat : Nat) : Int))) := rfl
      rw [ek]
      generalize (x.1.getD 0 0 + 1) % ((2 ^ p.1.toNat : Nat) : Int) = o
      have ec : ((x.2.map oiD).filter fun _ => true).map (fun d => if isN d then .non else .int o) = (x.2.map (Option.map fun _ => o)).map oiD := by
        rw [List.filter_eq_self.mpr (fun _ _ => rfl), List.map_map, List.map_map]
        refine List.map_congr_left fun z _ => ?_
        cases z <;> rfl
      refine psd_cons (psd_setCO (ds := x.2.map oiD) 6 (fun _ => true) (fun d => if isN d then .non else .int o) nd rfl rfl (by rfl) (pid_tup (pd_var 6 rfl (pv 6))) (by rw [List.length_map]; omega) (N := ["_law_word", "_law_one"]) (M := ["_law_script", "_law_size_here", "_law_some", "_law_examples_here", "_law_kept", "_law_filling_here", "_law_wanted_here", "_law_one", "_law_due_here", "_law_handed"]) (cap := [none, some 7]) (sc := defScope sLaw) (Tb := fun d => [.val d, .val (.int o)]) rfl (by decide +kernel) rfl (by decide +kernel) rfl (fun cl C fp s H d _ => pgd_name 0 (pg_name (i := 0) nd2 rfl (Or.inl rfl))) (fun d _ => ⟨.inl rfl, .inr rfl, trivial⟩) (fun cl C fp s H d hd => .inl ⟨rfl, rfl⟩) (fun cl C fp s H d hd _ => ?_) fun l6 => psd_frz 6 rfl ?_)
      · refine pd_ixLi (ds := [d, .int o]) (PEd.bor (PEd.val (pd_lst (ds := [d, .int o]) (pad_cons (pd_var 0 rfl (pv 0)) (pad_cons (pd_var 1 rfl (pv 1)) pad_nil)) (Nat.le_of_ble_eq_true rfl)))) (pd_intB rfl zint (pd_notN (pd_var 0 rfl (pv 0)) pd_non)) (by split <;> decide) ?_ fun _ _ => rfl
        cases h : isN d with
        | true =>
          have : d = .non := by
            obtain ⟨z, _, rfl⟩ := List.mem_map.mp hd
            cases z with
            | none => rfl
            | some z => cases h
          rw [this]
          rfl
        | false => rfl
      · rw [ec]
        exact psd_one (psd_append (d := exD (x.1, x.2.map (Option.map fun _ => o))) 4 rfl (pv 4) (pd_tup (ds := [tupI x.1, wnD (x.2.map (Option.map fun _ => o))]) (pad_cons (pd_var 5 rfl (pv 5)) (pad_cons (pd_tupleL rfl ztuple (PEd.bor (pd_var 6 rfl (pv 6)))) pad_nil)) (Nat.le_of_ble_eq_true rfl)) ln ⟨[.val (.scr ns), .val (sizD p), .val (.lst ((filA p).map tupI)), .val (.lst (L0.map exD)), .own l4 (done ++ [exD (x.1, x.2.map (Option.map fun _ => o))]), .un, .un, .un, .un, .un], ⟨.inr rfl, .inr rfl, .inr rfl, .inr rfl, .inr rfl, .inl rfl, .inl rfl, .inl rfl, .inr rfl, .inr rfl, trivial⟩, rfl⟩)
    · subst hn
      rw [List.length_map, List.take_length]
      refine psd_frz 4 rfl ?_
      refine psd_one (psd_set (d := .lst ((L0.map (kpE p)).map exD)) 3 nd rfl (Or.inl rfl) (pd_var 4 rfl (pv 4)) ?_)
      exact psd_le (sd' := [.val (.scr ns), .val (sizD p), .val (.lst ((filA p).map tupI)), .val (.lst ((L0.map (kpE p)).map exD)), .un, .un, .un, .un, .un, .un]) ⟨.inr rfl, .inr rfl, .inr rfl, .inr rfl, .inl rfl, .inr rfl, .inr rfl, .inr rfl, .inr rfl, .inr rfl, trivial⟩ (key _ (kp_ok O0) (by rw [List.length_map]; exact l0))
  clear l0 O0 L0
  intro L O h9
  refine psd_cons (psd_setO (ds := (dueQ34 p L).map wsD) 8 nd rfl (Or.inl rfl) (pd_call (ds := [sizD p, .lst (L.map exD), .lst ((filA p).map tupI)]) GD hr2 rfl (pad_cons (pd_var 1 rfl (pv 1)) (pad_cons (pd_var 3 rfl (pv 3)) (pad_cons (pd_var 2 rfl (pv 2)) pad_nil))) ⟨p, L, hp, O, h9, rfl, rfl⟩ trivial rfl) fun l => psd_frz 8 rfl ?_)
  refine psd_cons (psd_setO (ds := L.map exD) 9 nd rfl (Or.inl rfl) (pd_listL rfl zlist (PEd.bor (pd_var 3 rfl (pv 3)))) fun l9 => psd_frz 9 rfl ?_)
  refine psd_le (sd' := [.val (.scr ns), .val (sizD p), .val (.lst ((filA p).map tupI)), .val (.lst (L.map exD)), .un, .un, .un, .un, .val (.lst ((dueQ34 p L).map wsD)), .val (.lst (L.map exD))]) (Le.refl _) ?_
  have pL : pl (.lst (L.map exD)) = true := plL_map' exD pl_ex L
  have dL : depL (L.map exD) ≤ 2 := depL_map' exD 2 dep_ex L
  have right : ∀ {sd : List Slot} {p1 p2 p3 p4 p5 : Pos}, sd[1]? = some (.val (sizD p)) → sd[9]? = some (.val (.lst (L.map exD))) → sd[8]? = some (.val (.lst ((dueQ34 p L).map wsD))) → PEd (cxOf CX0 P w K mg base ["_law_script", "_law_size_here", "_law_some", "_law_examples_here", "_law_kept", "_law_filling_here", "_law_wanted_here", "_law_one", "_law_due_here", "_law_handed"] "law" (defScope sLaw) f cdv A outer s H E).nox sd (.Call (.Name "_law_right" p1) [.Name "_law_size_here" p2, .Name "_law_handed" p3, .Name "_law_due_here" p4] [] p5) (.val (.bl true)) := fun q1 q9 q8 => pd_call (ds := [sizD p, .lst (L.map exD), .lst ((dueQ34 p L).map wsD)]) GR hr rfl (pad_cons (pd_var 1 q1 (pv 1)) (pad_cons (pd_var 9 q9 (pv 9)) (pad_cons (pd_var 8 q8 (pv 8)) pad_nil))) ⟨p, L, hp, O, h9, rfl, rfl⟩ trivial rfl
  refine psd_cons (psd_ifF (k := false) (PWd.pt (pwd_or (k := false) (j := false) (ptd_not (k := true) (ptd_val (right rfl rfl rfl))) fun _ => pwd_or1 (PTd.cast (ptd_neD (ra := .val (.lst (L.map exD))) (rb := .val (.lst (L.map exD))) (pd_var 9 rfl (pv 9)) (pd_var 3 rfl (pv 3)) trivial trivial (.inr ⟨rfl, rfl⟩) pL pL (u_of' hu (by show depL _ + 1 + 1 ≤ 6; omega))) (by show (!deq (.lst _) (.lst _)) = false; rw [deq_refl (.lst (L.map exD)) pL]; rfl)))) rfl (psd_nil ?_))
  have e0 : (List.replicate (filA p).length [D.non]).flatten = (dueQ34 p []).map wsD := by
    rw [due_nil, List.map_map]
    generalize filA p = B
    induction B with
    | nil => rfl
    | cons y B ih =>
      rw [List.length_cons, List.replicate_succ, List.flatten_cons, ih]
      rfl
  refine psd_cons (psd_ifF (k := false) (PWd.pt (pwd_or (k := false) (j := false) (ptd_not (k := true) (ptd_val (pd_call (ds := [sizD p, .lst (L.reverse.map exD), .lst ((dueQ34 p L).map wsD)]) (r := .val (.bl true)) GR hr rfl (pad_cons (pd_var 1 rfl (pv 1)) (pad_cons (PEd.val (PEd.cast (pd_slL3 (ol := none) (oh := none) (ok := some (-1)) (PEd.bor (pd_var 9 rfl (pv 9))) trivial trivial (pd_neg pd_int) (by decide)) (by rw [pick_map, pickA_rev]))) (pad_cons (pd_var 8 rfl (pv 8)) pad_nil))) ⟨p, L.reverse, hp, O.rev, by rw [List.length_reverse]; exact h9, by rw [due_rev], rfl⟩ trivial rfl))) fun _ => pwd_or1 (ptd_not (k := true) (ptd_val (pd_call (ds := [sizD p, .lst [], .lst ((dueQ34 p []).map wsD)]) (r := .val (.bl true)) GR hr rfl (pad_cons (pd_var 1 rfl (pv 1)) (pad_cons (PEd.val (pd_lst (ds := []) pad_nil (Nat.le_of_ble_eq_true rfl))) (pad_cons (PEd.val (PEd.cast (pd_repL (ds := [.non]) (k := (filA p).length) (PEd.bor (PEd.val (pd_lst (ds := [.non]) (pad_cons pd_non pad_nil) (Nat.le_of_ble_eq_true rfl)))) (PEd.ic (pd_lenL rfl zlen (PEd.bor (pd_var 2 rfl (pv 2)))) (by rw [List.length_map])) (by omega) (by show 1 * _ ≤ 1000; omega)) (by rw [e0]))) pad_nil))) ⟨p, [], hp, ⟨fun x hx => (nomatch hx), fun x hx => (nomatch hx), fun x hx => (nomatch hx)⟩, by decide, rfl, rfl⟩ trivial rfl))))) rfl (psd_nil ?_))
  exact psd_one (psd_ret (PEd.cast (pd_and (k := true) (j := true) (right rfl rfl rfl) fun _ => pd_one (PEd.cast (pd_eqD (ra := .val (.lst (L.map exD))) (rb := .val (.lst (L.map exD))) (pd_var 9 rfl (pv 9)) (pd_var 3 rfl (pv 3)) trivial trivial (.inr ⟨rfl, rfl⟩) pL pL (u_of' hu (by show depL _ + 1 + 1 ≤ 6; omega))) (by show DL.R.val (.bl (deq (.lst _) (.lst _))) = _; rw [deq_refl _ pL]))) rfl) trivial rfl)
end
theorem all_mk {P : Program} {w : World} {K : PySem.W.Frag} {h : Heap} {mg : Str → Option Value} {fa : Addr} (X : K.In h) (G : h.Ns mainGlobals mg) (hfa : mg "law" = some (.ref fa))
    {odC anC : Option Addr} {slC : Array (Option Value)} {ocC kVC dcC pmC cdC ctC : Value} {fC : Addr} {odEa anEa : Option Addr} {slEa : Array (Option Value)} {ocEa kVEa dcEa pmEa cdEa ctEa : Value} {fEa : Addr} {odFi anFi : Option Addr} {slFi : Array (Option Value)} {ocFi kVFi dcFi pmFi cdFi ctFi : Value} {fFi : Addr} {odBw anBw : Option Addr} {slBw : Array (Option Value)} {ocBw kVBw dcBw pmBw cdBw ctBw : Value} {fBw : Addr} {odBt anBt : Option Addr} {slBt : Array (Option Value)} {ocBt kVBt dcBt pmBt cdBt ctBt : Value} {fBt : Addr} {odWb anWb : Option Addr} {slWb : Array (Option Value)} {ocWb kVWb dcWb pmWb cdWb ctWb : Value} {fWb : Addr} {odHw anHw : Option Addr} {slHw : Array (Option Value)} {ocHw kVHw dcHw pmHw cdHw ctHw : Value} {fHw : Addr} {odCh anCh : Option Addr} {slCh : Array (Option Value)} {ocCh kVCh dcCh pmCh cdCh ctCh : Value} {fCh : Addr} {odWf anWf : Option Addr} {slWf : Array (Option Value)} {ocWf kVWf dcWf pmWf cdWf ctWf : Value} {fWf : Addr} {odCa anCa : Option Addr} {slCa : Array (Option Value)} {ocCa kVCa dcCa pmCa cdCa ctCa : Value} {fCa : Addr} {odW anW : Option Addr} {slW : Array (Option Value)} {ocW kVW dcW pmW cdW ctW : Value} {fW : Addr} {odX anX : Option Addr} {slX : Array (Option Value)} {ocX kVX dcX pmX cdX ctX : Value} {fX : Addr} {odZ anZ : Option Addr} {slZ : Array (Option Value)} {ocZ kVZ dcZ pmZ cdZ ctZ : Value} {fZ : Addr} {odT anT : Option Addr} {slT : Array (Option Value)} {ocT kVT dcT pmT cdT ctT : Value} {fT : Addr} {odF anF : Option Addr} {slF : Array (Option Value)} {ocF kVF dcF pmF cdF ctF : Value} {fF : Addr} {odSm anSm : Option Addr} {slSm : Array (Option Value)} {ocSm kVSm dcSm pmSm cdSm ctSm : Value} {fSm : Addr} {odJ anJ : Option Addr} {slJ : Array (Option Value)} {ocJ kVJ dcJ pmJ cdJ ctJ : Value} {fJ : Addr} {odIw anIw : Option Addr} {slIw : Array (Option Value)} {ocIw kVIw dcIw pmIw cdIw ctIw : Value} {fIw : Addr} {odCe anCe : Option Addr} {slCe : Array (Option Value)} {ocCe kVCe dcCe pmCe cdCe ctCe : Value} {fCe : Addr} {odEx anEx : Option Addr} {slEx : Array (Option Value)} {ocEx kVEx dcEx pmEx cdEx ctEx : Value} {fEx : Addr} {odWt anWt : Option Addr} {slWt : Array (Option Value)} {ocWt kVWt dcWt pmWt cdWt ctWt : Value} {fWt : Addr} {odHs anHs : Option Addr} {slHs : Array (Option Value)} {ocHs kVHs dcHs pmHs cdHs ctHs : Value} {fHs : Addr} {odDu anDu : Option Addr} {slDu : Array (Option Value)} {ocDu kVDu dcDu pmDu cdDu ctDu : Value} {fDu : Addr} {odTo anTo : Option Addr} {slTo : Array (Option Value)} {ocTo kVTo dcTo pmTo cdTo ctTo : Value} {fTo : Addr} {odRi anRi : Option Addr} {slRi : Array (Option Value)} {ocRi kVRi dcRi pmRi cdRi ctRi : Value} {fRi : Addr} {odL anL : Option Addr} {slL : Array (Option Value)} {ocL kVL dcL pmL cdL ctL : Value} {fL : Addr} {CN CL : Addr} {cdXc : ClassData} {CXo0 : Addr} {CXo1 : Addr} {CXo2 : Addr} {CXo3 : Addr}
    (aC : PySem.W.nsIn K mainGlobals "word_count" = some (some (.ref fC))) (lC : K.lookup fC = some ⟨ocC, odC, .func (PySem.W.fnOf "word_count" "word_count" (defArgs sCount) (defBody sCount) (defScope sCount) .none kVC dcC pmC anC cdC ctC), slC⟩) (cC : PySem.W.codeIn K cdC "word_count" = true) (kC : PySem.W.keepIn K (.ref fC) = true) (aEa : PySem.W.nsIn K mainGlobals "with_each_word" = some (some (.ref fEa))) (lEa : K.lookup fEa = some ⟨ocEa, odEa, .func (PySem.W.fnOf "with_each_word" "with_each_word" (defArgs sEach) (defBody sEach) (defScope sEach) .none kVEa dcEa pmEa anEa cdEa ctEa), slEa⟩) (cEa : PySem.W.codeIn K cdEa "with_each_word" = true) (kEa : PySem.W.keepIn K (.ref fEa) = true) (aFi : PySem.W.nsIn K mainGlobals "fillings" = some (some (.ref fFi))) (lFi : K.lookup fFi = some ⟨ocFi, odFi, .func (PySem.W.fnOf "fillings" "fillings" (defArgs sFill) (defBody sFill) (defScope sFill) .none kVFi dcFi pmFi anFi cdFi ctFi), slFi⟩) (cFi : PySem.W.codeIn K cdFi "fillings" = true) (kFi : PySem.W.keepIn K (.ref fFi) = true) (aBw : PySem.W.nsIn K mainGlobals "both_words" = some (some (.ref fBw))) (lBw : K.lookup fBw = some ⟨ocBw, odBw, .func (PySem.W.fnOf "both_words" "both_words" (defArgs sBw) (defBody sBw) (defScope sBw) .none kVBw dcBw pmBw anBw cdBw ctBw), slBw⟩) (cBw : PySem.W.codeIn K cdBw "both_words" = true) (kBw : PySem.W.keepIn K (.ref fBw) = true) (aBt : PySem.W.nsIn K mainGlobals "both_wanted" = some (some (.ref fBt))) (lBt : K.lookup fBt = some ⟨ocBt, odBt, .func (PySem.W.fnOf "both_wanted" "both_wanted" (defArgs sBwt) (defBody sBwt) (defScope sBwt) .none kVBt dcBt pmBt anBt cdBt ctBt), slBt⟩) (cBt : PySem.W.codeIn K cdBt "both_wanted" = true) (kBt : PySem.W.keepIn K (.ref fBt) = true) (aWb : PySem.W.nsIn K mainGlobals "wanted_by_filling" = some (some (.ref fWb))) (lWb : K.lookup fWb = some ⟨ocWb, odWb, .func (PySem.W.fnOf "wanted_by_filling" "wanted_by_filling" (defArgs sWbf) (defBody sWbf) (defScope sWbf) .none kVWb dcWb pmWb anWb cdWb ctWb), slWb⟩) (cWb : PySem.W.codeIn K cdWb "wanted_by_filling" = true) (kWb : PySem.W.keepIn K (.ref fWb) = true) (aHw : PySem.W.nsIn K mainGlobals "has_wanted" = some (some (.ref fHw))) (lHw : K.lookup fHw = some ⟨ocHw, odHw, .func (PySem.W.fnOf "has_wanted" "has_wanted" (defArgs sHw) (defBody sHw) (defScope sHw) .none kVHw dcHw pmHw anHw cdHw ctHw), slHw⟩) (cHw : PySem.W.codeIn K cdHw "has_wanted" = true) (kHw : PySem.W.keepIn K (.ref fHw) = true) (aCh : PySem.W.nsIn K mainGlobals "choice_of" = some (some (.ref fCh))) (lCh : K.lookup fCh = some ⟨ocCh, odCh, .func (PySem.W.fnOf "choice_of" "choice_of" (defArgs sCho) (defBody sCho) (defScope sCho) .none kVCh dcCh pmCh anCh cdCh ctCh), slCh⟩) (cCh : PySem.W.codeIn K cdCh "choice_of" = true) (kCh : PySem.W.keepIn K (.ref fCh) = true) (aWf : PySem.W.nsIn K mainGlobals "wish_of" = some (some (.ref fWf))) (lWf : K.lookup fWf = some ⟨ocWf, odWf, .func (PySem.W.fnOf "wish_of" "wish_of" (defArgs sWof) (defBody sWof) (defScope sWof) .none kVWf dcWf pmWf anWf cdWf ctWf), slWf⟩) (cWf : PySem.W.codeIn K cdWf "wish_of" = true) (kWf : PySem.W.keepIn K (.ref fWf) = true) (aCa : PySem.W.nsIn K mainGlobals "_law_cell_at" = some (some (.ref fCa))) (lCa : K.lookup fCa = some ⟨ocCa, odCa, .func (PySem.W.fnOf "_law_cell_at" "_law_cell_at" (defArgs sCellAt) (defBody sCellAt) (defScope sCellAt) .none kVCa dcCa pmCa anCa cdCa ctCa), slCa⟩) (cCa : PySem.W.codeIn K cdCa "_law_cell_at" = true) (kCa : PySem.W.keepIn K (.ref fCa) = true) (aW : PySem.W.nsIn K mainGlobals "_law_whole" = some (some (.ref fW))) (lW : K.lookup fW = some ⟨ocW, odW, .func (PySem.W.fnOf "_law_whole" "_law_whole" (defArgs sLWhole) (defBody sLWhole) (defScope sLWhole) .none kVW dcW pmW anW cdW ctW), slW⟩) (cW : PySem.W.codeIn K cdW "_law_whole" = true) (kW : PySem.W.keepIn K (.ref fW) = true) (aX : PySem.W.nsIn K mainGlobals "_law_stream" = some (some (.ref fX))) (lX : K.lookup fX = some ⟨ocX, odX, .func (PySem.W.fnOf "_law_stream" "_law_stream" (defArgs sStream) (defBody sStream) (defScope sStream) .none kVX dcX pmX anX cdX ctX), slX⟩) (cX : PySem.W.codeIn K cdX "_law_stream" = true) (kX : PySem.W.keepIn K (.ref fX) = true) (aZ : PySem.W.nsIn K mainGlobals "_law_size" = some (some (.ref fZ))) (lZ : K.lookup fZ = some ⟨ocZ, odZ, .func (PySem.W.fnOf "_law_size" "_law_size" (defArgs sSizeB) (defBody sSizeB) (defScope sSizeB) .none kVZ dcZ pmZ anZ cdZ ctZ), slZ⟩) (cZ : PySem.W.codeIn K cdZ "_law_size" = true) (kZ : PySem.W.keepIn K (.ref fZ) = true) (aT : PySem.W.nsIn K mainGlobals "_law_two" = some (some (.ref fT))) (lT : K.lookup fT = some ⟨ocT, odT, .func (PySem.W.fnOf "_law_two" "_law_two" (defArgs sTwo) (defBody sTwo) (defScope sTwo) .none kVT dcT pmT anT cdT ctT), slT⟩) (cT : PySem.W.codeIn K cdT "_law_two" = true) (kT : PySem.W.keepIn K (.ref fT) = true) (aF : PySem.W.nsIn K mainGlobals "_law_fillings" = some (some (.ref fF))) (lF : K.lookup fF = some ⟨ocF, odF, .func (PySem.W.fnOf "_law_fillings" "_law_fillings" (defArgs sLFill) (defBody sLFill) (defScope sLFill) .none kVF dcF pmF anF cdF ctF), slF⟩) (cF : PySem.W.codeIn K cdF "_law_fillings" = true) (kF : PySem.W.keepIn K (.ref fF) = true) (aSm : PySem.W.nsIn K mainGlobals "_law_small" = some (some (.ref fSm))) (lSm : K.lookup fSm = some ⟨ocSm, odSm, .func (PySem.W.fnOf "_law_small" "_law_small" (defArgs sSmall) (defBody sSmall) (defScope sSmall) .none kVSm dcSm pmSm anSm cdSm ctSm), slSm⟩) (cSm : PySem.W.codeIn K cdSm "_law_small" = true) (kSm : PySem.W.keepIn K (.ref fSm) = true) (aJ : PySem.W.nsIn K mainGlobals "_law_filling" = some (some (.ref fJ))) (lJ : K.lookup fJ = some ⟨ocJ, odJ, .func (PySem.W.fnOf "_law_filling" "_law_filling" (defArgs sFilC) (defBody sFilC) (defScope sFilC) .none kVJ dcJ pmJ anJ cdJ ctJ), slJ⟩) (cJ : PySem.W.codeIn K cdJ "_law_filling" = true) (kJ : PySem.W.keepIn K (.ref fJ) = true) (aIw : PySem.W.nsIn K mainGlobals "_law_is_wish" = some (some (.ref fIw))) (lIw : K.lookup fIw = some ⟨ocIw, odIw, .func (PySem.W.fnOf "_law_is_wish" "_law_is_wish" (defArgs sIsWish) (defBody sIsWish) (defScope sIsWish) .none kVIw dcIw pmIw anIw cdIw ctIw), slIw⟩) (cIw : PySem.W.codeIn K cdIw "_law_is_wish" = true) (kIw : PySem.W.keepIn K (.ref fIw) = true) (aCe : PySem.W.nsIn K mainGlobals "_law_cells" = some (some (.ref fCe))) (lCe : K.lookup fCe = some ⟨ocCe, odCe, .func (PySem.W.fnOf "_law_cells" "_law_cells" (defArgs sCel) (defBody sCel) (defScope sCel) .none kVCe dcCe pmCe anCe cdCe ctCe), slCe⟩) (cCe : PySem.W.codeIn K cdCe "_law_cells" = true) (kCe : PySem.W.keepIn K (.ref fCe) = true) (aEx : PySem.W.nsIn K mainGlobals "_law_examples" = some (some (.ref fEx))) (lEx : K.lookup fEx = some ⟨ocEx, odEx, .func (PySem.W.fnOf "_law_examples" "_law_examples" (defArgs sEx) (defBody sEx) (defScope sEx) .none kVEx dcEx pmEx anEx cdEx ctEx), slEx⟩) (cEx : PySem.W.codeIn K cdEx "_law_examples" = true) (kEx : PySem.W.keepIn K (.ref fEx) = true) (aWt : PySem.W.nsIn K mainGlobals "_law_wanted" = some (some (.ref fWt))) (lWt : K.lookup fWt = some ⟨ocWt, odWt, .func (PySem.W.fnOf "_law_wanted" "_law_wanted" (defArgs sWt) (defBody sWt) (defScope sWt) .none kVWt dcWt pmWt anWt cdWt ctWt), slWt⟩) (cWt : PySem.W.codeIn K cdWt "_law_wanted" = true) (kWt : PySem.W.keepIn K (.ref fWt) = true) (aHs : PySem.W.nsIn K mainGlobals "_law_has" = some (some (.ref fHs))) (lHs : K.lookup fHs = some ⟨ocHs, odHs, .func (PySem.W.fnOf "_law_has" "_law_has" (defArgs sHas) (defBody sHas) (defScope sHas) .none kVHs dcHs pmHs anHs cdHs ctHs), slHs⟩) (cHs : PySem.W.codeIn K cdHs "_law_has" = true) (kHs : PySem.W.keepIn K (.ref fHs) = true) (aDu : PySem.W.nsIn K mainGlobals "_law_due" = some (some (.ref fDu))) (lDu : K.lookup fDu = some ⟨ocDu, odDu, .func (PySem.W.fnOf "_law_due" "_law_due" (defArgs sDue) (defBody sDue) (defScope sDue) .none kVDu dcDu pmDu anDu cdDu ctDu), slDu⟩) (cDu : PySem.W.codeIn K cdDu "_law_due" = true) (kDu : PySem.W.keepIn K (.ref fDu) = true) (aTo : PySem.W.nsIn K mainGlobals "_law_told" = some (some (.ref fTo))) (lTo : K.lookup fTo = some ⟨ocTo, odTo, .func (PySem.W.fnOf "_law_told" "_law_told" (defArgs sTold) (defBody sTold) (defScope sTold) .none kVTo dcTo pmTo anTo cdTo ctTo), slTo⟩) (cTo : PySem.W.codeIn K cdTo "_law_told" = true) (kTo : PySem.W.keepIn K (.ref fTo) = true) (aRi : PySem.W.nsIn K mainGlobals "_law_right" = some (some (.ref fRi))) (lRi : K.lookup fRi = some ⟨ocRi, odRi, .func (PySem.W.fnOf "_law_right" "_law_right" (defArgs sRt) (defBody sRt) (defScope sRt) .none kVRi dcRi pmRi anRi cdRi ctRi), slRi⟩) (cRi : PySem.W.codeIn K cdRi "_law_right" = true) (kRi : PySem.W.keepIn K (.ref fRi) = true) (aL : PySem.W.nsIn K mainGlobals "law" = some (some (.ref fL))) (lL : K.lookup fL = some ⟨ocL, odL, .func (PySem.W.fnOf "law" "law" (defArgs sLaw) (defBody sLaw) (defScope sLaw) .none kVL dcL pmL anL cdL ctL), slL⟩) (cL : PySem.W.codeIn K cdL "law" = true) (kL : PySem.W.keepIn K (.ref fL) = true) (nrange : PySem.W.nsIn K mainGlobals "range" = some none) (ntuple : PySem.W.nsIn K mainGlobals "tuple" = some none) (nzip : PySem.W.nsIn K mainGlobals "zip" = some none) (nall : PySem.W.nsIn K mainGlobals "all" = some none) (nlen : PySem.W.nsIn K mainGlobals "len" = some none) (nisinstance : PySem.W.nsIn K mainGlobals "isinstance" = some none) (nint : PySem.W.nsIn K mainGlobals "int" = some none) (nbool : PySem.W.nsIn K mainGlobals "bool" = some none) (nlist : PySem.W.nsIn K mainGlobals "list" = some none) (aCN : PySem.W.nsIn K mainGlobals "NoWish" = some (some (.ref CN))) (xa : PySem.W.findIn K (.ref CN) "__class__" = some (some (.builtin "object.__class__"))) (xm : PySem.W.mroIn K CN (.type "object") = some true) (xs : PySem.W.subIn K (.ref CN) (.type "BaseException") = some true) (xg : PySem.W.findIn K (.ref CN) "__getattribute__" = some (some (.builtin "BaseException.__getattribute__"))) (xn : PySem.W.findIn K (.ref CN) "__getattr__" = some none) (xcl : PySem.W.clsIn K CN = some cdXc) (xex : PySem.W.excIn K CN [.type "ValueError", .type "Exception", .type "BaseException", .type "object"] "ValueError.__new__" = true) (aLE : PySem.W.nsIn K mainGlobals "LeastError" = some (some (.ref CL))) (xle : PySem.W.exmOne K (.ref CN) (.ref CL) = some true) (xnw : PySem.W.kitOne K (.ref CN) (.ref CN) = some true) (nVE : PySem.W.nsIn K mainGlobals "ValueError" = some none) (xve : PySem.W.kitOne K (.ref CN) (.type "ValueError") = some true) (aX0 : PySem.W.nsIn K mainGlobals "NoChange" = some (some (.ref CXo0))) (xo0 : PySem.W.kitOne K (.ref CN) (.ref CXo0) = some false) (aX1 : PySem.W.nsIn K mainGlobals "NoText" = some (some (.ref CXo1))) (xo1 : PySem.W.kitOne K (.ref CN) (.ref CXo1) = some false) (aX2 : PySem.W.nsIn K mainGlobals "NoWindow" = some (some (.ref CXo2))) (xo2 : PySem.W.kitOne K (.ref CN) (.ref CXo2) = some false) (aX3 : PySem.W.nsIn K mainGlobals "TooGreat" = some (some (.ref CXo3))) (xo3 : PySem.W.kitOne K (.ref CN) (.ref CXo3) = some false) :
    ∃ fd : FuncData, (∀ (s : Shared) (v : Value), BindsTo s fd ⟨[v], []⟩ [("_law_script", v)]) ∧ ∀ base : Heap, K.In base → base.Ns mainGlobals mg → FnOk P w K mg base CX0 7 fa fd ["_law_script"] (spC K 1 CLaw) := by
  have e := hfa.symm.trans (PySem.W.mg_of X G aL)
  cases e
  have zrange := PySem.W.mg_none_of X G nrange
  have ztuple := PySem.W.mg_none_of X G ntuple
  have zzip := PySem.W.mg_none_of X G nzip
  have zall := PySem.W.mg_none_of X G nall
  have zlen := PySem.W.mg_none_of X G nlen
  have zisinstance := PySem.W.mg_none_of X G nisinstance
  have zint := PySem.W.mg_none_of X G nint
  have zbool := PySem.W.mg_none_of X G nbool
  have zlist := PySem.W.mg_none_of X G nlist
  have xk : Xk34 K mg CN := ⟨⟨xa, xm, xs, xg, xn, by rw [xcl]; rfl⟩, xex, ⟨CL, PySem.W.mg_of X G aLE, xle⟩, ⟨PySem.W.mg_of X G aCN, xnw⟩, ⟨PySem.W.mg_none_of X G nVE, xve⟩, ⟨CXo0, PySem.W.mg_of X G aX0, xo0⟩, ⟨CXo1, PySem.W.mg_of X G aX1, xo1⟩, ⟨CXo2, PySem.W.mg_of X G aX2, xo2⟩, ⟨CXo3, PySem.W.mg_of X G aX3, xo3⟩⟩
  have FC := fun_mk (st := sCount) lC cC kC
  have mC := PySem.W.mg_of X G aC
  have FEa := fun_mk (st := sEach) lEa cEa kEa
  have mEa := PySem.W.mg_of X G aEa
  have FFi := fun_mk (st := sFill) lFi cFi kFi
  have mFi := PySem.W.mg_of X G aFi
  have FBw := fun_mk (st := sBw) lBw cBw kBw
  have mBw := PySem.W.mg_of X G aBw
  have FBt := fun_mk (st := sBwt) lBt cBt kBt
  have mBt := PySem.W.mg_of X G aBt
  have FWb := fun_mk (st := sWbf) lWb cWb kWb
  have mWb := PySem.W.mg_of X G aWb
  have FHw := fun_mk (st := sHw) lHw cHw kHw
  have mHw := PySem.W.mg_of X G aHw
  have FCh := fun_mk (st := sCho) lCh cCh kCh
  have mCh := PySem.W.mg_of X G aCh
  have FWf := fun_mk (st := sWof) lWf cWf kWf
  have mWf := PySem.W.mg_of X G aWf
  have FCa := fun_mk (st := sCellAt) lCa cCa kCa
  have mCa := PySem.W.mg_of X G aCa
  have FW := fun_mk (st := sLWhole) lW cW kW
  have mW := PySem.W.mg_of X G aW
  have FX := fun_mk (st := sStream) lX cX kX
  have mX := PySem.W.mg_of X G aX
  have FZ := fun_mk (st := sSizeB) lZ cZ kZ
  have mZ := PySem.W.mg_of X G aZ
  have FT := fun_mk (st := sTwo) lT cT kT
  have mT := PySem.W.mg_of X G aT
  have FF := fun_mk (st := sLFill) lF cF kF
  have mF := PySem.W.mg_of X G aF
  have FSm := fun_mk (st := sSmall) lSm cSm kSm
  have mSm := PySem.W.mg_of X G aSm
  have FJ := fun_mk (st := sFilC) lJ cJ kJ
  have mJ := PySem.W.mg_of X G aJ
  have FIw := fun_mk (st := sIsWish) lIw cIw kIw
  have mIw := PySem.W.mg_of X G aIw
  have FCe := fun_mk (st := sCel) lCe cCe kCe
  have mCe := PySem.W.mg_of X G aCe
  have FEx := fun_mk (st := sEx) lEx cEx kEx
  have mEx := PySem.W.mg_of X G aEx
  have FWt := fun_mk (st := sWt) lWt cWt kWt
  have mWt := PySem.W.mg_of X G aWt
  have FHs := fun_mk (st := sHas) lHs cHs kHs
  have mHs := PySem.W.mg_of X G aHs
  have FDu := fun_mk (st := sDue) lDu cDu kDu
  have mDu := PySem.W.mg_of X G aDu
  have FTo := fun_mk (st := sTold) lTo cTo kTo
  have mTo := PySem.W.mg_of X G aTo
  have FRi := fun_mk (st := sRt) lRi cRi kRi
  have mRi := PySem.W.mg_of X G aRi
  have FL := fun_mk (st := sLaw) lL cL kL
  refine ⟨PySem.W.fnOf "law" "law" (defArgs sLaw) (defBody sLaw) (defScope sLaw) .none kVL dcL pmL anL cdL ctL, fun s v => .of_eq rfl, fun base _ _ => ?_⟩
  have GC := ok_count (P := P) (w := w) (base := base) FC zrange mC 
  have GEa := ok_each (P := P) (w := w) (base := base) FEa zrange mEa 
  have GFi := ok_fill (P := P) (w := w) (base := base) FFi zrange mFi GC GEa
  have GBw := ok_bw34 (P := P) (w := w) (base := base) FBw xk mBw 
  have GBt := ok_bwt34 (P := P) (w := w) (base := base) FBt ztuple zzip mBt GBw
  have GWb := ok_wbf34 (P := P) (w := w) (base := base) FWb  mWb GBt
  have GHw := ok_hw34 (P := P) (w := w) (base := base) FHw zall zzip mHw 
  have GCh := ok_cho34 (P := P) (w := w) (base := base) FCh zall mCh GFi GHw
  have GWf := ok_wof34 (P := P) (w := w) (base := base) FWf  mWf GWb GCh GFi
  have GCa := ok_cellat (P := P) (w := w) (base := base) FCa zlen mCa 
  have GW := ok_lwhole (P := P) (w := w) (base := base) FW zisinstance zint zbool mW 
  have GX := ok_stream (P := P) (w := w) (base := base) FX zrange mX 
  have GZ := ok_sizeB (P := P) (w := w) (base := base) FZ  mZ 
  have GT := ok_two (P := P) (w := w) (base := base) FT  mT 
  have GF := ok_lfillB (P := P) (w := w) (base := base) FF zrange mF GT
  have GSm := ok_small (P := P) (w := w) (base := base) FSm  mSm GZ
  have GJ := ok_fillingB (P := P) (w := w) (base := base) FJ zisinstance ztuple mJ GW
  have GIw := ok_iswish (P := P) (w := w) (base := base) FIw zisinstance zlist zlen zzip mIw GJ
  have GCe := ok_cel34 (P := P) (w := w) (base := base) FCe  mCe GX
  have GEx := ok_ex34 (P := P) (w := w) (base := base) FEx zlen zrange ztuple mEx GF GT
  have GWt := ok_wt34 (P := P) (w := w) (base := base) FWt zrange mWt 
  have GHs := ok_has34 (P := P) (w := w) (base := base) FHs  mHs 
  have GDu := ok_due34 (P := P) (w := w) (base := base) FDu zint mDu GWt GHs
  have GTo := ok_told34 (P := P) (w := w) (base := base) FTo zisinstance zint xk mTo GWf
  have GRi := ok_rt34 (P := P) (w := w) (base := base) FRi zlen mRi GTo GIw
  exact ok_law FL zlist zlen zint ztuple GCa GSm GF GCe GEx GT GDu GRi
end K34
open PySem PySem.W PyProof.Rows
set_option maxRecDepth 100000 in
set_option maxHeartbeats 0 in
theorem PySem.Challenge.cw_leastrow_k34_wishes_of_examples_holds : PySem.Challenge.rw_leastrow_k34_wishes_of_examples.Holds := by
  w_on; o_law; k_head; (case hw => w_witness2)
  k_fill
  refine DL.walkD (l := PySem.Challenge.rw_leastrow_k34_wishes_of_examples) (k := 7) (x := "_law_script") rfl rfl ⟨rfl, by decide, by decide, rfl⟩ (fun w h Y => PySem.W.kIn_of Y) ?F
  case F =>
    intro w mg fa h KX G hmg
    refine' K34.all_mk KX G hmg ?aC ?lC ?cC ?kC ?aEa ?lEa ?cEa ?kEa ?aFi ?lFi ?cFi ?kFi ?aBw ?lBw ?cBw ?kBw ?aBt ?lBt ?cBt ?kBt ?aWb ?lWb ?cWb ?kWb ?aHw ?lHw ?cHw ?kHw ?aCh ?lCh ?cCh ?kCh ?aWf ?lWf ?cWf ?kWf ?aCa ?lCa ?cCa ?kCa ?aW ?lW ?cW ?kW ?aX ?lX ?cX ?kX ?aZ ?lZ ?cZ ?kZ ?aT ?lT ?cT ?kT ?aF ?lF ?cF ?kF ?aSm ?lSm ?cSm ?kSm ?aJ ?lJ ?cJ ?kJ ?aIw ?lIw ?cIw ?kIw ?aCe ?lCe ?cCe ?kCe ?aEx ?lEx ?cEx ?kEx ?aWt ?lWt ?cWt ?kWt ?aHs ?lHs ?cHs ?kHs ?aDu ?lDu ?cDu ?kDu ?aTo ?lTo ?cTo ?kTo ?aRi ?lRi ?cRi ?kRi ?aL ?lL ?cL ?kL ?nrange ?ntuple ?nzip ?nall ?nlen ?nisinstance ?nint ?nbool ?nlist ?aCN ?xa ?xm ?xs ?xg ?xn ?xcl ?xex ?aLE ?xle ?xnw ?nVE ?xve ?aX0 ?xo0 ?aX1 ?xo1 ?aX2 ?xo2 ?aX3 ?xo3
    (case aC => k_is); (case lC => k_is); (case cC => k_is); (case kC => k_is); (case aEa => k_is); (case lEa => k_is); (case cEa => k_is); (case kEa => k_is); (case aFi => k_is); (case lFi => k_is); (case cFi => k_is); (case kFi => k_is); (case aBw => k_is); (case lBw => k_is); (case cBw => k_is); (case kBw => k_is); (case aBt => k_is); (case lBt => k_is); (case cBt => k_is); (case kBt => k_is); (case aWb => k_is); (case lWb => k_is); (case cWb => k_is); (case kWb => k_is); (case aHw => k_is); (case lHw => k_is); (case cHw => k_is); (case kHw => k_is); (case aCh => k_is); (case lCh => k_is); (case cCh => k_is); (case kCh => k_is); (case aWf => k_is); (case lWf => k_is); (case cWf => k_is); (case kWf => k_is); (case aCa => k_is); (case lCa => k_is); (case cCa => k_is); (case kCa => k_is); (case aW => k_is); (case lW => k_is); (case cW => k_is); (case kW => k_is); (case aX => k_is); (case lX => k_is); (case cX => k_is); (case kX => k_is); (case aZ => k_is); (case lZ => k_is); (case cZ => k_is); (case kZ => k_is); (case aT => k_is); (case lT => k_is); (case cT => k_is); (case kT => k_is); (case aF => k_is); (case lF => k_is); (case cF => k_is); (case kF => k_is); (case aSm => k_is); (case lSm => k_is); (case cSm => k_is); (case kSm => k_is); (case aJ => k_is); (case lJ => k_is); (case cJ => k_is); (case kJ => k_is); (case aIw => k_is); (case lIw => k_is); (case cIw => k_is); (case kIw => k_is); (case aCe => k_is); (case lCe => k_is); (case cCe => k_is); (case kCe => k_is); (case aEx => k_is); (case lEx => k_is); (case cEx => k_is); (case kEx => k_is); (case aWt => k_is); (case lWt => k_is); (case cWt => k_is); (case kWt => k_is); (case aHs => k_is); (case lHs => k_is); (case cHs => k_is); (case kHs => k_is); (case aDu => k_is); (case lDu => k_is); (case cDu => k_is); (case kDu => k_is); (case aTo => k_is); (case lTo => k_is); (case cTo => k_is); (case kTo => k_is); (case aRi => k_is); (case lRi => k_is); (case cRi => k_is); (case kRi => k_is); (case aL => k_is); (case lL => k_is); (case cL => k_is); (case kL => k_is); (case nrange => k_is); (case ntuple => k_is); (case nzip => k_is); (case nall => k_is); (case nlen => k_is); (case nisinstance => k_is); (case nint => k_is); (case nbool => k_is); (case nlist => k_is); (case aCN => k_is); (case xa => k_is); (case xm => k_is); (case xs => k_is); (case xg => k_is); (case xn => k_is); (case xcl => k_is); (case xex => k_exc); (case aLE => k_is); (case xle => kts_exm); (case xnw => kit_is); (case nVE => k_is); (case xve => kit_is); (case aX0 => k_is); (case xo0 => kit_is); (case aX1 => k_is); (case xo1 => kit_is); (case aX2 => k_is); (case xo2 => kit_is); (case aX3 => k_is); (case xo3 => kit_is)
