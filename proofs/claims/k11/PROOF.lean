import PyProof.Rows.All
import Wide.All
import OpenK.AllK
import Wide.FinOn
import Lean
import PyProof.EqAt
import PyProof.EqKinds
import PyProof.TupleCall
import PySem.Challenge.RW_leastrow_k11_stocks_written_and_read
set_option Elab.async false
set_option linter.all false
set_option maxRecDepth 100000
/-! THE HAND LAYER, for ints, bools, texts, own classes, LISTS and tuples (index, slices, in, append, pop ..), calls, loops. Paste it whole ahead of your own text; what your proof does not reach may be deleted. -/
namespace L2
open PySem PySem.Spec PyProof.Rows

/-- a key: an int or a str -/
abbrev Key := Sum Int Str
def keyIs : Key → Value → Bool
  | .inl k, v => Value.isInt k v
  | .inr x, v => Value.isStrOf x v
def keyH (w : World) : Key → Int
  | .inl k => hashInt k
  | .inr x => hashStr w x
theorem keyIs_shape : ∀ {k : Key} {v : Value}, keyIs k v = true → (∃ i t, k = Sum.inl i ∧ v = Value.int i t) ∨ (∃ x t, k = Sum.inr x ∧ v = Value.str x t)
  | .inl i, v, h => by
    obtain ⟨t, e⟩ := Value.isInt_shape (k := i) (v := v) h
    exact .inl ⟨i, t, rfl, e⟩
  | .inr x, v, h => by
    obtain ⟨t, e⟩ := Value.isStrOf_shape (x := x) (v := v) h
    exact .inr ⟨x, t, rfl, e⟩
theorem keyIs_int (i : Int) (t : Tok) : keyIs (.inl i) (.int i t) = true := by simp [keyIs, Value.isInt]
theorem keyIs_str (x : Str) (t : Tok) : keyIs (.inr x) (.str x t) = true := by simp [keyIs, Value.isStrOf]
theorem key_ll (a b : Int) : decide ((Sum.inl a : Key) = Sum.inl b) = (a == b) := by
  by_cases e : a = b
  · subst e; simp
  · have h : ¬ (Sum.inl a : Key) = Sum.inl b := fun q => e (Sum.inl.inj q)
    rw [decide_eq_false h]
    exact (beq_eq_false_iff_ne.mpr e).symm
theorem key_rr (a b : Str) : decide ((Sum.inr a : Key) = Sum.inr b) = decide (a = b) := by
  by_cases e : a = b
  · subst e; simp
  · have h : ¬ (Sum.inr a : Key) = Sum.inr b := fun q => e (Sum.inr.inj q)
    rw [decide_eq_false h, decide_eq_false e]
theorem key_lr (a : Int) (b : Str) : decide ((Sum.inl a : Key) = Sum.inr b) = false := decide_eq_false (fun q => nomatch q)
theorem key_rl (a : Str) (b : Int) : decide ((Sum.inr a : Key) = Sum.inl b) = false := decide_eq_false (fun q => nomatch q)

def mixKind (prog : Program) (w : World) : PySem.KeyKind prog w Key where
  is := keyIs
  hash := keyH w
  inj := fun v a b ha hb => by
    rcases keyIs_shape ha with ⟨i, t, rfl, rfl⟩ | ⟨x, t, rfl, rfl⟩
    · rcases keyIs_shape hb with ⟨j, u, rfl, e⟩ | ⟨y, u, rfl, e⟩
      · injection e with e1 _; rw [e1]
      · exact nomatch e
    · rcases keyIs_shape hb with ⟨j, u, rfl, e⟩ | ⟨y, u, rfl, e⟩
      · exact nomatch e
      · injection e with e1 _; rw [e1]
  byValue := fun k v h => by
    rcases keyIs_shape h with ⟨i, t, rfl, rfl⟩ | ⟨x, t, rfl, rfl⟩ <;> rfl
  pyHash := fun hv h => by
    rcases keyIs_shape hv with ⟨i, t, rfl, rfl⟩ | ⟨x, t, rfl, rfl⟩
    · exact wpAny_pyHash_int h
    · exact wpAny_pyHash_str h
  eqBool := fun hu hv h => by
    rcases keyIs_shape hu with ⟨i, t, rfl, rfl⟩ | ⟨x, t, rfl, rfl⟩
    · rcases keyIs_shape hv with ⟨j, u, rfl, rfl⟩ | ⟨y, u, rfl, rfl⟩
      · rw [key_ll] at h; exact wpAny_eqBool_int h
      · rw [key_lr] at h; exact SeqAt.EqAt.int_str i t y u _ _ _ _ h
    · rcases keyIs_shape hv with ⟨j, u, rfl, rfl⟩ | ⟨y, u, rfl, rfl⟩
      · rw [key_rl] at h; exact SeqAt.EqAt.str_int x t j u _ _ _ _ h
      · rw [key_rr] at h; exact wpAny_eqBool_str h
  «strs» := fun k x t v h => by
    rcases keyIs_shape h with ⟨i, u, rfl, e⟩ | ⟨y, u, rfl, e⟩
    · exact nomatch e
    · injection e with e1 _
      subst e1
      cases v <;> rfl

theorem mixKind_int (prog : Program) (w : World) (i : Int) (t : Tok) : (mixKind prog w).is (.inl i) (.int i t) = true := keyIs_int i t
theorem mixKind_str (prog : Program) (w : World) (x : Str) (t : Tok) : (mixKind prog w).is (.inr x) (.str x t) = true := keyIs_str x t
end L2

namespace L2
open PySem PySem.Spec PyProof.Rows

/-- a value, without the heap -/
inductive V where
  | non | bl (b : Bool) | int (i : Int) | str (x : Str) | byt (b : Array UInt8) | flt (b : UInt64) | ref (a : Addr) | ty (n : String)
  deriving DecidableEq

def RelV : V → Value → Prop
  | .non, u => u = Value.none
  | .bl b, u => u = Value.bool b
  | .int i, u => ∃ t, u = Value.int i t
  | .str x, u => ∃ t, u = Value.str x t
  | .byt b, u => ∃ t, u = Value.bytes b t
  | .flt b, u => ∃ t, u = Value.float b t
  | .ref a, u => u = Value.ref a
  | .ty n, u => u = Value.type n

abbrev Vals : List V → List Value → Prop := Paired RelV
theorem Vals.length {xs : List V} {us : List Value} (r : Vals xs us) : xs.length = us.length := Paired.length r
theorem Vals.get : ∀ {xs : List V} {us : List Value} {i : Nat} {x : V}, Vals xs us → xs[i]? = some x → ∃ u, us[i]? = some u ∧ RelV x u
  | _, _, _, _, .nil, e => by simp at e
  | _, _, 0, _, .cons r _, e => by simp at e; subst e; exact ⟨_, rfl, r⟩
  | _, _, i + 1, x, .cons _ t, e => by
    obtain ⟨u, h1, h2⟩ := Vals.get (i := i) (x := x) t (by simpa using e)
    exact ⟨u, by simpa using h1, h2⟩
theorem Vals.set {x : V} {u : Value} (r : RelV x u) : ∀ {xs : List V} {us : List Value} (i : Nat), Vals xs us → Vals (xs.set i x) (us.set i u)
  | _, _, _, .nil => .nil
  | _, _, 0, .cons _ t => .cons r t
  | _, _, i + 1, .cons q t => .cons q (Vals.set r i t)
theorem Vals.append : ∀ {xs ys : List V} {us ws : List Value}, Vals xs us → Vals ys ws → Vals (xs ++ ys) (us ++ ws)
  | _, _, _, _, .nil, s => s
  | _, _, _, _, .cons r t, s => .cons r (Vals.append t s)
theorem Vals.take : ∀ {xs : List V} {us : List Value} (n : Nat), Vals xs us → Vals (xs.take n) (us.take n)
  | _, _, 0, _ => .nil
  | _, _, _ + 1, .nil => .nil
  | _, _, n + 1, .cons r t => .cons r (Vals.take n t)
theorem Vals.drop : ∀ {xs : List V} {us : List Value} (n : Nat), Vals xs us → Vals (xs.drop n) (us.drop n)
  | _, _, 0, r => r
  | _, _, _ + 1, .nil => .nil
  | _, _, n + 1, .cons _ t => Vals.drop n t
def RelO : Option V → Option Value → Prop
  | some v, some u => RelV v u
  | none, none => True
  | _, _ => False
def KV {κ : Type} : List (κ × V) → List (κ × Value) → Prop := Paired fun (p : κ × V) (q : κ × Value) => p.1 = q.1 ∧ RelV p.2 q.2

/-- a key of a dict (00_mix): an int or a text -/
def kV : Key → V
  | .inl i => .int i
  | .inr x => .str x

/-- what stands at a tracked address -/
inductive HO where
  /-- a list -/
  | lst (xs : List V)
  /-- a tuple (never changes) -/
  | tup (xs : List V)
  /-- a dict whose keys are ints and texts; one whose keys are tuples of ints and texts (the empty one is both) -/
  | dK (kvs : List (Key × V)) | dT (kvs : List (List Key × V))
  /-- a set of ints: its members, its size -/
  | set (S : Int → Bool) (n : Nat)
  /-- an instance of the class at C, its dict at dx, its attributes -/
  | ins (C dx : Addr) (fs : List (Str × V))
  /-- the dict of the instance at x -/
  | own (x : Addr)
  /-- the dict of an exception -/
  | xd (fs : List (Str × V))
  /-- a bound method, f of x -/
  | met (f x : Addr)
  /-- a range object lo, lo + 1, .. below hi -/
  | rng (lo hi : Int)
  /-- a thing that is known to the object (the script; a dict while a loop walks it): read, never written while it is so -/
  | frz (o : Obj) (u : HO)
  /-- a code object's table -/
  | tbl (ps : Array Value)
  /-- any other thing, by what is true of its one object (a def of one's own: SetO a S n := HO.ext fun h => ..) -/
  | ext (φ : Heap → Prop)

abbrev Hp := Addr → Option HO
def upd (H : Hp) (a : Addr) (o : HO) : Hp := fun b => if b = a then some o else H b
theorem upd_same {H : Hp} {a : Addr} {o : HO} : upd H a o a = some o := by unfold upd; rw [if_pos rfl]
theorem upd_ne {H : Hp} {a b : Addr} {o : HO} (h : b ≠ a) : upd H a o b = H b := by unfold upd; rw [if_neg h]
theorem ne_of_none {H : Hp} {a b : Addr} {o : HO} (h : H a = some o) (h' : H b = none) : a ≠ b := by
  intro e; subst e; rw [h] at h'; cases h'

def IsTupD (h : Heap) (a : Addr) (items : Array Value) : Prop := ∃ o, h.get? a = some o ∧ o.cls = .type "tuple" ∧ (∃ n, o.data = .seq items n) ∧ o.dict = none
theorem IsTupD.tup {h : Heap} {a : Addr} {items : Array Value} (x : IsTupD h a items) : IsTup h a items := let ⟨o, e, c, d, _⟩ := x; ⟨o, e, c, d⟩
theorem IsTupD.new (h : Heap) (items : Array Value) : IsTupD (h.push { cls := .type "tuple", data := .seq items }) h.objs.size items := ⟨_, Heap.get?_push_size _ rfl, rfl, ⟨_, rfl⟩, rfl⟩
section
variable (P : Program) (w : World)
def ObjOk (H : Hp) (h : Heap) (a : Addr) : HO → Prop
  | .lst xs => xs.length ≤ sizeLine ∧ ∃ (its : List Value) (n : Nat), Vals xs its ∧ h.get? a = some { cls := .type "list", data := .seq its.toArray n }
  | .tup xs => xs.length ≤ sizeLine ∧ ∃ its : List Value, Vals xs its ∧ IsTupD h a its.toArray
  | .dK kvs => kvs.length ≤ sizeLine ∧ (a == sysModules) = false ∧ ∃ vs, KV kvs vs ∧ h.DictOf (mixKind P w) a vs
  | .dT kvs => kvs.length ≤ sizeLine ∧ (a == sysModules) = false ∧ ∃ xs : List (List Key × Addr × Value),
      Paired (fun (p : List Key × V) (q : List Key × Addr × Value) => p.1 = q.1 ∧ H q.2.1 = some (.tup (p.1.map kV)) ∧ RelV p.2 q.2.2) kvs xs ∧
      ∃ o es ep, h.get? a = some o ∧ o.ExactDict ∧ o.data = .dict es ep ∧ es.toList = xs.map (entryOfKey (tupleKind (mixKind P w))) ∧ (xs.map (·.1)).Nodup
  | .set S n => h.SetOf (intKind P w) a S n
  | .ins C dx fs => H dx = some (.own a) ∧ fs.length ≤ 1000 ∧ dx ≠ a ∧ h.get? a = some (PySem.W.instObj C dx) ∧
      ∃ mA, h.Ns1 dx mA ∧ (∀ f, RelO (fs.lookup f) (mA f)) ∧ PySem.Within mA (fs.map (·.1))
  | .own _ => ∃ o, h.get? a = some o
  | .xd fs => ∃ mA, h.Ns1 a mA ∧ ∀ f, RelO (fs.lookup f) (mA f)
  | .rng lo hi => ∃ t u v, h.get? a = some { cls := .type "range", data := .fields #[.int lo t, .int hi u, .int 1 v] }
  | .frz o u => h.get? a = some o ∧ ObjOk H h a u
  | .tbl ps => h.get? a = some { cls := .none, data := .fields ps }
  | .met f x => h.get? a = some (PySem.W.methodObj (.ref f) (.ref x))
  | .ext φ => φ h ∧ (∃ o, h.get? a = some o) ∧ ∀ h1 h2 : Heap, φ h1 → (∀ o, h1.get? a = some o → h2.get? a = some o) → φ h2
/-- the abstract heap is held -/
def HOk (H : Hp) (h : Heap) : Prop := ∀ a o, H a = some o → ObjOk P w H h a o
end

section
variable {P : Program} {w : World} {H H' : Hp} {h h' : Heap} {a : Addr} {o : HO}
theorem ObjOk.lt (x : ObjOk P w H h a o) : a < h.objs.size := by
  cases o with
  | lst xs => obtain ⟨_, _, _, _, e⟩ := x; exact Heap.lt_size e
  | tup xs => obtain ⟨_, _, _, p⟩ := x; exact p.tup.lt
  | dK kvs => obtain ⟨_, _, _, _, o, _, _, e, _⟩ := x; exact Heap.lt_size e
  | dT kvs => obtain ⟨_, _, _, _, o, _, _, e, _⟩ := x; exact Heap.lt_size e
  | set S n => obtain ⟨o, _, _, _, e, _⟩ := x; exact Heap.lt_size e
  | ins C dx fs => obtain ⟨_, _, _, e, _⟩ := x; exact Heap.lt_size e
  | own y => obtain ⟨_, e⟩ := x; exact Heap.lt_size e
  | xd fs => obtain ⟨_, ⟨_, _, _, e, _⟩, _⟩ := x; exact Heap.lt_size e
  | rng lo hi => obtain ⟨_, _, _, e⟩ := x; exact Heap.lt_size e
  | frz ob u => obtain ⟨e, _⟩ := x; exact Heap.lt_size e
  | tbl ps => exact Heap.lt_size (show h.get? a = some _ from x)
  | met f y => exact Heap.lt_size (show h.get? a = some _ from x)
  | ext φ => obtain ⟨_, ⟨_, e⟩, _⟩ := x; exact Heap.lt_size e
theorem Paired.mapP {α β : Type} {F G : α → β → Prop} : ∀ {l₁ : List α} {l₂ : List β}, Paired F l₁ l₂ → (∀ a b, F a b → G a b) → Paired G l₁ l₂
  | _, _, .nil, _ => .nil
  | _, _, .cons r t, f => .cons (f _ _ r) (Paired.mapP t f)
/-- what an object's description leans on: its own object, its own dict, the tuples -/
theorem ObjOk.stay (x : ObjOk P w H h a o) (k : ∀ b u, (b = a ∨ H b = some (.own a)) → h.get? b = some u → h'.get? b = some u)
    (ho : ∀ b, H b = some (.own a) → H' b = some (.own a)) (ht : ∀ b xs, H b = some (.tup xs) → H' b = some (.tup xs)) : ObjOk P w H' h' a o := by
  induction o with
  | lst xs => obtain ⟨z, its, n, r, e⟩ := x; exact ⟨z, its, n, r, k _ _ (.inl rfl) e⟩
  | tup xs => obtain ⟨z, its, r, ob, e, c⟩ := x; exact ⟨z, its, r, ob, k _ _ (.inl rfl) e, c⟩
  | dK kvs => obtain ⟨z, y, vs, r, ob, es, ep, e, c⟩ := x; exact ⟨z, y, vs, r, ob, es, ep, k _ _ (.inl rfl) e, c⟩
  | dT kvs =>
    obtain ⟨z, y, xs, r, ob, es, ep, e, c⟩ := x
    exact ⟨z, y, xs, Paired.mapP r fun p q z => ⟨z.1, ht _ _ z.2.1, z.2.2⟩, ob, es, ep, k _ _ (.inl rfl) e, c⟩
  | set S n => obtain ⟨ob, es, ep, t, e, c⟩ := x; exact ⟨ob, es, ep, t, k _ _ (.inl rfl) e, c⟩
  | ins C dx fs =>
    obtain ⟨d, z, ne, e, mA, ⟨od, es, ep, e2, c⟩, r⟩ := x
    exact ⟨ho _ d, z, ne, k _ _ (.inl rfl) e, mA, ⟨od, es, ep, k _ _ (.inr d) e2, c⟩, r⟩
  | own y => obtain ⟨ob, e⟩ := x; exact ⟨ob, k _ _ (.inl rfl) e⟩
  | xd fs => obtain ⟨mA, ⟨od, es, ep, e, c⟩, r⟩ := x; exact ⟨mA, ⟨od, es, ep, k _ _ (.inl rfl) e, c⟩, r⟩
  | rng lo hi => obtain ⟨t, u, v, e⟩ := x; exact ⟨t, u, v, k _ _ (.inl rfl) e⟩
  | frz ob u ih => obtain ⟨e, q⟩ := x; exact ⟨k _ _ (.inl rfl) e, ih q⟩
  | tbl ps =>
    have e : h.get? a = some { cls := .none, data := .fields ps } := x
    show h'.get? a = some { cls := .none, data := .fields ps }
    exact k a _ (.inl rfl) e
  | met f y =>
    have e : h.get? a = some (PySem.W.methodObj (.ref f) (.ref y)) := x
    show h'.get? a = some (PySem.W.methodObj (.ref f) (.ref y))
    exact k a _ (.inl rfl) e
  | ext φ => obtain ⟨p, ⟨o, e⟩, st⟩ := x; exact ⟨st _ _ p fun o q => k _ _ (.inl rfl) q, ⟨o, k _ _ (.inl rfl) e⟩, st⟩
theorem HOk.lt (x : HOk P w H h) (e : H a = some o) : a < h.objs.size := (x a o e).lt
theorem HOk.fresh (x : HOk P w H h) (e : h.objs.size ≤ a) : H a = none := by
  cases q : H a with
  | none => rfl
  | some u => exact absurd (Nat.lt_of_lt_of_le (x.lt q) e) (Nat.lt_irrefl _)
/-- every object of the heap is kept -/
theorem HOk.kept (x : HOk P w H h) (k : ∀ b u, h.get? b = some u → h'.get? b = some u) : HOk P w H h' := fun a o e =>
  (x a o e).stay (fun b u _ q => k b u q) (fun _ q => q) fun _ _ q => q
/-- a new object is laid and tracked -/
theorem HOk.laid (x : HOk P w H h) (k : ∀ b u, h.get? b = some u → h'.get? b = some u) (hp : h.objs.size ≤ a) (new : ObjOk P w (upd H a o) h' a o) : HOk P w (upd H a o) h' := fun b u e => by
  have hn := x.fresh hp
  by_cases hb : b = a
  · subst hb; rw [upd_same] at e; cases e; exact new
  · rw [upd_ne hb] at e
    exact (x b u e).stay (fun c v _ q => k c v q) (fun c q => by rw [upd_ne (ne_of_none q hn)]; exact q) fun c xs q => by rw [upd_ne (ne_of_none q hn)]; exact q
end

/-- what may be read as u: it is u, or a known u -/
def Rd (H : Hp) (a : Addr) (u : HO) : Prop := H a = some u ∨ ∃ o, H a = some (.frz o u)
theorem Rd.of {H : Hp} {a : Addr} {u : HO} (h : H a = some u) : Rd H a u := .inl h
theorem Rd.ok {P : Program} {w : World} {H : Hp} {h : Heap} {a : Addr} {u : HO} (r : Rd H a u) (x : HOk P w H h) : ObjOk P w H h a u := by
  rcases r with r | ⟨o, r⟩
  · exact x a u r
  · obtain ⟨_, q⟩ := x a _ r
    exact q
/-- what may be written -/
def Mut : Option HO → Prop
  | some (.lst _) => True
  | some (.dK _) => True
  | some (.dT _) => True
  | some (.set _ _) => True
  | some (.ins _ _ _) => True
  | some (.ext _) => True
  | _ => False
section
variable {P : Program} {w : World} {H : Hp} {h h' : Heap} {x e : Addr} {o' : HO}
/-- the object at e is changed: x itself, or the dict of the instance x -/
theorem HOk.write (ok : HOk P w H h) (mu : Mut (H x)) (he : e = x ∨ H e = some (.own x)) (k : ∀ b u, b ≠ e → h.get? b = some u → h'.get? b = some u) (heo : ∃ u, h'.get? e = some u)
    (new : ObjOk P w (upd H x o') h' x o') : HOk P w (upd H x o') h' := fun b u q => by
  have nown : ∀ c y, H c = some (.own y) → c ≠ x := fun c y r z => by subst z; rw [r] at mu; exact mu
  have ntup : ∀ c xs, H c = some (.tup xs) → c ≠ x := fun c xs r z => by subst z; rw [r] at mu; exact mu
  by_cases hb : b = x
  · subst hb; rw [upd_same] at q; cases q; exact new
  · rw [upd_ne hb] at q
    by_cases hbe : b = e
    · have q' : H b = some (.own x) := by
        rcases he with z | z
        · exact absurd (hbe.trans z) hb
        · rw [hbe]; exact z
      rw [q] at q'; cases q'
      obtain ⟨v, hv⟩ := heo
      exact ⟨v, by rw [hbe]; exact hv⟩
    · refine (ok b u q).stay (fun c v hc r => k c v ?_ r) (fun c r => by rw [upd_ne (nown c b r)]; exact r) fun c xs r => by rw [upd_ne (ntup c xs r)]; exact r
      rcases hc with rfl | hc
      · exact hbe
      · rintro rfl
        rcases he with z | z
        · exact nown c b hc z
        · rw [hc] at z; cases z; exact hb rfl
end

/-! ### kept unless tracked; of the frames at fs (the callers') the slots may change (an exception that passes writes there); of the records at ex (iterators) nothing is said -/
structure Un (fs ex : List Addr) (H H' : Hp) (h h' : Heap) : Prop where
  keep : ∀ b o, h.get? b = some o → H b = none → b ∉ fs → b ∉ ex → h'.get? b = some o
  slot : ∀ b o, h.get? b = some o → H b = none → b ∈ fs → b ∉ ex → ∃ sl, h'.get? b = some { o with slots := sl }
  free : ∀ b o, h.get? b = some o → H b = none → b ∉ ex → H' b = none
  there : ∀ b o, h.get? b = some o → b ∉ ex → ∃ o', h'.get? b = some o'
  tups : ∀ b xs, H b = some (.tup xs) → H' b = some (.tup xs)
  frzs : ∀ b o u, H b = some (.frz o u) → H' b = some (.frz o u)
  tbls : ∀ b ps, H b = some (.tbl ps) → ∃ more, H' b = some (.tbl (ps ++ more))
section
variable {fs fs' ex ex' : List Addr} {H H1 H2 : Hp} {h h1 h2 h' : Heap} {a x e : Addr} {o : HO}
theorem Un.any (u : Un fs ex H H1 h h1) {b : Addr} {ob : Obj} (q : h.get? b = some ob) (n : H b = none) (hx : b ∉ ex) : ∃ sl, h1.get? b = some { ob with slots := sl } := by
  by_cases hb : b ∈ fs
  · exact u.slot b ob q n hb hx
  · exact ⟨ob.slots, u.keep b ob q n hb hx⟩
theorem Un.trans (a : Un fs ex H H1 h h1) (b : Un fs ex H1 H2 h1 h2) : Un fs ex H H2 h h2 where
  keep := fun c ob q n hc hx => b.keep c ob (a.keep c ob q n hc hx) (a.free c ob q n hx) hc hx
  slot := fun c ob q n hc hx => by
    obtain ⟨sl, e1⟩ := a.slot c ob q n hc hx
    obtain ⟨sl', e2⟩ := b.slot c _ e1 (a.free c ob q n hx) hc hx
    exact ⟨sl', e2⟩
  free := fun c ob q n hx => by
    obtain ⟨o', e1⟩ := a.there c ob q hx
    exact b.free c o' e1 (a.free c ob q n hx) hx
  there := fun c ob q hx => by
    obtain ⟨o', e1⟩ := a.there c ob q hx
    exact b.there c o' e1 hx
  tups := fun c xs q => b.tups c xs (a.tups c xs q)
  frzs := fun c ob xs q => b.frzs c ob xs (a.frzs c ob xs q)
  tbls := fun c ps q => by
    obtain ⟨m1, e1⟩ := a.tbls c ps q
    obtain ⟨m2, e2⟩ := b.tbls c _ e1
    exact ⟨m1 ++ m2, by rw [e2, Array.append_assoc]⟩
theorem Un.kept (k : ∀ b u, h.get? b = some u → h'.get? b = some u) : Un fs ex H H h h' :=
  ⟨fun b ob q _ _ _ => k b ob q, fun b ob q _ _ _ => ⟨ob.slots, k b ob q⟩, fun _ _ _ n _ => n, fun b ob q _ => ⟨ob, k b ob q⟩, fun _ _ q => q, fun _ _ _ q => q, fun _ ps q => ⟨#[], by rw [q]; simp⟩⟩
theorem Un.refl : Un fs ex H H h h := Un.kept fun _ _ q => q
theorem Un.laid (k : ∀ b u, h.get? b = some u → h'.get? b = some u) (hp : h.objs.size ≤ a) (hn : H a = none) : Un fs ex H (upd H a o) h h' where
  keep := fun b u q _ _ _ => k b u q
  slot := fun b u q _ _ _ => ⟨u.slots, k b u q⟩
  free := fun b u q n _ => by rw [upd_ne (Nat.ne_of_lt (Nat.lt_of_lt_of_le (Heap.lt_size q) hp))]; exact n
  there := fun b u q _ => ⟨u, k b u q⟩
  tups := fun b xs q => by rw [upd_ne (ne_of_none q hn)]; exact q
  frzs := fun b u xs q => by rw [upd_ne (ne_of_none q hn)]; exact q
  tbls := fun b ps q => ⟨#[], by rw [upd_ne (ne_of_none q hn), q]; simp⟩
theorem Un.write (mu : Mut (H x)) (he : e = x ∨ H e = some (.own x)) (k : ∀ b u, b ≠ e → h.get? b = some u → h'.get? b = some u) (heo : ∃ u, h'.get? e = some u) : Un fs ex H (upd H x o) h h' := by
  have hx : ∀ b, H b = none → b ≠ x := fun b n z => by subst z; rw [n] at mu; exact mu
  have hb : ∀ b, H b = none → b ≠ e := fun b n z => by
    subst z
    rcases he with r | r
    · exact hx b n r
    · rw [n] at r; cases r
  have hm : ∀ b u, H b = some u → ¬ Mut (some u) → b ≠ x := fun b u q nm z => by subst z; rw [q] at mu; exact nm mu
  refine ⟨fun b u q n _ _ => k b u (hb b n) q, fun b u q n _ _ => ⟨u.slots, k b u (hb b n) q⟩, fun b u q n _ => by rw [upd_ne (hx b n)]; exact n, fun b u q _ => ?_,
    fun b xs q => by rw [upd_ne (hm b _ q fun z => z)]; exact q, fun b u xs q => by rw [upd_ne (hm b _ q fun z => z)]; exact q, fun b ps q => ⟨#[], by rw [upd_ne (hm b _ q fun z => z), q]; simp⟩⟩
  by_cases hbe : b = e
  · subst hbe; exact heo
  · exact ⟨u, k b u hbe q⟩
theorem Un.mono (u : Un fs ex H H1 h h1) (hs : ∀ b ∈ fs, b ∈ fs') (hx : ∀ b ∈ ex, b ∈ ex') : Un fs' ex' H H1 h h1 :=
  ⟨fun b ob q n hb he => u.keep b ob q n (fun z => hb (hs b z)) fun z => he (hx b z), fun _ _ q n _ he => u.any q n fun z => he (hx _ z), fun b ob q n he => u.free b ob q n fun z => he (hx b z), fun b ob q he => u.there b ob q fun z => he (hx b z), u.tups, u.frzs, u.tbls⟩
end

/-! ### the heap without what is tracked -/
def trk (h : Heap) (H : Hp) : List Addr := (List.range h.objs.size).filter fun a => (H a).isSome
def hidT (h : Heap) (H : Hp) : Heap := PySem.W.hideAll h (trk h H)
theorem hidT_size (h : Heap) (H : Hp) : (hidT h H).objs.size = h.objs.size := PySem.W.hideAll_size _ _
theorem hidT_get {h : Heap} {H : Hp} {b : Addr} {o : Obj} (e : h.get? b = some o) (n : H b = none) : (hidT h H).get? b = some o :=
  PySem.W.hideAll_get _ e fun hm => by
    have q : (H b).isSome = true := (List.mem_filter.mp hm).2
    rw [n] at q; simp at q
theorem of_hidT {h : Heap} {H : Hp} {b : Addr} {o : Obj} (e : (hidT h H).get? b = some o) : h.get? b = some o ∧ H b = none := by
  have e' : h.get? b = some o := PySem.W.of_hideAll (trk h H) e
  refine ⟨e', ?_⟩
  cases q : H b with
  | none => rfl
  | some x =>
    have hm : b ∈ trk h H := List.mem_filter.mpr ⟨List.mem_range.mpr (Heap.lt_size e'), by simp [q]⟩
    have z : (hidT h H).get? b = none := PySem.W.hideAll_none (trk h H) hm
    rw [z] at e; cases e

/-! ### OpenK's ledger, filled with every new object but one -/
def allNews (g h : Heap) (L : Addr) : List (Addr × Obj) := (List.range h.objs.size).filterMap fun a => if a = L ∨ (g.get? a).isSome = true then none else (h.get? a).map fun o => (a, o)
def rest (g h : Heap) (L d : Addr) : List (Addr × Obj) := (allNews g h L).filter fun p => decide (p.1 ≠ d)
end L2

namespace L2
open PySem PySem.Spec PyProof.Rows

/-- the module's facts, over the base: the heap at the law's entry without what is tracked there -/
structure Mod (K : PySem.W.Frag) (mg : Str → Option Value) (base : Heap) : Prop where
  kin : K.In base
  glob : base.Ns mainGlobals mg
  blt : ∃ mb, base.Ns builtinsNs mb ∧ ∀ x : Str, x ≠ "__name__" → mb x = bootBuiltins x
  nolimit : base.NoLimit

/-- the context: a def's body (or a comprehension's block) running. base: fixed through the whole law; s₀, H₀: the entry; outer: the frames whose slots others may change (a def's callers); stack: all frames that run;
   ex: iterators that were made ahead of the entry and are walked here (a comprehension's); fn: the names whose cells were made at the entry (a def: all; a comprehension's block: its own); calm: not within an except suite; pn: pins that every state bears; xe: what is wanted of an exception that leaves the code -/
structure Cx where
  prog : Program
  w : World
  K : PySem.W.Frag
  mg : Str → Option Value
  base : Heap
  A : Around
  N : List Str
  s₀ : Shared
  H₀ : Hp
  env : Env
  outer : List Env
  stack : List Env
  ex : List Addr
  fn : Str → Bool
  calm : Bool
  pn : List (Addr × Obj)
  xe : Value → Shared → Prop
/-- the callers' frames -/
def frs (l : List Env) : List Addr := l.filterMap (·.frame)
abbrev Cx.fs (X : Cx) : List Addr := frs X.outer

def Vis (sc : Scope) (x : Str) : Prop := sc.names.lookup x = some .local ∨ sc.names.lookup x = some .cell ∨ sc.names.lookup x = some .free
def Loc (sc : Scope) (x : Str) : Prop := sc.names.lookup x = some .local ∨ sc.names.lookup x = some .cell
def Look (env : Env) (h : Heap) (m : Str → Option Value) (x : Str) (u : Value) : Prop :=
  (env.kindOf x = some .local ∧ m x = some u) ∨ ((env.kindOf x = some .cell ∨ env.kindOf x = some .free) ∧ ∃ c, env.cells.lookup x = some c ∧ h.IsCell c (some u))

structure Cx.Ok (X : Cx) : Prop where
  mod : Mod X.K X.mg X.base
  kind : X.env.scope.kind = .function
  glob : X.env.globals = mainGlobals
  blt : X.env.builtins = builtinsNs
  above : X.s₀.heap.objs.size ≤ X.env.locals
  inj : ∀ x y c, X.env.cells.lookup x = some c → X.env.cells.lookup y = some c → x = y
  has : ∀ x, (X.env.kindOf x = some .cell ∨ X.env.kindOf x = some .free) → ∃ c, X.env.cells.lookup x = some c
  cab : ∀ x c, X.fn x = true → X.env.cells.lookup x = some c → X.s₀.heap.objs.size ≤ c
  hd : X.calm = true → X.A.handled = none
  frames : X.A.frames = some X.stack
  stk : X.stack = X.outer ∨ (X.stack = X.env :: X.outer ∧ X.env.frame = some X.env.locals)
  exf : ∀ b ∈ X.ex, b ≠ X.env.locals ∧ ∀ x c, X.env.cells.lookup x = some c → c ≠ b
  bs : ∀ b o, X.base.get? b = some o → X.s₀.heap.get? b = some o ∧ X.H₀ b = none
  bsz : X.base.objs.size ≤ X.s₀.heap.objs.size
  noex : ∀ b o, X.base.get? b = some o → b ∉ X.ex
  exfs : ∀ b ∈ X.ex, b ∉ X.fs
  funs : X.s₀.heap.FunFrames X.base X.outer
  frf : ∀ b ∈ X.fs, X.H₀ b = none

structure Inv (X : Cx) (pins : List (Addr × Obj)) (σ : List (Option V)) (H : Hp) (s : Shared) : Prop where
  ok : X.Ok
  os : s.os = X.s₀.os
  bare : AllBare s.gens
  base : Un X.fs X.ex X.H₀ H X.s₀.heap s.heap
  loc : ∃ m, s.heap.Ns X.env.locals m ∧ ∀ (i : Nat) (x : Str) (v : V), X.N[i]? = some x → σ[i]? = some (some v) → Vis X.env.scope x → ∃ u, RelV v u ∧ Look X.env s.heap m x u
  cell : ∀ x c, X.env.cells.lookup x = some c → ∃ v, s.heap.IsCell c v
  free : H X.env.locals = none
  freeC : ∀ x c, X.env.cells.lookup x = some c → H c = none
  pin : ∀ p ∈ X.pn ++ pins, s.heap.get? p.1 = some p.2 ∧ H p.1 = none ∧ p.1 ≠ X.env.locals ∧ p.1 ∉ X.fs ∧ ∀ v, p.2.data ≠ .cell v
  hok : HOk X.prog X.w H s.heap
  len : σ.length = X.N.length

section
variable {X : Cx} {pins : List (Addr × Obj)} {σ : List (Option V)} {H H' : Hp} {s : Shared} {h' : Heap}

theorem Cx.Ok.nofr (ok : X.Ok) {b : Addr} {o : Obj} (e : X.base.get? b = some o) : b ∉ X.fs := fun hb => by
  have := (ok.funs.mem hb).1
  rw [e] at this; cases this
theorem Inv.bs (I : Inv X pins σ H s) : ∀ b o, X.base.get? b = some o → s.heap.get? b = some o ∧ H b = none := fun b o e =>
  ⟨I.base.keep b o (I.ok.bs b o e).1 (I.ok.bs b o e).2 (I.ok.nofr e) (I.ok.noex b o e), I.base.free b o (I.ok.bs b o e).1 (I.ok.bs b o e).2 (I.ok.noex b o e)⟩
theorem Inv.bk (I : Inv X pins σ H s) : ∀ b o, X.base.get? b = some o → s.heap.get? b = some o := fun b o e => (I.bs b o e).1
theorem Inv.mod (I : Inv X pins σ H s) : Mod X.K X.mg X.base := I.ok.mod
theorem Inv.kIn (I : Inv X pins σ H s) : X.K.In s.heap := I.ok.mod.kin.keeps I.bk
theorem Inv.nolimit (I : Inv X pins σ H s) : s.heap.NoLimit := I.ok.mod.nolimit.keeps I.bk
theorem Inv.lt (I : Inv X pins σ H s) : X.env.locals < s.heap.objs.size := let ⟨_, hn, _⟩ := I.loc; hn.lt
theorem Inv.sz (I : Inv X pins σ H s) : X.s₀.heap.objs.size ≤ s.heap.objs.size := Nat.le_trans I.ok.above (Nat.le_of_lt I.lt)
theorem Inv.nofs (I : Inv X pins σ H s) {a : Addr} (h : s.heap.objs.size ≤ a) : a ∉ X.fs := fun hb => by
  obtain ⟨_, o, ho, _⟩ := I.ok.funs.mem hb
  exact absurd (Nat.lt_of_lt_of_le (Heap.lt_size ho) (Nat.le_trans I.sz h)) (Nat.lt_irrefl _)
theorem Inv.cne (I : Inv X pins σ H s) : ∀ x c, X.env.cells.lookup x = some c → c ≠ X.env.locals := fun x c e z => by
  obtain ⟨v, o, ho, hd⟩ := I.cell x c e
  obtain ⟨m, ⟨o', es, ep, ho', hd', _⟩, _⟩ := I.loc
  rw [z, ho'] at ho; cases ho; rw [hd'] at hd; cases hd
theorem Inv.funs (I : Inv X pins σ H s) : s.heap.FunFrames X.base X.outer := by
  have all : ∀ (l : List Env), (∀ b ∈ frs l, b ∈ X.fs) → X.s₀.heap.FunFrames X.base l → s.heap.FunFrames X.base l := by
    intro l
    induction l with
    | nil => intro _ _; trivial
    | cons env r ih =>
      intro hs hl
      obtain ⟨hk, ⟨L, o, hf, hn, ho, hd⟩, hr⟩ := hl
      have hL : L ∈ X.fs := hs L (by unfold frs; rw [List.filterMap_cons, hf]; exact List.mem_cons_self)
      obtain ⟨sl, e⟩ := I.base.slot L o ho (I.ok.frf L hL) hL fun z => I.ok.exfs L z hL
      exact ⟨hk, ⟨L, _, hf, hn, e, hd⟩, ih (fun b hb => hs b (by unfold frs; rw [List.filterMap_cons, hf]; exact List.mem_cons_of_mem _ hb)) hr⟩
  exact all X.outer (fun _ hb => hb) I.ok.funs

/-- the frames that run, for a call -/
theorem Inv.stack (I : Inv X pins σ H s) : s.heap.FunFrames X.base X.stack := by
  rcases I.ok.stk with e | ⟨e, hf⟩
  · rw [e]; exact I.funs
  · rw [e]
    obtain ⟨m, hn, _⟩ := I.loc
    refine .cons (by rw [I.ok.kind]; decide) hf hn ?_ I.funs
    exact Heap.get?_none_of_le (Nat.le_trans I.ok.bsz I.ok.above)
theorem Inv.stkSub (I : Inv X pins σ H s) : ∀ b ∈ frs X.stack, b ∈ X.env.locals :: X.fs := fun b hb => by
  rcases I.ok.stk with e | ⟨e, hf⟩
  · rw [e] at hb; exact List.mem_cons_of_mem _ hb
  · rw [e] at hb
    unfold frs at hb
    rw [List.filterMap_cons, hf] at hb
    exact hb
theorem Inv.stkFree (I : Inv X pins σ H s) : ∀ b ∈ frs X.stack, H b = none := fun b hb => by
  rcases List.mem_cons.mp (I.stkSub b hb) with e | hb
  · rw [e]; exact I.free
  · obtain ⟨_, o, ho, _⟩ := I.ok.funs.mem hb
    exact I.base.free b o ho (I.ok.frf b hb) fun z => I.ok.exfs b z hb

/-- THE STEP: the untracked objects but the frame and the records at ch are kept (the callers' frames up to slots), the frame's map is kept, the new abstract heap is held -/
theorem Inv.step {g' : Array GenState} {t' : Nat} {d' : Drawn} {ch : List Addr} (I : Inv X pins σ H s)
    (hch : ∀ b ∈ ch, (b ∈ X.ex ∨ X.s₀.heap.objs.size ≤ b) ∧ b ≠ X.env.locals ∧ (∀ x c, X.env.cells.lookup x = some c → c ≠ b) ∧ ∀ p ∈ X.pn ++ pins, p.1 ≠ b)
    (keep : ∀ b o, b ≠ X.env.locals → b ∉ X.fs → b ∉ ch → s.heap.get? b = some o → H b = none → h'.get? b = some o)
    (slot : ∀ b o, b ≠ X.env.locals → b ∈ X.fs → b ∉ ch → s.heap.get? b = some o → H b = none → ∃ sl, h'.get? b = some { o with slots := sl }) (free : ∀ b o, b ∉ ch → s.heap.get? b = some o → H b = none → H' b = none)
    (there : ∀ b o, b ∉ ch → s.heap.get? b = some o → ∃ o', h'.get? b = some o')
    (tups : ∀ b xs, H b = some (.tup xs) → H' b = some (.tup xs)) (frzs : ∀ b o u, H b = some (.frz o u) → H' b = some (.frz o u)) (tbls : ∀ b ps, H b = some (.tbl ps) → ∃ more, H' b = some (.tbl (ps ++ more)))
    (ns : ∀ m, s.heap.Ns X.env.locals m → h'.Ns X.env.locals m) (hok : HOk X.prog X.w H' h') (hg : AllBare g') :
    Inv X pins σ H' { s with heap := h', gens := g', drawn := d', toks := t' } := by
  have neL : ∀ b o, X.s₀.heap.get? b = some o → b ≠ X.env.locals := fun b o e => Nat.ne_of_lt (Nat.lt_of_lt_of_le (Heap.lt_size e) I.ok.above)
  have neC : ∀ b o, X.s₀.heap.get? b = some o → b ∉ X.ex → b ∉ ch := fun b o e hx hb => by
    rcases (hch b hb).1 with z | z
    · exact hx z
    · exact absurd (Nat.lt_of_lt_of_le (Heap.lt_size e) z) (Nat.lt_irrefl _)
  have cellK : ∀ x c, X.env.cells.lookup x = some c → ∀ v, s.heap.IsCell c v → h'.IsCell c v := fun x c e v ⟨o, ho, hd⟩ => by
    have nch : c ∉ ch := fun z => (hch c z).2.2.1 x c e rfl
    by_cases hc : c ∈ X.fs
    · obtain ⟨sl, q⟩ := slot c o (I.cne x c e) hc nch ho (I.freeC x c e)
      exact ⟨_, q, hd⟩
    · exact ⟨o, keep c o (I.cne x c e) hc nch ho (I.freeC x c e), hd⟩
  refine ⟨I.ok, I.os, hg, ⟨fun b o e n hb hx => ?_, fun b o e n hb hx => ?_, fun b o e n hx => ?_, fun b o e hx => ?_, fun b xs e => tups b xs (I.base.tups b xs e), fun b o xs e => frzs b o xs (I.base.frzs b o xs e), fun b ps e => ?_⟩, ?_, fun x c e => ?_, ?_, fun x c e => ?_, fun p hp => ?_, hok, I.len⟩
  · exact keep b o (neL b o e) hb (neC b o e hx) (I.base.keep b o e n hb hx) (I.base.free b o e n hx)
  · obtain ⟨sl, e1⟩ := I.base.slot b o e n hb hx
    obtain ⟨sl', e2⟩ := slot b _ (neL b o e) hb (neC b o e hx) e1 (I.base.free b o e n hx)
    exact ⟨sl', e2⟩
  · obtain ⟨o', e1⟩ := I.base.there b o e hx
    exact free b o' (neC b o e hx) e1 (I.base.free b o e n hx)
  · obtain ⟨o', e1⟩ := I.base.there b o e hx
    exact there b o' (neC b o e hx) e1
  · obtain ⟨m1, e1⟩ := I.base.tbls b ps e
    obtain ⟨m2, e2⟩ := tbls b _ e1
    exact ⟨m1 ++ m2, by rw [e2, Array.append_assoc]⟩
  · obtain ⟨m, hn, hl⟩ := I.loc
    refine ⟨m, ns m hn, fun i x v e1 e2 e3 => ?_⟩
    obtain ⟨u, r, l⟩ := hl i x v e1 e2 e3
    refine ⟨u, r, ?_⟩
    rcases l with l | ⟨k, c, e, z⟩
    · exact .inl l
    · exact .inr ⟨k, c, e, cellK x c e _ z⟩
  · obtain ⟨v, z⟩ := I.cell x c e
    exact ⟨v, cellK x c e v z⟩
  · obtain ⟨m, ⟨o, _, _, ho, _⟩, _⟩ := I.loc
    exact free _ o (fun z => (hch _ z).2.1 rfl) ho I.free
  · obtain ⟨v, o, ho, hd⟩ := I.cell x c e
    exact free c o (fun z => (hch c z).2.2.1 x c e rfl) ho (I.freeC x c e)
  · obtain ⟨e, n, ne, nf, d⟩ := I.pin p hp
    have nch : p.1 ∉ ch := fun z => (hch p.1 z).2.2.2 p hp rfl
    exact ⟨keep p.1 p.2 ne nf nch e n, free p.1 p.2 nch e n, ne, nf, d⟩
/-- .. where the frame's own object is kept too -/
theorem Inv.un {t' : Nat} (I : Inv X pins σ H s) (u : Un X.fs [] H H' s.heap h') (hok : HOk X.prog X.w H' h') : Inv X pins σ H' { s with heap := h', toks := t' } := by
  obtain ⟨m, ⟨o, es, ep, ho, r⟩, _⟩ := id I.loc
  obtain ⟨sl, hL⟩ := u.any ho I.free (by simp)
  exact I.step (g' := s.gens) (d' := s.drawn) (ch := []) (fun _ z => nomatch z) (fun b o _ hb _ e n => u.keep b o e n hb (by simp)) (fun b o _ hb _ e n => u.slot b o e n hb (by simp)) (fun b o _ e n => u.free b o e n (by simp)) (fun b o _ e => u.there b o e (by simp)) u.tups u.frzs u.tbls (fun m' hm => by
    obtain ⟨o', es', ep', ho', r'⟩ := hm
    rw [ho] at ho'; cases ho'
    exact ⟨_, es', ep', hL, r'⟩) hok I.bare
/-- behind a call (or a comprehension's block): the slots of this frame may have changed too, the records at ch may have turned -/
theorem Inv.call {g' : Array GenState} {t' : Nat} {d' : Drawn} {ch : List Addr} (I : Inv X pins σ H s) (u : Un (frs X.stack) ch H H' s.heap h') (hok : HOk X.prog X.w H' h') (hg : AllBare g')
    (hch : ∀ b ∈ ch, (b ∈ X.ex ∨ X.s₀.heap.objs.size ≤ b) ∧ b ≠ X.env.locals ∧ (∀ x c, X.env.cells.lookup x = some c → c ≠ b) ∧ ∀ p ∈ X.pn ++ pins, p.1 ≠ b) :
    Inv X pins σ H' { s with heap := h', gens := g', drawn := d', toks := t' } := by
  obtain ⟨m, ⟨o, es, ep, ho, r⟩, _⟩ := id I.loc
  obtain ⟨sl, hL⟩ := u.any ho I.free fun z => (hch _ z).2.1 rfl
  exact I.step (ch := ch) hch (fun b o hL hb hc e n => u.keep b o e n (fun z => (List.mem_cons.mp (I.stkSub b z)).elim hL hb) hc) (fun b o _ _ hc e n => u.any e n hc) (fun b o hc e n => u.free b o e n hc) (fun b o hc e => u.there b o e hc) u.tups u.frzs u.tbls (fun m' hm => by
    obtain ⟨o', es', ep', ho', r'⟩ := hm
    rw [ho] at ho'; cases ho'
    exact ⟨_, es', ep', hL, r'⟩) hok hg
/-- an untracked record of ours (an iterator) has turned -/
theorem Inv.turned {t' : Nat} {it : Addr} (I : Inv X pins σ H s) (k : ∀ b o, b ≠ it → s.heap.get? b = some o → h'.get? b = some o) (hn : H it = none) (hL : it ≠ X.env.locals)
    (h1 : it ∈ X.ex ∨ X.s₀.heap.objs.size ≤ it) (h2 : ∀ x c, X.env.cells.lookup x = some c → c ≠ it) (h3 : ∀ p ∈ X.pn ++ pins, p.1 ≠ it) : Inv X pins σ H { s with heap := h', toks := t' } := by
  have nit : ∀ b u, H b = some u → b ≠ it := fun b u e z => by rw [z, hn] at e; cases e
  refine I.step (g' := s.gens) (d' := s.drawn) (ch := [it]) (fun b hb => ?_) (fun b o _ _ hc e _ => k b o (fun z => hc (by simp [z])) e) (fun b o _ _ hc e _ => ⟨o.slots, k b o (fun z => hc (by simp [z])) e⟩) (fun _ _ _ _ n => n)
    (fun b o hc e => ⟨o, k b o (fun z => hc (by simp [z])) e⟩) (fun _ _ e => e) (fun _ _ _ e => e) (fun b ps e => ⟨#[], by rw [e]; simp⟩) (fun m hm => ?_) (fun b u e => ?_) I.bare
  · have e : b = it := by simpa using hb
    subst e
    exact ⟨h1, hL, h2, h3⟩
  · obtain ⟨o, es, ep, ho, r⟩ := hm
    exact ⟨o, es, ep, k _ o (Ne.symm hL) ho, r⟩
  · refine (I.hok b u e).stay (fun c v hc q => k c v ?_ q) (fun _ q => q) fun _ _ q => q
    rcases hc with z | z
    · rw [z]; exact nit b u e
    · exact nit c _ z
theorem Inv.tok (I : Inv X pins σ H s) (t : Nat) : Inv X pins σ H { s with toks := t } := I.un (h' := s.heap) (t' := t) Un.refl I.hok
/-- all objects kept -/
theorem Inv.kept {t' : Nat} (I : Inv X pins σ H s) (k : ∀ b u, s.heap.get? b = some u → h'.get? b = some u) : Inv X pins σ H { s with heap := h', toks := t' } := I.un (Un.kept k) (I.hok.kept k)
/-- a new object laid and tracked -/
theorem Inv.laid {a : Addr} {o : HO} {t' : Nat} (I : Inv X pins σ H s) (k : ∀ b u, s.heap.get? b = some u → h'.get? b = some u) (hp : s.heap.objs.size ≤ a) (new : ObjOk X.prog X.w (upd H a o) h' a o) :
    Inv X pins σ (upd H a o) { s with heap := h', toks := t' } := I.un (Un.laid k hp (I.hok.fresh hp)) (I.hok.laid k hp new)
/-- an object written -/
theorem Inv.write {x e : Addr} {o : HO} {t' : Nat} (I : Inv X pins σ H s) (mu : Mut (H x)) (he : e = x ∨ H e = some (.own x)) (k : ∀ b u, b ≠ e → s.heap.get? b = some u → h'.get? b = some u) (heo : ∃ u, h'.get? e = some u)
    (new : ObjOk X.prog X.w (upd H x o) h' x o) : Inv X pins σ (upd H x o) { s with heap := h', toks := t' } := I.un (Un.write mu he k heo) (I.hok.write mu he k heo new)
theorem Inv.pins_of {pins' : List (Addr × Obj)} (I : Inv X pins σ H s) (h : ∀ p ∈ pins', s.heap.get? p.1 = some p.2 ∧ H p.1 = none ∧ p.1 ≠ X.env.locals ∧ p.1 ∉ X.fs ∧ ∀ v, p.2.data ≠ .cell v) : Inv X pins' σ H s :=
  ⟨I.ok, I.os, I.bare, I.base, I.loc, I.cell, I.free, I.freeC, fun p hp => (List.mem_append.mp hp).elim (fun z => I.pin p (List.mem_append_left _ z)) (h p), I.hok, I.len⟩

theorem nodup_ix {N : List Str} (hN : N.Nodup) {i j : Nat} {x : Str} (a : N[i]? = some x) (b : N[j]? = some x) : i = j := by
  obtain ⟨h1, e1⟩ := List.getElem?_eq_some_iff.mp a
  obtain ⟨h2, e2⟩ := List.getElem?_eq_some_iff.mp b
  exact (List.getElem_inj hN).mp (e1.trans e2.symm)

/-- a name is stored; what changed -/
theorem store_ok2 {M : Model} {A : Around} {E : Value → Shared → Prop} {i : Nat} {x : Str} {v : V} {u : Value} {Q : Unit → Shared → Prop} (I : Inv X pins σ H s) (hN : X.N.Nodup) (hi : X.N[i]? = some x) (hx : Loc X.env.scope x) (r : RelV v u)
    (h : ∀ s', Inv X pins (σ.set i (some v)) H s' → (∃ a, Heap.SameBut a s.heap s'.heap ∧ (a = X.env.locals ∨ X.env.cells.lookup x = some a)) → Q () s') (hf : X.fn x = true ∨ X.env.scope.names.lookup x = some .local := by first | exact .inl rfl | exact .inr rfl | assumption) : wpAny M A (storeName X.env x u) Q E s := by
  obtain ⟨m, hn, hl⟩ := id I.loc
  have hcls : (X.env.scope.kind == .class || (X.env.scope.kind == .module && X.env.locals != X.env.globals)) = false := by rw [I.ok.kind]; rfl
  have hiσ : i < σ.length := by rw [I.len]; exact (List.getElem?_eq_some_iff.mp hi).1
  have cne := I.cne
  have tracked : ∀ {a : Addr} {h' : Heap}, (∃ o, s.heap.get? a = some o ∧ H a = none) → Heap.SameBut a s.heap h' → HOk X.prog X.w H h' := fun {a h'} ha hs b ob e => by
    obtain ⟨_, _, hfree⟩ := ha
    refine (I.hok b ob e).stay (fun c w' hc q => (hs.2 c ?_).trans q) (fun _ q => q) fun _ _ q => q
    rintro rfl
    rcases hc with rfl | hc
    · rw [hfree] at e; cases e
    · rw [hfree] at hc; cases hc
  rcases hx with hk | hk
  · refine wpAny_storeName_local hk hn (fun h' hn' hs => ?_) hcls
    obtain ⟨oL, _, _, hoL, _⟩ := id hn
    refine h _ ⟨I.ok, I.os, I.bare, ⟨fun b o e n hb hx => ?_, fun b o e n hb hx => ?_, I.base.free, fun b o e hx => ?_, I.base.tups, I.base.frzs, I.base.tbls⟩, ⟨_, hn', fun j y v' e1 e2 e3 => ?_⟩, fun y c e => ?_, I.free, I.freeC, fun p hp => ?_, tracked ⟨oL, hoL, I.free⟩ hs, by simpa using I.len⟩ ⟨_, hs, .inl rfl⟩
    · exact (hs.2 b (Nat.ne_of_lt (Nat.lt_of_lt_of_le (Heap.lt_size e) I.ok.above))).trans (I.base.keep b o e n hb hx)
    · obtain ⟨sl, e1⟩ := I.base.slot b o e n hb hx
      exact ⟨sl, (hs.2 b (Nat.ne_of_lt (Nat.lt_of_lt_of_le (Heap.lt_size e) I.ok.above))).trans e1⟩
    · obtain ⟨o', e1⟩ := I.base.there b o e hx
      exact ⟨o', (hs.2 b (Nat.ne_of_lt (Nat.lt_of_lt_of_le (Heap.lt_size e) I.ok.above))).trans e1⟩
    · by_cases hj : j = i
      · subst hj
        rw [hi] at e1; cases e1
        rw [List.getElem?_set_self hiσ] at e2
        cases e2
        exact ⟨u, r, .inl ⟨hk, by simp⟩⟩
      · rw [List.getElem?_set_ne (Ne.symm hj)] at e2
        obtain ⟨u', r', q⟩ := hl j y v' e1 e2 e3
        refine ⟨u', r', ?_⟩
        rcases q with ⟨k, e⟩ | ⟨k, c, e, z⟩
        · refine .inl ⟨k, ?_⟩
          have : y ≠ x := fun e => hj (nodup_ix hN e1 (e ▸ hi))
          simp [this, e]
        · exact .inr ⟨k, c, e, z.sameBut hs (cne y c e)⟩
    · obtain ⟨w', z⟩ := I.cell y c e
      exact ⟨w', z.sameBut hs (cne y c e)⟩
    · obtain ⟨e, n, ne, nf, d⟩ := I.pin p hp
      exact ⟨(hs.2 p.1 ne).trans e, n, ne, nf, d⟩
  · have hfn : X.fn x = true := by
      rcases hf with z | z
      · exact z
      · rw [z] at hk; cases hk
    obtain ⟨c, hc⟩ := I.ok.has x (.inl hk)
    obtain ⟨w', z⟩ := I.cell x c hc
    refine wpAny_storeName_cell I.ok.kind hk hc z (fun h' hc' hs => ?_)
    obtain ⟨oc, hoc, hocd⟩ := id z
    refine h { s with heap := h' } ⟨I.ok, I.os, I.bare, ⟨fun b o e n hb hx => ?_, fun b o e n hb hx => ?_, I.base.free, fun b o e hx => ?_, I.base.tups, I.base.frzs, I.base.tbls⟩, ⟨m, hn.sameBut hs (Ne.symm (cne x c hc)), fun j y v' e1 e2 e3 => ?_⟩, fun y c' e => ?_, I.free, I.freeC, fun p hp => ?_, tracked ⟨oc, hoc, I.freeC x c hc⟩ hs, by simpa using I.len⟩ ⟨c, hs, .inr hc⟩
    · exact (hs.2 b (Nat.ne_of_lt (Nat.lt_of_lt_of_le (Heap.lt_size e) (I.ok.cab x c hfn hc)))).trans (I.base.keep b o e n hb hx)
    · obtain ⟨sl, e1⟩ := I.base.slot b o e n hb hx
      exact ⟨sl, (hs.2 b (Nat.ne_of_lt (Nat.lt_of_lt_of_le (Heap.lt_size e) (I.ok.cab x c hfn hc)))).trans e1⟩
    · obtain ⟨o', e1⟩ := I.base.there b o e hx
      exact ⟨o', (hs.2 b (Nat.ne_of_lt (Nat.lt_of_lt_of_le (Heap.lt_size e) (I.ok.cab x c hfn hc)))).trans e1⟩
    · by_cases hj : j = i
      · subst hj
        rw [hi] at e1; cases e1
        rw [List.getElem?_set_self hiσ] at e2
        cases e2
        exact ⟨u, r, .inr ⟨.inl hk, c, hc, hc'⟩⟩
      · rw [List.getElem?_set_ne (Ne.symm hj)] at e2
        obtain ⟨u', r', q⟩ := hl j y v' e1 e2 e3
        refine ⟨u', r', ?_⟩
        rcases q with q | ⟨k, c', e, z'⟩
        · exact .inl q
        · refine .inr ⟨k, c', e, z'.sameBut hs ?_⟩
          rintro rfl
          exact hj (nodup_ix hN e1 (I.ok.inj _ _ _ e hc ▸ hi))
    · by_cases hcc : c' = c
      · subst hcc; exact ⟨_, hc'⟩
      · obtain ⟨w2, z2⟩ := I.cell y c' e
        exact ⟨w2, z2.sameBut hs hcc⟩
    · obtain ⟨e, n, ne, nf, d⟩ := I.pin p hp
      refine ⟨(hs.2 p.1 ?_).trans e, n, ne, nf, d⟩
      intro q
      rw [q, hoc] at e
      have q' : oc = p.2 := Option.some.inj e
      exact d w' (by rw [← q']; exact hocd)
theorem store_ok {M : Model} {A : Around} {E : Value → Shared → Prop} {i : Nat} {x : Str} {v : V} {u : Value} {Q : Unit → Shared → Prop} (I : Inv X pins σ H s) (hN : X.N.Nodup) (hi : X.N[i]? = some x) (hx : Loc X.env.scope x) (r : RelV v u)
    (h : ∀ s', Inv X pins (σ.set i (some v)) H s' → Q () s') (hf : X.fn x = true ∨ X.env.scope.names.lookup x = some .local := by first | exact .inl rfl | exact .inr rfl | assumption) : wpAny M A (storeName X.env x u) Q E s :=
  store_ok2 I hN hi hx r (fun s' I' _ => h s' I') hf
/-- behind a call or a block, the state as it is -/
theorem Inv.call' {s' : Shared} {ch : List Addr} (I : Inv X pins σ H s) (ho : s'.os = s.os) (u : Un (frs X.stack) ch H H' s.heap s'.heap) (hok : HOk X.prog X.w H' s'.heap) (hg : AllBare s'.gens)
    (hch : ∀ b ∈ ch, (b ∈ X.ex ∨ X.s₀.heap.objs.size ≤ b) ∧ b ≠ X.env.locals ∧ (∀ x c, X.env.cells.lookup x = some c → c ≠ b) ∧ ∀ p ∈ X.pn ++ pins, p.1 ≠ b) : Inv X pins σ H' s' := by
  obtain ⟨h', g', d', t', o'⟩ := s'
  have e : o' = s.os := ho
  subst e
  exact I.call (g' := g') (t' := t') (d' := d') u hok hg hch
end

/-! ### the judgements -/
/-- an exception: its class, its own dict's address (where it has one), the abstract heap behind it -/
abbrev XK := Value → Option Addr → Hp → Prop
abbrev St := List (Option V)
abbrev VK := V → Hp → Prop
/-- an expression's reading; a test's; an argument list's -/
abbrev TE := St → Hp → VK → Prop
abbrev TT := St → Hp → (Bool → Hp → Prop) → Prop
abbrev TA := St → Hp → (List V → Hp → Prop) → Prop
/-- what is wanted behind a statement -/
structure Ends where
  nx : St → Hp → Prop
  rt : VK
  bk : St → Hp → Prop := fun _ _ => False
  ct : St → Hp → Prop := fun _ _ => False
abbrev TS := Ends → St → Hp → Prop

def EP (X : Cx) (pins : List (Addr × Obj)) (σ : St) (Q : VK) (u : Value) (s' : Shared) : Prop := ∃ v H', Inv X pins σ H' s' ∧ RelV v u ∧ Q v H'
def TP (X : Cx) (pins : List (Addr × Obj)) (σ : St) (Q : Bool → Hp → Prop) (b : Bool) (s' : Shared) : Prop := ∃ H', Inv X pins σ H' s' ∧ Q b H'
def AP (X : Cx) (pins : List (Addr × Obj)) (σ : St) (Q : List V → Hp → Prop) (us : List Value) (s' : Shared) : Prop := ∃ vs H', Inv X pins σ H' s' ∧ Vals vs us ∧ Q vs H'
def SP (X : Cx) (pins : List (Addr × Obj)) (D : Ends) (f : Flow) (s' : Shared) : Prop :=
  match f with
  | .next => ∃ σ' H', Inv X pins σ' H' s' ∧ D.nx σ' H'
  | .brk => ∃ σ' H', Inv X pins σ' H' s' ∧ D.bk σ' H'
  | .cont => ∃ σ' H', Inv X pins σ' H' s' ∧ D.ct σ' H'
  | .ret u => ∃ v σ' H', Inv X pins σ' H' s' ∧ RelV v u ∧ D.rt v H'

def PE (X : Cx) (e : Expr) (t : TE) : Prop :=
  ∀ (pins : List (Addr × Obj)) (s : Shared) (σ : St) (H : Hp) (Q : VK), Inv X pins σ H s → t σ H Q → wpAny (model X.prog X.w) X.A (eval e X.env) (EP X pins σ Q) X.xe s
def PT (X : Cx) (e : Expr) (t : TT) : Prop :=
  ∀ (pins : List (Addr × Obj)) (s : Shared) (σ : St) (H : Hp) (Q : Bool → Hp → Prop), Inv X pins σ H s → t σ H Q → wpAny (model X.prog X.w) X.A (isTrue e X.env (eval e X.env)) (TP X pins σ Q) X.xe s
/-- a test whatever its 'whole' is (and, or) -/
def PW (X : Cx) (e : Expr) (t : TT) : Prop :=
  ∀ (whole : Sem Value) (pins : List (Addr × Obj)) (s : Shared) (σ : St) (H : Hp) (Q : Bool → Hp → Prop), Inv X pins σ H s → t σ H Q → wpAny (model X.prog X.w) X.A (isTrue e X.env whole) (TP X pins σ Q) X.xe s
theorem PW.pt {X : Cx} {e : Expr} {t : TT} (h : PW X e t) : PT X e t := h _
/-- an argument list (no star), from the left -/
def PA (X : Cx) (es : List Expr) (t : TA) : Prop :=
  ∀ (pos : Pos) (pins : List (Addr × Obj)) (s : Shared) (σ : St) (H : Hp) (Q : List V → Hp → Prop), Inv X pins σ H s → t σ H Q → wpAny (model X.prog X.w) X.A (spliced (backTo pos (starEach es X.env))) (AP X pins σ Q) X.xe s
def PS (X : Cx) (st : Stmt) (t : TS) : Prop :=
  ∀ (pins : List (Addr × Obj)) (s : Shared) (σ : St) (H : Hp) (D : Ends), Inv X pins σ H s → t D σ H → wpAny (model X.prog X.w) X.A (exec st X.env) (SP X pins D) X.xe s
def PSs (X : Cx) (st : List Stmt) (t : TS) : Prop :=
  ∀ (pins : List (Addr × Obj)) (s : Shared) (σ : St) (H : Hp) (D : Ends), Inv X pins σ H s → t D σ H → wpAny (model X.prog X.w) X.A (execs st X.env) (SP X pins D) X.xe s
/-- weaken the end -/
theorem thn {α : Type} {t : Sem α} {Q Q' : α → Shared → Prop} {M : Model} {A : Around} {E : Value → Shared → Prop} {s : Shared} (h : wpAny M A t Q E s) (hQ : ∀ a s, Q a s → Q' a s) : wpAny M A t Q' E s := wpAny_mono h hQ fun _ _ x => x
end L2

namespace L2
open PySem PySem.Spec PyProof.Rows
section
variable {X : Cx}

/-! ### names and constants -/
def tVar (i : Nat) : TE := fun σ H Q => ∃ v, σ[i]? = some (some v) ∧ Q v H
def tC (v : V) : TE := fun _ H Q => Q v H
theorem pe_var {i : Nat} {x : Str} {pos : Pos} (hN : X.N[i]? = some x) (hv : Vis X.env.scope x) (hd : (x == ("__debug__" : Str)) = false := by decide) (hcd : (x == ("__classdict__" : Str)) = false := by decide) : PE X (.Name x pos) (tVar i) := by
  intro pins s σ H Q I h
  obtain ⟨v, e, h⟩ := h
  obtain ⟨m, hn, hl⟩ := I.loc
  obtain ⟨u, r, l⟩ := hl i x v hN e hv
  have fin : EP X pins σ Q u s := ⟨v, H, I, r, h⟩
  rcases l with ⟨hk, hm⟩ | ⟨hk, c, hc, hcell⟩
  · exact wpAny_Name (wpAny_loadName_local I.ok.kind hk hn hm fin) hd
  · rcases hk with hk | hk
    · exact wpAny_Name (wpAny_loadName_cell I.ok.kind hk hc hcell fin) hd
    · exact wpAny_Name (wpAny_loadName_free I.ok.kind hk hc hcell fin hcd) hd
theorem pe_int {i j pos} : PE X (.Constant (.int i) j pos) (tC (.int i)) := fun _ _ _ H _ I h => wpAny_Constant_int ⟨.int i, H, I.tok _, ⟨_, rfl⟩, h⟩
theorem pe_bl {b j pos} : PE X (.Constant (.bool b) j pos) (tC (.bl b)) := fun _ _ _ H _ I h => Constant_bool ⟨.bl b, H, I, rfl, h⟩
theorem pe_str {x j pos} : PE X (.Constant (.str x) j pos) (tC (.str x)) := fun _ _ _ H _ I h => Calls.Constant_str ⟨.str x, H, I.tok _, ⟨_, rfl⟩, h⟩

/-- a global name of the def -/
def Gl (X : Cx) (x : Str) : Prop := X.env.kindOf x = some .globalImplicit
theorem ld_glob {E : Value → Shared → Prop} {pins : List (Addr × Obj)} {s : Shared} {σ : St} {H : Hp} {x : Str} {u : Value} {pos : Pos} {Q : Value → Shared → Prop} (I : Inv X pins σ H s) (hg : Gl X x) (hm : X.mg x = some u) (h : Q u s)
    (hd : (x == ("__debug__" : Str)) = false := by decide) : wpAny (model X.prog X.w) X.A (eval (.Name x pos) X.env) Q E s :=
  Calls.Name_function_global I.ok.kind hg (Calls.loadGlobal_global (by rw [I.ok.glob]; exact I.mod.glob.keeps I.bk) hm h) hd
theorem ld_blt {E : Value → Shared → Prop} {pins : List (Addr × Obj)} {s : Shared} {σ : St} {H : Hp} {x : Str} {u : Value} {pos : Pos} {Q : Value → Shared → Prop} (I : Inv X pins σ H s) (hg : Gl X x) (hm : X.mg x = none) (hv : bootBuiltins x = some u) (h : Q u s)
    (hn : x ≠ "__name__" := by decide) (hd : (x == ("__debug__" : Str)) = false := by decide) : wpAny (model X.prog X.w) X.A (eval (.Name x pos) X.env) Q E s := by
  obtain ⟨mb, h1, h2⟩ := I.mod.blt
  exact Calls.Name_function_global I.ok.kind hg (Calls.loadGlobal_builtin (by rw [I.ok.glob]; exact I.mod.glob.keeps I.bk) hm (by rw [I.ok.blt]; exact h1.keeps I.bk) ((h2 x hn).trans hv) h) hd
/-- a module's constant, a class, a function, as a value -/
theorem pe_glob {x : Str} {v : V} {u : Value} {pos : Pos} (hg : Gl X x) (hm : X.mg x = some u) (r : RelV v u) (hd : (x == ("__debug__" : Str)) = false := by decide) : PE X (.Name x pos) (tC v) :=
  fun _ _ _ H _ I h => ld_glob I hg hm ⟨v, H, I, r, h⟩ hd
theorem pe_bltn {x : Str} {v : V} {u : Value} {pos : Pos} (hg : Gl X x) (hm : X.mg x = none) (hv : bootBuiltins x = some u) (r : RelV v u) (hn : x ≠ "__name__" := by decide) (hd : (x == ("__debug__" : Str)) = false := by decide) : PE X (.Name x pos) (tC v) :=
  fun _ _ _ H _ I h => ld_blt I hg hm hv ⟨v, H, I, r, h⟩ hn hd

/-! ### arithmetic -/
/-- two ints -/
def t2I (ta tb : TE) (k : Int → Int → Hp → Prop) : St → Hp → Prop := fun σ H => ta σ H fun x H1 => tb σ H1 fun y H2 => ∃ i j, x = .int i ∧ y = .int j ∧ k i j H2
variable {a b : Expr} {ta tb : TE} {pos : Pos}
def tCmp (p : Int → Int → Bool) (ta tb : TE) : TE := fun σ H Q => t2I ta tb (fun i j H2 => Q (.bl (p i j)) H2) σ H
abbrev tLt : TE → TE → TE := tCmp fun i j => decide (i < j)
abbrev tLe : TE → TE → TE := tCmp fun i j => decide (i ≤ j)
abbrev tGt : TE → TE → TE := tCmp fun i j => decide (j < i)
abbrev tGe : TE → TE → TE := tCmp fun i j => decide (j ≤ i)
abbrev tEqI : TE → TE → TE := tCmp fun i j => decide (i = j)
abbrev tNeI : TE → TE → TE := tCmp fun i j => !decide (i = j)
/-- a comparison as a value, as a test -/
def tB (t : TE) : TT := fun σ H Q => t σ H fun x H1 => ∃ c, x = .bl c ∧ Q c H1
/-- an expression whose value is a bool, as a test -/
theorem pt_val {e : Expr} {t : TE} (h : PE X e t) (he : ∀ whole, isTrue e X.env whole = (do let v ← whole; standAt e.pos; holding [v] (truthy v)) := by intro _; rfl) : PT X e (tB t) := by
  intro pins s σ H Q I hw
  refine isTrue_plain (thn (h pins s σ H _ I hw) fun v s1 ⟨x, H1, I1, r1, q1⟩ => ?_) (he _)
  obtain ⟨d, rfl, q⟩ := q1
  cases r1
  exact wpAny_truthy_bool ⟨H1, I1, q⟩

/-! ### and, or, not -/
variable {tA tB' : TT} {rest : List Expr}
def tAnd (t u : TT) : TT := fun σ H Q => t σ H fun c H1 => if c = true then u σ H1 Q else Q false H1
def tOr (t u : TT) : TT := fun σ H Q => t σ H fun c H1 => if c = true then Q true H1 else u σ H1 Q
def tNot (t : TT) : TT := fun σ H Q => t σ H fun c H1 => Q (!c) H1
theorem pw_and1 (ha : PT X a tA) : PW X (.BoolOp .And [a] pos) tA := by
  intro wh pins s σ H Q I h
  refine isTrue_and (thn (ha pins s σ H Q I h) fun c s1 e => ?_)
  cases c with
  | true => exact isTrue_and_nil e
  | false => exact e
theorem pw_or1 (ha : PT X a tA) : PW X (.BoolOp .Or [a] pos) tA := by
  intro wh pins s σ H Q I h
  refine isTrue_or (thn (ha pins s σ H Q I h) fun c s1 e => ?_)
  cases c with
  | false => exact isTrue_or_nil e
  | true => exact e
theorem pw_and (ha : PT X a tA) (hb : PW X (.BoolOp .And (b :: rest) pos) tB') : PW X (.BoolOp .And (a :: b :: rest) pos) (tAnd tA tB') := by
  intro wh pins s σ H Q I h
  refine isTrue_and (thn (ha pins s σ H _ I h) fun c s1 ⟨H1, I1, q1⟩ => ?_)
  cases c with
  | true => exact hb wh pins s1 σ H1 Q I1 q1
  | false => exact ⟨H1, I1, q1⟩
theorem pw_or (ha : PT X a tA) (hb : PW X (.BoolOp .Or (b :: rest) pos) tB') : PW X (.BoolOp .Or (a :: b :: rest) pos) (tOr tA tB') := by
  intro wh pins s σ H Q I h
  refine isTrue_or (thn (ha pins s σ H _ I h) fun c s1 ⟨H1, I1, q1⟩ => ?_)
  cases c with
  | true => exact ⟨H1, I1, q1⟩
  | false => exact hb wh pins s1 σ H1 Q I1 q1
theorem pt_not (ha : PT X a tA) : PT X (.UnaryOp .Not a pos) (tNot tA) := by
  intro pins s σ H Q I h
  exact isTrue_not (ha pins s σ H (fun c H1 => Q (!c) H1) I h)
/-- .. as values (bools) -/
def tAndV (ta tb : TE) : TE := fun σ H Q => ta σ H fun x H1 => ∃ c, x = .bl c ∧ if c = true then tb σ H1 Q else Q (.bl false) H1
def tNotV (ta : TE) : TE := fun σ H Q => ta σ H fun x H1 => ∃ c, x = .bl c ∧ Q (.bl (!c)) H1
theorem pe_one {op} {t : TE} (h : PE X a t) : PE X (.BoolOp op [a] pos) t := fun pins s σ H Q I hw => BoolOp_one (h pins s σ H Q I hw)
theorem pe_and (ha : PE X a ta) (hb : PE X (.BoolOp .And (b :: rest) pos) tb) : PE X (.BoolOp .And (a :: b :: rest) pos) (tAndV ta tb) := by
  intro pins s σ H Q I h
  refine BoolOp_and (thn (ha pins s σ H _ I h) fun v s1 ⟨x, H1, I1, r1, q1⟩ => ?_)
  obtain ⟨c, rfl, q1⟩ := q1
  cases r1
  refine wpAny_truthy_bool ?_
  cases c with
  | true => exact hb pins s1 σ H1 Q I1 q1
  | false => exact ⟨.bl false, H1, I1, rfl, q1⟩
theorem pe_not (ha : PE X a ta) : PE X (.UnaryOp .Not a pos) (tNotV ta) := by
  intro pins s σ H Q I h
  refine UnaryOp_ (thn (ha pins s σ H _ I h) fun v s1 ⟨x, H1, I1, r1, q1⟩ => ?_)
  obtain ⟨c, rfl, q1⟩ := q1
  cases r1
  exact not_of (wpAny_truthy_bool ⟨.bl (!c), H1, I1, rfl, q1⟩)
end
end L2

namespace L2
open PySem PySem.Spec PyProof.Rows

/-! ### a list, a tuple that is read: tracked, frozen, or an object of the module -/
def SqL (K : PySem.W.Frag) (H : Hp) (a : Addr) (xs : List V) : Prop :=
  Rd H a (.lst xs) ∨
    ∃ (o : Obj) (its : Array Value) (n : Nat), K.lookup a = some o ∧ o.cls = .type "list" ∧ o.dict = none ∧ o.data = .seq its n ∧ its.size ≤ sizeLine ∧ Vals xs its.toList
def SqT (K : PySem.W.Frag) (H : Hp) (a : Addr) (xs : List V) : Prop :=
  Rd H a (.tup xs) ∨
    ∃ (o : Obj) (its : Array Value) (n : Nat), K.lookup a = some o ∧ o.cls = .type "tuple" ∧ o.data = .seq its n ∧ its.size ≤ sizeLine ∧ Vals xs its.toList
def absV : Value → Option V
  | .none => some .non
  | .bool b => some (.bl b)
  | .int i _ => some (.int i)
  | .str x _ => some (.str x)
  | .bytes b _ => some (.byt b)
  | .float b _ => some (.flt b)
  | .ref a => some (.ref a)
  | .type n => some (.ty n)
  | _ => none
theorem RelV.abs {x : V} {u : Value} (r : RelV x u) : absV u = some x := by
  cases x with
  | non => cases r; rfl
  | bl _ => cases r; rfl
  | int _ => obtain ⟨t, rfl⟩ := r; rfl
  | str _ => obtain ⟨t, rfl⟩ := r; rfl
  | byt _ => obtain ⟨t, rfl⟩ := r; rfl
  | flt _ => obtain ⟨t, rfl⟩ := r; rfl
  | ref _ => cases r; rfl
  | ty _ => cases r; rfl
theorem RelV.inj {x y : V} {u : Value} (r : RelV x u) (q : RelV y u) : x = y := Option.some.inj (r.abs.symm.trans q.abs)
theorem Vals.inj : ∀ {xs ys : List V} {us : List Value}, Vals xs us → Vals ys us → xs = ys
  | _, _, _, .nil, .nil => rfl
  | _, _, _, .cons r t, .cons r' t' => by rw [r.inj r', Vals.inj t t']
section
variable {X : Cx} {pins : List (Addr × Obj)} {σ : St} {H : Hp} {s : Shared} {a : Addr} {xs ys : List V}
theorem SqL.of {K : PySem.W.Frag} (h : H a = some (.lst xs)) : SqL K H a xs := .inl (.inl h)
theorem SqT.of {K : PySem.W.Frag} (h : H a = some (.tup xs)) : SqT K H a xs := .inl (.inl h)
theorem Inv.list (I : Inv X pins σ H s) (h : SqL X.K H a xs) : ∃ its : List Value, Vals xs its ∧ PlainL s.heap a its.toArray ∧ xs.length ≤ sizeLine := by
  rcases h with h | ⟨o, its, n, hk, hc, hd, hs, hz, r⟩
  · obtain ⟨z, its, n, r, e⟩ := h.ok I.hok
    exact ⟨its, r, ⟨_, n, e, rfl, rfl, rfl⟩, z⟩
  · refine ⟨its.toList, r, ⟨o, n, I.kIn a o hk, hc, hd, by simpa using hs⟩, ?_⟩
    have e := r.length
    simp only [Array.length_toList] at e
    omega
theorem Inv.tuple (I : Inv X pins σ H s) (h : SqT X.K H a xs) : ∃ its : List Value, Vals xs its ∧ IsTup s.heap a its.toArray ∧ xs.length ≤ sizeLine := by
  rcases h with h | ⟨o, its, n, hk, hc, hs, hz, r⟩
  · obtain ⟨z, its, r, p⟩ := h.ok I.hok
    exact ⟨its, r, p.tup, z⟩
  · refine ⟨its.toList, r, ⟨o, I.kIn a o hk, hc, n, by simpa using hs⟩, ?_⟩
    have e := r.length
    simp only [Array.length_toList] at e
    omega
theorem Inv.list_inj (I : Inv X pins σ H s) (h : SqL X.K H a xs) (h' : SqL X.K H a ys) : xs = ys := by
  obtain ⟨its, r, ⟨o, n, e, _, _, d⟩, _⟩ := I.list h
  obtain ⟨its', r', ⟨o', n', e', _, _, d'⟩, _⟩ := I.list h'
  rw [e] at e'; cases e'
  rw [d] at d'
  injection d' with d1 _
  have : its = its' := by simpa using congrArg Array.toList d1
  subst this
  exact r.inj r'
theorem Inv.tuple_inj (I : Inv X pins σ H s) (h : SqT X.K H a xs) (h' : SqT X.K H a ys) : xs = ys := by
  obtain ⟨its, r, ⟨o, e, _, n, d⟩, _⟩ := I.tuple h
  obtain ⟨its', r', ⟨o', e', _, n', d'⟩, _⟩ := I.tuple h'
  rw [e] at e'; cases e'
  rw [d] at d'
  injection d' with d1 _
  have : its = its' := by simpa using congrArg Array.toList d1
  subst this
  exact r.inj r'
end

/-! ### another wish about exceptions -/
abbrev Cx.wish (X : Cx) (E : Value → Shared → Prop) : Cx := { X with xe := E }
/-- no exception leaves -/
abbrev Cx.nox (X : Cx) : Cx := X.wish fun _ _ => False
theorem Cx.Ok.wish {X : Cx} (ok : X.Ok) (E : Value → Shared → Prop) : (X.wish E).Ok :=
  ⟨ok.mod, ok.kind, ok.glob, ok.blt, ok.above, ok.inj, ok.has, ok.cab, ok.hd, ok.frames, ok.stk, ok.exf, ok.bs, ok.bsz, ok.noex, ok.exfs, ok.funs, ok.frf⟩
theorem Cx.Ok.unwish {X : Cx} {E : Value → Shared → Prop} (ok : (X.wish E).Ok) : X.Ok :=
  ⟨ok.mod, ok.kind, ok.glob, ok.blt, ok.above, ok.inj, ok.has, ok.cab, ok.hd, ok.frames, ok.stk, ok.exf, ok.bs, ok.bsz, ok.noex, ok.exfs, ok.funs, ok.frf⟩
section
variable {X : Cx} {pins : List (Addr × Obj)} {σ : St} {H : Hp} {s : Shared} {E : Value → Shared → Prop}
theorem Inv.wish (I : Inv X pins σ H s) (E : Value → Shared → Prop) : Inv (X.wish E) pins σ H s := ⟨I.ok.wish E, I.os, I.bare, I.base, I.loc, I.cell, I.free, I.freeC, I.pin, I.hok, I.len⟩
theorem Inv.unwish (I : Inv (X.wish E) pins σ H s) : Inv X pins σ H s := ⟨I.ok.unwish, I.os, I.bare, I.base, I.loc, I.cell, I.free, I.freeC, I.pin, I.hok, I.len⟩
theorem SP.unwish {D : Ends} {f : Flow} {s' : Shared} (h : SP (X.wish E) pins D f s') : SP X pins D f s' := by
  cases f with
  | next => obtain ⟨σ', H', I, q⟩ := h; exact ⟨σ', H', I.unwish, q⟩
  | brk => obtain ⟨σ', H', I, q⟩ := h; exact ⟨σ', H', I.unwish, q⟩
  | cont => obtain ⟨σ', H', I, q⟩ := h; exact ⟨σ', H', I.unwish, q⟩
  | ret u => obtain ⟨v, σ', H', I, r, q⟩ := h; exact ⟨v, σ', H', I.unwish, r, q⟩
theorem PE.nox {e : Expr} {t : TE} (h : PE X.nox e t) : PE X e t := fun pins s σ H Q I hw =>
  wpAny_mono (h pins s σ H Q (I.wish _) hw) (fun _ _ ⟨v, H', I', r, q⟩ => ⟨v, H', I'.unwish, r, q⟩) fun _ _ z => False.elim z
theorem PT.nox {e : Expr} {t : TT} (h : PT X.nox e t) : PT X e t := fun pins s σ H Q I hw =>
  wpAny_mono (h pins s σ H Q (I.wish _) hw) (fun _ _ ⟨H', I', q⟩ => ⟨H', I'.unwish, q⟩) fun _ _ z => False.elim z
theorem PSs.nox {st : List Stmt} {t : TS} (h : PSs X.nox st t) : PSs X st t := fun pins s σ H D I hw =>
  wpAny_mono (h pins s σ H D (I.wish _) hw) (fun _ _ q => q.unwish) fun _ _ z => False.elim z
end

/-! ### blocks and small statements -/
section
variable {X : Cx} {st : Stmt} {rest : List Stmt} {t u : TS} {e : Expr} {te : TE} {pos : Pos}
def tNext : TS := fun D σ H => D.nx σ H
def tSeq (t u : TS) : TS := fun D σ H => t { D with nx := u D } σ H
theorem pss_nil : PSs X [] tNext := fun _ _ σ H _ I h => wpAny_execs_nil ⟨σ, H, I, h⟩
theorem pss_cons (h1 : PS X st t) (h2 : PSs X rest u) : PSs X (st :: rest) (tSeq t u) := by
  intro pins s σ H D I h
  refine wpAny_execs_cons (thn (h1 pins s σ H { D with nx := u D } I h) fun f s1 q => ?_)
  cases f with
  | next =>
    obtain ⟨σ', H', I', q⟩ := q
    exact h2 pins s1 σ' H' D I' q
  | ret v => exact q
  | brk => exact q
  | cont => exact q
theorem pss_one (h1 : PS X st t) : PSs X [st] t := by
  intro pins s σ H D I h
  refine wpAny_execs_cons (thn (h1 pins s σ H D I h) fun f s1 q => ?_)
  cases f with
  | next => exact wpAny_execs_nil q
  | ret v => exact q
  | brk => exact q
  | cont => exact q
/-- in a def's body nothing is shown -/
theorem Inv.quiet {pins : List (Addr × Obj)} {σ : St} {H : Hp} {s : Shared} (I : Inv X pins σ H s) : interactive X.env = false := by simp [interactive, I.ok.kind]
/-- an expression whose value is dropped -/
def tDrop (te : TE) : TS := fun D σ H => te σ H fun _ H1 => D.nx σ H1
theorem ps_expr (he : PE X e te) (hs : swapsWith e none pos.line X.env = pure false := by rfl) : PS X (.Expr e pos) (tDrop te) := by
  intro pins s σ H D I h
  exact wpAny_Expr_any (thn (he pins s σ H _ I h) fun v s1 ⟨x, H1, I1, r1, q1⟩ => ⟨σ, H1, I1, q1⟩) I.quiet hs
def tRet (te : TE) : TS := fun D σ H => te σ H D.rt
theorem ps_ret (he : PE X e te) : PS X (.Return (some e) pos) (tRet te) := by
  intro pins s σ H D I h
  exact wpAny_Return_some (thn (he pins s σ H _ I h) fun v s1 ⟨x, H1, I1, r1, q1⟩ => ⟨x, σ, H1, I1, r1, q1⟩)
def tIfS (c : TT) (t u : TS) : TS := fun D σ H => c σ H fun b H1 => if b = true then t D σ H1 else u D σ H1
theorem ps_if {c : Expr} {a b : List Stmt} {tc : TT} (hc : PT X c tc) (ha : PSs X a t) (hb : PSs X b u) : PS X (.If c a b pos) (tIfS tc t u) := by
  intro pins s σ H D I h
  refine wpAny_If (thn (hc pins s σ H _ I h) fun d s1 ⟨H1, I1, q1⟩ => ?_)
  cases d with
  | true => exact ha pins s1 σ H1 D I1 q1
  | false => exact hb pins s1 σ H1 D I1 q1
end

/-! ### targets -/
abbrev TG := V → St → Hp → (St → Hp → Prop) → Prop
abbrev TGs := List V → St → Hp → (St → Hp → Prop) → Prop
def PG (X : Cx) (target : Expr) (t : TG) : Prop :=
  ∀ (pins : List (Addr × Obj)) (s : Shared) (σ : St) (H : Hp) (v : V) (u : Value) (Q : St → Hp → Prop), Inv X pins σ H s → RelV v u → t v σ H Q →
    wpAny (model X.prog X.w) X.A (assign target X.env u) (fun _ s' => ∃ σ' H', Inv X pins σ' H' s' ∧ Q σ' H') X.xe s
/-- several targets, one after another -/
def PGs (X : Cx) (ts : List Expr) (t : TGs) : Prop :=
  ∀ (pins : List (Addr × Obj)) (s : Shared) (σ : St) (H : Hp) (vs : List V) (us : List Value) (Q : St → Hp → Prop), Inv X pins σ H s → Vals vs us → t vs σ H Q →
    wpAny (model X.prog X.w) X.A (assignInOrder ((assignEach ts X.env).map (·.2)) us) (fun _ s' => ∃ σ' H', Inv X pins σ' H' s' ∧ Q σ' H') X.xe s
/-- o[i] = v, by values -/
abbrev TSet := V → V → V → Hp → (Hp → Prop) → Prop
/-- a op= b, by values -/
abbrev TIp := V → V → Hp → VK → Prop
section
variable {X : Cx} {pos : Pos}
def gName (i : Nat) : TG := fun v σ H Q => Q (σ.set i (some v)) H
theorem pg_name {i : Nat} {x : Str} (hN : X.N.Nodup) (hi : X.N[i]? = some x) (hx : Loc X.env.scope x) (hf : X.fn x = true ∨ X.env.scope.names.lookup x = some .local := by first | exact .inl rfl | exact .inr rfl | assumption) : PG X (.Name x pos) (gName i) := by
  intro pins s σ H v u Q I r h
  exact wpAny_assign_Name (store_ok I hN hi hx r (fun s' I' => ⟨_, H, I', h⟩) hf)
def gNil : TGs := fun vs σ H Q => vs = [] ∧ Q σ H
def gCons (t : TG) (u : TGs) : TGs := fun vs σ H Q => ∃ v r, vs = v :: r ∧ t v σ H fun σ' H' => u r σ' H' Q
theorem pgs_nil : PGs X [] gNil := by
  intro pins s σ H vs us Q I r h
  obtain ⟨e, h⟩ := h
  subst e
  cases r
  exact assignInOrder_nil ⟨σ, H, I, h⟩
theorem pgs_cons {e : Expr} {es : List Expr} {t : TG} {u : TGs} (h1 : PG X e t) (h2 : PGs X es u)
    (hs : (assignEach (e :: es) X.env).map (·.2) = assign e X.env :: (assignEach es X.env).map (·.2) := by rfl) : PGs X (e :: es) (gCons t u) := by
  intro pins s σ H vs us Q I r h
  obtain ⟨v, vr, e1, h⟩ := h
  subst e1
  cases r with
  | cons r rr =>
    rw [hs]
    refine assignInOrder_cons (thn (h1 pins s σ H _ _ _ I r h) fun _ s1 ⟨σ1, H1, I1, q1⟩ => ?_)
    exact h2 pins s1 σ1 H1 _ _ Q I1 rr q1
/-- (a, b, ..) = a tuple of that length -/
def gTup (K : PySem.W.Frag) (n : Nat) (t : TGs) : TG := fun v σ H Q => ∃ a xs, v = .ref a ∧ SqT K H a xs ∧ xs.length = n ∧ t xs σ H Q
theorem pg_tup {es : List Expr} {k : Nat} {t : TGs} {n : Nat} (hc : X.calm = true) (h : PGs X es t)
    (hn : (assignEach es X.env).length = n := by rfl) (hst : (assignEach es X.env).findIdx? (·.1) = none := by rfl) : PG X (.Tuple es k pos) (gTup X.K n t) := by
  intro pins s σ H v u Q I r hw
  obtain ⟨a, xs, e1, hq, hl, hw⟩ := hw
  subst e1
  cases r
  obtain ⟨its, rv, ht, hz⟩ := I.tuple hq
  refine assign_Tuple_tuple (I.ok.hd hc) ht (by simp [hn, ← hl, rv.length]) hst fun h' hx => ?_
  have I1 : Inv X pins σ H { s with heap := h' } := I.kept (t' := s.toks) fun b o e => hx b o (Nat.ne_of_lt (Heap.lt_size e)) e
  exact h pins _ σ H xs _ Q I1 (by simpa using rv) hw
/-- target = value -/
def tAsg (te : TE) (g : TG) : TS := fun D σ H => te σ H fun x H1 => g x σ H1 D.nx
theorem ps_asg {tg e : Expr} {te : TE} {g : TG} (he : PE X e te) (hg : PG X tg g) (hs : swapsWithSole [tg] e pos.line X.env = pure false := by rfl) (hw : swappedStores [tg] e X.env = pure none := by rfl)
    (h1 : (assignEach [tg] X.env).map (·.2) = [assign tg X.env] := by rfl) : PS X (.Assign [tg] e pos) (tAsg te g) := by
  intro pins s σ H D I h
  refine wpAny_Assign_stores (thn (he pins s σ H _ I h) fun v s1 ⟨x, H1, I1, r1, q1⟩ => ?_) hs hw
  rw [h1]
  exact thn (hg pins s1 σ H1 x v _ I1 r1 q1) fun _ s2 q => q
/-- name = value -/
theorem ps_set {i : Nat} {x : Str} {e : Expr} {te : TE} {pos' : Pos} (hN : X.N.Nodup) (hi : X.N[i]? = some x) (hx : Loc X.env.scope x) (he : PE X e te) (hs : swapsWith e (some (.Name x pos')) pos.line X.env = pure false := by rfl) (hf : X.fn x = true ∨ X.env.scope.names.lookup x = some .local := by first | exact .inl rfl | exact .inr rfl | assumption) :
    PS X (.Assign [.Name x pos'] e pos) (tAsg te (gName i)) := by
  intro pins s σ H D I h
  refine wpAny_Assign_Name (thn (he pins s σ H _ I h) fun v s1 ⟨y, H1, I1, r1, q1⟩ => ?_) hs
  exact store_ok I1 hN hi hx r1 (fun s2 I2 => ⟨_, H1, I2, q1⟩) hf
end

/-! ### while -/
section
variable {X : Cx} {pos : Pos}
end

/-! ### what a loop or a comprehension walks -/
/-- at turn i: it yields x (the heap may grow), or it stops -/
structure It where
  go : Nat → Hp → Prop
  yld : Nat → Hp → V → Hp → Prop
  stop : Nat → Hp → Prop
/-- the iterator's own objects may turn: they are not the frame's, not pinned, younger than the entry (or a comprehension's own) -/
def FpOk (X : Cx) (pins : List (Addr × Obj)) (H : Hp) (b : Addr) : Prop :=
  H b = none ∧ b ≠ X.env.locals ∧ b ∉ X.fs ∧ (b ∈ X.ex ∨ X.s₀.heap.objs.size ≤ b) ∧ (∀ x c, X.env.cells.lookup x = some c → c ≠ b) ∧ ∀ p ∈ X.pn ++ pins, p.1 ≠ b
theorem Inv.fpOk {X : Cx} {pins : List (Addr × Obj)} {σ : St} {H H' : Hp} {s : Shared} {b : Addr} (I : Inv X pins σ H s) (hb : s.heap.objs.size ≤ b) (hn : H' b = none) : FpOk X pins H' b := by
  refine ⟨hn, Nat.ne_of_gt (Nat.lt_of_lt_of_le I.lt hb), I.nofs hb, .inr (Nat.le_trans I.sz hb), fun x c e z => ?_, fun p hp z => ?_⟩
  · obtain ⟨v, q⟩ := I.cell x c e
    exact absurd (Nat.lt_of_lt_of_le q.lt (by rw [z]; exact hb)) (Nat.lt_irrefl _)
  · exact absurd (Nat.lt_of_lt_of_le (Heap.lt_size (I.pin p hp).1) (by rw [z]; exact hb)) (Nat.lt_irrefl _)
structure Turn (P : Program) (w : World) (K : PySem.W.Frag) (tg : Expr) (J : It) (fp : List Addr) (it : Addr) (tn : Nat → Heap → Prop) : Prop where
  mem : it ∈ fp
  obj : ∀ i h, tn i h → ∀ b ∈ fp, ∃ o, h.get? b = some o ∧ ∀ v, o.data ≠ .cell v
  keep : ∀ i h h', tn i h → (∀ b ∈ fp, ∀ o, h.get? b = some o → h'.get? b = some o) → tn i h'
  item : ∀ (X : Cx), X.prog = P → X.w = w → X.K = K → X.calm = true → ∀ (i : Nat) (pins : List (Addr × Obj)) (s : Shared) (σ : St) (H : Hp) (E : Value → Shared → Prop), Inv X pins σ H s → (∀ b ∈ fp, FpOk X pins H b) → tn i s.heap → J.go i H →
    wpAny (model P w) X.A (pyNext (.ref it)) (fun r s1 => ∃ u, r = some u ∧
      wpAny (model P w) X.A (letOwnedTupleGo tg (.ref it) u) (fun _ s2 => ∃ x H', Inv X pins σ H' s2 ∧ RelV x u ∧ J.yld i H x H' ∧ tn (i + 1) s2.heap ∧ ∀ b ∈ fp, H' b = none) E s1) E s
  done : ∀ (X : Cx), X.prog = P → X.w = w → X.K = K → X.calm = true → ∀ (i : Nat) (pins : List (Addr × Obj)) (s : Shared) (σ : St) (H : Hp) (E : Value → Shared → Prop), Inv X pins σ H s → (∀ b ∈ fp, FpOk X pins H b) → tn i s.heap → J.stop i H →
    wpAny (model P w) X.A (pyNext (.ref it)) (fun r s1 => r = none ∧ Inv X pins σ H s1) E s
  self : ∀ (A : Around) (i : Nat) (s : Shared) (Q : Value → Shared → Prop) (E : Value → Shared → Prop), tn i s.heap → Q (.ref it) s → wpAny (model P w) A (pyIter (.ref it)) Q E s
abbrev TI := St → Hp → (It → Hp → Prop) → Prop
/-- an iterator has come -/
def PIE (X : Cx) (pins : List (Addr × Obj)) (σ : St) (tg : Expr) (R : It → Hp → Prop) (itv : Value) (s2 : Shared) : Prop :=
  ∃ (it : Addr) (fp : List Addr) (tn : Nat → Heap → Prop) (J : It) (H' : Hp), itv = .ref it ∧ Inv X pins σ H' s2 ∧ Turn X.prog X.w X.K tg J fp it tn ∧ tn 0 s2.heap ∧ (∀ b ∈ fp, FpOk X pins H' b) ∧ R J H'
def PI (X : Cx) (tg iter : Expr) (wi : TI) : Prop :=
  ∀ (pins : List (Addr × Obj)) (s : Shared) (σ : St) (H : Hp) (R : It → Hp → Prop), Inv X pins σ H s → wi σ H R →
    wpAny (model X.prog X.w) X.A (eval iter X.env) (fun v s1 => wpAny (model X.prog X.w) X.A (pyIter v) (PIE X pins σ tg R) X.xe s1) X.xe s

/-- the step ahead of the store is nothing for an iterator that keeps no tuple -/
theorem go_of {M : Model} {A : Around} {E : Value → Shared → Prop} {s : Shared} {tg : Expr} {it : Addr} {u : Value} {o : Obj} {n : String} {vs : Array Value} {Q : Unit → Shared → Prop} (ho : s.heap.get? it = some o) (hc : o.cls = .type n) (hd : o.data = .fields vs)
    (hn : ["enumerate", "zip", "dict_itemiterator", "dict_reverseitemiterator", "odict_iterator", "itertools.zip_longest", "itertools.pairwise"].contains n = false) (hQ : Q () s) : wpAny M A (letOwnedTupleGo tg (.ref it) u) Q E s := by
  unfold letOwnedTupleGo
  cases tg <;> first
    | exact wpAny_pure hQ
    | (cases u <;> first
        | exact wpAny_pure hQ
        | (refine wpAny_bind (wpAny_load ho ?_)
           rw [hc, hd]
           show wpAny M A (if (["enumerate", "zip", "dict_itemiterator", "dict_reverseitemiterator", "odict_iterator", "itertools.zip_longest", "itertools.pairwise"].contains n && vs[0]? == some (rawInt _)) = true then _ else _) Q E s
           rw [if_neg (by intro h; rw [hn, Bool.false_and] at h; cases h)]
           exact wpAny_pure hQ))

/-- the list at a, as it stands at each turn (a loop may append to it) -/
def Itl (K : PySem.W.Frag) (a : Addr) : It :=
  ⟨fun i H => ∃ xs x, SqL K H a xs ∧ xs[i]? = some x, fun i H x H' => H' = H ∧ ∀ xs, SqL K H a xs → xs[i]? = some x, fun i H => ∃ xs, SqL K H a xs ∧ xs.length ≤ i⟩
def Itt (K : PySem.W.Frag) (a : Addr) : It :=
  ⟨fun i H => ∃ xs x, SqT K H a xs ∧ xs[i]? = some x, fun i H x H' => H' = H ∧ ∀ xs, SqT K H a xs → xs[i]? = some x, fun i H => ∃ xs, SqT K H a xs ∧ xs.length ≤ i⟩
/-- lo, lo + 1, .. (n of them) -/
def Itr (lo : Int) (n : Nat) : It := ⟨fun i _ => i < n, fun i H x H' => H' = H ∧ x = .int (lo + i), fun i _ => n ≤ i⟩
theorem turn_list {P : Program} {w : World} {K : PySem.W.Frag} {tg : Expr} (a it : Addr) : Turn P w K tg (Itl K a) [it] it (fun i h => h.IsListIter it a i) where
  mem := by simp
  obj := fun i h st b hb => by
    have e : b = it := by simpa using hb
    subst e
    obtain ⟨o, e, c, d⟩ := st
    exact ⟨o, e, fun v z => by rw [d] at z; cases z⟩
  keep := fun i h h' st k => st.at fun o e => k it (by simp) o e
  item := by
    intro X hP hw hK hc i pins s σ H E I hf st hg
    subst hP hw hK
    obtain ⟨xs, x, hq, hx⟩ := hg
    obtain ⟨its, rv, p, hz⟩ := I.list hq
    obtain ⟨u, hu, ru⟩ := rv.get hx
    obtain ⟨f0, f1, f2, f3, f4, f5⟩ := hf it (by simp)
    refine wpAny_pyNext_list_item st p.isList (x := u) (by simpa using hu) fun h' st' sb => ?_
    have I1 : Inv X pins σ H { s with heap := h' } := I.turned (t' := s.toks) (fun b o hb e => (sb.2 b hb).trans e) f0 f1 f3 f4 f5
    obtain ⟨o, e, c, d⟩ := id st'
    exact ⟨u, rfl, go_of (s := { s with heap := h' }) e c d (by decide) ⟨x, H, I1, ru, ⟨rfl, fun ys hy => by rw [I.list_inj hy hq]; exact hx⟩, st', fun b hb => (hf b hb).1⟩⟩
  done := by
    intro X hP hw hK hc i pins s σ H E I hf st hg
    subst hP hw hK
    obtain ⟨xs, hq, hx⟩ := hg
    obtain ⟨its, rv, p, hz⟩ := I.list hq
    obtain ⟨f0, f1, f2, f3, f4, f5⟩ := hf it (by simp)
    have hl := rv.length
    exact wpAny_pyNext_list_end (I.ok.hd hc) st p.isList (by simp; omega) fun h' eb => ⟨rfl, I.turned (t' := s.toks) (fun b o hb e => eb b o hb e) f0 f1 f3 f4 f5⟩
  self := fun _ _ _ _ _ st h => wpAny_pyIter_listiter st h
theorem turn_tuple {P : Program} {w : World} {K : PySem.W.Frag} {tg : Expr} (a it : Addr) : Turn P w K tg (Itt K a) [it] it (fun i h => h.IsTupleIter it a i) where
  mem := by simp
  obj := fun i h st b hb => by
    have e : b = it := by simpa using hb
    subst e
    obtain ⟨o, e, c, d⟩ := st
    exact ⟨o, e, fun v z => by rw [d] at z; cases z⟩
  keep := fun i h h' st k => st.at fun o e => k it (by simp) o e
  item := by
    intro X hP hw hK hc i pins s σ H E I hf st hg
    subst hP hw hK
    obtain ⟨xs, x, hq, hx⟩ := hg
    obtain ⟨its, rv, p, hz⟩ := I.tuple hq
    obtain ⟨u, hu, ru⟩ := rv.get hx
    obtain ⟨f0, f1, f2, f3, f4, f5⟩ := hf it (by simp)
    refine wpAny_pyNext_tuple_item st (show s.heap.IsTuple a its.toArray from p) (x := u) (by simpa using hu) fun h' st' sb => ?_
    have I1 : Inv X pins σ H { s with heap := h' } := I.turned (t' := s.toks) (fun b o hb e => (sb.2 b hb).trans e) f0 f1 f3 f4 f5
    obtain ⟨o, e, c, d⟩ := id st'
    exact ⟨u, rfl, go_of (s := { s with heap := h' }) e c d (by decide) ⟨x, H, I1, ru, ⟨rfl, fun ys hy => by rw [I.tuple_inj hy hq]; exact hx⟩, st', fun b hb => (hf b hb).1⟩⟩
  done := by
    intro X hP hw hK hc i pins s σ H E I hf st hg
    subst hP hw hK
    obtain ⟨xs, hq, hx⟩ := hg
    obtain ⟨its, rv, p, hz⟩ := I.tuple hq
    obtain ⟨f0, f1, f2, f3, f4, f5⟩ := hf it (by simp)
    have hl := rv.length
    exact wpAny_pyNext_tuple_end (I.ok.hd hc) st (show s.heap.IsTuple a its.toArray from p) (by simp; omega) fun h' eb => ⟨rfl, I.turned (t' := s.toks) (fun b o hb e => eb b o hb e) f0 f1 f3 f4 f5⟩
  self := fun _ _ _ _ _ st h => wpAny_pyIter_tupleiter st h
theorem turn_range {P : Program} {w : World} {K : PySem.W.Frag} {tg : Expr} (it : Addr) (lo : Int) (n : Nat) : Turn P w K tg (Itr lo n) [it] it (fun i h => IsRangeIter h it (lo + (i : Nat) * 1) ((n : Int) - (i : Nat)) 1) where
  mem := by simp
  obj := fun i h st b hb => by
    have e : b = it := by simpa using hb
    subst e
    exact ⟨_, st, fun v z => by
      have z' : Data.fields _ = Data.cell v := z
      cases z'⟩
  keep := fun i h h' st k => k it (by simp) _ st
  item := by
    intro X hP hw hK hc i pins s σ H E I hf st hg
    subst hP hw hK
    obtain ⟨f0, f1, f2, f3, f4, f5⟩ := hf it (by simp)
    have W := Walks.range (prog := X.prog) (w := X.w) (I.ok.hd hc) it lo 1 n
    refine W.item i s _ _ hg st fun v h' tk hv st' kk => ?_
    obtain ⟨t, rfl⟩ := hv
    have I1 : Inv X pins σ H { s with heap := h', toks := tk } := I.turned (fun b o hb e => kk b o (by simpa using hb) e) f0 f1 f3 f4 f5
    refine ⟨_, rfl, go_of (s := { s with heap := h', toks := tk }) (n := "range_iterator") st' rfl rfl (by decide) ⟨.int (lo + i), H, I1, ⟨t, ?_⟩, ⟨rfl, rfl⟩, st', fun b hb => (hf b hb).1⟩⟩
    rw [Int.mul_one]
  done := by
    intro X hP hw hK hc i pins s σ H E I hf st hg
    subst hP hw hK
    obtain ⟨f0, f1, f2, f3, f4, f5⟩ := hf it (by simp)
    exact wpAny_pyNext_range_end (I.ok.hd hc) st (by have : n ≤ i := hg; omega) fun h' eb => ⟨rfl, I.turned (t' := s.toks) (fun b o hb e => eb b o hb e) f0 f1 f3 f4 f5⟩
  self := fun _ _ _ _ _ st h => wpAny_pyIter_rangeiter st h
end L2

namespace L2
open PySem PySem.Spec PyProof.Rows
section
variable {X : Cx} {tg : Expr}
def iList (K : PySem.W.Frag) (tl : TE) : TI := fun σ H R => tl σ H fun x H1 => ∃ a, x = .ref a ∧ (∃ xs, SqL K H1 a xs) ∧ R (Itl K a) H1
def iTup (K : PySem.W.Frag) (tl : TE) : TI := fun σ H R => tl σ H fun x H1 => ∃ a, x = .ref a ∧ (∃ xs, SqT K H1 a xs) ∧ R (Itt K a) H1
theorem pi_list {l : Expr} {tl : TE} (hl : PE X l tl) : PI X tg l (iList X.K tl) := by
  intro pins s σ H R I h
  refine thn (hl pins s σ H _ I h) fun v s1 ⟨x, H1, I1, r1, q1⟩ => ?_
  obtain ⟨a, e, ⟨xs, hq⟩, q⟩ := q1
  subst e
  cases r1
  obtain ⟨its, rv, p, hz⟩ := I1.list hq
  refine wpAny_pyIter_list p.isList ?_
  refine ⟨s1.heap.objs.size, [s1.heap.objs.size], _, _, H1, rfl, I1.kept (t' := s1.toks) fun b o e => Heap.get?_push_of_some _ e, turn_list a _, ⟨_, Heap.get?_push_size _ rfl, rfl, rfl⟩, fun b hb => ?_, q⟩
  have e : b = s1.heap.objs.size := by simpa using hb
  subst e
  exact I1.fpOk (Nat.le_refl _) (I1.hok.fresh (Nat.le_refl _))
theorem pi_tup {l : Expr} {tl : TE} (hl : PE X l tl) : PI X tg l (iTup X.K tl) := by
  intro pins s σ H R I h
  refine thn (hl pins s σ H _ I h) fun v s1 ⟨x, H1, I1, r1, q1⟩ => ?_
  obtain ⟨a, e, ⟨xs, hq⟩, q⟩ := q1
  subst e
  cases r1
  obtain ⟨its, rv, p, hz⟩ := I1.tuple hq
  refine wpAny_pyIter_tuple (show s1.heap.IsTuple a its.toArray from p) ?_
  refine ⟨s1.heap.objs.size, [s1.heap.objs.size], _, _, H1, rfl, I1.kept (t' := s1.toks) fun b o e => Heap.get?_push_of_some _ e, turn_tuple a _, ⟨_, Heap.get?_push_size _ rfl, rfl, rfl⟩, fun b hb => ?_, q⟩
  have e : b = s1.heap.objs.size := by simpa using hb
  subst e
  exact I1.fpOk (Nat.le_refl _) (I1.hok.fresh (Nat.le_refl _))
/-- a range object just made, walked -/
theorem range_it {pins : List (Addr × Obj)} {σ : St} {H : Hp} {s : Shared} {R : It → Hp → Prop} {E : Value → Shared → Prop} {lo hi : Int} {t u v : Tok} {tk : Nat} (I : Inv X pins σ H s) (h1 : -(2 ^ 62) ≤ lo) (h2 : lo < 2 ^ 62) (h3 : -(2 ^ 62) ≤ hi) (h4 : hi < 2 ^ 62)
    (q : R (Itr lo (hi - lo).toNat) H) : wpAny (model X.prog X.w) X.A (pyIter (.ref s.heap.objs.size)) (PIE X pins σ tg R) E { s with heap := s.heap.push { cls := .type "range", data := .fields #[.int lo t, .int hi u, .int 1 v] }, toks := tk } := by
  refine wpAny_pyIter_range (IsRange.new ..) (small_one h1 h2 h3 h4) ?_
  have I1 : Inv X pins σ H { s with heap := s.heap.push { cls := .type "range", data := .fields #[.int lo t, .int hi u, .int 1 v] }, toks := tk } := I.kept fun b o e => Heap.get?_push_of_some _ e
  refine ⟨(s.heap.push { cls := .type "range", data := .fields #[.int lo t, .int hi u, .int 1 v] }).objs.size, [(s.heap.push { cls := .type "range", data := .fields #[.int lo t, .int hi u, .int 1 v] }).objs.size], _, _, H, rfl,
    I1.kept (t' := tk) fun b o e => Heap.get?_push_of_some _ e, turn_range _ lo (hi - lo).toNat, ?_, fun b hb => ?_, q⟩
  · have e1 : lo + ((0 : Nat) : Int) * 1 = lo := by simp
    have e2 : (((hi - lo).toNat : Nat) : Int) - ((0 : Nat) : Int) = Builtin.Range.rangeSize lo hi 1 := by rw [rangeSize_one]; split <;> omega
    show IsRangeIter _ _ (lo + ((0 : Nat) : Int) * 1) ((((hi - lo).toNat : Nat) : Int) - ((0 : Nat) : Int)) 1
    rw [e1, e2]
    exact Heap.get?_push_size _ rfl
  · have e : b = (s.heap.push { cls := .type "range", data := .fields #[.int lo t, .int hi u, .int 1 v] }).objs.size := by simpa using hb
    subst e
    exact I1.fpOk (Nat.le_refl _) (I1.hok.fresh (Nat.le_refl _))
def iRng1 (ta : TA) : TI := fun σ H R => ta σ H fun vs H1 => ∃ j : Int, vs = [.int j] ∧ -(2 ^ 62) ≤ j ∧ j < 2 ^ 62 ∧ R (Itr 0 j.toNat) H1
theorem pi_range1 {a : Expr} {ta : TA} {p pos : Pos} (hg : Gl X "range") (hm : X.mg "range" = none) (ha : PA X [a] ta) (hs : starEach [a] X.env = [(false, eval a X.env)] := by rfl) : PI X tg (.Call (.Name "range" p) [a] [] pos) (iRng1 ta) := by
  intro pins s σ H R I h
  refine Call_ (ld_blt I hg hm boot_range (PyProof.Rows.callWith_type1 (thn (ha pos pins s σ H _ I h) fun us s1 ⟨vs, H1, I1, r1, q1⟩ => ?_) hs rfl))
  obtain ⟨j, e, q1, q2, q⟩ := q1
  subst e
  cases r1 with
  | cons r rr =>
    cases rr
    obtain ⟨t, rfl⟩ := r
    exact call_range_1 (range_it I1 (by omega) (by omega) q1 q2 (by simpa using q))
/-! ### for -/
/-- W: the invariant by the turn and a measure; N: what the body is to reach -/
def tFor (wi : TI) (g : TG) (tb : TS) : TS := fun D σ H => wi σ H fun J H1 => ∃ W : Nat → Nat → St → Hp → Prop, (∃ m, W 0 m σ H1) ∧ ∀ i m σ H, W i m σ H →
  (J.stop i H ∧ D.nx σ H) ∨ (J.go i H ∧ ∃ N : St → Hp → Prop, (∀ σ' H', N σ' H' → ∃ m', m' < m ∧ W (i + 1) m' σ' H') ∧ ∀ x H', J.yld i H x H' → g x σ H' fun σ2 H2 => tb { D with nx := N, ct := N, bk := D.nx } σ2 H2)
/-- the records at fp as they stand -/
def pinsAt (fp : List Addr) (h : Heap) : List (Addr × Obj) := fp.filterMap fun b => (h.get? b).map fun o => (b, o)
theorem mem_pinsAt {fp : List Addr} {h : Heap} {b : Addr} {o : Obj} (hb : b ∈ fp) (e : h.get? b = some o) : (b, o) ∈ pinsAt fp h := List.mem_filterMap.mpr ⟨b, hb, by rw [e]; rfl⟩
theorem of_pinsAt {fp : List Addr} {h : Heap} {p : Addr × Obj} (hp : p ∈ pinsAt fp h) : p.1 ∈ fp ∧ h.get? p.1 = some p.2 := by
  obtain ⟨b, hb, e⟩ := List.mem_filterMap.mp hp
  cases q : h.get? b with
  | none => rw [q] at e; cases e
  | some o =>
    rw [q] at e
    have e' : (b, o) = p := Option.some.inj e
    subst e'
    exact ⟨hb, q⟩
theorem Inv.pinned {pins : List (Addr × Obj)} {σ : St} {H : Hp} {s : Shared} {fp : List Addr} (I : Inv X pins σ H s) (hf : ∀ b ∈ fp, FpOk X pins H b) (ho : ∀ b ∈ fp, ∃ o, s.heap.get? b = some o ∧ ∀ v, o.data ≠ .cell v) : Inv X (pins ++ pinsAt fp s.heap) σ H s :=
  I.pins_of fun p hp => (List.mem_append.mp hp).elim (fun z => I.pin p (List.mem_append_right _ z)) fun z => by
    obtain ⟨hb, e⟩ := of_pinsAt z
    obtain ⟨f0, f1, f2, _⟩ := hf p.1 hb
    obtain ⟨o, e', d⟩ := ho p.1 hb
    rw [e] at e'; cases e'
    exact ⟨e, f0, f1, f2, d⟩
theorem Inv.unpinned {pins pl : List (Addr × Obj)} {σ : St} {H : Hp} {s : Shared} (I : Inv X (pins ++ pl) σ H s) : Inv X pins σ H s := I.pins_of fun p hp => I.pin p (List.mem_append_right _ (List.mem_append_left _ hp))
theorem ps_for {iter : Expr} {body : List Stmt} {wi : TI} {g : TG} {tb : TS} {pos : Pos} (hp : PassesOwn (model X.prog X.w) X.A X.env X.xe) (hc : X.calm = true) (hi : PI X tg iter wi) (hg : PG X tg g) (hb : PSs X body tb)
    (hs : ∀ x, foldedSetIterable iter X.env x = pure x := by intro _; rfl) : PS X (.For tg iter body [] pos) (tFor wi g tb) := by
  intro pins s σ H D I h
  refine wpAny_For (thn (hi pins s σ H _ I h) fun v s1 h1 => thn h1 fun itv s2 h2 => ?_) hs
  obtain ⟨it, fp, tn, J, H2, e, I2, T, st2, f2, W, ⟨m0, w0⟩, turn⟩ := h2
  subst e
  -- what stays true of the iterator's objects through the loop
  have stat : ∀ {H' : Hp}, (∀ b ∈ fp, H' b = none) → ∀ b ∈ fp, FpOk X pins H' b := fun hn b hb => ⟨hn b hb, (f2 b hb).2⟩
  refine codeAny_forLoop_any (fun n s' => ∃ i σ' H', Inv X pins σ' H' s' ∧ tn i s'.heap ∧ (∀ b ∈ fp, H' b = none) ∧ W i n σ' H') ?_ m0 ⟨0, σ, H2, I2, st2, fun b hb => (f2 b hb).1, w0⟩
  rintro n s3 ⟨i, σ3, H3, I3, st3, fr3, w3⟩
  rcases turn i n σ3 H3 w3 with ⟨stop, qn⟩ | ⟨go, N, hN, step⟩
  · refine wpAny_passesOwn hp (thn (T.done X rfl rfl rfl hc i pins s3 σ3 H3 X.xe I3 (stat fr3) st3 stop) fun r s4 ⟨hr, I4⟩ => ?_)
    subst hr
    exact wpAny_execs_nil ⟨σ3, H3, I4, qn⟩
  · refine wpAny_passesOwn hp (thn (T.item X rfl rfl rfl hc i pins s3 σ3 H3 X.xe I3 (stat fr3) st3 go) fun r s4 ⟨u, hr, h4⟩ => ?_)
    subst hr
    refine wpAny_passesOwn hp (thn h4 fun _ s5 ⟨x, H5, I5, r5, y5, st5, fr5⟩ => ?_)
    have I5' := I5.pinned (stat fr5) (T.obj _ _ st5)
    refine wpAny_passesOwn hp (thn (hg _ s5 σ3 H5 x u _ I5' r5 (step x H5 y5)) fun _ s6 ⟨σ6, H6, I6, q6⟩ => ?_)
    refine wpAny_passesOwn hp (thn (hb _ s6 σ6 H6 _ I6 q6) fun f s7 q7 => ?_)
    have again : ∀ {σ7 : St} {H7 : Hp}, Inv X (pins ++ pinsAt fp s5.heap) σ7 H7 s7 → N σ7 H7 → ∃ m, m < n ∧ ∃ i σ' H', Inv X pins σ' H' s7 ∧ tn i s7.heap ∧ (∀ b ∈ fp, H' b = none) ∧ W i m σ' H' := fun {σ7 H7} I7 n7 => by
      obtain ⟨m', hm, w7⟩ := hN σ7 H7 n7
      refine ⟨m', hm, i + 1, σ7, H7, I7.unpinned, T.keep _ _ _ st5 fun b hb o e => (I7.pin (b, o) (List.mem_append_right _ (List.mem_append_right _ (mem_pinsAt hb e)))).1, fun b hb => ?_, w7⟩
      obtain ⟨o, e, d⟩ := T.obj _ _ st5 b hb
      exact (I7.pin (b, o) (List.mem_append_right _ (List.mem_append_right _ (mem_pinsAt hb e)))).2.1
    cases f with
    | next => obtain ⟨σ7, H7, I7, n7⟩ := q7; exact again I7 n7
    | cont => obtain ⟨σ7, H7, I7, n7⟩ := q7; exact again I7 n7
    | brk => obtain ⟨σ7, H7, I7, q7⟩ := q7; exact ⟨σ7, H7, I7.unpinned, q7⟩
    | ret v => obtain ⟨x7, σ7, H7, I7, r7, q7⟩ := q7; exact ⟨x7, σ7, H7, I7.unpinned, r7, q7⟩
end

end L2

namespace L2
open PySem PySem.Spec PyProof.Rows

abbrev R2 := V → V → Hp → VK → Prop
/-- a two-place operation on values: f is binaryOp op, inplaceOp op or compareOp op -/
def OpR (X : Cx) (f : Value → Value → Sem Value) (r : R2) : Prop :=
  ∀ (pins : List (Addr × Obj)) (s : Shared) (σ : St) (H : Hp) (x y : V) (v u : Value) (Q : VK), Inv X pins σ H s → RelV x v → RelV y u → r x y H Q →
    wpAny (model X.prog X.w) X.A (f v u) (EP X pins σ Q) X.xe s
/-- a call of a value that is known (a builtin, a type) with values -/
def CallR (X : Cx) (f : Value) (r : List V → Hp → VK → Prop) : Prop :=
  ∀ (pins : List (Addr × Obj)) (s : Shared) (σ : St) (H : Hp) (xs : List V) (us : List Value) (Q : VK), Inv X pins σ H s → Vals xs us → r xs H Q →
    wpAny (model X.prog X.w) X.A (call f us) (EP X pins σ Q) X.xe s
def tOp (r : R2) (ta tb : TE) : TE := fun σ H Q => ta σ H fun x H1 => tb σ H1 fun y H2 => r x y H2 Q
/-- ints in, under C, and a value out -/
def rI (C : Int → Int → Prop) (g : Int → Int → V) : R2 := fun x y H Q => ∃ i j, x = .int i ∧ y = .int j ∧ C i j ∧ Q (g i j) H
def rI0 (g : Int → Int → V) : R2 := fun x y H Q => ∃ i j, x = .int i ∧ y = .int j ∧ Q (g i j) H
section
variable {X : Cx} {a b c : Expr} {ta tb tc : TE} {pos : Pos}

theorem binT (ha : PE X a ta) (hb : PE X b tb) {pins : List (Addr × Obj)} {s : Shared} {σ : St} {H : Hp} {R : V → V → Hp → Prop} (I : Inv X pins σ H s)
    (h : ta σ H fun x H1 => tb σ H1 fun y H2 => R x y H2) {Q : Value → Shared → Prop} {f : Value → Value → Sem Value}
    (hf : ∀ v u s2 x y H2, Inv X pins σ H2 s2 → RelV x v → RelV y u → R x y H2 → wpAny (model X.prog X.w) X.A (f v u) Q X.xe s2) :
    wpAny (model X.prog X.w) X.A (eval a X.env) (fun v s₁ => wpAny (model X.prog X.w) X.A (eval b X.env) (fun u s₂ => wpAny (model X.prog X.w) X.A (f v u) Q X.xe s₂) X.xe s₁) X.xe s := by
  refine thn (ha pins s σ H _ I h) fun v s1 ⟨x, H1, I1, r1, q1⟩ => ?_
  refine thn (hb pins s1 σ H1 _ I1 q1) fun u s2 ⟨y, H2, I2, r2, q2⟩ => ?_
  exact hf v u s2 x y H2 I2 r1 r2 q2

theorem pe_op {op : Operator} {r : R2} (ho : OpR X (binaryOp op) r) (ha : PE X a ta) (hb : PE X b tb) : PE X (.BinOp a op b pos) (tOp r ta tb) := by
  intro pins s σ H Q I h
  exact wpAny_BinOp (binT ha hb I h fun v u s2 x y H2 I2 rx ry q => ho pins s2 σ H2 x y v u Q I2 rx ry q)
/-! ### ints -/
theorem opI {f : Value → Value → Sem Value} {C : Int → Int → Prop} {g : Int → Int → Int}
    (rule : ∀ (i j : Int) (t u : Tok) (s : Shared) (Q : Value → Shared → Prop) (E : Value → Shared → Prop), C i j → Q (.int (g i j) s.toks) { s with toks := s.toks + 1 } → wpAny (model X.prog X.w) X.A (f (.int i t) (.int j u)) Q E s) :
    OpR X f (rI C fun i j => .int (g i j)) := by
  intro pins s σ H x y v u Q I rx ry h
  obtain ⟨i, j, rfl, rfl, hc, q⟩ := h
  obtain ⟨t, rfl⟩ := rx
  obtain ⟨t', rfl⟩ := ry
  exact rule i j t t' s _ _ hc ⟨.int (g i j), H, I.tok _, ⟨_, rfl⟩, q⟩
theorem opI0 {f : Value → Value → Sem Value} {g : Int → Int → Int}
    (rule : ∀ (i j : Int) (t u : Tok) (s : Shared) (Q : Value → Shared → Prop) (E : Value → Shared → Prop), Q (.int (g i j) s.toks) { s with toks := s.toks + 1 } → wpAny (model X.prog X.w) X.A (f (.int i t) (.int j u)) Q E s) :
    OpR X f (rI0 fun i j => .int (g i j)) := by
  intro pins s σ H x y v u Q I rx ry h
  obtain ⟨i, j, rfl, rfl, q⟩ := h
  obtain ⟨t, rfl⟩ := rx
  obtain ⟨t', rfl⟩ := ry
  exact rule i j t t' s _ _ ⟨.int (g i j), H, I.tok _, ⟨_, rfl⟩, q⟩
theorem opB0 {f : Value → Value → Sem Value} {g : Int → Int → Bool}
    (rule : ∀ (i j : Int) (t u : Tok) (s : Shared) (Q : Value → Shared → Prop) (E : Value → Shared → Prop), Q (.bool (g i j)) s → wpAny (model X.prog X.w) X.A (f (.int i t) (.int j u)) Q E s) :
    OpR X f (rI0 fun i j => .bl (g i j)) := by
  intro pins s σ H x y v u Q I rx ry h
  obtain ⟨i, j, rfl, rfl, q⟩ := h
  obtain ⟨t, rfl⟩ := rx
  obtain ⟨t', rfl⟩ := ry
  exact rule i j t t' s _ _ ⟨.bl (g i j), H, I, rfl, q⟩

def CPow (i j : Int) : Prop := 0 ≤ j ∧ j ≤ 1000000 ∧ i.natAbs < 2 ^ 64
def CMul (i j : Int) : Prop := (-(2 ^ 64) < i ∧ i < 2 ^ 64) ∨ (-(2 ^ 64) < j ∧ j < 2 ^ 64)
theorem CMul.ok {i j : Int} (h : CMul i j) : IntMulOk i j := by
  rcases h with ⟨h1, h2⟩ | ⟨h1, h2⟩
  · exact .of_left (intBits_le_64 h1 h2)
  · exact .of_right (intBits_le_64 h1 h2)
theorem op_add : OpR X (binaryOp .Add) (rI0 fun i j => .int (i + j)) := opI0 fun _ _ _ _ _ _ _ q => add_int q
/-- % by a positive divisor of any size -/
theorem op_mod : OpR X (binaryOp .Mod) (rI (fun _ j => 0 < j) fun i j => .int (i % j)) := opI fun i j _ _ _ _ _ hc q => by
  have h1 : (0 : Int) < j := hc
  exact mod_int' (by omega) (by rw [Int.fmod_eq_emod_of_nonneg i (by omega)]; exact q)
theorem op_pow : OpR X (binaryOp .Pow) (rI CPow fun i j => .int (i ^ j.toNat)) := opI fun _ _ _ _ _ _ _ hc q => pow_int_small hc.1 hc.2.1 hc.2.2 q
end

/-! ### comparisons -/
/-- the scalars that == tells apart as data does -/
def scal : V → V → Bool
  | .non, .non => true | .non, .int _ => true | .int _, .non => true | .non, .bl _ => true | .bl _, .non => true | .non, .str _ => true | .str _, .non => true
  | .int _, .int _ => true | .bl _, .bl _ => true | .str _, .str _ => true | .byt _, .byt _ => true
  | .int _, .str _ => true | .str _, .int _ => true | .bl _, .str _ => true | .str _, .bl _ => true
  | _, _ => false
def rEq : R2 := fun x y H Q => scal x y = true ∧ Q (.bl (decide (x = y))) H
def rNe : R2 := fun x y H Q => scal x y = true ∧ Q (.bl (!decide (x = y))) H

theorem dec_int {i j : Int} : decide (V.int i = V.int j) = (i == j) := by
  rw [Bool.eq_iff_iff]
  simp
theorem dec_bl {i j : Bool} : decide (V.bl i = V.bl j) = (i == j) := by
  rw [Bool.eq_iff_iff]
  simp
theorem dec_str {i j : Str} : decide (V.str i = V.str j) = (i == j) := by
  rw [Bool.eq_iff_iff]
  simp
theorem dec_byt {i j : Array UInt8} : decide (V.byt i = V.byt j) = (i.toList == j.toList) := by
  rw [Bool.eq_iff_iff]
  cases i
  cases j
  simp

section
variable {X : Cx} {a b c : Expr} {ta tb tc : TE} {pos : Pos}
theorem fin_bl {pins : List (Addr × Obj)} {σ : St} {H : Hp} {s : Shared} {Q : VK} {k k' : Bool} (I : Inv X pins σ H s) (q : Q (.bl k) H) (e : k = k') : EP X pins σ Q (.bool k') s := by
  subst e
  exact ⟨.bl k, H, I, rfl, q⟩
theorem op_eq : OpR X (compareOp .Eq) rEq := by
  intro pins s σ H x y v u Q I rx ry h
  obtain ⟨hs, q⟩ := h
  cases x with
  | non =>
    cases rx
    cases y with
    | non => cases ry; exact PySem.EqNone.eq_none_none (fin_bl I q (by simp))
    | bl j => cases ry; exact PySem.EqNone.eq_none_bool (fin_bl I q (by simp))
    | int j => obtain ⟨t', rfl⟩ := ry; exact PySem.EqNone.eq_none_int (fin_bl I q (by simp))
    | str j => obtain ⟨t', rfl⟩ := ry; exact PySem.EqNone.eq_none_str (fin_bl I q (by simp))
    | _ => exact absurd (show false = true from hs) Bool.false_ne_true
  | bl i =>
    cases rx
    cases y with
    | non => cases ry; exact PySem.EqNone.eq_bool_none (fin_bl I q (by simp))
    | bl j => cases ry; exact eq_bool (fin_bl I q dec_bl)
    | str j => obtain ⟨t', rfl⟩ := ry; exact PySem.EqMixed.eq_bool_str (fin_bl I q (by simp))
    | _ => exact absurd (show false = true from hs) Bool.false_ne_true
  | int i =>
    obtain ⟨t, rfl⟩ := rx
    cases y with
    | non => cases ry; exact PySem.EqNone.eq_int_none (fin_bl I q (by simp))
    | int j => obtain ⟨t', rfl⟩ := ry; exact eq_int (fin_bl I q dec_int)
    | str j => obtain ⟨t', rfl⟩ := ry; exact PySem.EqMixed.eq_int_str (fin_bl I q (by simp))
    | _ => exact absurd (show false = true from hs) Bool.false_ne_true
  | str i =>
    obtain ⟨t, rfl⟩ := rx
    cases y with
    | non => cases ry; exact PySem.EqNone.eq_str_none (fin_bl I q (by simp))
    | bl j => cases ry; exact PySem.EqMixed.eq_str_bool (fin_bl I q (by simp))
    | int j => obtain ⟨t', rfl⟩ := ry; exact PySem.EqMixed.eq_str_int (fin_bl I q (by simp))
    | str j => obtain ⟨t', rfl⟩ := ry; exact eq_str (fin_bl I q dec_str)
    | _ => exact absurd (show false = true from hs) Bool.false_ne_true
  | byt i =>
    obtain ⟨t, rfl⟩ := rx
    cases y with
    | byt j => obtain ⟨t', rfl⟩ := ry; exact PySem.W.eq_bytes (fin_bl I q dec_byt)
    | _ => exact absurd (show false = true from hs) Bool.false_ne_true
  | _ => cases y <;> exact absurd (show false = true from hs) Bool.false_ne_true
theorem op_ne : OpR X (compareOp .NotEq) rNe := by
  intro pins s σ H x y v u Q I rx ry h
  obtain ⟨hs, q⟩ := h
  cases x with
  | non =>
    cases rx
    cases y with
    | non => cases ry; exact PySem.EqNone.ne_none_none (fin_bl I q (by simp))
    | bl j => cases ry; exact PySem.EqNone.ne_none_bool (fin_bl I q (by simp))
    | int j => obtain ⟨t', rfl⟩ := ry; exact PySem.EqNone.ne_none_int (fin_bl I q (by simp))
    | str j => obtain ⟨t', rfl⟩ := ry; exact PySem.EqNone.ne_none_str (fin_bl I q (by simp))
    | _ => exact absurd (show false = true from hs) Bool.false_ne_true
  | bl i =>
    cases rx
    cases y with
    | non => cases ry; exact PySem.EqNone.ne_bool_none (fin_bl I q (by simp))
    | bl j => cases ry; exact ne_bool (fin_bl I q (congrArg not dec_bl))
    | str j => obtain ⟨t', rfl⟩ := ry; exact PySem.EqMixed.ne_bool_str (fin_bl I q (by simp))
    | _ => exact absurd (show false = true from hs) Bool.false_ne_true
  | int i =>
    obtain ⟨t, rfl⟩ := rx
    cases y with
    | non => cases ry; exact PySem.EqNone.ne_int_none (fin_bl I q (by simp))
    | int j => obtain ⟨t', rfl⟩ := ry; exact ne_int (fin_bl I q (congrArg not dec_int))
    | str j => obtain ⟨t', rfl⟩ := ry; exact PySem.EqMixed.ne_int_str (fin_bl I q (by simp))
    | _ => exact absurd (show false = true from hs) Bool.false_ne_true
  | str i =>
    obtain ⟨t, rfl⟩ := rx
    cases y with
    | non => cases ry; exact PySem.EqNone.ne_str_none (fin_bl I q (by simp))
    | bl j => cases ry; exact PySem.EqMixed.ne_str_bool (fin_bl I q (by simp))
    | int j => obtain ⟨t', rfl⟩ := ry; exact PySem.EqMixed.ne_str_int (fin_bl I q (by simp))
    | str j => obtain ⟨t', rfl⟩ := ry; exact ne_str (fin_bl I q (congrArg not dec_str))
    | _ => exact absurd (show false = true from hs) Bool.false_ne_true
  | byt i =>
    obtain ⟨t, rfl⟩ := rx
    cases y with
    | byt j => obtain ⟨t', rfl⟩ := ry; exact PySem.W.ne_bytes (fin_bl I q (congrArg not dec_byt))
    | _ => exact absurd (show false = true from hs) Bool.false_ne_true
  | _ => cases y <;> exact absurd (show false = true from hs) Bool.false_ne_true

theorem op_lt : OpR X (compareOp .Lt) (rI0 fun i j => .bl (decide (i < j))) := opB0 fun _ _ _ _ _ _ _ q => lt_int q
theorem op_le : OpR X (compareOp .LtE) (rI0 fun i j => .bl (decide (i ≤ j))) := opB0 fun _ _ _ _ _ _ _ q => le_int q
theorem op_gt : OpR X (compareOp .Gt) (rI0 fun i j => .bl (decide (j < i))) := opB0 fun _ _ _ _ _ _ _ q => gt_int q
theorem op_ge : OpR X (compareOp .GtE) (rI0 fun i j => .bl (decide (j ≤ i))) := opB0 fun _ _ _ _ _ _ _ q => ge_int q
/-- the one string within the other -/
theorem op_in_str : OpR X (compareOp .In) (fun x y H Q => ∃ i j, x = .str i ∧ y = .str j ∧ Q (.bl (!(Builtin.Str.occurrences j i 0 j.length 1).isEmpty)) H) := by
  intro pins s σ H x y v u Q I rx ry h
  obtain ⟨i, j, rfl, rfl, q⟩ := h
  obtain ⟨t, rfl⟩ := rx
  obtain ⟨t', rfl⟩ := ry
  exact in_str (fin_bl I q rfl)

/-- two rules for one operation: by cases -/
theorem OpR.or {f : Value → Value → Sem Value} {r r' : R2} (h : OpR X f r) (h' : OpR X f r') : OpR X f (fun x y H Q => r x y H Q ∨ r' x y H Q) := by
  intro pins s σ H x y v u Q I rx ry q
  rcases q with q | q
  · exact h pins s σ H x y v u Q I rx ry q
  · exact h' pins s σ H x y v u Q I rx ry q

theorem nomark (b : Expr) {op : CmpOp} (h : op ≠ .In := by decide) (h2 : op ≠ .NotIn := by decide) : behindInMarks op b = false := by
  have e1 : (op == CmpOp.In) = false := by cases op <;> first | rfl | exact absurd rfl h
  have e2 : (op == CmpOp.NotIn) = false := by cases op <;> first | rfl | exact absurd rfl h2
  cases b <;> simp [behindInMarks, e1, e2]
/-- a comparison as a value; hm: nomark b, or (for in, not in) by with_unfolding_all rfl -/
theorem pe_cmpR {op : CmpOp} {r : R2} (ho : OpR X (compareOp op) r) (ha : PE X a ta) (hb : PE X b tb) (hm : behindInMarks op b = false) : PE X (.Compare a [op] [b] pos) (tOp r ta tb) := by
  intro pins s σ H Q I h
  exact wpAny_Compare1 (binT ha hb I h fun v u s2 x y H2 I2 rx ry q => ho pins s2 σ H2 x y v u Q I2 rx ry q) hm
/-- a reading of a value as a test -/
def tTest (t : TE) : TT := fun σ H Q => t σ H fun x H' => ∃ k, x = .bl k ∧ Q k H'
theorem pt_cmpR {op : CmpOp} {r : R2} (ho : OpR X (compareOp op) r) (ha : PE X a ta) (hb : PE X b tb) (hm : behindInMarks op b = false) : PT X (.Compare a [op] [b] pos) (tTest (tOp r ta tb)) := by
  intro pins s σ H Q I h
  refine wpAny_isTrue_Compare1 (thn (ha pins s σ H _ I h) fun v s1 ⟨x, H1, I1, r1, q1⟩ => thn (hb pins s1 σ H1 _ I1 q1) fun u s2 ⟨y, H2, I2, r2, q2⟩ =>
    thn (ho pins s2 σ H2 x y v u _ I2 r1 r2 q2) fun c s3 ⟨z, H3, I3, r3, k, e, q3⟩ => ?_) hm
  subst e
  cases r3
  exact wpAny_truthy_bool ⟨H3, I3, q3⟩
/-- a op1 b op2 c -/
def tChain (r r' : R2) (ta tb tc : TE) : TE := fun σ H Q => ta σ H fun x H1 => tb σ H1 fun y H2 => r x y H2 fun z H3 => ∃ k, z = .bl k ∧
  (if k = true then tc σ H3 fun w' H4 => r' y w' H4 Q else Q (.bl false) H3)
theorem pe_chain {op op' : CmpOp} {r r' : R2} (ho : OpR X (compareOp op) r) (ho' : OpR X (compareOp op') r') (ha : PE X a ta) (hb : PE X b tb) (hc : PE X c tc)
    (hm : lastMarks [op, op'] [b, c] = false := by with_unfolding_all rfl) : PE X (.Compare a [op, op'] [b, c] pos) (tChain r r' ta tb tc) := by
  intro pins s σ H Q I h
  refine Compare_chain (thn (ha pins s σ H _ I h) fun v s1 ⟨x, H1, I1, r1, q1⟩ => chain_link (thn (hb pins s1 σ H1 _ I1 q1) fun u s2 ⟨y, H2, I2, r2, q2⟩ =>
    thn (ho pins s2 σ H2 x y v u _ I2 r1 r2 q2) fun d s3 ⟨z, H3, I3, r3, k, e, q3⟩ => ?_)) hm
  subst e
  cases r3
  refine wpAny_truthy_bool ?_
  cases k with
  | false => exact ite_ff ⟨.bl false, H3, I3, rfl, q3⟩
  | true => exact ite_tt (chain_last (thn (hc pins s3 σ H3 _ I3 q3) fun w' s4 ⟨z', H4, I4, r4, q4⟩ => ho' pins s4 σ H4 y z' u w' Q I4 r2 r4 q4))
theorem pt_chain {op op' : CmpOp} {r r' : R2} (ho : OpR X (compareOp op) r) (ho' : OpR X (compareOp op') r') (ha : PE X a ta) (hb : PE X b tb) (hc : PE X c tc)
    (hm : lastMarks [op, op'] [b, c] = false := by with_unfolding_all rfl) : PT X (.Compare a [op, op'] [b, c] pos) (tTest (tChain r r' ta tb tc)) := by
  intro pins s σ H Q I h
  refine isTrue_chain (thn (ha pins s σ H _ I h) fun v s1 ⟨x, H1, I1, r1, q1⟩ => test_link (thn (hb pins s1 σ H1 _ I1 q1) fun u s2 ⟨y, H2, I2, r2, q2⟩ =>
    thn (ho pins s2 σ H2 x y v u _ I2 r1 r2 q2) fun d s3 ⟨z, H3, I3, r3, k, e, q3⟩ => ?_)) hm
  subst e
  cases r3
  refine wpAny_truthy_bool ?_
  cases k with
  | false =>
    obtain ⟨k', e', q'⟩ := q3
    cases e'
    exact ite_ff ⟨H3, I3, q'⟩
  | true =>
    refine ite_tt (test_last (thn (hc pins s3 σ H3 _ I3 q3) fun w' s4 ⟨z', H4, I4, r4, q4⟩ => thn (ho' pins s4 σ H4 y z' u w' _ I4 r2 r4 q4) fun d' s5 ⟨z2, H5, I5, r5, k2, e2, q5⟩ => ?_))
    subst e2
    cases r5
    exact wpAny_truthy_bool ⟨H5, I5, q5⟩

theorem line63 : (sizeLine : Nat) < 2 ^ 63 := by rw [sizeLine_eq]; decide
theorem op_add_str : OpR X (binaryOp .Add) (fun x y H Q => ∃ i j, x = .str i ∧ y = .str j ∧ i.length + j.length ≤ sizeLine ∧ Q (.str (i ++ j)) H) := by
  intro pins s σ H x y v u Q I rx ry h
  obtain ⟨i, j, rfl, rfl, hz, q⟩ := h
  obtain ⟨t, rfl⟩ := rx
  obtain ⟨t', rfl⟩ := ry
  exact add_str (fun t' tk => ⟨.str (i ++ j), H, I.tok _, ⟨_, rfl⟩, q⟩) hz
/-! ### scalar builtins, by CallR -/
theorem vals1 {x : V} {us : List Value} (r : Vals [x] us) : ∃ u, us = [u] ∧ RelV x u := by
  cases r with
  | cons r1 r2 => cases r2; exact ⟨_, rfl, r1⟩
theorem vals2 {x y : V} {us : List Value} (r : Vals [x, y] us) : ∃ u w', us = [u, w'] ∧ RelV x u ∧ RelV y w' := by
  cases r with
  | cons r1 r2 =>
    cases r2 with
    | cons r3 r4 => cases r4; exact ⟨_, _, rfl, r1, r3⟩
theorem call_str_int : CallR X (.type "str") (fun xs H Q => ∃ i, xs = [.int i] ∧ i.natAbs.log2 < 1920 ∧ Q (.str (toString i)) H) := by
  intro pins s σ H xs us Q I r h
  obtain ⟨i, rfl, hz, q⟩ := h
  obtain ⟨u, rfl, t, rfl⟩ := vals1 r
  exact PySem.P.str_of_int hz ⟨.str _, H, I.tok _, ⟨_, rfl⟩, q⟩
end
end L2

namespace L2
open PySem PySem.Spec PyProof.Rows

/-! ### an instance, its attributes a map -/
structure ObjM (h : Heap) (x dx C : Addr) (mA : Str → Option Value) : Prop where
  obj : h.get? x = some (PySem.W.instObj C dx)
  ns : h.Ns1 dx mA
  ne : dx ≠ x

theorem lookIn_ns {h : Heap} {dx : Addr} {mA : Str → Option Value} (n : h.Ns1 dx mA) : ∃ od, h.get? dx = some od ∧ ∀ name, PySem.W.lookIn name od = some (mA name) := by
  obtain ⟨o, es, ep, ho, hd, hk, _, hm⟩ := n
  refine ⟨o, ho, fun name => ?_⟩
  have e := hm name
  unfold nsFind findBy at e
  rw [← Array.find?_toList] at e
  unfold PySem.W.lookIn
  rw [hd]
  dsimp only
  split
  · rename_i y q
    rw [q] at e
    exact congrArg some e
  · rename_i q
    rw [q] at e
    have a : es.toList.any (·.refKey) = false := by
      rw [List.any_eq_false]
      intro y hy
      obtain ⟨z, t, hkey⟩ := hk y (Array.mem_toList_iff.mp hy)
      simp [DictEntry.refKey, hkey]
    have a' : ¬ es.toList.any (·.refKey) = true := by rw [a]; exact Bool.false_ne_true
    rw [if_neg a']
    exact congrArg some e

theorem ObjM.look {h : Heap} {x dx C : Addr} {mA : Str → Option Value} (I : ObjM h x dx C mA) : ∃ od, PySem.W.InstAt h x (PySem.W.instObj C dx) C (some od) ∧ ∀ name, PySem.W.lookIn name od = some (mA name) :=
  let ⟨od, ho, hl⟩ := lookIn_ns I.ns
  ⟨od, ⟨I.obj, rfl, rfl, ho⟩, hl⟩

section
variable {prog : Program} {w : World} {A : Around} {E : Value → Shared → Prop} {s : Shared} {K : PySem.W.Frag} {x dx C f : Addr} {mA : Str → Option Value} {name : Str} {v : Value}

end

section
variable {P : Program} {w : World} {H H' : Hp} {h h' : Heap} {a C dx : Addr} {fs fs' : List (Str × V)}
theorem ins_get (hok : HOk P w H h) (e : H a = some (.ins C dx fs)) : ∃ mA, ObjM h a dx C mA ∧ (∀ f, RelO (fs.lookup f) (mA f)) ∧ PySem.Within mA (fs.map (·.1)) ∧ fs.length ≤ 1000 ∧ H dx = some (.own a) := by
  obtain ⟨d, z, ne, ob, mA, n, r, q⟩ := (show ObjOk P w H h a (.ins C dx fs) from hok a _ e)
  exact ⟨mA, ⟨ob, n, ne⟩, r, q, z, d⟩
end

/-! ### what of the text a class must have -/
structure Cls (K : PySem.W.Frag) (C : Addr) : Prop where
  pg : PySem.W.plainGet K C Str.empty = true
  hd : PySem.W.hasDictIn K C = true
  po : PySem.W.plainOver K C = true
  sa : PySem.W.findIn K (.ref C) "__setattr__" = some (some (.builtin "object.__setattr__"))
theorem Cls.get {K : PySem.W.Frag} {C : Addr} (c : Cls K C) (f : Str) : PySem.W.plainGet K C f = true := c.pg
/-- a constant of the class -/
structure Con (K : PySem.W.Frag) (C : Addr) (f : Str) (v : V) (u : Value) : Prop where
  at_ : PySem.W.findIn K (.ref C) f = some (some u)
  rel : RelV v u
  get : PySem.W.specialIn K u "__get__" = some none
  cp : PySem.W.copiedNames.contains f = false
/-- a method: a plain def of the class or of one above it -/
structure Meth (K : PySem.W.Frag) (C : Addr) (m : Str) (f : Addr) : Prop where
  at_ : PySem.W.findIn K (.ref C) m = some (some (.ref f))
  fn : PySem.W.isFn K (.ref f) = true
  kp : PySem.W.keepIn K (.ref f) = true

section
variable {X : Cx} {pins : List (Addr × Obj)} {σ : St} {H : Hp} {s : Shared} {a C dx : Addr} {fs : List (Str × V)} {f : Str} {v : V} {A : Around} {E : Value → Shared → Prop}

/-- a new instance, tracked, without attributes -/
theorem Inv.made (I : Inv X pins σ H s) : Inv X pins σ (upd (upd H s.heap.objs.size (.own (s.heap.objs.size + 1))) (s.heap.objs.size + 1) (.ins C s.heap.objs.size []))
    { s with heap := (s.heap.push PySem.W.emptyDict).push (PySem.W.instObj C s.heap.objs.size) } := by
  have e1 : (s.heap.push PySem.W.emptyDict).get? s.heap.objs.size = some PySem.W.emptyDict := Heap.get?_push_size s.heap rfl
  have e2 : ((s.heap.push PySem.W.emptyDict).push (PySem.W.instObj C s.heap.objs.size)).get? (s.heap.objs.size + 1) = some (PySem.W.instObj C s.heap.objs.size) := by
    have := Heap.get?_push_size (s.heap.push PySem.W.emptyDict) (o := PySem.W.instObj C s.heap.objs.size) rfl
    rwa [Heap.size_push] at this
  have e3 : (s.heap.push PySem.W.emptyDict).Ns s.heap.objs.size (fun _ => none) := ⟨PySem.W.emptyDict, #[], _, e1, rfl, (fun e he => absurd he (by simp)), fun _ => rfl⟩
  have I1 := I.laid (a := s.heap.objs.size) (o := .own (s.heap.objs.size + 1)) (h' := s.heap.push PySem.W.emptyDict) (t' := s.toks) (fun b u q => Heap.get?_push_of_some _ q) (Nat.le_refl _) ⟨_, e1⟩
  refine I1.laid (a := s.heap.objs.size + 1) (o := .ins C s.heap.objs.size []) (t' := s.toks) (fun b u q => Heap.get?_push_of_some _ q) (Nat.le_of_eq (Heap.size_push _ _)) ?_
  have ne : s.heap.objs.size ≠ s.heap.objs.size + 1 := Nat.ne_of_lt (Nat.lt_succ_self _)
  refine ⟨by rw [upd_ne ne, upd_same], Nat.zero_le _, ne, e2, fun _ => none, (Heap.Ns1.of_empty e3).at fun o q => Heap.get?_push_of_some _ q, fun _ => True.intro, fun y hy => absurd rfl hy⟩

end

section
variable {X : Cx} {o e value : Expr} {f : Str} {pos pos' tpos : Pos} {ta tv : TE}
end

/-! ### isinstance -/
section
variable {X : Cx} {pins : List (Addr × Obj)} {σ : St} {H : Hp} {s : Shared} {A : Around} {E : Value → Shared → Prop} {Q : Value → Shared → Prop} {c : Value} {b : Bool}
/-- the type of a value, as the fragment's deciders take it; for an instance its class -/
inductive TyOf (K : PySem.W.Frag) (H : Hp) : V → Value → Prop where
  | non : TyOf K H .non (.type "NoneType")
  | bl (x : Bool) : TyOf K H (.bl x) (.type "bool")
  | int (i : Int) : TyOf K H (.int i) (.type "int")
  | str (x : Str) : TyOf K H (.str x) (.type "str")
  | flt (x : UInt64) : TyOf K H (.flt x) (.type "float")
  | lst {a : Addr} {xs : List V} (e : H a = some (.lst xs)) : TyOf K H (.ref a) (.type "list")
  | frz {a : Addr} {o : Obj} {xs : List V} (e : H a = some (.frz o (.lst xs))) : TyOf K H (.ref a) (.type "list")
  | tup {a : Addr} {xs : List V} (e : H a = some (.tup xs)) : TyOf K H (.ref a) (.type "tuple")
  | dK {a : Addr} {kvs : List (Key × V)} (e : H a = some (.dK kvs)) : TyOf K H (.ref a) (.type "dict")
  | dT {a : Addr} {kvs : List (List Key × V)} (e : H a = some (.dT kvs)) : TyOf K H (.ref a) (.type "dict")
  | ins {a C dx : Addr} {fs : List (Str × V)} (e : H a = some (.ins C dx fs)) (cl : Cls K C) (ha : PySem.W.findIn K (.ref C) "__class__" = some (some (.builtin "object.__class__")))
      (hn : PySem.W.specialIn K (.builtin "object.__class__") "__get__" = some (some (.builtin "getset_descriptor.__get__"))) (htk : PySem.W.takesIn K (.builtin "object.__class__") = some true)
      (hm : PySem.W.mroIn K C (.type "object") = some true) : TyOf K H (.ref a) (.ref C)
/-- isinstance(x, c) for one class c, a built-in or an own one: kitOne's answer -/
theorem isinst_ok {x : V} {u t : Value} (I : Inv X pins σ H s) (rx : RelV x u) (ty : TyOf X.K H x t) (e : PySem.W.kitOne X.K t c = some b) (h : ∀ tk, Q (.bool b) { s with toks := tk }) :
    wpAny (model X.prog X.w) A (call (.builtin "isinstance") [u, c]) Q E s := by
  cases ty with
  | non => cases (show u = Value.none from rx); exact PySem.W.kia_one PySem.W.kitx_none I.kIn True.intro e (fun z => nomatch z) h
  | bl y => cases (show u = Value.bool y from rx); exact PySem.W.kia_one PySem.W.kitx_bool I.kIn True.intro e (fun z => nomatch z) h
  | int i => obtain ⟨t, q⟩ := (show ∃ t, u = Value.int i t from rx); cases q; exact PySem.W.kia_one PySem.W.kitx_int I.kIn True.intro e (fun z => nomatch z) h
  | str y => obtain ⟨t, q⟩ := (show ∃ t, u = Value.str y t from rx); cases q; exact PySem.W.kia_one PySem.W.kitx_str I.kIn True.intro e (fun z => nomatch z) h
  | flt y => obtain ⟨t, q⟩ := (show ∃ t, u = Value.float y t from rx); cases q; exact PySem.W.kia_one PySem.W.kitx_float I.kIn True.intro e (fun z => nomatch z) h
  | @lst a xs ea =>
    cases (show u = Value.ref a from rx)
    obtain ⟨_, _, n, _, h1⟩ := (show ObjOk X.prog X.w H s.heap a (.lst xs) from I.hok a _ ea)
    exact PySem.W.kia_one PySem.W.kitx_list I.kIn ⟨_, h1, rfl⟩ e (fun z => nomatch z) h
  | @frz a ob xs ea =>
    cases (show u = Value.ref a from rx)
    obtain ⟨_, _, _, n, _, h1⟩ := (show ObjOk X.prog X.w H s.heap a (.frz ob (.lst xs)) from I.hok a _ ea)
    exact PySem.W.kia_one PySem.W.kitx_list I.kIn ⟨_, h1, rfl⟩ e (fun z => nomatch z) h
  | @tup a xs ea =>
    cases (show u = Value.ref a from rx)
    obtain ⟨_, _, _, p⟩ := (show ObjOk X.prog X.w H s.heap a (.tup xs) from I.hok a _ ea)
    obtain ⟨o, h1, h2, _⟩ := p
    exact PySem.W.kia_one PySem.W.kitx_tuple I.kIn ⟨o, h1, h2⟩ e (fun z => nomatch z) h
  | @dK a kvs ea =>
    cases (show u = Value.ref a from rx)
    obtain ⟨_, _, vs, _, p⟩ := (show ObjOk X.prog X.w H s.heap a (.dK kvs) from I.hok a _ ea)
    obtain ⟨o, es, ep, h1, h2, _⟩ := p
    exact PySem.W.kia_one PySem.W.kitx_dict I.kIn ⟨o, h1, h2.1⟩ e (fun z => nomatch z) h
  | @dT a kvs ea =>
    cases (show u = Value.ref a from rx)
    obtain ⟨_, _, xs, _, o, es, ep, h1, h2, _⟩ := (show ObjOk X.prog X.w H s.heap a (.dT kvs) from I.hok a _ ea)
    exact PySem.W.kia_one PySem.W.kitx_dict I.kIn ⟨o, h1, h2.1⟩ e (fun z => nomatch z) h
  | @ins a C dx fs ea cl ha hn htk hm =>
    cases (show u = Value.ref a from rx)
    obtain ⟨mA, O, _⟩ := ins_get I.hok ea
    obtain ⟨od, J, _⟩ := O.look
    exact PySem.W.kia_one (PySem.W.kitx_own (cl.get _) cl.hd ha hn htk hm) I.kIn J e (fun z => nomatch z) h
end
end L2

namespace L2
open PySem PySem.Spec PyProof.Rows

/-! ### room -/
structure Room (k : Nat) (A : Around) : Prop where
  hd : A.handled = none
  dp : A.depth + 3 * k + 5 < recursionLimit
  un : A.units + 16 * k + 200 < cLine
  gd : A.guards = some []
theorem Room.mono {j k : Nat} {A : Around} (r : Room k A) (h : j ≤ k) : Room j A := ⟨r.hd, by have := r.dp; omega, by have := r.un; omega, r.gd⟩
theorem Room.deeper {k : Nat} {A : Around} (r : Room (k + 1) A) (env : Env) : Room k (A.deeper env) :=
  ⟨r.hd, by have := r.dp; show A.depth + 1 + 3 * k + 5 < _; omega, by have := r.un; show A.units + 3 + 16 * k + 200 < _; omega, r.gd⟩
theorem Room.in1 {k : Nat} {A : Around} (r : Room (k + 1) A) : Room k A.in1 :=
  ⟨r.hd, by have := r.dp; show A.depth + 3 * k + 5 < _; omega, by have := r.un; show A.units + 1 + 16 * k + 200 < _; omega, r.gd⟩
theorem Room.depth {k : Nat} {A : Around} (r : Room k A) : A.depth < recursionLimit := by have := r.dp; omega
theorem Room.units {k : Nat} {A : Around} (r : Room k A) : A.units + 64 < cLine := by have := r.un; omega
/-! ### argument lists and displays -/
def tNil : TA := fun _ H Q => Q [] H
def tCons (ta : TE) (tr : TA) : TA := fun σ H Q => ta σ H fun x H1 => tr σ H1 fun xs H2 => Q (x :: xs) H2
section
variable {X : Cx} {e : Expr} {es : List Expr} {te : TE} {t : TA} {pos : Pos}
theorem pa_nil : PA X [] tNil := fun _ _ _ _ H Q I h => Calls.spliced_nil ⟨[], H, I, .nil, h⟩
theorem pa_cons (ha : PE X e te) (hr : PA X es t) (hs : starEach (e :: es) X.env = (false, eval e X.env) :: starEach es X.env := by rfl) : PA X (e :: es) (tCons te t) := by
  intro pos pins s σ H Q I h
  rw [hs]
  show wpAny _ _ (spliced ((false, eval e X.env) :: backTo pos (starEach es X.env))) _ _ s
  refine Calls.spliced_cons (thn (ha pins s σ H _ I h) fun u s1 ⟨x, H1, I1, r1, q1⟩ => ?_)
  exact thn (hr pos pins s1 σ H1 _ I1 q1) fun us s2 ⟨xs, H2, I2, r2, q2⟩ => ⟨x :: xs, H2, I2, .cons r1 r2, q2⟩

/-- a tuple, a list of written items -/
def tTup (t : TA) : TE := fun σ H Q => t σ H fun xs H1 => xs.length ≤ sizeLine ∧ ∀ p, H1 p = none → Q (.ref p) (upd H1 p (.tup xs))
def tLst (t : TA) : TE := fun σ H Q => t σ H fun xs H1 => xs.length ≤ sizeLine ∧ ∀ p, H1 p = none → Q (.ref p) (upd H1 p (.lst xs))
theorem pe_tup {x1} (h : PA X es t) : PE X (.Tuple es x1 pos) (tTup t) := by
  intro pins s σ H Q I hq
  refine wpAny_Tuple_spliced (thn (h pos pins s σ H _ I hq) fun us s1 ⟨xs, H1, I1, r, z, q⟩ => ⟨by rw [← r.length]; exact z, ?_⟩)
  have hf : H1 s1.heap.objs.size = none := I1.hok.fresh (Nat.le_refl _)
  refine ⟨.ref s1.heap.objs.size, upd H1 s1.heap.objs.size (.tup xs), I1.laid (t' := s1.toks) (fun b u e => Heap.get?_push_of_some _ e) (Nat.le_refl _) ?_, rfl, q _ hf⟩
  exact ⟨z, us, r, IsTupD.new _ _⟩
theorem pe_lst (h : PA X es t) : PE X (.List es pos) (tLst t) := by
  intro pins s σ H Q I hq
  refine wpAny_List_spliced (thn (h pos pins s σ H _ I hq) fun us s1 ⟨xs, H1, I1, r, z, q⟩ => ⟨by rw [← r.length]; exact z, ?_⟩)
  have hf : H1 s1.heap.objs.size = none := I1.hok.fresh (Nat.le_refl _)
  refine ⟨.ref s1.heap.objs.size, upd H1 s1.heap.objs.size (.lst xs), I1.laid (t' := s1.toks) (fun b u e => Heap.get?_push_of_some _ e) (Nat.le_refl _) ?_, rfl, q _ hf⟩
  exact ⟨z, us, 0, r, Heap.get?_push_size _ rfl⟩
end

/-! ### what a def promises -/
/-- a def's promise: the bound arguments in the parameters' order, the heap, the wanted end, the wanted exception -/
abbrev Sp := List V → Hp → VK → XK → Prop
/-- how an exception lies behind a call (file 08 gives it): the callers' frames, abstract heap and state ahead of the call, the wish, the exception, the state -/
abbrev CXT := List Env → Hp → Shared → XK → Value → Shared → Prop

/-- the state at a call -/
structure Env0 (P : Program) (w : World) (K : PySem.W.Frag) (mg : Str → Option Value) (base : Heap) (A : Around) (outer : List Env) (s : Shared) (H : Hp) : Prop where
  frames : A.frames = some outer
  mod : Mod K mg base
  bs : ∀ b o, base.get? b = some o → s.heap.get? b = some o ∧ H b = none
  bsz : base.objs.size ≤ s.heap.objs.size
  funs : s.heap.FunFrames base outer
  frf : ∀ b ∈ frs outer, H b = none
  hok : HOk P w H s.heap
  bare : AllBare s.gens
/-- a call's end -/
def CE (outer : List Env) (P : Program) (w : World) (H : Hp) (s : Shared) (Q : VK) (u : Value) (s' : Shared) : Prop :=
  ∃ v H', s'.os = s.os ∧ AllBare s'.gens ∧ Un (frs outer) [] H H' s.heap s'.heap ∧ HOk P w H' s'.heap ∧ RelV v u ∧ Q v H'
def CR (CX : CXT) (outer : List Env) (P : Program) (w : World) (H : Hp) (s : Shared) (Q : VK) (E : XK) (r : Result) (s' : Shared) : Prop :=
  match r with
  | .ok (.ret u) => CE outer P w H s Q u s'
  | .ok _ => False
  | .error e => CX outer H s E e s'
structure FnOk (P : Program) (w : World) (K : PySem.W.Frag) (mg : Str → Option Value) (base : Heap) (CX : CXT) (k : Nat) (f : Addr) (fd : FuncData) (ps : List Str) (sp : Sp) : Prop where
  len : ∀ vs H Q E, sp vs H Q E → vs.length = ps.length
  run : ∀ (A : Around) (outer : List Env) (s : Shared) (H : Hp) (args : Args) (us : List Value) (vs : List V) (Q : VK) (E : XK), Room k A → Env0 P w K mg base A outer s H → BindsTo s fd args (ps.zip us) → Vals vs us → sp vs H Q E →
    codeAny (model P w) A (.call (.ref f) args) (CR CX outer P w H s Q E) s
theorem FnOk.mono {P : Program} {w : World} {K : PySem.W.Frag} {mg : Str → Option Value} {base : Heap} {CX : CXT} {j k : Nat} {f : Addr} {fd : FuncData} {ps : List Str} {sp : Sp} (F : FnOk P w K mg base CX j f fd ps sp) (h : j ≤ k) :
    FnOk P w K mg base CX k f fd ps sp := ⟨F.len, fun A outer s H args us vs Q E hr => F.run A outer s H args us vs Q E (hr.mono h)⟩
/-- a weaker promise -/
theorem FnOk.imp {P : Program} {w : World} {K : PySem.W.Frag} {mg : Str → Option Value} {base : Heap} {CX : CXT} {k : Nat} {f : Addr} {fd : FuncData} {ps : List Str} {sp sp' : Sp} (F : FnOk P w K mg base CX k f fd ps sp)
    (h : ∀ vs H Q E, sp' vs H Q E → sp vs H Q E) : FnOk P w K mg base CX k f fd ps sp' :=
  ⟨fun vs H Q E q => F.len vs H Q E (h _ _ _ _ q), fun A outer s H args us vs Q E hr he hb hv hs => F.run A outer s H args us vs Q E hr he hb hv (h _ _ _ _ hs)⟩

theorem Env0.in1 {P : Program} {w : World} {K : PySem.W.Frag} {mg : Str → Option Value} {base : Heap} {A : Around} {outer : List Env} {s : Shared} {H : Hp} (e : Env0 P w K mg base A outer s H) :
    Env0 P w K mg base A.in1 outer s H := ⟨e.frames, e.mod, e.bs, e.bsz, e.funs, e.frf, e.hok, e.bare⟩

section
variable {X : Cx} {pins : List (Addr × Obj)} {σ : St} {H : Hp} {s s' : Shared}
/-- from a body: what a callee wants -/
theorem Inv.env0 (I : Inv X pins σ H s) : Env0 X.prog X.w X.K X.mg X.base X.A X.stack s H :=
  ⟨I.ok.frames, I.ok.mod, I.bs, Nat.le_trans I.ok.bsz I.sz, I.stack, I.stkFree, I.hok, I.bare⟩
/-- behind a call -/
theorem Inv.after {Q : VK} {u : Value} (I : Inv X pins σ H s) (h : CE X.stack X.prog X.w H s Q u s') : EP X pins σ Q u s' := by
  obtain ⟨v, H', os, bare, un, hok, r, q⟩ := h
  obtain ⟨hh, g, d, t, os'⟩ := s'
  obtain rfl : os' = s.os := os
  exact ⟨v, H', I.call (h' := hh) (g' := g) (d' := d) (t' := t) (ch := []) un hok bare (fun b z => absurd z (by simp)), r, q⟩
end

/-! ### calls -/
/-- f(..): the written arguments, then the defaults dvs; E: what is wanted of an exception -/
def tCall (sp : Sp) (dvs : List V) (E : XK) (t : TA) : TE := fun σ H Q => t σ H fun vs H1 => sp (vs ++ dvs) H1 Q E
/-- how the parameters are bound: us the positional arguments, kw the keywords' values by name, ds the defaults that fill up -/
def Binds (K : PySem.W.Frag) (fd : FuncData) (ps : List Str) (ds : List Value) : Prop :=
  ∀ (s : Shared) (us : List Value), K.In s.heap → (us ++ ds).length = ps.length → BindsTo s fd ⟨us, []⟩ (ps.zip (us ++ ds))
/-- every parameter is given -/
theorem Binds.all {K : PySem.W.Frag} {fd : FuncData} {ps : List Str} (h : ∀ us : List Value, us.length = ps.length → bindArgs fd ⟨us, []⟩ = pure (ps.zip us)) : Binds K fd ps [] := fun s us _ hl => by
  rw [List.append_nil] at hl ⊢
  exact .of_eq (h us hl)

/-- an exception of a callee reaches what this body wants of exceptions -/
def Passes (CX : CXT) (X : Cx) (E : XK) : Prop := ∀ (pins : List (Addr × Obj)) (σ : St) (H : Hp) (s : Shared) (e : Value) (s' : Shared), Inv X pins σ H s → CX X.stack H s E e s' → X.xe e s'

section
variable {X : Cx} {CX : CXT} {k : Nat} {f C : Addr} {fd : FuncData} {ps : List Str} {sp : Sp} {dvs : List V} {ds : List Value} {E : XK} {x m : Str} {p pos apos : Pos} {e o : Expr} {es : List Expr} {ta : TE} {t : TA}

/-- the callee runs -/
theorem run_fn {pins : List (Addr × Obj)} {σ : St} {H : Hp} {s : Shared} {Q : VK} {us : List Value} {vs : List V} (F : FnOk X.prog X.w X.K X.mg X.base CX k f fd ps sp) (hr : Room k X.A) (hb : Binds X.K fd ps ds) (hd : Vals dvs ds) (hx : Passes CX X E)
    (I : Inv X pins σ H s) (r : Vals vs us) (h : sp (vs ++ dvs) H Q E) : wpAny (model X.prog X.w) X.A (call (.ref f) us) (EP X pins σ Q) X.xe s := by
  have r2 : Vals (vs ++ dvs) (us ++ ds) := r.append hd
  have hl : (us ++ ds).length = ps.length := by rw [← r2.length]; exact F.len _ _ _ _ h
  refine wpAny_call (codeAny_mono (F.run X.A X.stack s H ⟨us, []⟩ (us ++ ds) (vs ++ dvs) Q E hr I.env0 (hb s us I.kIn hl) r2 h) fun r s' hq => ?_)
  cases r with
  | error e => exact hx pins σ H s e s' I hq
  | ok fl =>
    cases fl with
    | ret u => exact I.after hq
    | next => exact False.elim hq
    | brk => exact False.elim hq
    | cont => exact False.elim hq

theorem pe_call (F : FnOk X.prog X.w X.K X.mg X.base CX k f fd ps sp) (hr : Room k X.A) (hg : Gl X x) (hm : X.mg x = some (.ref f)) (hk : PySem.W.keepIn X.K (.ref f) = true) (hb : Binds X.K fd ps ds) (hd : Vals dvs ds) (hx : Passes CX X E)
    (ha : PA X (e :: es) t) (hdb : (x == ("__debug__" : Str)) = false := by decide) (he : starEach (e :: es) X.env = (false, eval e X.env) :: starEach es X.env := by rfl) (hpl : (backTo pos (starEach es X.env)).any (·.1) = false := by rfl) :
    PE X (.Call (.Name x p) (e :: es) [] pos) (tCall sp dvs E t) := by
  intro pins s σ H Q I h
  refine wpAny_Call_Name_kw (ld_glob I hg hm ?_ hdb)
  refine PySem.W.callWith_K (h₀ := X.base) I.ok.mod.kin hk (thn (ha pos pins s σ H _ I h) fun us s1 ⟨vs, H1, I1, r, q⟩ => ⟨I1.kIn, ?_⟩) he hpl
  exact run_fn F hr hb hd hx I1 r q
/-- what a class must have to be made -/
structure Mk (K : PySem.W.Frag) (C f : Addr) : Prop where
  makes : PySem.W.makesIn K C = true
  init : PySem.W.findIn K (.ref C) "__init__" = some (some (.ref f))
  fn : PySem.W.isFn K (.ref f) = true
  kp : PySem.W.keepIn K (.ref C) = true

end

section
variable {X : Cx} {CX : CXT} {k : Nat} {f C : Addr} {fd : FuncData} {ps ks : List Str} {sp : Sp} {E : XK} {x m : Str} {p pos apos kpos : Pos} {e o : Expr} {es : List Expr} {kws : List Keyword} {te ta : TE} {t tk : TA} {nm : Option Str}
/-- how a call with keywords binds: g puts the positional values us and the keywords' values ws (names ks) in the parameters' order, defaults among them -/
structure KBinds (K : PySem.W.Frag) (fd : FuncData) (ps ks : List Str) (g : List Value → List Value → List Value) (gV : List V → List V → List V) : Prop where
  to : ∀ (s : Shared) (us ws : List Value), K.In s.heap → (g us ws).length = ps.length → BindsTo s fd ⟨us, ks.zip ws⟩ (ps.zip (g us ws))
  rel : ∀ {vs : List V} {us : List Value} {zs : List V} {ws : List Value}, Vals vs us → Vals zs ws → Vals (gV vs zs) (g us ws)
variable {g : List Value → List Value → List Value} {gV : List V → List V → List V}
end

/-! ### a def's body keeps its promise -/
/-- names: the parameters first -/
structure FnScope (N P : List Str) (sc : Scope) : Prop where
  kind : sc.kind = .function
  co : sc.isCoroutine = false
  gen : sc.isGenerator = false
  nd : N.Nodup
  pre : N.take P.length = P
  par : ∀ x ∈ P, sc.names.lookup x = some .local ∨ sc.names.lookup x = some .cell
  nofree : ∀ y ∈ sc.names, y.2 ≠ .free

theorem bindL_out {kindOf : Str → Option NameKind} {x : Str} : ∀ {binds : List (Str × Value)} {m : Str → Option Value}, (∀ v, (x, v) ∉ binds) → bindL kindOf binds m x = m x
  | [], _, _ => rfl
  | (n, v) :: r, m, h => by
    unfold bindL
    rw [bindL_out fun w hw => h w (List.mem_cons_of_mem _ hw)]
    split
    · have : x ≠ n := by rintro rfl; exact h v List.mem_cons_self
      simp [this]
    · rfl
theorem bindC_out {kindOf : Str → Option NameKind} {x : Str} : ∀ {binds : List (Str × Value)} {m : Str → Option Value}, (∀ v, (x, v) ∉ binds) → bindC kindOf binds m x = m x
  | [], _, _ => rfl
  | (n, v) :: r, m, h => by
    unfold bindC
    rw [bindC_out fun w hw => h w (List.mem_cons_of_mem _ hw)]
    split
    · rfl
    · have : x ≠ n := by rintro rfl; exact h v List.mem_cons_self
      simp [this]
theorem bindL_get {kindOf : Str → Option NameKind} {x : Str} {v : Value} : ∀ {P : List Str} {vs : List Value} {i : Nat} {m : Str → Option Value}, P.Nodup → P[i]? = some x → vs[i]? = some v → kindOf x = some .local →
    bindL kindOf (P.zip vs) m x = some v
  | [], _, _, _, _, h, _, _ => by simp at h
  | _ :: _, [], _, _, _, _, h, _ => by simp at h
  | p :: P, w :: vs, 0, m, nd, h1, h2, hk => by
    simp at h1 h2; subst h1; subst h2
    show bindL kindOf ((p, w) :: P.zip vs) m p = _
    unfold bindL
    rw [bindL_out fun v hv => (List.nodup_cons.mp nd).1 (List.of_mem_zip hv).1, if_pos hk]
    simp
  | p :: P, w :: vs, i + 1, m, nd, h1, h2, hk => by
    show bindL kindOf ((p, w) :: P.zip vs) m x = _
    unfold bindL
    exact bindL_get (i := i) (List.nodup_cons.mp nd).2 (by simpa using h1) (by simpa using h2) hk
theorem bindC_get {kindOf : Str → Option NameKind} {x : Str} {v : Value} : ∀ {P : List Str} {vs : List Value} {i : Nat} {m : Str → Option Value}, P.Nodup → P[i]? = some x → vs[i]? = some v → kindOf x ≠ some .local →
    bindC kindOf (P.zip vs) m x = some v
  | [], _, _, _, _, h, _, _ => by simp at h
  | _ :: _, [], _, _, _, _, h, _ => by simp at h
  | p :: P, w :: vs, 0, m, nd, h1, h2, hk => by
    simp at h1 h2; subst h1; subst h2
    show bindC kindOf ((p, w) :: P.zip vs) m p = _
    unfold bindC
    rw [bindC_out fun v hv => (List.nodup_cons.mp nd).1 (List.of_mem_zip hv).1, if_neg hk]
    simp
  | p :: P, w :: vs, i + 1, m, nd, h1, h2, hk => by
    show bindC kindOf ((p, w) :: P.zip vs) m x = _
    unfold bindC
    exact bindC_get (i := i) (List.nodup_cons.mp nd).2 (by simpa using h1) (by simpa using h2) hk

/-- the names' values at the entry -/
def start (N : List Str) (vs : List V) : St := vs.map some ++ List.replicate (N.length - vs.length) none

/-- the context of a def's body, at its entry; an exception leaves the frame, then lies as CX says -/
def cxOf (CX : CXT) (P : Program) (w : World) (K : PySem.W.Frag) (mg : Str → Option Value) (base : Heap) (N : List Str) (qual : Str) (scope : Scope) (f : Addr) (cd : Value) (A : Around) (outer : List Env) (s : Shared) (H : Hp) (E : XK) : Cx where
  prog := P
  w := w
  K := K
  mg := mg
  base := base
  A := A.deeper (envOfC qual scope s.heap.objs.size f cd)
  N := N
  s₀ := s
  H₀ := H
  env := envOfC qual scope s.heap.objs.size f cd
  outer := outer
  stack := envOfC qual scope s.heap.objs.size f cd :: outer
  ex := []
  calm := true
  fn := fun _ => true
  pn := []
  xe := fun e s' => wpAny (model P w) (A.deeper (envOfC qual scope s.heap.objs.size f cd)) (leaving (envOfC qual scope s.heap.objs.size f cd) e) (fun _ s'' => CX outer H s E e s'') (fun e' s'' => CX outer H s E e' s'') s'

theorem cell_has {sc : Scope} {n : Nat} {x : Str} (h : sc.names.lookup x = some .cell) : ∃ c, (cellsFrom n sc.names []).lookup x = some c := by
  have q := PySem.W.cellsFrom_some sc.names n [] (.inl h)
  exact Option.isSome_iff_exists.mp q

theorem inv_start {CX : CXT} {P : Program} {w : World} {K : PySem.W.Frag} {mg : Str → Option Value} {base : Heap} {N ps : List Str} {qual : Str} {scope : Scope} {f : Addr} {cd : Value} {A : Around} {outer : List Env} {s s1 : Shared} {H : Hp} {E : XK} {us : List Value} {vs : List V}
    (S : FnScope N ps scope) (hd : A.handled = none) (e0 : Env0 P w K mg base A outer s H) (hl : vs.length = ps.length) (r : Vals vs us)
    (x : InCallC s s.heap.objs.size (bindL (envOfC qual scope s.heap.objs.size f cd).kindOf (ps.zip us) fun _ => none) (cellsFrom (s.heap.objs.size + 1) scope.names []) (bindC (envOfC qual scope s.heap.objs.size f cd).kindOf (ps.zip us) fun _ => none) s1) :
    Inv (cxOf CX P w K mg base N qual scope f cd A outer s H E) [] (start N vs) H s1 := by
  have hpl : ps.length ≤ N.length := by have := congrArg List.length S.pre; rw [List.length_take] at this; omega
  obtain ⟨h1, tk, rfl, hk⟩ := x.done
  have noA : ∀ b : Addr, b ∉ (cxOf CX P w K mg base N qual scope f cd A outer s H E).ex := fun b z => absurd (show b ∈ ([] : List Addr) from z) (by simp)
  refine ⟨⟨e0.mod, S.kind, rfl, rfl, Nat.le_refl _, fun y z c h1 h2 => ?_, fun y hy => ?_, fun y c _ h => ?_, fun _ => hd, Around.frames_deeper e0.frames, .inr ⟨rfl, rfl⟩, fun b z => absurd z (noA b), e0.bs, e0.bsz, fun b _ _ => noA b, fun b z => absurd z (noA b), e0.funs, e0.frf⟩,
    rfl, e0.bare, Un.kept hk, ⟨_, x.toInCall.ns, fun i y v h1 h2 h3 => ?_⟩, fun y c h => ⟨_, x.cell y c h⟩, e0.hok.fresh (Nat.le_refl _), fun y c h => ?_, fun p hp => absurd (show p ∈ ([] : List (Addr × Obj)) from hp) (by simp), e0.hok.kept hk, ?_⟩
  · exact name_of_addr x.apart (PySem.mem_of_lookup h1) (PySem.mem_of_lookup h2)
  · have hy : scope.names.lookup y = some .cell ∨ scope.names.lookup y = some .free := hy
    rcases hy with hy | hy
    · exact cell_has hy
    · exact absurd rfl (S.nofree _ (PySem.mem_of_lookup hy))
  · exact Nat.le_of_lt (x.above y c (PySem.mem_of_lookup h))
  · have hi : i < vs.length := by
      unfold start at h2
      by_cases hi : i < vs.length
      · exact hi
      · rw [List.getElem?_append_right (by simpa using hi)] at h2
        rw [List.getElem?_replicate] at h2
        split at h2 <;> cases h2
    have ha : vs[i]? = some v := by
      unfold start at h2
      rw [List.getElem?_append_left (by simpa using hi), List.getElem?_map] at h2
      cases e : vs[i]? with
      | none => rw [e] at h2; cases h2
      | some a => rw [e] at h2; cases h2; rfl
    obtain ⟨u, hu, rv⟩ := r.get ha
    have hp : ps[i]? = some y := by
      rw [← S.pre, List.getElem?_take_of_lt (by omega)]; exact h1
    have ndP : ps.Nodup := by rw [← S.pre]; exact S.nd.sublist (List.take_sublist _ _)
    refine ⟨u, rv, ?_⟩
    rcases S.par y (List.mem_of_getElem? hp) with k | k
    · exact .inl ⟨k, bindL_get ndP hp hu k⟩
    · obtain ⟨c, e⟩ := cell_has (n := s.heap.objs.size + 1) k
      refine .inr ⟨.inl k, c, e, ?_⟩
      have q := x.cell y c e
      rw [bindC_get ndP hp hu (by show scope.names.lookup y ≠ _; rw [k]; decide)] at q
      exact q
  · exact e0.hok.fresh (Nat.le_of_lt (x.above y c (PySem.mem_of_lookup h)))
  · unfold start
    show _ = N.length
    rw [List.length_append, List.length_map, List.length_replicate]
    omega

/-- THE RULE: a def (or a method) of the text, by its body. The body's reading t is chosen for each entry; it is run at the parameters' values -/
theorem fn_of {CX : CXT} {P : Program} {w : World} {K : PySem.W.Frag} {mg : Str → Option Value} {base : Heap} {k : Nat} {f : Addr} {name qual : Str} {params : Arguments} {body : List Stmt} {scope : Scope} {dV kV doc pm cdv ct oc : Value} {an od : Option Addr}
    {osl : Array (Option Value)} {N ps : List Str} {sp : Sp} (lk : K.lookup f = some ⟨oc, od, .func (PySem.W.fnOf name qual params body scope dV kV doc pm an cdv ct), osl⟩) (hcd : PySem.W.codeIn K cdv qual = true) (S : FnScope N ps scope)
    (len : ∀ vs H Q E, sp vs H Q E → vs.length = ps.length)
    (hbody : ∀ (A : Around) (outer : List Env) (s : Shared) (H : Hp) (vs : List V) (Q : VK) (E : XK), Room k (A.deeper (envOfC qual scope s.heap.objs.size f cdv)) → sp vs H Q E →
      ∃ t, PSs (cxOf CX P w K mg base N qual scope f cdv A outer s H E) body t ∧ t { nx := fun _ H' => Q .non H', rt := Q } (start N vs) H) :
    FnOk P w K mg base CX (k + 1) f (PySem.W.fnOf name qual params body scope dV kV doc pm an cdv ct) ps sp := by
  refine ⟨len, fun A outer s H args us vs Q E hr e0 hb r hsp => ?_⟩
  have hl := len _ _ _ _ hsp
  have KX : K.In s.heap := e0.mod.kin.keeps fun b o e => (e0.bs b o e).1
  have lim : s.heap.NoLimit := e0.mod.nolimit.keeps fun b o e => (e0.bs b o e).1
  have hkind : ∀ y ∈ ps.zip us, scope.names.lookup y.1 = some .local ∨ (scope.names.lookup y.1 = some .cell ∧ ((cellsFrom (s.heap.objs.size + 1) scope.names []).lookup y.1).isSome = true) := fun ⟨n, v⟩ hy => by
    rcases S.par n (List.of_mem_zip hy).1 with q | q
    · exact .inl q
    · exact .inr ⟨q, PySem.W.cellsFrom_some _ _ _ (.inl q)⟩
  refine codeAny_call_function hr.depth (KX _ _ lk) rfl S.co S.gen rfl (PySem.W.codeRec_of KX hcd) (hb _ _ _ _ ?_)
  refine wpAny_newFunctionEnv_cells S.kind hkind fun env he s1 x => ?_
  subst he
  refine ⟨lim.keeps x.toInCall.keep, codeAny_func ?_⟩
  obtain ⟨t, ht, hq⟩ := hbody A outer s H vs Q E (hr.deeper _) hsp
  have I : Inv (cxOf CX P w K mg base N qual scope f cdv A outer s H E) [] (start N vs) H s1 := inv_start S hr.hd e0 hl r x
  refine wpAny_mono (ht [] s1 (start N vs) H _ I hq) (fun fl s' hs => ?_) fun e s' hs => hs
  have fin : ∀ {σ' : St} {H' : Hp} {v : V} {u : Value}, Inv (cxOf CX P w K mg base N qual scope f cdv A outer s H E) [] σ' H' s' → RelV v u → Q v H' → CE outer P w H s Q u s' :=
    fun {σ' H' v u} J rv q => ⟨v, H', J.os, J.bare, J.base, J.hok, rv, q⟩
  cases fl with
  | ret u =>
    obtain ⟨v, σ', H', J, rv, q⟩ := hs
    exact fin J rv q
  | next =>
    obtain ⟨σ', H', J, q⟩ := hs
    exact fin (v := V.non) (u := Value.none) J rfl q
  | brk =>
    obtain ⟨_, _, _, q⟩ := hs
    exact False.elim q
  | cont =>
    obtain ⟨_, _, _, q⟩ := hs
    exact False.elim q
end L2

namespace L2
open PySem PySem.Spec PyProof.Rows
section
variable {X : Cx} {x : Str} {p pos : Pos} {e : Expr} {es : List Expr} {t : TA} {id T : String} {r : List V → Hp → VK → Prop}

def tCB (r : List V → Hp → VK → Prop) (t : TA) : TE := fun σ H Q => t σ H fun vs H1 => r vs H1 Q
/-- f(e, ..), f a built-in function -/
theorem pe_callB (hc : CallR X (.builtin id) r) (hg : Gl X x) (hm : X.mg x = none) (hv : bootBuiltins x = some (.builtin id)) (ha : PA X (e :: es) t) (hn : x ≠ "__name__" := by decide) (hdb : (x == ("__debug__" : Str)) = false := by decide)
    (he : starEach (e :: es) X.env = (false, eval e X.env) :: starEach es X.env := by rfl) (hpl : (backTo pos (starEach es X.env)).any (·.1) = false := by rfl) : PE X (.Call (.Name x p) (e :: es) [] pos) (tCB r t) := by
  intro pins s σ H Q I h
  refine wpAny_Call_Name_kw (ld_blt I hg hm hv ?_ hn hdb)
  exact PyProof.Rows.callWith_builtin1 (thn (ha pos pins s σ H _ I h) fun us s1 ⟨vs, H1, I1, r1, q1⟩ => hc pins s1 σ H1 vs us Q I1 r1 q1) he hpl
/-- T(e, ..), T a built-in type -/
theorem pe_callTy (hc : CallR X (.type T) r) (hg : Gl X x) (hm : X.mg x = none) (hv : bootBuiltins x = some (.type T)) (ha : PA X (e :: es) t) (hn : x ≠ "__name__" := by decide) (hdb : (x == ("__debug__" : Str)) = false := by decide)
    (he : starEach (e :: es) X.env = (false, eval e X.env) :: starEach es X.env := by rfl) (hpl : (backTo pos (starEach es X.env)).any (·.1) = false := by rfl) : PE X (.Call (.Name x p) (e :: es) [] pos) (tCB r t) := by
  intro pins s σ H Q I h
  refine wpAny_Call_Name_kw (ld_blt I hg hm hv ?_ hn hdb)
  exact PyProof.Rows.callWith_type1 (thn (ha pos pins s σ H _ I h) fun us s1 ⟨vs, H1, I1, r1, q1⟩ => hc pins s1 σ H1 vs us Q I1 r1 q1) he hpl
end
end L2

namespace HT
open PySem PyProof.Rows

/-- t < u of tuples of ints -/
def lexLt : List Int → List Int → Bool
  | [], [] => false
  | [], _ :: _ => true
  | _ :: _, [] => false
  | x :: xs, y :: ys => if x = y then lexLt xs ys else decide (x < y)
section
open PySem.SeqAt
open PySem.AutoSeq1 (wpAny_loadPart')
open PySem.MeetsSeq PySem.MeetsSeq2 PySem.MeetsSeq3

end

section
variable {prog : Program} {w : World} {A : Around} {E : Value → Shared → Prop} {s : Shared}

/-- t + u, t not empty -/
theorem cat_tup {t b : Addr} {vs ws : List Value} {Q : Value → Shared → Prop} (ht : IsTup s.heap t vs.toArray) (hb : IsTup s.heap b ws.toArray) (hv : vs ≠ [])
    (h1 : ws = [] → Q (.ref t) s) (h2 : ws ≠ [] → Q (.ref s.heap.objs.size) { s with heap := s.heap.push { cls := .type "tuple", data := .seq (vs ++ ws).toArray } })
    (hsz : vs.length + ws.length ≤ sizeLine) : wpAny (model prog w) A (binaryOp .Add (.ref t) (.ref b)) Q E s := by
  obtain ⟨⟨cls, dd, data, sl⟩, ho, hc, n, hd⟩ := id ht
  obtain ⟨⟨cls2, dd2, data2, sl2⟩, ho2, hc2, n2, hd2⟩ := id hb
  simp only at hc hd hc2 hd2
  subst hc hd hc2 hd2
  have e : vs.toArray ++ ws.toArray = (vs ++ ws).toArray := by simp
  by_cases hw : ws = []
  · exact concat_meets ⟨_, ho, rfl⟩ ⟨_, ho2, rfl⟩ noFill_tuple_add seq_tuple_add PySem.F.slot_tuple_add PySem.F.entry_tuple_add (PySem.F.args_tuple_add_2 _ _)
      (tuple_addW1 t b vs.toArray ws.toArray n n2 dd dd2 sl sl2 (by simpa using hv) (by simp [hw])) ⟨ho, ho2, h1 hw⟩
  · refine concat_meets ⟨_, ho, rfl⟩ ⟨_, ho2, rfl⟩ noFill_tuple_add seq_tuple_add PySem.F.slot_tuple_add PySem.F.entry_tuple_add (PySem.F.args_tuple_add_2 _ _)
      (tuple_addW2 t b vs.toArray ws.toArray n n2 dd dd2 sl sl2 (by simpa using hv) (by simpa using hw) (by rw [List.size_toArray, List.size_toArray]; exact hsz)) ⟨ho, ho2, ?_⟩
    rw [e]
    exact h2 hw

/-! ### t[a:b], not the whole -/
/-- a slice's bound as a place among n (d where it is left out) -/
def sIx (n d : Nat) : Option Int → Nat
  | none => d
  | some v => if v < 0 then (v + (n : Int)).toNat else min v.toNat n
theorem sIx_none (n d : Nat) : sIx n d none = d := rfl
theorem sIx_nat (n d k : Nat) : sIx n d (some (k : Int)) = min k n := by
  show (if (k : Int) < 0 then ((k : Int) + (n : Int)).toNat else min (k : Int).toNat n) = min k n
  rw [if_neg (by omega), Int.toNat_natCast]
end
end HT

namespace L2
open PySem PySem.Spec PyProof.Rows

/-! ### the parts of a slice -/
abbrev TO := St → Hp → (Option Int → Hp → Prop) → Prop
/-- a slice's part (left out, or an int) -/
def PO (X : Cx) (e : Option Expr) (t : TO) : Prop :=
  ∀ (pins : List (Addr × Obj)) (s : Shared) (σ : St) (H : Hp) (Q : Option Int → Hp → Prop), Inv X pins σ H s → t σ H Q →
    wpAny (model X.prog X.w) X.A (evalPart e X.env) (fun u s' => ∃ o H', Inv X pins σ H' s' ∧ IsPart u o ∧ Q o H') X.xe s
def tNoPart : TO := fun _ H Q => Q none H
def tPart (t : TE) : TO := fun σ H Q => t σ H fun x H1 => ∃ i, x = .int i ∧ Q (some i) H1

section
variable {X : Cx} {e : Expr} {te : TE} {lo hi : Option Expr} {tl th : TO} {pos p2 : Pos}

theorem po_none : PO X none tNoPart := by
  intro pins s σ H Q I h
  rw [evalPart_none]
  exact wpAny_pure ⟨none, H, I, .none, h⟩
theorem po_some (h : PE X e te) : PO X (some e) (tPart te) := by
  intro pins s σ H Q I hw
  rw [evalPart_some]
  refine thn (h pins s σ H _ I hw) fun u s1 ⟨x, H1, I1, r1, q1⟩ => ?_
  obtain ⟨i, rfl, q⟩ := q1
  obtain ⟨t, rfl⟩ := r1
  exact ⟨some i, H1, I1, .int i t, q⟩

/-- what a slice of a value is, by values: the slice object stands at sl -/
def SlR (X : Cx) (r : V → Option Int → Option Int → Hp → VK → Prop) : Prop :=
  ∀ (pins : List (Addr × Obj)) (s : Shared) (σ : St) (H : Hp) (x : V) (v vl vu : Value) (lo hi : Option Int) (sl : Addr) (Q : VK), Inv X pins σ H s → RelV x v → s.heap.IsSliceOf sl vl vu .none → IsPart vl lo → IsPart vu hi → r x lo hi H Q →
    ∃ T id, typeLookup (.type T) "__getitem__" = pure (some (.builtin id)) ∧ s.TypeIs v T ∧ wpAny (model X.prog X.w) X.A (getItem v (.ref sl)) (EP X pins σ Q) X.xe s
theorem SlR.or {r r' : V → Option Int → Option Int → Hp → VK → Prop} (h : SlR X r) (h' : SlR X r') : SlR X (fun x lo hi H Q => r x lo hi H Q ∨ r' x lo hi H Q) := by
  intro pins s σ H x v vl vu lo hi sl Q I rx hs pl pu q
  rcases q with q | q
  · exact h pins s σ H x v vl vu lo hi sl Q I rx hs pl pu q
  · exact h' pins s σ H x v vl vu lo hi sl Q I rx hs pl pu q
def tSl (r : V → Option Int → Option Int → Hp → VK → Prop) (te : TE) (tl th : TO) : TE := fun σ H Q => te σ H fun x H1 => tl σ H1 fun l H2 => th σ H2 fun u H3 => r x l u H3 Q
/-- a[lo:hi], any a -/
theorem pe_slice {r : V → Option Int → Option Int → Hp → VK → Prop} (hr : SlR X r) (he : PE X e te) (hl : PO X lo tl) (hu : PO X hi th) : PE X (.Subscript e (.Slice lo hi none p2) pos) (tSl r te tl th) := by
  intro pins s σ H Q I h
  refine Subscript_ (thn (he pins s σ H _ I h) fun v s1 ⟨x, H1, I1, r1, q1⟩ => ?_)
  refine wpAny_Slice (thn (hl pins s1 σ H1 _ I1 q1) fun vl s2 ⟨l, H2, I2, pl, q2⟩ => thn (hu pins s2 σ H2 _ I2 q2) fun vu s3 ⟨u, H3, I3, pu, q3⟩ => ?_)
  rw [evalPart_none]
  refine wpAny_pure ?_
  have I4 : Inv X pins σ H3 { s3 with heap := s3.heap.push { cls := .type "slice", data := .fields #[vl, vu, .none] } } := I3.kept (t' := s3.toks) fun b ob q => Heap.get?_push_of_some _ q
  obtain ⟨T, id, hT, ht, hg⟩ := hr pins { s3 with heap := s3.heap.push { cls := .type "slice", data := .fields #[vl, vu, .none] } } σ H3 x v vl vu l u s3.heap.objs.size Q I4 r1 (Heap.IsSliceOf.new ..) pl pu q3
  show wpAny (model X.prog X.w) X.A (subscriptTail e (.Slice lo hi none p2) v (.ref s3.heap.objs.size)) (EP X pins σ Q) X.xe { s3 with heap := s3.heap.push { cls := .type "slice", data := .fields #[vl, vu, .none] } }
  exact tail_any (ops := [.ref s3.heap.objs.size, v]) ht hT hg (by with_unfolding_all rfl)

/-- the items of xs[lo:hi] -/
def cutV (xs : List V) (lo hi : Option Int) : List V := (xs.drop (HT.sIx xs.length 0 lo)).take (HT.sIx xs.length xs.length hi - HT.sIx xs.length 0 lo)
theorem cutV_length (xs : List V) (lo hi : Option Int) : (cutV xs lo hi).length ≤ xs.length := by
  unfold cutV
  rw [List.length_take, List.length_drop]
  omega
/-- t + u, t not empty: u empty gives t itself -/
def rCatT (K : PySem.W.Frag) : R2 := fun x y H Q => ∃ a b xs ys, x = .ref a ∧ y = .ref b ∧ SqT K H a xs ∧ SqT K H b ys ∧ xs ≠ [] ∧ xs.length + ys.length ≤ sizeLine ∧
  (ys = [] → Q (.ref a) H) ∧ (ys ≠ [] → ∀ p, H p = none → Q (.ref p) (upd H p (.tup (xs ++ ys))))
theorem Vals.nil_iff {xs : List V} {us : List Value} (r : Vals xs us) : us = [] ↔ xs = [] := by
  cases r with
  | nil => simp
  | cons _ _ => simp
theorem op_catT : OpR X (binaryOp .Add) (rCatT X.K) := by
  intro pins s σ H x y v u Q I rx ry h
  obtain ⟨a, b, xs, ys, rfl, rfl, ha, hb, hx, hz, q1, q2⟩ := h
  cases rx
  cases ry
  obtain ⟨its, r1, p1, _⟩ := I.tuple ha
  obtain ⟨its2, r2, p2, _⟩ := I.tuple hb
  refine HT.cat_tup p1 p2 (fun z => hx (r1.nil_iff.mp z)) (fun z => ⟨.ref a, H, I, rfl, q1 (r2.nil_iff.mp z)⟩) (fun z => ?_) (by rw [← r1.length, ← r2.length]; exact hz)
  refine ⟨.ref s.heap.objs.size, _, I.laid (t' := s.toks) (o := .tup (xs ++ ys)) (fun b ob q => Heap.get?_push_of_some _ q) (Nat.le_refl _) ?_, rfl, q2 (fun w => z (r2.nil_iff.mpr w)) _ (I.hok.fresh (Nat.le_refl _))⟩
  exact ⟨by rw [List.length_append]; exact hz, _, r1.append r2, IsTupD.new _ _⟩
end
end L2

namespace L2
open PySem PySem.Spec PyProof.Rows

/-! ### places -/
/-- the place that an index of any sign means -/
def ixN (n : Nat) (i : Int) : Option Nat := if 0 ≤ i then (if i < n then some i.toNat else none) else if -(n : Int) ≤ i then some (i + n).toNat else none
def atI {α : Type} (xs : List α) (i : Int) : Option α := (ixN xs.length i).bind fun j => xs[j]?
theorem ixN_seq {n : Nat} {i : Int} {j : Nat} (h : ixN n i = some j) : seqIndex? i n = some j ∧ j < n ∧ -(n : Int) ≤ i ∧ i < n := by
  unfold ixN at h
  by_cases h0 : 0 ≤ i
  · rw [if_pos h0] at h
    by_cases h1 : i < n
    · rw [if_pos h1] at h
      have e : i.toNat = j := Option.some.inj h
      exact ⟨by rw [seqIndex_of h0 h1, e], by omega, by omega, h1⟩
    · rw [if_neg h1] at h; cases h
  · rw [if_neg h0] at h
    by_cases h1 : -(n : Int) ≤ i
    · rw [if_pos h1] at h
      have e : (i + n).toNat = j := Option.some.inj h
      exact ⟨by rw [seqIndex_neg (by omega) h1, e], by omega, h1, by omega⟩
    · rw [if_neg h1] at h; cases h
theorem atI_get {α : Type} {xs : List α} {i : Int} {v : α} (h : atI xs i = some v) : ∃ j, seqIndex? i xs.length = some j ∧ xs[j]? = some v ∧ j < xs.length ∧ -(xs.length : Int) ≤ i ∧ i < xs.length := by
  unfold atI at h
  cases e : ixN xs.length i with
  | none => rw [e] at h; cases h
  | some j =>
    rw [e] at h
    obtain ⟨h1, h2, h3, h4⟩ := ixN_seq e
    exact ⟨j, h1, h, h2, h3, h4⟩
theorem atI_nat {α : Type} {xs : List α} {j : Nat} {v : α} (h : xs[j]? = some v) : atI xs (j : Int) = some v := by
  have hj : j < xs.length := (List.getElem?_eq_some_iff.mp h).1
  have e : ixN xs.length (j : Int) = some j := by
    unfold ixN
    rw [if_pos (by omega), if_pos (by omega)]; simp
  unfold atI; rw [e]; exact h
/-! ### what may be subscripted -/
/-- what stands as an index of a plain subscript -/
def PlainIx (b : Expr) : Prop := ∀ o i, subscripted b false o i = operate [o, i] (getItem o i)
/-- a subscript by values -/
def IxR (X : Cx) (r : R2) : Prop :=
  ∀ (value slice : Expr) (pins : List (Addr × Obj)) (s : Shared) (σ : St) (H : Hp) (x y : V) (v u : Value) (Q : VK), Inv X pins σ H s → RelV x v → RelV y u → r x y H Q →
    subscripted slice false v u = operate [v, u] (getItem v u) → wpAny (model X.prog X.w) X.A (subscriptTail value slice v u) (EP X pins σ Q) X.xe s
/-- a call of a builtin's method by values: the receiver, the arguments -/
def MtR (X : Cx) (id : String) (r : V → List V → Hp → VK → Prop) : Prop :=
  ∀ (pins : List (Addr × Obj)) (s : Shared) (σ : St) (H : Hp) (x : V) (xs : List V) (v : Value) (us : List Value) (Q : VK), Inv X pins σ H s → RelV x v → Vals xs us → r x xs H Q →
    wpAny (model X.prog X.w) X.A (call (.builtin id) (v :: us)) (EP X pins σ Q) X.xe s
section
variable {X : Cx} {a b : Expr} {ta tb : TE} {pos : Pos}
theorem IxR.or {r r' : R2} (h : IxR X r) (h' : IxR X r') : IxR X (fun x y H Q => r x y H Q ∨ r' x y H Q) := by
  intro value slice pins s σ H x y v u Q I rx ry q hs
  rcases q with q | q
  · exact h value slice pins s σ H x y v u Q I rx ry q hs
  · exact h' value slice pins s σ H x y v u Q I rx ry q hs
theorem MtR.or {id : String} {r r' : V → List V → Hp → VK → Prop} (h : MtR X id r) (h' : MtR X id r') : MtR X id (fun x xs H Q => r x xs H Q ∨ r' x xs H Q) := by
  intro pins s σ H x xs v us Q I rx rs q
  rcases q with q | q
  · exact h pins s σ H x xs v us Q I rx rs q
  · exact h' pins s σ H x xs v us Q I rx rs q
/-- a[b] -/
theorem pe_ix {r : R2} (hr : IxR X r) (ha : PE X a ta) (hb : PE X b tb) (hs : PlainIx b) : PE X (.Subscript a b pos) (tOp r ta tb) := by
  intro pins s σ H Q I h
  exact Subscript_ (binT ha hb I h fun v u s2 x y H2 I2 rx ry q => hr a b pins s2 σ H2 x y v u Q I2 rx ry q (hs _ _))

def rIxL (K : PySem.W.Frag) : R2 := fun x y H Q => ∃ p xs i v, x = .ref p ∧ y = .int i ∧ SqL K H p xs ∧ atI xs i = some v ∧ Q v H
def rIxT (K : PySem.W.Frag) : R2 := fun x y H Q => ∃ p xs i v, x = .ref p ∧ y = .int i ∧ SqT K H p xs ∧ atI xs i = some v ∧ Q v H
def rIxS : R2 := fun x y H Q => ∃ z i c, x = .str z ∧ y = .int i ∧ z.length ≤ sizeLine ∧ atI z.cps.toList i = some c ∧ Q (.str ⟨#[c]⟩) H
theorem ix_list : IxR X (rIxL X.K) := by
  intro value slice pins s σ H x y v u Q I rx ry h hs
  obtain ⟨p, xs, i, z, rfl, rfl, hq, he, q⟩ := h
  cases rx
  obtain ⟨t, rfl⟩ := ry
  obtain ⟨its, r, pl, hz⟩ := I.list hq
  obtain ⟨j, h1, h2, h3, h4, h5⟩ := atI_get he
  obtain ⟨w, ew, rw'⟩ := r.get h2
  have hl := r.length
  have hn := line63
  have fin : EP X pins σ Q w s := ⟨z, H, I, rw', q⟩
  by_cases h0 : 0 ≤ i
  · have hj : i.toNat = j := by
      rw [seqIndex_of h0 h5] at h1
      exact Option.some.inj h1
    exact item_listR pl.isList h0 (by omega) (by rw [hj]; simpa using ew) fin hs
  · have hj : (i + (its.toArray.size : Int)).toNat = j := by
      rw [seqIndex_neg (by omega) h4] at h1
      rw [List.size_toArray, ← hl]
      exact Option.some.inj h1
    exact subscriptTail_builtinR (x := w) pl.isList.typeIs slot_list_getitem.lookup
      (wpAny_getItem_list_neg (Q := fun r s' => r = w ∧ EP X pins σ Q r s') pl.isList (by omega) (by rw [List.size_toArray] <;> omega) (by omega) (by rw [hj]; simpa using ew) ⟨rfl, fin⟩) hs
theorem ix_tup : IxR X (rIxT X.K) := by
  intro value slice pins s σ H x y v u Q I rx ry h hs
  obtain ⟨p, xs, i, z, rfl, rfl, hq, he, q⟩ := h
  cases rx
  obtain ⟨t, rfl⟩ := ry
  obtain ⟨its, r, pl, hz⟩ := I.tuple hq
  obtain ⟨j, h1, h2, h3, h4, h5⟩ := atI_get he
  obtain ⟨w, ew, rw'⟩ := r.get h2
  have hl := r.length
  have hn := line63
  have fin : EP X pins σ Q w s := ⟨z, H, I, rw', q⟩
  exact subscriptTail_builtinR (x := w) pl.typeIs slot_tuple_getitem.lookup
    (getItem_tuple (j := j) (Q := fun r s' => r = w ∧ EP X pins σ Q r s') pl (by omega) (by omega) (by rw [List.size_toArray, ← hl]; exact h1) (by simpa using ew) ⟨rfl, fin⟩) hs
theorem ix_str : IxR X rIxS := by
  intro value slice pins s σ H x y v u Q I rx ry h hs
  obtain ⟨z, i, c, rfl, rfl, hz, he, q⟩ := h
  obtain ⟨t, rfl⟩ := rx
  obtain ⟨t', rfl⟩ := ry
  obtain ⟨j, h1, h2, h3, h4, h5⟩ := atI_get he
  have hl : z.cps.toList.length = z.length := by simp [Str.length]
  rw [hl] at h1 h4 h5
  have hn := line63
  exact tail_any (typeIs_str s z t) slot_str_getitem.lookup (getItem_str (c := c) (by
    have e1 : decide (i < -(2 ^ 63 : Int)) = false := decide_eq_false (by omega)
    have e2 : decide (i ≥ 2 ^ 63) = false := decide_eq_false (by omega)
    rw [e1, e2, Bool.or_false]) (by rw [h1]; simpa using h2) ⟨.str ⟨#[c]⟩, H, I.tok _, ⟨_, rfl⟩, q⟩) hs
theorem Inv.lst {pins : List (Addr × Obj)} {σ : St} {H : Hp} {s : Shared} {p : Addr} {xs : List V} (I : Inv X pins σ H s) (h : H p = some (.lst xs)) :
    ∃ (its : List Value) (n : Nat), Vals xs its ∧ s.heap.get? p = some { cls := .type "list", data := .seq its.toArray n } ∧ xs.length ≤ sizeLine := by
  obtain ⟨z, its, n, r, e⟩ := I.hok p _ h
  exact ⟨its, n, r, e, z⟩
/-! ### slices -/
theorem slice_bounds (lo hi : Option Int) (n : Nat) : (sliceBounds lo hi none n).1 = ((HT.sIx n 0 lo : Nat) : Int) ∧ (sliceBounds lo hi none n).2.1 = ((HT.sIx n n hi : Nat) : Int) ∧ (sliceBounds lo hi none n).2.2 = 1 := by
  refine ⟨?_, ?_, rfl⟩
  · cases lo with
    | none => simp [sliceBounds, HT.sIx]
    | some i =>
      simp only [sliceBounds, HT.sIx, Option.getD_none, show (1 : Int) > 0 by decide, if_true]
      by_cases h : i < 0
      · simp only [h, if_true] <;> omega
      · simp only [h, if_false] <;> omega
  · cases hi with
    | none => simp [sliceBounds, HT.sIx]
    | some i =>
      simp only [sliceBounds, HT.sIx, Option.getD_none, show (1 : Int) > 0 by decide, if_true]
      by_cases h : i < 0
      · simp only [h, if_true] <;> omega
      · simp only [h, if_false] <;> omega
theorem slicePick_cut (its : List Value) (lo hi : Option Int) : slicePick its.toArray lo hi none = ((its.drop (HT.sIx its.length 0 lo)).take (HT.sIx its.length its.length hi - HT.sIx its.length 0 lo)).toArray := by
  obtain ⟨h1, h2, h3⟩ := slice_bounds lo hi its.toArray.size
  unfold slicePick
  rw [h1, h2, h3]
  simp only [sliceRange_one, pick_run, List.size_toArray] <;> rfl
/-- xs[lo:hi] of a list: a new list -/
def rSlL (K : PySem.W.Frag) : V → Option Int → Option Int → Hp → VK → Prop := fun x lo hi H Q => ∃ a xs, x = .ref a ∧ SqL K H a xs ∧ ∀ p, H p = none → Q (.ref p) (upd H p (.lst (cutV xs lo hi)))
theorem sl_list : SlR X (rSlL X.K) := by
  intro pins s σ H x v vl vu lo hi sl Q I rx hs pl pu h
  obtain ⟨a, xs, rfl, hx, q⟩ := h
  cases rx
  obtain ⟨its, r, ht, hz⟩ := I.list hx
  have hlen := r.length
  refine ⟨"list", _, slot_list_getitem.lookup, ht.isList.typeIs, ?_⟩
  refine wpAny_getItem_list_slice ht.isList hs pl pu .none (by simp) ?_ (by rw [List.size_toArray] <;> omega)
  rw [slicePick_cut, ← hlen]
  refine ⟨.ref s.heap.objs.size, _, I.laid (t' := s.toks) (o := .lst (cutV xs lo hi)) (fun b ob q => Heap.get?_push_of_some _ q) (Nat.le_refl _) ?_, rfl, q _ (I.hok.fresh (Nat.le_refl _))⟩
  exact ⟨Nat.le_trans (cutV_length xs lo hi) hz, _, 0, (r.drop (HT.sIx xs.length 0 lo)).take (HT.sIx xs.length xs.length hi - HT.sIx xs.length 0 lo), Heap.get?_push_size _ rfl⟩

/-! ### in, not in: flat items -/
def flatV : V → Bool
  | .non => true
  | .bl _ => true
  | .int _ => true
  | .str _ => true
  | _ => false
/-- == of flat values -/
def eqV : V → V → Bool
  | .non, .non => true
  | .bl a, .bl b => a == b
  | .bl a, .int b => (if a then 1 else 0) == b
  | .int a, .bl b => a == (if b then 1 else 0)
  | .int a, .int b => a == b
  | .str a, .str b => a == b
  | _, _ => false
theorem eqAt_V {A : Around} {s : Shared} {y x : V} {u v : Value} (ry : RelV y u) (rx : RelV x v) (fy : flatV y = true) (fx : flatV x = true) : SeqAt.EqAt A s u v (eqV y x) := by
  cases y with
  | non =>
    cases ry
    cases x with
    | non => cases rx; exact SeqAt.EqAt.same _
    | bl b => cases rx; exact SeqAt.EqAt.none_bool b
    | int b => obtain ⟨t, rfl⟩ := rx; exact SeqAt.EqAt.none_int b t
    | str b => obtain ⟨t, rfl⟩ := rx; exact SeqAt.EqAt.none_str b t
    | _ => exact absurd (show false = true from fx) Bool.false_ne_true
  | bl a =>
    cases ry
    cases x with
    | non => cases rx; exact SeqAt.EqAt.bool_none a
    | bl b => cases rx; exact SeqAt.EqAt.bool_bool a b
    | int b => obtain ⟨t, rfl⟩ := rx; exact SeqAt.EqAt.bool_int a b t
    | str b => obtain ⟨t, rfl⟩ := rx; exact SeqAt.EqAt.bool_str a b t
    | _ => exact absurd (show false = true from fx) Bool.false_ne_true
  | int a =>
    obtain ⟨t', rfl⟩ := ry
    cases x with
    | non => cases rx; exact SeqAt.EqAt.int_none a t'
    | bl b => cases rx; exact SeqAt.EqAt.int_bool a t' b
    | int b => obtain ⟨t, rfl⟩ := rx; exact SeqAt.EqAt.int_int a t' b t
    | str b => obtain ⟨t, rfl⟩ := rx; exact SeqAt.EqAt.int_str a t' b t
    | _ => exact absurd (show false = true from fx) Bool.false_ne_true
  | str a =>
    obtain ⟨t', rfl⟩ := ry
    cases x with
    | non => cases rx; exact SeqAt.EqAt.str_none a t'
    | bl b => cases rx; exact SeqAt.EqAt.str_bool a t' b
    | int b => obtain ⟨t, rfl⟩ := rx; exact SeqAt.EqAt.str_int a t' b t
    | str b => obtain ⟨t, rfl⟩ := rx; exact SeqAt.EqAt.str_str a t' b t
    | _ => exact absurd (show false = true from fx) Bool.false_ne_true
  | _ => exact absurd (show false = true from fy) Bool.false_ne_true
/-! ### len, list(x), tuple(x) of any list or tuple that is read -/
theorem call_len_seq : CallR X (.builtin "len") (fun xs H Q => ∃ p ys, xs = [.ref p] ∧ (SqL X.K H p ys ∨ SqT X.K H p ys) ∧ Q (.int ys.length) H) := by
  intro pins s σ H xs us Q I r h
  obtain ⟨p, ys, rfl, hq, q⟩ := h
  obtain ⟨u, rfl, rx⟩ := vals1 r
  cases rx
  have hn := line63
  rcases hq with hq | hq
  · obtain ⟨its, r', pl, hz⟩ := I.list hq
    have hlen := r'.length
    exact Calls.call_len_list pl.isList (by simp only [List.size_toArray] <;> omega) ⟨.int ys.length, H, I.tok _, ⟨s.toks + 1, by rw [List.size_toArray, hlen]⟩, q⟩
  · obtain ⟨its, r', pl, hz⟩ := I.tuple hq
    have hlen := r'.length
    exact len_tuple pl (by simp only [List.size_toArray] <;> omega) ⟨.int ys.length, H, I.tok _, ⟨s.toks + 1, by rw [List.size_toArray, hlen]⟩, q⟩
theorem call_len_str : CallR X (.builtin "len") (fun xs H Q => ∃ z, xs = [.str z] ∧ z.length ≤ sizeLine ∧ Q (.int z.length) H) := by
  intro pins s σ H xs us Q I r h
  obtain ⟨z, rfl, hz, q⟩ := h
  obtain ⟨u, rfl, t, rfl⟩ := vals1 r
  have hn := line63
  exact len_str (by omega) ⟨.int z.length, H, I.tok _, ⟨_, rfl⟩, q⟩
theorem CallR.or {f : Value} {r r' : List V → Hp → VK → Prop} (h : CallR X f r) (h' : CallR X f r') : CallR X f (fun xs H Q => r xs H Q ∨ r' xs H Q) := by
  intro pins s σ H xs us Q I rs q
  rcases q with q | q
  · exact h pins s σ H xs us Q I rs q
  · exact h' pins s σ H xs us Q I rs q
theorem call_list_of : CallR X (.type "list") (fun xs H Q => ∃ p ys, xs = [.ref p] ∧ (SqL X.K H p ys ∨ SqT X.K H p ys) ∧ ∀ l, H l = none → Q (.ref l) (upd H l (.lst ys))) := by
  intro pins s σ H xs us Q I r h
  obtain ⟨p, ys, rfl, hq, q⟩ := h
  obtain ⟨u, rfl, rx⟩ := vals1 r
  cases rx
  have fin : ∀ (its : List Value), Vals ys its → ys.length ≤ sizeLine → ∀ (h' : Heap) (c' : Nat), (∀ b o', s.heap.get? b = some o' → h'.get? b = some o') →
      h'.get? s.heap.objs.size = some { cls := .type "list", dict := none, data := .seq its.toArray c', slots := #[] } → EP X pins σ Q (.ref s.heap.objs.size) { s with heap := h' } := fun its r' hz h' c' kp e =>
    ⟨.ref s.heap.objs.size, _, I.laid (t' := s.toks) kp (Nat.le_refl _) (show ObjOk X.prog X.w _ h' _ (.lst ys) from ⟨hz, its, c', r', e⟩), rfl, q _ (I.hok.fresh (Nat.le_refl _))⟩
  rcases hq with hq | hq
  · obtain ⟨its, r', pl, hz⟩ := I.list hq
    have hlen := r'.length
    obtain ⟨o, ho, hc, n, hd⟩ := pl.isList
    exact call_list_seq p (.inl rfl) ho hc hd (fun h' c' kp e => fin its r' hz h' c' kp e) (by simp only [List.size_toArray] <;> omega)
  · obtain ⟨its, r', pl, hz⟩ := I.tuple hq
    have hlen := r'.length
    obtain ⟨o, ho, hc, n, hd⟩ := pl
    exact call_list_seq p (.inr rfl) ho hc hd (fun h' c' kp e => fin its r' hz h' c' kp e) (by simp only [List.size_toArray] <;> omega)
theorem call_tuple_of : CallR X (.type "tuple") (fun xs H Q => ∃ p ys, xs = [.ref p] ∧ ((SqL X.K H p ys ∧ ∀ l, H l = none → Q (.ref l) (upd H l (.tup ys))) ∨ (SqT X.K H p ys ∧ Q (.ref p) H))) := by
  intro pins s σ H xs us Q I r h
  obtain ⟨p, ys, rfl, h⟩ := h
  obtain ⟨u, rfl, rx⟩ := vals1 r
  cases rx
  rcases h with ⟨hq, q⟩ | ⟨hq, q⟩
  · obtain ⟨its, r', pl, hz⟩ := I.list hq
    have hlen := r'.length
    refine call_tuple_list pl.isList (fun h' kp => ?_) (by simp only [List.size_toArray] <;> omega)
    have I1 : Inv X pins σ H { s with heap := h' } := I.kept (t' := s.toks) kp
    have I2 : Inv X pins σ (upd H h'.objs.size (.tup ys)) { s with heap := h'.push { cls := .type "tuple", data := .seq its.toArray } } :=
      I1.laid (t' := s.toks) (fun b o e => Heap.get?_push_of_some _ e) (Nat.le_refl _) (show ObjOk X.prog X.w _ _ _ (.tup ys) from ⟨hz, its, r', IsTupD.new _ _⟩)
    exact ⟨.ref h'.objs.size, _, I2, rfl, q _ (I1.hok.fresh (Nat.le_refl _))⟩
  · obtain ⟨its, r', pl, hz⟩ := I.tuple hq
    exact call_tuple_same pl ⟨.ref p, H, I, rfl, q⟩

/-! ### the call of a builtin's method: o.m(..) -/
/-- the value is of that builtin type -/
def tyV (K : PySem.W.Frag) (T : String) (x : V) (H : Hp) : Prop := match x with
  | .str _ => T = "str"
  | .int _ => T = "int"
  | .ref p => (T = "list" ∧ ∃ xs, SqL K H p xs) ∨ (T = "tuple" ∧ ∃ o, K.lookup p = some o ∧ o.cls = .type "tuple" ∧ o.dict = none) ∨
      (T = "dict" ∧ ((∃ kvs, H p = some (.dK kvs)) ∨ ∃ kvs, H p = some (.dT kvs))) ∨ (T = "set" ∧ ∃ S n, H p = some (.set S n))
  | _ => False
theorem tyV_is {pins : List (Addr × Obj)} {σ : St} {H : Hp} {s : Shared} {T : String} {x : V} {v : Value} (I : Inv X pins σ H s) (r : RelV x v) (ty : tyV X.K T x H) :
    s.TypeIs v T ∧ ∀ a, v = .ref a → ∃ ob, s.heap.get? a = some ob ∧ ob.dict = none := by
  cases x with
  | str z =>
    obtain ⟨t, rfl⟩ := r
    cases (show T = "str" from ty)
    exact ⟨typeIs_str s z t, fun _ e => nomatch e⟩
  | int i =>
    obtain ⟨t, rfl⟩ := r
    cases (show T = "int" from ty)
    exact ⟨typeIs_int s i t, fun _ e => nomatch e⟩
  | ref p =>
    cases r
    rcases ty with ⟨rfl, xs, hq⟩ | ⟨rfl, o, hk, hc, hd⟩ | ⟨rfl, hk⟩ | ⟨rfl, S, n, hk⟩
    · obtain ⟨its, _, pl, _⟩ := I.list hq
      refine ⟨pl.isList.typeIs, fun a e => ?_⟩
      cases e
      obtain ⟨o, n, e, c, hd, _⟩ := pl
      exact ⟨o, e, hd⟩
    · refine ⟨⟨o, I.kIn p o hk, hc⟩, fun a e => ?_⟩
      cases e
      exact ⟨o, I.kIn _ o hk, hd⟩
    · have z : ∃ o, s.heap.get? p = some o ∧ o.ExactDict := by
        rcases hk with ⟨kvs, hk⟩ | ⟨kvs, hk⟩
        · obtain ⟨_, _, _, _, o, _, _, e, ex, _⟩ := I.hok p _ hk
          exact ⟨o, e, ex⟩
        · obtain ⟨_, _, _, _, o, _, _, e, ex, _⟩ := I.hok p _ hk
          exact ⟨o, e, ex⟩
      obtain ⟨o, e, ex⟩ := z
      refine ⟨⟨o, e, ex.1⟩, fun a e2 => ?_⟩
      cases e2
      exact ⟨o, e, ex.2.1⟩
    · obtain ⟨o, _, _, _, e, ex, _⟩ := I.hok p _ hk
      refine ⟨⟨o, e, ex.1⟩, fun a e2 => ?_⟩
      cases e2
      exact ⟨o, e, ex.2.1⟩
  | _ => exact False.elim ty
def tBM0 (K : PySem.W.Frag) (T : String) (r : V → List V → Hp → VK → Prop) (to : TE) : TE := fun σ H Q => to σ H fun x H1 => tyV K T x H1 ∧ r x [] H1 Q
def tBM (K : PySem.W.Frag) (T : String) (r : V → List V → Hp → VK → Prop) (to : TE) (t : TA) : TE := fun σ H Q => to σ H fun x H1 => tyV K T x H1 ∧ t σ H1 fun xs H2 => r x xs H2 Q
variable {o e : Expr} {es : List Expr} {to : TE} {t : TA} {name : Str} {apos cpos : Pos} {T id : String} {r : V → List V → Hp → VK → Prop}
theorem pe_bm0 (pa : PlainAttrs T) (slot : Slot T name id) (hty : typeOf (.builtin id) = pure (.type "method_descriptor")) (hm : MtR X id r) (ho : PE X o to)
    (hbase : attributeBase o name X.env (eval o X.env) = eval o X.env := by rfl) (hline : (apos.endLine == cpos.line) = true := by rfl) : PE X (.Call (.Attribute o name apos) [] [] cpos) (tBM0 X.K T r to) := by
  intro pins s σ H Q I h
  refine wpAny_Call_method0_late hbase hline (thn (ho pins s σ H _ I h) fun v s1 ⟨x, H1, I1, r1, ty, q1⟩ => ?_)
  obtain ⟨h1, h2⟩ := tyV_is I1 r1 ty
  exact ⟨T, id, pa, slot, hty, h1, h2, Calls.callWith_builtin rfl (PySem.evalArgs_none (hm pins s1 σ H1 x [] v [] Q I1 r1 .nil q1))⟩
theorem pe_bm (pa : PlainAttrs T) (slot : Slot T name id) (hty : typeOf (.builtin id) = pure (.type "method_descriptor")) (hm : MtR X id r) (ho : PE X o to) (ha : PA X (e :: es) t)
    (hbase : attributeBase o name X.env (eval o X.env) = eval o X.env := by rfl)
    (hfew : ((backTo cpos (starEach (e :: es) X.env)).all (fun x => !x.1) && (backToKw cpos (keywordEach [] X.env)).all (fun x => x.1.isSome)
      && decide ((e :: es).length + ([] : List Keyword).length + (if ([] : List Keyword).isEmpty then 0 else 1) < 30)) = true := by rfl)
    (hline : (apos.endLine == cpos.line) = true := by rfl) (hs : starEach (e :: es) X.env = (false, eval e X.env) :: starEach es X.env := by rfl) (hplain : (backTo cpos (starEach es X.env)).any (·.1) = false := by rfl) :
    PE X (.Call (.Attribute o name apos) (e :: es) [] cpos) (tBM X.K T r to t) := by
  intro pins s σ H Q I h
  refine wpAny_Call_method_late hbase hfew hline rfl (thn (ho pins s σ H _ I h) fun v s1 ⟨x, H1, I1, r1, ty, q1⟩ => ?_)
  obtain ⟨h1, h2⟩ := tyV_is I1 r1 ty
  refine ⟨T, id, pa, slot, hty, h1, h2, ?_⟩
  have hA := ha cpos pins s1 σ H1 _ I1 q1
  rw [hs] at hA ⊢
  refine Calls.callWith_builtin (by show (false || (backTo cpos (starEach es X.env)).any (·.1)) = false; rw [hplain] <;> rfl) (Calls.evalArgs_plain ?_)
  exact thn hA fun us s2 ⟨vs, H2, I2, r2, q2⟩ => hm pins s2 σ H2 x vs v us Q I2 r1 r2 q2
/- xs.append(e), list.index on a module's tuple .. are MtR facts of 06m -/
end
end L2

namespace L2
open PySem PySem.Spec PyProof.Rows

def MtM (X : Cx) (id : String) (r : V → List V → Hp → VK → Prop) : Prop :=
  ∀ (pins : List (Addr × Obj)) (s : Shared) (σ : St) (H : Hp) (x : V) (xs : List V) (v : Value) (us : List Value) (Q : VK), Inv X pins σ H s → RelV x v → Vals xs us → r x xs H Q →
    wpAny (model X.prog X.w) X.A (call (.builtin id) (v :: us)) (EP X pins σ Q) X.xe s

/-! ### lists of values -/
theorem Vals.one : ∀ {x : V} {us : List Value}, Vals [x] us → ∃ u, us = [u] ∧ RelV x u
  | _, _, .cons r .nil => ⟨_, rfl, r⟩
theorem Vals.two : ∀ {x y : V} {us : List Value}, Vals [x, y] us → ∃ u v, us = [u, v] ∧ RelV x u ∧ RelV y v
  | _, _, _, .cons r (.cons q .nil) => ⟨_, _, rfl, r, q⟩
theorem Vals.zero : ∀ {us : List Value}, Vals [] us → us = []
  | _, .nil => rfl
theorem Vals.rep {xs : List V} {us : List Value} (h : Vals xs us) : ∀ k : Nat, Vals (List.replicate k xs).flatten (List.replicate k us).flatten
  | 0 => .nil
  | k + 1 => by
    rw [List.replicate_succ, List.replicate_succ, List.flatten_cons, List.flatten_cons]
    exact Vals.append h (Vals.rep h k)
section
variable {X : Cx} {pins : List (Addr × Obj)} {σ : St} {H : Hp} {s : Shared} {l b : Addr} {xs ys zs : List V}

/-! ### the two steps: a tracked list is rewritten, a new list is laid -/
theorem Inv.lset {its its' : List Value} {n : Nat} {f : Array Value → Array Value} {t' : Nat} (I : Inv X pins σ H s) (hH : H l = some (.lst xs))
    (e : s.heap.get? l = some { cls := .type "list", data := .seq its.toArray n }) (hf : f its.toArray = its'.toArray) (hv : Vals ys its') (hz : ys.length ≤ sizeLine) :
    Inv X pins σ (upd H l (.lst ys)) { s with heap := s.heap.update l (Obj.mapSeq f), toks := t' } := by
  have q := PySem.IsL.update e f
  rw [hf] at q
  refine I.write (x := l) (e := l) (by rw [hH]; exact trivial) (.inl rfl) (fun b' u hb hu => (Heap.get?_update_other s.heap (Obj.mapSeq f) (Ne.symm hb)).trans hu) ⟨_, q⟩ ?_
  exact ⟨hz, its', _, hv, q⟩
theorem Inv.lnew {its : List Value} {t' : Nat} (I : Inv X pins σ H s) (hv : Vals ys its) (hz : ys.length ≤ sizeLine) :
    Inv X pins σ (upd H s.heap.objs.size (.lst ys)) { s with heap := s.heap.push { cls := .type "list", data := .seq its.toArray }, toks := t' } :=
  I.laid (fun _ _ q => Heap.get?_push_of_some _ q) (Nat.le_refl _) ⟨hz, its, 0, hv, Heap.get?_push_size _ rfl⟩
theorem Inv.fresh (I : Inv X pins σ H s) : H s.heap.objs.size = none := I.hok.fresh (Nat.le_refl _)
theorem Inv.lstM (I : Inv X pins σ H s) (hH : H l = some (.lst xs)) : xs.length ≤ sizeLine ∧ ∃ (its : List Value) (n : Nat), Vals xs its ∧ xs.length = its.length ∧ s.heap.get? l = some { cls := .type "list", data := .seq its.toArray n } := by
  obtain ⟨z, its, n, r, e⟩ := I.hok l _ hH
  exact ⟨z, its, n, r, r.length, e⟩

end

section
variable {X : Cx}

/-! ### methods -/
def rAppend : V → List V → Hp → VK → Prop := fun x vs H Q => ∃ l xs y, x = .ref l ∧ vs = [y] ∧ H l = some (.lst xs) ∧ xs.length < sizeLine ∧ Q .non (upd H l (.lst (xs ++ [y])))
theorem mt_append : MtM X "list.append" rAppend := by
  intro pins s σ H x vs v us Q I rx rv h
  obtain ⟨l, xs, y, rfl, rfl, hH, hz, q⟩ := h
  cases rx
  obtain ⟨u, rfl, ru⟩ := rv.one
  obtain ⟨z, its, n, r, hl, e⟩ := I.lstM hH
  refine call_meets F.slot_list_append ⟨_, e, rfl⟩ F.entry_list_append (F.args_list_append_2 _ _) (PySem.list_append l its.toArray n u (by rw [List.size_toArray]; omega)) ⟨e, ?_⟩
  refine ⟨.non, _, I.lset (its' := its ++ [u]) hH e (by simp) (r.append (.cons ru .nil)) ?_, rfl, q⟩
  rw [List.length_append, List.length_singleton]
  omega

def rClear : V → List V → Hp → VK → Prop := fun x vs H Q => ∃ l xs, x = .ref l ∧ vs = [] ∧ H l = some (.lst xs) ∧ Q .non (upd H l (.lst []))
theorem mt_clear : MtM X "list.clear" rClear := by
  intro pins s σ H x vs v us Q I rx rv h
  obtain ⟨l, xs, rfl, rfl, hH, q⟩ := h
  cases rx
  have hus := rv.zero
  subst hus
  obtain ⟨z, its, n, r, hl, e⟩ := I.lstM hH
  refine call_meets F.slot_list_clear ⟨_, e, rfl⟩ F.entry_list_clear (F.args_list_clear_1 _) (AutoSeq1.list_clear_list_0 l its.toArray n (by rw [List.size_toArray]; omega)) ⟨e, ?_⟩
  exact ⟨.non, _, I.lset (its' := []) (ys := []) hH e rfl .nil (Nat.zero_le _), rfl, q⟩

/-! ### list + list, list += list, list * int -/
def rCat : R2 := fun x y H Q => ∃ l b xs zs, x = .ref l ∧ y = .ref b ∧ H l = some (.lst xs) ∧ H b = some (.lst zs) ∧ xs.length + zs.length ≤ sizeLine ∧ ∀ p, H p = none → Q (.ref p) (upd H p (.lst (xs ++ zs)))
theorem op_cat : OpR X (binaryOp .Add) rCat := by
  intro pins s σ H x y v u Q I rx ry h
  obtain ⟨l, b, xs, zs, rfl, rfl, hH, hB, hz, q⟩ := h
  cases rx
  cases ry
  obtain ⟨z, its, n, r, hl, e⟩ := I.lstM hH
  obtain ⟨z2, its2, n2, r2, hl2, e2⟩ := I.lstM hB
  refine PySem.P.add_list e e2 ?_ (by rw [List.size_toArray, List.size_toArray]; omega)
  have ea : its.toArray ++ its2.toArray = (its ++ its2).toArray := by simp
  rw [ea]
  exact ⟨.ref _, _, I.lnew (t' := s.toks) (r.append r2) (by rw [List.length_append]; omega), rfl, q _ I.fresh⟩
end

/-! ### xs[a:b] = ys -/
section
variable {prog : Program} {w : World} {A : Around} {E : Value → Shared → Prop} {s : Shared}
set_option maxRecDepth 100000 in
end

section
variable {X : Cx}
end
end L2
namespace L2
open PySem PySem.Spec PyProof.Rows

/-! ### lists of pairs as tables -/
section
variable {κ : Type} [DecidableEq κ]
def valV (kvs : List (κ × V)) (k : κ) : Option V := (kvs.find? fun kv => decide (kv.1 = k)).map (·.2)
/-- in its place, or at the end -/
def putK (kvs : List (κ × V)) (k : κ) (v : V) : List (κ × V) :=
  if (kvs.any fun kv => decide (kv.1 = k)) = true then kvs.map (fun kv => if kv.1 = k then (kv.1, v) else kv) else kvs ++ [(k, v)]
def dropK (kvs : List (κ × V)) (k : κ) : List (κ × V) := kvs.filter fun kv => decide (kv.1 ≠ k)

theorem valV_pos {p : κ × V} {r : List (κ × V)} {k : κ} (e : p.1 = k) : valV (p :: r) k = some p.2 := by simp [valV, List.find?_cons, e]
theorem valV_neg {p : κ × V} {r : List (κ × V)} {k : κ} (e : ¬ p.1 = k) : valV (p :: r) k = valV r k := by simp [valV, List.find?_cons, e]
theorem valV_any (k : κ) : ∀ kvs : List (κ × V), (kvs.any fun kv => decide (kv.1 = k)) = (valV kvs k).isSome
  | [] => rfl
  | p :: r => by
    rw [List.any_cons]
    by_cases e : p.1 = k
    · simp only [valV_pos e, decide_eq_true e, Bool.true_or, Option.isSome_some]
    · rw [valV_neg e, decide_eq_false e, Bool.false_or]; exact valV_any k r
theorem RelO.isSome_eq {o : Option V} {u : Option Value} (r : RelO o u) : o.isSome = u.isSome := by
  cases o with
  | none => cases u with
    | none => rfl
    | some _ => exact (show False from r).elim
  | some _ => cases u with
    | none => exact (show False from r).elim
    | some _ => rfl
theorem RelO.getD {o : Option V} {u : Option Value} {d : V} {d' : Value} (r : RelO o u) (rd : RelV d d') : RelV (o.getD d) (u.getD d') := by
  cases o with
  | none => cases u with
    | none => exact rd
    | some _ => exact (show False from r).elim
  | some _ => cases u with
    | none => exact (show False from r).elim
    | some _ => exact r

/-- raw tables of the same keys -/
theorem KV.val {kvs : List (κ × V)} {vs : List (κ × Value)} (r : KV kvs vs) (k : κ) : RelO (valV kvs k) (valueAt vs k) := by
  unfold KV at r
  induction r with
  | nil => exact True.intro
  | @cons p q ps qs h t ih =>
    obtain ⟨h1, h2⟩ := h
    by_cases e : p.1 = k
    · have e' : q.1 = k := h1.symm.trans e
      have b : valueAt (q :: qs) k = some q.2 := by simp [valueAt, List.find?_cons, e']
      rw [valV_pos e, b]; exact h2
    · have e' : ¬ q.1 = k := fun z => e (h1.trans z)
      have b : valueAt (q :: qs) k = valueAt qs k := by simp [valueAt, List.find?_cons, e']
      rw [valV_neg e, b]; exact ih
theorem KV.any {kvs : List (κ × V)} {vs : List (κ × Value)} (r : KV kvs vs) (k : κ) : (kvs.any fun kv => decide (kv.1 = k)) = vs.any fun kv => decide (kv.1 = k) := by
  unfold KV at r
  induction r with
  | nil => rfl
  | cons h t ih => rw [List.any_cons, List.any_cons, ih, h.1]
theorem KV.repl {kvs : List (κ × V)} {vs : List (κ × Value)} (r : KV kvs vs) (k : κ) {y : V} {u : Value} (ry : RelV y u) :
    KV (kvs.map fun kv => if kv.1 = k then (kv.1, y) else kv) (vs.map fun kv => if kv.1 = k then (kv.1, u) else kv) := by
  unfold KV at r ⊢
  induction r with
  | nil => exact .nil
  | @cons p q ps qs h t ih =>
    rw [List.map_cons, List.map_cons]
    refine .cons ?_ ih
    obtain ⟨h1, h2⟩ := h
    by_cases e : p.1 = k
    · rw [if_pos e, if_pos (h1.symm.trans e)]; exact ⟨h1, ry⟩
    · rw [if_neg e, if_neg (fun z => e (h1.trans z))]; exact ⟨h1, h2⟩
theorem KV.put {kvs : List (κ × V)} {vs : List (κ × Value)} (r : KV kvs vs) (k : κ) {y : V} {u : Value} (ry : RelV y u) : KV (putK kvs k y) (stored vs k u) := by
  unfold putK stored
  rw [r.any k]
  by_cases e : (vs.any fun kv => decide (kv.1 = k)) = true
  · rw [if_pos e, if_pos e]; exact r.repl k ry
  · rw [if_neg e, if_neg e]; exact Paired.snoc r ⟨rfl, ry⟩
theorem KV.drop {kvs : List (κ × V)} {vs : List (κ × Value)} (r : KV kvs vs) (k : κ) : KV (dropK kvs k) (without vs k) := by
  unfold KV at r ⊢
  unfold dropK without
  induction r with
  | nil => exact .nil
  | @cons p q ps qs h t ih =>
    obtain ⟨h1, h2⟩ := h
    rw [List.filter_cons, List.filter_cons]
    by_cases e : p.1 = k
    · have a : ¬ decide (p.1 ≠ k) = true := by simp [e]
      have b : ¬ decide (q.1 ≠ k) = true := by simp [h1.symm.trans e]
      rw [if_neg a, if_neg b]; exact ih
    · have e' : ¬ q.1 = k := fun z => e (h1.trans z)
      have a : decide (p.1 ≠ k) = true := by simp [e]
      have b : decide (q.1 ≠ k) = true := by simp [e']
      rw [if_pos a, if_pos b]; exact .cons ⟨h1, h2⟩ ih
theorem KV.keys {kvs : List (κ × V)} {vs : List (κ × Value)} (r : KV kvs vs) : kvs.map (·.1) = vs.map (·.1) := by
  unfold KV at r
  induction r with
  | nil => rfl
  | cons h t ih => rw [List.map_cons, List.map_cons, ih, h.1]
theorem KV.length {kvs : List (κ × V)} {vs : List (κ × Value)} (r : KV kvs vs) : kvs.length = vs.length := Paired.length r
end


/-! ### a tracked dict, its keys ints and texts or tuples of these -/
theorem kV_is {P : Program} {w : World} {k : Key} {u : Value} (r : RelV (kV k) u) : (mixKind P w).is k u = true := by
  cases k with
  | inl i => obtain ⟨t, e⟩ := (show ∃ t, u = Value.int i t from r); subst e; exact mixKind_int P w i t
  | inr x => obtain ⟨t, e⟩ := (show ∃ t, u = Value.str x t from r); subst e; exact mixKind_str P w x t
theorem items_are {P : Program} {w : World} : ∀ {ks : List Key} {us : List Value}, Vals (ks.map kV) us → ItemsAre (mixKind P w) ks us
  | [], _, r => by rw [List.map_nil] at r; cases r; exact .nil
  | k :: ks, _, r => by
    rw [List.map_cons] at r
    cases r with
    | cons h t => exact .cons (kV_is h) (items_are t)

/-- raw entries of a dict with tuple keys -/
abbrev KT (H : Hp) : List (List Key × V) → List (List Key × Addr × Value) → Prop := Paired fun p q => p.1 = q.1 ∧ H q.2.1 = some (.tup (p.1.map kV)) ∧ RelV p.2 q.2.2
theorem KT.val {H : Hp} {kvs : List (List Key × V)} {xs : List (List Key × Addr × Value)} (r : KT H kvs xs) (k : List Key) : RelO (valV kvs k) ((atKey xs k).map (·.2)) := by
  induction r with
  | nil => exact True.intro
  | @cons p q ps qs h t ih =>
    obtain ⟨h1, _, h2⟩ := h
    by_cases e : p.1 = k
    · have e' : q.1 = k := h1.symm.trans e
      have b : atKey (q :: qs) k = some q.2 := by simp [atKey, List.find?_cons, e']
      rw [valV_pos e, b]; exact h2
    · have e' : ¬ q.1 = k := fun z => e (h1.trans z)
      have b : atKey (q :: qs) k = atKey qs k := by simp [atKey, List.find?_cons, e']
      rw [valV_neg e, b]; exact ih
theorem KT.repl {H : Hp} {kvs : List (List Key × V)} {xs : List (List Key × Addr × Value)} (r : KT H kvs xs) (k : List Key) {y : V} {u : Value} (ry : RelV y u) :
    KT H (kvs.map fun kv => if kv.1 = k then (kv.1, y) else kv) (xs.map (putAt k u)) := by
  induction r with
  | nil => exact .nil
  | @cons p q ps qs h t ih =>
    rw [List.map_cons, List.map_cons]
    refine .cons ?_ ih
    obtain ⟨h1, h2, h3⟩ := h
    unfold putAt
    by_cases e : p.1 = k
    · rw [if_pos e, if_pos (h1.symm.trans e)]; exact ⟨h1, h2, ry⟩
    · rw [if_neg e, if_neg (fun z => e (h1.trans z))]; exact ⟨h1, h2, h3⟩
theorem KT.put {H : Hp} {kvs : List (List Key × V)} {xs : List (List Key × Addr × Value)} (r : KT H kvs xs) (k : List Key) {b : Addr} {y : V} {u : Value} (hb : H b = some (.tup (k.map kV))) (ry : RelV y u) :
    KT H (putK kvs k y) (storedH xs k b u) := by
  have e : (kvs.any fun kv => decide (kv.1 = k)) = (atKey xs k).isSome := by
    rw [valV_any, (r.val k).isSome_eq, Option.isSome_map]
  unfold putK storedH
  rw [e]
  by_cases q : (atKey xs k).isSome = true
  · rw [if_pos q, if_pos q]; exact r.repl k ry
  · rw [if_neg q, if_neg q]; exact Paired.snoc r ⟨rfl, hb, ry⟩
theorem KT.keeps {H H' : Hp} {kvs : List (List Key × V)} {xs : List (List Key × Addr × Value)} (r : KT H kvs xs) (ht : ∀ b ys, H b = some (.tup ys) → H' b = some (.tup ys)) : KT H' kvs xs :=
  Paired.mapP r fun _ _ z => ⟨z.1, ht _ _ z.2.1, z.2.2⟩

section
variable {P : Program} {w : World} {H : Hp} {h : Heap} {a : Addr}
/-- a tracked tuple of ints and texts is a key -/
theorem key_of {ks : List Key} (ok : HOk P w H h) (e : H a = some (.tup (ks.map kV))) : (tupleKind (mixKind P w)).is h ks a := by
  obtain ⟨_, its, r, o, h1, h2, ⟨n, h3⟩, _⟩ := (show ObjOk P w H h a (.tup (ks.map kV)) from ok a _ e)
  exact ⟨o, its.toArray, n, h1, h2, h3, by simpa using items_are r⟩
end

/-- what the dict at a holds at the key y -/
def DGet (H : Hp) (a : Addr) (y : V) (r : Option V) : Prop :=
  (∃ kvs k, Rd H a (.dK kvs) ∧ y = kV k ∧ r = valV kvs k) ∨ ∃ kvs k b, Rd H a (.dT kvs) ∧ y = .ref b ∧ H b = some (.tup (k.map kV)) ∧ r = valV kvs k
/-- the heap behind a[y] = v -/
def DPut (H : Hp) (a : Addr) (y v : V) (H' : Hp) : Prop :=
  (∃ kvs k, H a = some (.dK kvs) ∧ y = kV k ∧ kvs.length < sizeLine ∧ H' = upd H a (.dK (putK kvs k v))) ∨
  ∃ kvs k b, H a = some (.dT kvs) ∧ y = .ref b ∧ H b = some (.tup (k.map kV)) ∧ kvs.length < sizeLine ∧ H' = upd H a (.dT (putK kvs k v))
theorem DGet.k {H : Hp} {a : Addr} {kvs : List (Key × V)} {k : Key} (e : H a = some (.dK kvs)) : DGet H a (kV k) (valV kvs k) := .inl ⟨kvs, k, .inl e, rfl, rfl⟩
theorem DGet.t {H : Hp} {a b : Addr} {kvs : List (List Key × V)} {k : List Key} (e : H a = some (.dT kvs)) (eb : H b = some (.tup (k.map kV))) : DGet H a (.ref b) (valV kvs k) := .inr ⟨kvs, k, b, .inl e, rfl, eb, rfl⟩
theorem DPut.k {H : Hp} {a : Addr} {kvs : List (Key × V)} {k : Key} {v : V} (e : H a = some (.dK kvs)) (hl : kvs.length < sizeLine) : DPut H a (kV k) v (upd H a (.dK (putK kvs k v))) := .inl ⟨kvs, k, e, rfl, hl, rfl⟩
theorem DPut.t {H : Hp} {a b : Addr} {kvs : List (List Key × V)} {k : List Key} {v : V} (e : H a = some (.dT kvs)) (eb : H b = some (.tup (k.map kV))) (hl : kvs.length < sizeLine) :
    DPut H a (.ref b) v (upd H a (.dT (putK kvs k v))) := .inr ⟨kvs, k, b, e, rfl, eb, hl, rfl⟩


section
variable {X : Cx} {pins : List (Addr × Obj)} {σ : St} {H : Hp} {s : Shared} {a : Addr} {y v : V} {u r : Value} {o : Option V} {A : Around} {E : Value → Shared → Prop}

end

section
variable {X : Cx} {pins : List (Addr × Obj)} {σ : St} {H : Hp} {s : Shared} {a : Addr} {kvs : List (Key × V)} {k : Key} {u : Value} {A : Around} {E : Value → Shared → Prop}
end


section
variable {X : Cx} {o i e value : Expr} {pos pos' tpos : Pos} {td ty tv : TE}
end


section
variable {X : Cx} {pos : Pos}
end

abbrev VV : List (V × V) → List (Value × Value) → Prop := Paired fun p q => RelV p.1 q.1 ∧ RelV p.2 q.2
def mergeK (kvs more : List (Key × V)) : List (Key × V) := more.foldl (fun acc kv => putK acc kv.1 kv.2) kvs
theorem KV.merge : ∀ {more : List (Key × V)} {rs : List (Key × Value)} {kvs : List (Key × V)} {vs : List (Key × Value)}, KV more rs → KV kvs vs → KV (mergeK kvs more) (merged vs rs) := by
  intro more rs kvs vs r
  unfold KV at r
  induction r generalizing kvs vs with
  | nil => intro q; exact q
  | @cons p q ps qs h t ih =>
    intro r0
    have e : KV (putK kvs p.1 p.2) (stored vs q.1 q.2) := by
      have := r0.put p.1 h.2
      rw [← h.1]; exact this
    exact ih e
/-! ### methods -/
/-- a method call o.m(e) of a built-in, with one argument: what must be seen of the text -/
structure M1 (X : Cx) (o : Expr) (m : Str) (apos : Pos) (e : Expr) (cpos : Pos) : Prop where
  base : attributeBase o m X.env (eval o X.env) = eval o X.env
  few : ((backTo cpos (starEach [e] X.env)).all (fun x => !x.1) && (backToKw cpos (keywordEach [] X.env)).all (fun x => x.1.isSome)
    && decide (([e] : List Expr).length + ([] : List Keyword).length + (if ([] : List Keyword).isEmpty then 0 else 1) < 30)) = true
  line : (apos.endLine == cpos.line) = true
  trees : backTo cpos (starEach [e] X.env) = [(false, eval e X.env)]
structure M2 (X : Cx) (o : Expr) (m : Str) (apos : Pos) (e f : Expr) (cpos : Pos) : Prop where
  base : attributeBase o m X.env (eval o X.env) = eval o X.env
  few : ((backTo cpos (starEach [e, f] X.env)).all (fun x => !x.1) && (backToKw cpos (keywordEach [] X.env)).all (fun x => x.1.isSome)
    && decide (([e, f] : List Expr).length + ([] : List Keyword).length + (if ([] : List Keyword).isEmpty then 0 else 1) < 30)) = true
  line : (apos.endLine == cpos.line) = true
  trees : backTo cpos (starEach [e, f] X.env) = [(false, eval e X.env), (false, eval f X.env)]

section
variable {X : Cx} {pins : List (Addr × Obj)} {σ : St} {H : Hp} {s : Shared} {a : Addr} {y d : V} {u r : Value} {o : Option V} {A : Around} {E : Value → Shared → Prop}
end

section
variable {X : Cx} {o e f : Expr} {apos cpos : Pos} {td ty tx : TE}
end

/-! ### dict(d): a copy -/
section
variable {X : Cx} {pins : List (Addr × Obj)} {σ : St} {H : Hp} {s : Shared} {a : Addr} {kvs : List (Key × V)} {A : Around} {E : Value → Shared → Prop}
end


section
variable {X : Cx} {pins : List (Addr × Obj)} {σ : St} {H : Hp} {s : Shared} {a : Addr} {y : V} {u : Value} {A : Around} {E : Value → Shared → Prop}
end
end L2
namespace Att
open PySem PySem.W PySem.Calls PyProof.Rows

/-! ### the script -/
theorem ints_of_wellAll {P : Params} {h : Heap} : ∀ (ns : List Int) (vs : List Value), WellAll P h vs (ns.map WData.int) → IntsAre vs ns := by
  intro ns
  induction ns with
  | nil =>
    intro vs w
    rw [List.map_nil] at w
    cases w
    exact .nil
  | cons n ns ih =>
    intro vs w
    rw [List.map_cons] at w
    cases w with
    | cons a b =>
      cases a
      exact .cons _ _ (ih _ b)

theorem script_of {l : OpenLaw} {n : Nat} (hn : l.most = some n) {P : Params} {h : Heap} {args : List WData} {vals : List Value}
    (hpre : l.row.toRowW.claim.pre args = true) (hwl : WellAll P h vals args) :
    ∃ a vs ns, vals = [Value.ref a] ∧ args = [WData.list (ns.map WData.int)] ∧ h.get? a = some { cls := .type "list", data := .seq vs.toArray } ∧ IntsAre vs ns ∧ ns.length ≤ n := by
  have hsh : WShape.hasAll [] args [.list .int] = true := (pre_splitW hpre).1
  have hc : l.pre.holds [] { args := args } = true := (pre_splitW hpre).2
  obtain ⟨d, r, rfl, h1, h2⟩ := hasAllW_cons hsh
  obtain rfl := hasAllW_nil h2
  obtain ⟨xs, rfl, h3⟩ := hasW_list h1
  obtain ⟨ns, rfl⟩ := items_int h3
  have hlen : ns.length ≤ n := by
    unfold OpenLaw.pre at hc
    have h4 : (WTm.not (.lt (.lit (.int (n : Int))) (.len (.arg 0)))).holds [] { args := [.list (ns.map .int)] } = true := by
      have h4 := (holds_andW hc).1
      rw [hn] at h4
      exact h4
    have h5 := condW_of h4 (w_not (w_lt w_lit (w_len_list (w_arg rfl))))
    rw [List.length_map] at h5
    refine Nat.le_of_not_lt fun q => ?_
    have q' : (n : Int) < ((ns.length : Nat) : Int) := by omega
    first
      | (rw [decide_eq_true q'] at h5; exact absurd h5 (by decide))
      | (simp at h5; omega)
  cases hwl with
  | cons w1 w2 =>
    cases w2
    cases w1 with
    | list ho hall => exact ⟨_, _, ns, rfl, rfl, ho, ints_of_wellAll ns _ hall, hlen⟩

theorem post_true (l : OpenLaw) (args : List WData) : l.row.toRowW.claim.post args (.bool true) args = true :=
  postW_of (r := l.row.toRowW) (X := (true == true))
    (show WShape.has [] (.bool true) .bool = true by first | rfl | decide | simp [WShape.has, WShape.arms, WShape.armsAll])
    (show (WTm.eq .res (.lit (.bool true))).value [] { args := args, res := some (.bool true), after := args } = some (.bool (true == true)) from w_eq_bool (w_res rfl) w_lit) rfl

/-- the same from a codeAny of the CALL (for a layer whose function contracts speak of calls) -/
theorem attach_call {l : OpenLaw} {n : Nat} {q : Program} {loose : List Str} {XP : (Str → Option Value) → Heap → Prop} {YP : World → Heap → Prop} {d : DefRec}
    (hn : l.most = some n) (hdf : d.params.defaults = [])
    (call : ∀ (w : World) (s₀ s₁ : Shared) (mg mb : Str → Option Value) (fa : Addr) (o : Obj) (pm cd doc : Value) (a : Addr) (vs : List Value) (ns : List Int),
      Ground q loose [] XP w s₀ mg mb s₁.heap → YP w s₁.heap →
      s₁.heap.get? fa = some o → o.data = .func (docDef d.name d.params d.body d.scope pm cd doc) → s₁.heap.CodeRec cd d.name → mg d.name = some (.ref fa) →
      s₁.heap.get? a = some { cls := .type "list", data := .seq vs.toArray } → IntsAre vs ns → ns.length ≤ n → s₁.gens = #[] →
      codeAny (model l.prog w) callerA (.call (.ref fa) ⟨[.ref a], []⟩) (fun r s' => r = .ok (.ret (.bool true)) ∧ OldK s₁.heap s'.heap ∧ s'.os = s₁.os ∧ AllBare s'.gens) s₁) :
    WalkO q loose XP YP l.row.toRowW d [] (fun f vs => PySem.call f vs) := by
  intro w s₀ s₁ mg mb G Y fa o pm cd doc dV kV ho hd hcd hD hmg hg args vals as hpre hlay hrd hwl hlo
  obtain rfl : dV = .none := Dflts.none hD hdf
  obtain rfl : kV = .none := Dflts.noKw hD
  obtain ⟨a, vs, ns, rfl, rfl, hobj, hints, hlen⟩ := script_of hn hpre hwl
  refine enter_call (codeAny_mono (call w s₀ s₁ mg mb fa o pm cd doc a vs ns G Y ho (fd_plain hd) hcd hmg hobj hints hlen hg) fun r s' hq => ?_)
  obtain ⟨rfl, h2, h3, h4⟩ := hq
  exact ⟨.inl ⟨.bool true, .bool true, [], rfl, fun _ => rfl, .bool true, post_true l _, fun _ => ⟨List.Pairwise.nil, fun _ hm => (nomatch hm)⟩⟩, h2, h3, h4⟩

/-! ### rules over ANY heap (no ledger) from facts about the written part K: the library's own take a ledger (News) for what they write -/
section
variable {prog : Program} {w : World} {A : Around} {E : Value → Shared → Prop} {s : Shared} {K : Frag}

def ledger (h : Heap) (L d : Addr) : List (Addr × Obj) := (List.range h.objs.size).filterMap fun a => if a = L ∨ a = d then none else (h.get? a).map fun o => (a, o)
end
end Att

namespace L2
open PySem PySem.Spec PyProof.Rows

theorem vals_ints : ∀ {vs : List Value} {ns : List Int}, IntsAre vs ns → Vals (ns.map V.int) vs
  | _, _, .nil => .nil
  | _, _, .cons n t h => .cons ⟨t, rfl⟩ (vals_ints h)

/-- nothing is tracked but the script, known to the object (or it is an object of the module) -/
def Only (H : Hp) : Prop := ∀ b, H b = none ∨ ∃ o xs, H b = some (.frz o (.lst xs))

/-- THE HEAD: the law's promise, at the heap behind the top. F, the promise of the law's def, may use that base is part of the heap (so K.In base, base.Ns mainGlobals mg stand in Mod) -/
theorem law_call {P : Program} {w : World} {K : PySem.W.Frag} {mg mb : Str → Option Value} {CX : CXT} {k : Nat} {fa a : Addr} {fd : FuncData} {x : Str} {sp : Sp} {s₁ : Shared} {vs : List Value} {ns : List Int}
    (KX : K.In s₁.heap) (hns : s₁.heap.Ns mainGlobals mg) (hb : s₁.heap.Ns builtinsNs mb) (hbb : ∀ x : Str, x ≠ "__name__" → mb x = bootBuiltins x) (hlim : s₁.heap.NoLimit) (hg : s₁.gens = #[])
    (ha : s₁.heap.get? a = some { cls := .type "list", data := .seq vs.toArray }) (hi : IntsAre vs ns) (hl : ns.length ≤ sizeLine) (hr : Room k callerA)
    (F : ∀ base : Heap, K.In base → base.Ns mainGlobals mg → FnOk P w K mg base CX k fa fd [x] sp) (hbind : ∀ (s : Shared) (u : Value), BindsTo s fd ⟨[u], []⟩ [(x, u)])
    (hsp : ∀ H : Hp, Only H → SqL K H a (ns.map V.int) → sp [.ref a] H (fun v _ => v = .bl true) fun _ _ _ => False)
    (hCX : ∀ H e s', CX [] H s₁ (fun _ _ _ => False) e s' → False) :
    codeAny (model P w) callerA (.call (.ref fa) ⟨[.ref a], []⟩) (fun r s' => r = .ok (.ret (.bool true)) ∧ OldK s₁.heap s'.heap ∧ s'.os = s₁.os ∧ AllBare s'.gens) s₁ := by
  have rv := vals_ints hi
  have lenV := hi.length
  -- from an abstract heap in which nothing but the script may be tracked
  have core : ∀ H : Hp, Only H → SqL K H a (ns.map V.int) → HOk P w H s₁.heap → (∀ b, H b ≠ none → b = a) → (H a ≠ none → K.lookup a = none) →
      codeAny (model P w) callerA (.call (.ref fa) ⟨[.ref a], []⟩) (fun r s' => r = .ok (.ret (.bool true)) ∧ OldK s₁.heap s'.heap ∧ s'.os = s₁.os ∧ AllBare s'.gens) s₁ := by
    intro H hO hS hok hA hK
    have base_of : ∀ {b : Addr} {o : Obj}, s₁.heap.get? b = some o → H b = none → (hidT s₁.heap H).get? b = some o := fun e n => hidT_get e n
    have noA : ∀ {b : Addr} {o : Obj} {es : Array DictEntry} {ep : Nat}, s₁.heap.get? b = some o → o.data = .dict es ep → H b = none := fun {b o es ep} e d => by
      cases q : H b with
      | none => rfl
      | some u =>
        have e' : b = a := hA b (by rw [q]; simp)
        subst e'
        rw [ha] at e; cases e
        have d' : Data.seq vs.toArray _ = Data.dict es ep := d
        cases d'
    have nsK : ∀ {b : Addr} {m : Str → Option Value}, s₁.heap.Ns b m → (hidT s₁.heap H).Ns b m := fun {b m} ⟨o, es, ep, e, d, r⟩ => ⟨o, es, ep, base_of e (noA e d), d, r⟩
    have hKb : K.In (hidT s₁.heap H) := fun b o e => base_of (KX b o e) (by
      cases q : H b with
      | none => rfl
      | some u =>
        have e' : b = a := hA b (by rw [q]; simp)
        subst e'
        rw [hK (by rw [q]; simp)] at e; cases e)
    have hM : Mod K mg (hidT s₁.heap H) := ⟨hKb, nsK hns, ⟨mb, nsK hb, hbb⟩, let ⟨mc, h1, h2⟩ := hlim; ⟨mc, nsK h1, h2⟩⟩
    have e0 : Env0 P w K mg (hidT s₁.heap H) callerA [] s₁ H := ⟨rfl, hM, fun b o e => of_hidT e, Nat.le_of_eq (hidT_size _ _), trivial, fun b hb => absurd (show b ∈ ([] : List Addr) from hb) (by simp), hok, .of_eq hg⟩
    refine codeAny_mono ((F _ hKb (nsK hns)).run callerA [] s₁ H ⟨[.ref a], []⟩ [.ref a] [.ref a] _ _ hr e0 (hbind s₁ (.ref a)) (.cons rfl .nil) (hsp H hO hS)) fun r s' h => ?_
    cases r with
    | error e => exact (hCX H e s' h).elim
    | ok fl =>
      cases fl with
      | next => exact False.elim h
      | brk => exact False.elim h
      | cont => exact False.elim h
      | ret u =>
        obtain ⟨v, H', os, bare, un, hok', r', q⟩ := h
        have q' : v = .bl true := q
        subst q'
        obtain rfl : u = Value.bool true := r'
        refine ⟨rfl, OldK.of_keep fun b o e => ?_, os, bare⟩
        cases q : H b with
        | none => exact un.keep b o e q (by intro z; exact absurd (show b ∈ ([] : List Addr) from z) (by simp)) (by simp)
        | some u =>
          rcases hO b with z | ⟨ob, xs, z⟩
          · rw [q] at z; cases z
          · have z2 := un.frzs b ob _ z
            obtain ⟨e1, _⟩ := hok b _ z
            obtain ⟨e2, _⟩ := hok' b _ z2
            rw [e] at e1; cases e1
            exact e2
  cases hk : K.lookup a with
  | some o =>
    -- the script is one of the module's own objects
    have e := KX a o hk
    rw [ha] at e
    cases e
    refine core (fun _ => none) (fun _ => .inl rfl) (.inr ⟨_, vs.toArray, _, hk, rfl, rfl, rfl, by rw [List.size_toArray, lenV]; exact hl, by simpa using rv⟩) (fun b u z => by have z' : (none : Option HO) = some u := z; cases z') (fun b z => absurd rfl z) fun z => absurd rfl z
  | none =>
    refine core (fun b => if b = a then some (.frz { cls := .type "list", data := .seq vs.toArray } (.lst (ns.map V.int))) else none) (fun b => ?_) (.inl (.inr ⟨{ cls := .type "list", data := .seq vs.toArray }, if_pos rfl⟩)) (fun b u z => ?_) (fun b z => ?_) fun _ => hk
    · by_cases hb : b = a
      · exact .inr ⟨_, _, if_pos hb⟩
      · exact .inl (if_neg hb)
    · by_cases hb : b = a
      · have z' := (if_pos hb).symm.trans z
        cases z'
        subst hb
        exact ⟨ha, by rw [List.length_map]; exact hl, vs, _, rv, ha⟩
      · have z' := (if_neg hb).symm.trans z
        cases z'
    · by_cases hb : b = a
      · exact hb
      · exact absurd (if_neg hb) z
end L2

namespace L2
open PySem PySem.Spec PyProof.Rows

abbrev KOf {K : PySem.W.Frag} {h : Heap} (_ : K.In h) : PySem.W.Frag := K

/-- the goal that k_head leaves (case hc), from the law's promise. F gives the function object fd (K's own) once, then the promise over every base -/
theorem walk_of {l : PySem.W.OpenLaw} {n k : Nat} {q : Program} {loose : List Str} {XP : (Str → Option Value) → Heap → Prop} {YP : World → Heap → Prop} {d : DefRec} {K : Params → PySem.W.Frag} {CX : World → CXT} {sp : World → Sp} {x : Str}
    (hn : l.most = some n) (hn2 : n ≤ sizeLine) (hdf : d.params.defaults = []) (hr : Room k callerA)
    (hY : ∀ (w : World) (h : Heap), YP w h → (K w.params).In h)
    (F : ∀ (w : World) (mg : Str → Option Value) (fa : Addr) (h : Heap), (K w.params).In h → h.Ns mainGlobals mg → mg d.name = some (.ref fa) →
      ∃ fd : FuncData, (∀ (s : Shared) (u : Value), BindsTo s fd ⟨[u], []⟩ [(x, u)]) ∧
        ∀ base : Heap, (K w.params).In base → base.Ns mainGlobals mg → FnOk l.prog w (K w.params) mg base (CX w) k fa fd [x] (sp w))
    (hsp : ∀ (w : World) (H : Hp) (a : Addr) (ns : List Int), ns.length ≤ n → Only H → SqL (K w.params) H a (ns.map V.int) → sp w [.ref a] H (fun v _ => v = .bl true) fun _ _ _ => False)
    (hCX : ∀ (w : World) (H : Hp) (s : Shared) (e : Value) (s' : Shared), CX w [] H s (fun _ _ _ => False) e s' → False) :
    PySem.W.WalkO q loose XP YP l.row.toRowW d [] (fun f vs => PySem.call f vs) := by
  refine Att.attach_call hn hdf fun w s₀ s₁ mg mb fa o pm cd doc a vs ns G Y ho hd hcd hmg hobj hints hlen hg => ?_
  have KX := hY w _ Y
  obtain ⟨fd, hb, hF⟩ := F w mg fa _ KX G.T.g hmg
  exact law_call KX G.T.g G.T.b G.T.builtins G.T.nolimit hg hobj hints (Nat.le_trans hlen hn2) hr hF hb (fun H hO hS => hsp w H a ns hlen hO hS) fun H e s' => hCX w H s₁ e s'
end L2
/-! SHORT WORDS over the layer: a def of the text, its body, what a loop and a test want. -/
namespace L2
open PySem PySem.Spec PyProof.Rows

def defArgs (s : Stmt) : Arguments := match s with
  | .FunctionDef _ a _ _ _ _ _ _ _ _ => a
  | _ => { posonlyargs := [], args := [], vararg := none, kwonlyargs := [], kw_defaults := [], kwarg := none, defaults := [] }
def defBody (s : Stmt) : List Stmt := match s with
  | .FunctionDef _ _ b _ _ _ _ _ _ _ => b
  | _ => []
def defScope (s : Stmt) : Scope := match s with
  | .FunctionDef _ _ _ _ _ _ sc _ _ _ => sc
  | _ => { kind := .function, names := [], isGenerator := false, isCoroutine := false }

/-! ### no exception leaves a def -/
abbrev CX0 : CXT := fun _ _ _ _ _ _ => False
abbrev E0 : XK := fun _ _ _ => False
theorem pass0 {X : Cx} : Passes CX0 X E0 := fun _ _ _ _ _ _ _ h => h.elim

/-! ### a def (or method) of the text as it stands behind the top -/
structure Fun (K : PySem.W.Frag) (x qual : Str) (st : Stmt) (f : Addr) (fd : FuncData) : Prop where
  ex : ∃ (oc : Value) (od : Option Addr) (kV doc pm : Value) (an : Option Addr) (cdv ct : Value) (osl : Array (Option Value)),
    fd = PySem.W.fnOf x qual (defArgs st) (defBody st) (defScope st) .none kV doc pm an cdv ct ∧ K.lookup f = some ⟨oc, od, .func fd, osl⟩ ∧ PySem.W.codeIn K cdv qual = true
  kp : PySem.W.keepIn K (.ref f) = true
section
variable {P : Program} {w : World} {K : PySem.W.Frag} {mg : Str → Option Value} {base : Heap}
/-- THE RULE for a def: its body as a term of rules, and the reading of that term -/
theorem Fun.ok {x qual : Str} {st : Stmt} {f : Addr} {fd : FuncData} {N ps : List Str} {k : Nat} {sp : Sp} (F : Fun K x qual st f fd) (S : FnScope N ps (defScope st)) (len : ∀ vs H Q E, sp vs H Q E → vs.length = ps.length)
    (hbody : ∀ (cdv : Value) (A : Around) (outer : List Env) (s : Shared) (H : Hp) (vs : List V) (Q : VK) (E : XK), Room k (A.deeper (envOfC qual (defScope st) s.heap.objs.size f cdv)) → sp vs H Q E →
      ∃ t, PSs (cxOf CX0 P w K mg base N qual (defScope st) f cdv A outer s H E).nox (defBody st) t ∧ t { nx := fun _ H' => Q .non H', rt := Q } (start N vs) H) : FnOk P w K mg base CX0 (k + 1) f fd ps sp := by
  obtain ⟨oc, od, kV, doc, pm, an, cdv, ct, osl, rfl, lk, hcd⟩ := F.ex
  refine fn_of lk hcd S len fun A outer s H vs Q E hr hsp => ?_
  obtain ⟨t, h, q⟩ := hbody cdv A outer s H vs Q E hr hsp
  exact ⟨t, h.nox, q⟩
/-- how its arguments bind (no defaults): h is «fun _ _ _ _ _ _ us hl => match us, hl with | [_, _], _ => rfl», one _ a parameter -/
theorem Fun.binds {x qual : Str} {st : Stmt} {f : Addr} {fd : FuncData} {ps : List Str} (F : Fun K x qual st f fd)
    (h : ∀ (kV doc pm : Value) (an : Option Addr) (cdv ct : Value) (us : List Value), us.length = ps.length → bindArgs (PySem.W.fnOf x qual (defArgs st) (defBody st) (defScope st) .none kV doc pm an cdv ct) ⟨us, []⟩ = pure (ps.zip us)) : Binds K fd ps [] := by
  obtain ⟨oc, od, kV, doc, pm, an, cdv, ct, osl, rfl, lk, hcd⟩ := F.ex
  exact .all (h kV doc pm an cdv ct)
theorem fun_mk {x qual : Str} {st : Stmt} {f : Addr} {oc : Value} {od an : Option Addr} {osl : Array (Option Value)} {kV doc pm cdv ct : Value} (l : K.lookup f = some ⟨oc, od, .func (PySem.W.fnOf x qual (defArgs st) (defBody st) (defScope st) .none kV doc pm an cdv ct), osl⟩)
    (c : PySem.W.codeIn K cdv qual = true) (k : PySem.W.keepIn K (.ref f) = true) : Fun K x qual st f (PySem.W.fnOf x qual (defArgs st) (defBody st) (defScope st) .none kV doc pm an cdv ct) := ⟨⟨oc, od, kV, doc, pm, an, cdv, ct, osl, rfl, l, c⟩, k⟩
end
theorem small1000 {n : Nat} (h : n ≤ 1000) : n < sizeLine := Nat.lt_of_le_of_lt h (by decide)

/-! ### expressions in short: the name that stands in the i-th slot -/
section
variable {X : Cx}
theorem pv (i : Nat) {x : Str} {pos : Pos} (hN : X.N[i]? = some x := by rfl) (hv : Vis X.env.scope x := by first | exact Or.inl rfl | exact Or.inr (Or.inl rfl) | exact Or.inr (Or.inr rfl)) (hd : (x == ("__debug__" : Str)) = false := by decide)
    (hcd : (x == ("__classdict__" : Str)) = false := by decide) : PE X (.Name x pos) (tVar i) := pe_var hN hv hd hcd
end

/-! ### tests -/
theorem iteF {A B : Prop} (h : B) : if false = true then A else B := by
  rw [if_neg Bool.false_ne_true]
  exact h
theorem iteT {A B : Prop} (h : A) : if true = true then A else B := by
  rw [if_pos rfl]
  exact h
/-! ### heaps -/
/-- all that was tracked is as it was -/
def Same (H H' : Hp) : Prop := ∀ b o, H b = some o → H' b = some o
theorem Same.refl (H : Hp) : Same H H := fun _ _ h => h
theorem Same.trans {H H1 H2 : Hp} (a : Same H H1) (b : Same H1 H2) : Same H H2 := fun c o h => b c o (a c o h)
theorem Same.free {H H' : Hp} (e : Same H H') {l : Addr} (h : H' l = Option.none) : H l = Option.none := by
  cases q : H l with
  | none => rfl
  | some o =>
    rw [e l o q] at h
    cases h
theorem Same.seq {K : PySem.W.Frag} {H H' : Hp} {a : Addr} {xs : List V} (e : Same H H') (h : SqL K H a xs) : SqL K H' a xs := by
  rcases h with (h | ⟨o, h⟩) | h
  · exact .inl (.inl (e _ _ h))
  · exact .inl (.inr ⟨o, e _ _ h⟩)
  · exact .inr h

end L2

namespace L2
open PySem PySem.Spec PyProof.Rows

/-! ### the meaning itself as a reading -/
def wE (X : Cx) (e : Expr) : TE := fun σ H Q => ∀ (pins : List (Addr × Obj)) (s : Shared), Inv X pins σ H s → wpAny (model X.prog X.w) X.A (eval e X.env) (EP X pins σ Q) X.xe s
def wT (X : Cx) (e : Expr) : TT := fun σ H Q => ∀ (pins : List (Addr × Obj)) (s : Shared), Inv X pins σ H s → wpAny (model X.prog X.w) X.A (isTrue e X.env (eval e X.env)) (TP X pins σ Q) X.xe s
def wW (X : Cx) (e : Expr) : TT := fun σ H Q => ∀ (whole : Sem Value) (pins : List (Addr × Obj)) (s : Shared), Inv X pins σ H s → wpAny (model X.prog X.w) X.A (isTrue e X.env whole) (TP X pins σ Q) X.xe s
def wA (X : Cx) (es : List Expr) : TA := fun σ H Q => ∀ (pos : Pos) (pins : List (Addr × Obj)) (s : Shared), Inv X pins σ H s → wpAny (model X.prog X.w) X.A (spliced (backTo pos (starEach es X.env))) (AP X pins σ Q) X.xe s
def wS (X : Cx) (st : Stmt) : TS := fun D σ H => ∀ (pins : List (Addr × Obj)) (s : Shared), Inv X pins σ H s → wpAny (model X.prog X.w) X.A (exec st X.env) (SP X pins D) X.xe s
def wSs (X : Cx) (sts : List Stmt) : TS := fun D σ H => ∀ (pins : List (Addr × Obj)) (s : Shared), Inv X pins σ H s → wpAny (model X.prog X.w) X.A (execs sts X.env) (SP X pins D) X.xe s
def wG (X : Cx) (tg : Expr) : TG := fun v σ H Q => ∀ (pins : List (Addr × Obj)) (s : Shared) (u : Value), Inv X pins σ H s → RelV v u →
    wpAny (model X.prog X.w) X.A (assign tg X.env u) (fun _ s' => ∃ σ' H', Inv X pins σ' H' s' ∧ Q σ' H') X.xe s
def wI (X : Cx) (tg iter : Expr) : TI := fun σ H R => ∀ (pins : List (Addr × Obj)) (s : Shared), Inv X pins σ H s →
    wpAny (model X.prog X.w) X.A (eval iter X.env) (fun v s1 => wpAny (model X.prog X.w) X.A (pyIter v) (PIE X pins σ tg R) X.xe s1) X.xe s
section
variable {X : Cx} {e : Expr} {es : List Expr} {st : Stmt} {sts : List Stmt} {tg iter : Expr} {σ : St} {H : Hp}
theorem pe_w : PE X e (wE X e) := fun pins s _ _ _ I h => h pins s I
theorem pt_w : PT X e (wT X e) := fun pins s _ _ _ I h => h pins s I
theorem pw_w : PW X e (wW X e) := fun w pins s _ _ _ I h => h w pins s I
theorem pa_w : PA X es (wA X es) := fun pos pins s _ _ _ I h => h pos pins s I
theorem ps_w : PS X st (wS X st) := fun pins s _ _ _ I h => h pins s I
theorem pss_w : PSs X sts (wSs X sts) := fun pins s _ _ _ I h => h pins s I
theorem pg_w : PG X tg (wG X tg) := fun pins s _ _ _ u _ I r h => h pins s u I r
theorem pi_w : PI X tg iter (wI X tg iter) := fun pins s _ _ _ I h => h pins s I
theorem PE.to {t : TE} {Q : VK} (h : PE X e t) (q : t σ H Q) : wE X e σ H Q := fun pins s I => h pins s σ H Q I q
theorem PT.to {t : TT} {Q : Bool → Hp → Prop} (h : PT X e t) (q : t σ H Q) : wT X e σ H Q := fun pins s I => h pins s σ H Q I q
theorem PW.to {t : TT} {Q : Bool → Hp → Prop} (h : PW X e t) (q : t σ H Q) : wW X e σ H Q := fun w pins s I => h w pins s σ H Q I q
theorem PA.to {t : TA} {Q : List V → Hp → Prop} (h : PA X es t) (q : t σ H Q) : wA X es σ H Q := fun pos pins s I => h pos pins s σ H Q I q
theorem PS.to {t : TS} {D : Ends} (h : PS X st t) (q : t D σ H) : wS X st D σ H := fun pins s I => h pins s σ H D I q
theorem PSs.to {t : TS} {D : Ends} (h : PSs X sts t) (q : t D σ H) : wSs X sts D σ H := fun pins s I => h pins s σ H D I q
theorem wE.imp {Q Q' : VK} (h : wE X e σ H Q) (k : ∀ v H', Q v H' → Q' v H') : wE X e σ H Q' := fun pins s I => thn (h pins s I) fun u s' ⟨v, H', I', r, q⟩ => ⟨v, H', I', r, k v H' q⟩
theorem wT.imp {Q Q' : Bool → Hp → Prop} (h : wT X e σ H Q) (k : ∀ v H', Q v H' → Q' v H') : wT X e σ H Q' := fun pins s I => thn (h pins s I) fun u s' ⟨H', I', q⟩ => ⟨H', I', k u H' q⟩
theorem wW.imp {Q Q' : Bool → Hp → Prop} (h : wW X e σ H Q) (k : ∀ v H', Q v H' → Q' v H') : wW X e σ H Q' := fun w pins s I => thn (h w pins s I) fun u s' ⟨H', I', q⟩ => ⟨H', I', k u H' q⟩
theorem wA.imp {Q Q' : List V → Hp → Prop} (h : wA X es σ H Q) (k : ∀ v H', Q v H' → Q' v H') : wA X es σ H Q' := fun pos pins s I => thn (h pos pins s I) fun u s' ⟨v, H', I', r, q⟩ => ⟨v, H', I', r, k v H' q⟩
theorem SP.imp {pins : List (Addr × Obj)} {D D' : Ends} {f : Flow} {s : Shared} (h : SP X pins D f s) (k1 : ∀ σ H, D.nx σ H → D'.nx σ H) (k2 : ∀ v H, D.rt v H → D'.rt v H) (k3 : ∀ σ H, D.bk σ H → D'.bk σ H) (k4 : ∀ σ H, D.ct σ H → D'.ct σ H) : SP X pins D' f s := by
  cases f with
  | next => obtain ⟨σ', H', I, q⟩ := h; exact ⟨σ', H', I, k1 _ _ q⟩
  | brk => obtain ⟨σ', H', I, q⟩ := h; exact ⟨σ', H', I, k3 _ _ q⟩
  | cont => obtain ⟨σ', H', I, q⟩ := h; exact ⟨σ', H', I, k4 _ _ q⟩
  | ret u => obtain ⟨v, σ', H', I, r, q⟩ := h; exact ⟨v, σ', H', I, r, k2 _ _ q⟩
theorem wSs.imp {D D' : Ends} (h : wSs X sts D σ H) (k1 : ∀ σ H, D.nx σ H → D'.nx σ H) (k2 : ∀ v H, D.rt v H → D'.rt v H) (k3 : ∀ σ H, D.bk σ H → D'.bk σ H) (k4 : ∀ σ H, D.ct σ H → D'.ct σ H) : wSs X sts D' σ H :=
  fun pins s I => thn (h pins s I) fun f s' q => q.imp k1 k2 k3 k4
theorem wG.imp {v : V} {Q Q' : St → Hp → Prop} (h : wG X tg v σ H Q) (k : ∀ σ' H', Q σ' H' → Q' σ' H') : wG X tg v σ H Q' := fun pins s u I r => thn (h pins s u I r) fun _ s' ⟨σ', H', I', q⟩ => ⟨σ', H', I', k _ _ q⟩
end

/-! ### an untracked object of ours becomes a tracked one; tracked ones are laid aside -/
section
variable {X : Cx} {pins : List (Addr × Obj)} {σ : St} {H F : Hp} {s : Shared}
theorem HOk.track {P : Program} {w : World} {h : Heap} {a : Addr} {o : HO} (ok : HOk P w H h) (hn : H a = none) (new : ObjOk P w (upd H a o) h a o) : HOk P w (upd H a o) h := fun b u e => by
  by_cases hb : b = a
  · subst hb
    rw [upd_same] at e
    cases e
    exact new
  · rw [upd_ne hb] at e
    exact (ok b u e).stay (fun _ _ _ q => q) (fun c q => by rw [upd_ne (ne_of_none q hn)]; exact q) fun c xs q => by rw [upd_ne (ne_of_none q hn)]; exact q
theorem Inv.track {a : Addr} {o : HO} (I : Inv X pins σ H s) (hn : H a = none) (h0 : X.s₀.heap.objs.size ≤ a) (hL : a ≠ X.env.locals) (hc : ∀ x c, X.env.cells.lookup x = some c → c ≠ a)
    (hp : ∀ p ∈ X.pn ++ pins, p.1 ≠ a) (new : ObjOk X.prog X.w (upd H a o) s.heap a o) : Inv X pins σ (upd H a o) s := by
  refine ⟨I.ok, I.os, I.bare, ⟨I.base.keep, I.base.slot, fun b u e n hx => ?_, I.base.there, fun b xs e => ?_, fun b u xs e => ?_, fun b ps e => ?_⟩, I.loc, I.cell, ?_, fun x c e => ?_, fun p hp' => ?_, I.hok.track hn new, I.len⟩
  · rw [upd_ne (Nat.ne_of_lt (Nat.lt_of_lt_of_le (Heap.lt_size e) h0))]
    exact I.base.free b u e n hx
  · have q := I.base.tups b xs e
    rw [upd_ne (ne_of_none q hn)]
    exact q
  · have q := I.base.frzs b u xs e
    rw [upd_ne (ne_of_none q hn)]
    exact q
  · obtain ⟨m, q⟩ := I.base.tbls b ps e
    exact ⟨m, by rw [upd_ne (ne_of_none q hn)]; exact q⟩
  · rw [upd_ne (Ne.symm hL)]
    exact I.free
  · rw [upd_ne (hc x c e)]
    exact I.freeC x c e
  · obtain ⟨e, n, r⟩ := I.pin p hp'
    exact ⟨e, by rw [upd_ne (hp p hp')]; exact n, r⟩

/-- what hangs on no other tracked object -/
def SmpO : HO → Prop
  | .lst _ => True
  | .tup _ => True
  | .dK _ => True
  | .frz _ (.lst _) => True
  | .ext _ => True
  | _ => False
def Smp (H : Hp) : Prop := ∀ b o, H b = some o → SmpO o
theorem ObjOk.smp {P : Program} {w : World} {h : Heap} {a : Addr} {o : HO} (z : SmpO o) (x : ObjOk P w H h a o) : ObjOk P w F h a o := by
  cases o with
  | lst xs => exact x
  | tup xs => exact x
  | dK kvs => exact x
  | frz ob u => cases u with
    | lst xs => exact x
    | _ => exact absurd z (fun q => q)
  | ext φ => exact x
  | _ => exact absurd z (fun q => q)
theorem Smp.sub (h : Smp H) (s : Same F H) : Smp F := fun b o e => h b o (s b o e)
/-- a smaller heap, that has all of the entry's -/
theorem Inv.less (I : Inv X pins σ H s) (hF : Same F H) (h0 : Same X.H₀ F) (hs : Smp F) : Inv X pins σ F s := by
  refine ⟨I.ok, I.os, I.bare, ⟨I.base.keep, I.base.slot, fun b u e n hx => hF.free (I.base.free b u e n hx), I.base.there, fun b xs e => h0 _ _ e, fun b u xs e => h0 _ _ e, fun b ps e => ⟨#[], ?_⟩⟩, I.loc, I.cell, hF.free I.free, fun x c e => hF.free (I.freeC x c e), fun p hp => ?_, fun b o e => (I.hok b o (hF b o e)).smp (hs b o e), I.len⟩
  · have q := h0 _ _ e
    rw [q]
    simp
  · obtain ⟨e, n, r⟩ := I.pin p hp
    exact ⟨e, hF.free n, r⟩
end

/-! ### comprehensions -/
def clo (cells : List (Str × Addr)) : List (Str × NameKind) → List (Str × Addr) → List (Str × Addr)
  | [], cs => cs
  | (n, k) :: r, cs => clo cells r (if (k == NameKind.free) = true then (n, (cells.lookup n).getD 0) :: cs else cs)
theorem closure_go {env : Env} : ∀ (names : List (Str × NameKind)) (cs : List (Str × Addr)), (∀ y ∈ names, y.2 = .free → ∃ c, env.cells.lookup y.1 = some c) →
    (forIn names cs (fun (x : Str × NameKind) (r : List (Str × Addr)) => if (x.2 == NameKind.free) = true then (do let c ← cellOf env x.1; pure (ForInStep.yield ((x.1, c) :: r))) else pure (ForInStep.yield r)) : Sem (List (Str × Addr))) = pure (clo env.cells names cs)
  | [], cs, _ => rfl
  | (n, k) :: r, cs, h => by
    rw [List.forIn_cons]
    by_cases hk : (k == NameKind.free) = true
    · obtain ⟨c, hc⟩ := h (n, k) List.mem_cons_self (by simpa using hk)
      have e : cellOf env n = pure c := by
        unfold cellOf
        have hc' : env.cells.lookup n = some c := hc
        rw [hc']
      simp only [hk, if_true, e, pure_bind, clo]
      have hc' : env.cells.lookup n = some c := hc
      rw [hc']
      exact closure_go r _ fun y hy => h y (List.mem_cons_of_mem _ hy)
    · simp only [hk, Bool.false_eq_true, if_false, pure_bind, clo]
      exact closure_go r _ fun y hy => h y (List.mem_cons_of_mem _ hy)
theorem closure_eq {env : Env} {scope : Scope} (h : ∀ y ∈ scope.names, y.2 = .free → ∃ c, env.cells.lookup y.1 = some c) : closureFor scope env = pure (clo env.cells scope.names []) := by
  simp only [closureFor]
  have e := closure_go (env := env) scope.names [] h
  simp only [bind_pure] 
  exact e
theorem clo_look (cells : List (Str × Addr)) : ∀ (names : List (Str × NameKind)) (cs : List (Str × Addr)) (x : Str) (c : Addr), (clo cells names cs).lookup x = some c → cs.lookup x = some c ∨ ((x, NameKind.free) ∈ names ∧ c = (cells.lookup x).getD 0)
  | [], cs, x, c, h => .inl h
  | (n, k) :: r, cs, x, c, h => by
    rcases clo_look cells r _ x c h with q | ⟨q1, q2⟩
    · by_cases hk : (k == NameKind.free) = true
      · rw [if_pos hk, List.lookup_cons] at q
        have ek : k = .free := by simpa using hk
        by_cases hx : (x == n) = true
        · simp only [hx] at q
          have e : x = n := by simpa using hx
          subst e
          exact .inr ⟨by rw [ek]; exact List.mem_cons_self, (Option.some.inj q).symm⟩
        · have hx' : (x == n) = false := by simpa using hx
          simp only [hx'] at q
          exact .inl q
      · rw [if_neg hk] at q
        exact .inl q
    · exact .inr ⟨List.mem_cons_of_mem _ q1, q2⟩
theorem clo_has (cells : List (Str × Addr)) : ∀ (names : List (Str × NameKind)) (cs : List (Str × Addr)) (x : Str), (x, NameKind.free) ∈ names ∨ (∃ c, cs.lookup x = some c) → ∃ c, (clo cells names cs).lookup x = some c
  | [], cs, x, h => h.elim (fun z => nomatch z) fun z => z
  | (n, k) :: r, cs, x, h => by
    refine clo_has cells r _ x ?_
    by_cases hk : (k == NameKind.free) = true
    · rw [if_pos hk]
      by_cases hx : (x == n) = true
      · exact .inr ⟨(cells.lookup n).getD 0, by rw [List.lookup_cons]; simp only [hx]⟩
      · have hx' : (x == n) = false := by simpa using hx
        rcases h with q | ⟨c, q⟩
        · rcases List.mem_cons.mp q with z | z
          · cases z
            exact absurd (by simp) hx
          · exact .inl z
        · exact .inr ⟨c, by rw [List.lookup_cons]; simp only [hx']; exact q⟩
    · rw [if_neg hk]
      rcases h with q | q
      · rcases List.mem_cons.mp q with z | z
        · cases z
          exact absurd rfl hk
        · exact .inl z
      · exact .inr q
theorem relabel_kind {env : Env} : ∀ {names : List (Str × NameKind)} {x : Str}, ((names.map fun (n, k) => if (k == NameKind.free && env.scope.kind == .function && env.kindOf n == some .cell) then (n, NameKind.cell) else (n, k)).lookup x = some .cell ∨
      (names.map fun (n, k) => if (k == NameKind.free && env.scope.kind == .function && env.kindOf n == some .cell) then (n, NameKind.cell) else (n, k)).lookup x = some .free) → names.lookup x = some .cell ∨ names.lookup x = some .free
  | [], x, h => by simp at h
  | (n, k) :: r, x, h => by
    have ih := @relabel_kind env r x
    rw [List.map_cons] at h
    rw [List.lookup_cons]
    by_cases hc : (k == NameKind.free && env.scope.kind == .function && env.kindOf n == some .cell) = true
    · simp only [hc, if_true, List.lookup_cons] at h
      cases hx : x == n with
      | true =>
        have hk : k = .free := by
          have := hc
          simp only [Bool.and_eq_true, beq_iff_eq] at this
          exact this.1.1
        exact .inr (by rw [hk])
      | false =>
        simp only [hx] at h ⊢
        exact ih h
    · have hc' : (k == NameKind.free && env.scope.kind == .function && env.kindOf n == some .cell) = false := by simpa using hc
      simp only [hc', Bool.false_eq_true, if_false, List.lookup_cons] at h
      cases hx : x == n with
      | true =>
        simp only [hx] at h ⊢
        exact h
      | false =>
        simp only [hx] at h ⊢
        exact ih h
theorem comp_loop {prog : Program} {w : World} {A : Around} {R : Result → Shared → Prop} {s : Shared} {elt target iter : Expr} {ifs : List Expr} {scope : Scope} {pos : Pos} {it acc : Value} {env : Env} (J : Nat → Shared → Prop)
    (turn : ∀ n s, J n s → wpAny (model prog w) A (pyNext it) (fun r s₁ => match r with
      | none => R (.ok .next) s₁
      | some v => wpAny (model prog w) A (letOwnedTupleGo target it v) (fun _ s₂ => wpAny (model prog w) A (assign target env v) (fun _ s₃ =>
          wpAny (model prog w) A (forIn ifs true fun c r => if r = true then do let ok ← isTrue c env (eval c env); pure (ForInStep.yield ok) else pure (ForInStep.yield r)) (fun ok s₄ =>
            if ok = true then wpAny (model prog w) A (eval elt env) (fun x s₅ => wpAny (model prog w) A (call (.builtin "list.append") [acc, x]) (fun _ s₆ => ∃ m, m < n ∧ J m s₆) (fun _ _ => False) s₅) (fun _ _ => False) s₄
            else ∃ m, m < n ∧ J m s₄) (fun _ _ => False) s₃) (fun _ _ => False) s₂) (fun _ _ => False) s₁) (fun _ _ => False) s)
    (n : Nat) (h : J n s) : codeAny (model prog w) A (.compLoop (.ListComp elt [⟨target, iter, ifs, 0⟩] scope pos) 0 it acc env) R s := by
  refine codeAny_loop rfl J (fun n s hI => ?_) n h
  show wpAny _ A ((compTurn (.ListComp elt [⟨target, iter, ifs, 0⟩] scope pos) 0 it acc env).onRaise (fun x => do noteFrame x env; theTreesLotGoes x)) _ _ s
  refine wpAny_noted ?_
  rw [compTurn_list]
  refine wpAny_bind (wpAny_standAt (wpAny_bind (wpAny_mono (turn n s hI) (fun r s₁ h₁ => ?_) fun _ _ z => z.elim)))
  cases r with
  | none => exact wpAny_pure h₁
  | some v =>
    refine wpAny_bind (wpAny_mono h₁ (fun _ s₂ h₂ => ?_) fun _ _ z => z.elim)
    refine wpAny_bind (wpAny_mono h₂ (fun _ s₃ h₃ => ?_) fun _ _ z => z.elim)
    refine wpAny_bind (wpAny_mono h₃ (fun ok s₄ h₄ => ?_) fun _ _ z => z.elim)
    cases ok with
    | false => exact wpAny_pure ⟨rfl, h₄⟩
    | true => exact wpAny_bind (wpAny_bind (wpAny_mono h₄ (fun x s₅ h₅ => wpAny_bind (wpAny_mono h₅ (fun _ s₆ h₆ => wpAny_pure (wpAny_pure ⟨rfl, h₆⟩)) fun _ _ z => z.elim)) fun _ _ z => z.elim))

def wIfs (X : Cx) (ifs : List Expr) : TT := fun σ H Q => ∀ (pins : List (Addr × Obj)) (s : Shared), Inv X pins σ H s →
  wpAny (model X.prog X.w) X.A (forIn ifs true fun c r => if r = true then do let ok ← isTrue c X.env (eval c X.env); pure (ForInStep.yield ok) else pure (ForInStep.yield r)) (TP X pins σ Q) X.xe s
theorem wIfs_nil {X : Cx} {σ : St} {H : Hp} {Q : Bool → Hp → Prop} (h : Q true H) : wIfs X [] σ H Q := fun _ _ I => wpAny_tests_nil ⟨H, I, h⟩
theorem wIfs_one {X : Cx} {c : Expr} {σ : St} {H : Hp} {Q : Bool → Hp → Prop} (h : wT X c σ H Q) : wIfs X [c] σ H Q := fun pins s I => wpAny_tests_one (h pins s I)
/-- a comprehension's block running -/
def cxB (X : Cx) (N : List Str) (scope : Scope) (cl : List (Str × Addr)) (C : Addr) (ex : List Addr) (s : Shared) (H : Hp) : Cx :=
  { prog := X.prog, w := X.w, K := X.K, mg := X.mg, base := X.base, A := X.A, N := N, s₀ := s, H₀ := H, env := compEnvC scope cl C X.env, outer := X.stack, stack := X.stack, ex := ex, fn := fun _ => false, calm := true, pn := [], xe := fun _ _ => False }
/-- the outer names that the block knows: cap tells for each of the block's names its slot outside -/
def capt (cap : List (Option Nat)) (σ : St) : St := cap.map fun o => o.bind fun k => (σ[k]?).join
/-- what is asked of the names, by looking -/
def compNames (scope sc : Scope) : Bool := scope.names.all fun y => (!(y.2 == NameKind.free) || sc.names.lookup y.1 == some NameKind.cell) && !(y.2 == NameKind.cell) && (!(y.2 == NameKind.local) || scope.names.lookup y.1 == some NameKind.local)
def capNames (N M : List Str) (scope sc : Scope) (cap : List (Option Nat)) : Bool := cap.length == N.length && (cap.zip N).all fun y => match y.1 with
  | none => true
  | some k => M[k]? == some y.2 && sc.names.lookup y.2 == some NameKind.cell && scope.names.lookup y.2 == some NameKind.free
theorem lookup_relabel_free {env : Env} (hf : env.scope.kind = .function) : ∀ {names : List (Str × NameKind)} {x : Str}, names.lookup x = some .free → env.kindOf x = some .cell →
    (names.map fun (n, k) => if (k == NameKind.free && env.scope.kind == .function && env.kindOf n == some .cell) then (n, NameKind.cell) else (n, k)).lookup x = some .cell
  | [], x, h, _ => by simp at h
  | (n, k) :: r, x, h, hc => by
    rw [List.map_cons]
    cases hx : x == n with
    | true =>
      have e : x = n := by simpa using hx
      subst e
      rw [List.lookup_cons] at h
      simp only [beq_self_eq_true] at h
      have ek : k = .free := Option.some.inj h
      subst ek
      have hb : (NameKind.free == NameKind.free && env.scope.kind == .function && env.kindOf x == some .cell) = true := by rw [hf, hc]; rfl
      show List.lookup x ((if (NameKind.free == NameKind.free && env.scope.kind == .function && env.kindOf x == some .cell) = true then (x, NameKind.cell) else (x, NameKind.free)) :: _) = _
      rw [if_pos hb, List.lookup_cons]
      simp only [beq_self_eq_true]
    | false =>
      rw [List.lookup_cons] at h
      simp only [hx] at h
      have ih := lookup_relabel_free hf (names := r) h hc
      by_cases hb : (k == NameKind.free && env.scope.kind == .function && env.kindOf n == some .cell) = true
      · simp only [hb, if_true, List.lookup_cons, hx]
        exact ih
      · have hb' : (k == NameKind.free && env.scope.kind == .function && env.kindOf n == some .cell) = false := by simpa using hb
        simp only [hb', Bool.false_eq_true, if_false, List.lookup_cons, hx]
        exact ih
theorem Inv.low {X : Cx} {pins : List (Addr × Obj)} {σ : St} {H : Hp} {s : Shared} (I : Inv X pins σ H s) : ∀ b ∈ frs X.stack, b < s.heap.objs.size := fun b hb => by
  obtain ⟨_, o, ho, _⟩ := I.stack.mem hb
  exact Heap.lt_size ho
theorem comp_run {X : Cx} {pins : List (Addr × Obj)} {σ : St} {H : Hp} {s : Shared} {elt tg iter : Expr} {ifs : List Expr} {scope : Scope} {pos : Pos} {N : List Str} {cap : List (Option Nat)} {g : TG} {tt : TT} {te : TE} {J : It} {fp : List Addr} {it : Addr} {tn : Nat → Heap → Prop} {E : Value → Shared → Prop} {sc : Scope}
    (hc : X.calm = true) (hsc : X.env.scope = sc) (hcn : compNames scope sc = true) (hcap : capNames N X.N scope sc cap = true) (hk : scope.kind = .function)
    (I : Inv X pins σ H s) (T : Turn X.prog X.w X.K tg J fp it tn) (st : tn 0 s.heap) (hfp : ∀ b ∈ fp, FpOk X pins H b)
    (hg : ∀ cl C, PG (cxB X N scope cl C fp s H) tg g) (ht : ∀ cl C pi s2 σ2 H2 Q, Inv (cxB X N scope cl C fp s H) pi σ2 H2 s2 → tt σ2 H2 Q → wpAny (model X.prog X.w) X.A (forIn ifs true fun c r => if r = true then do let ok ← isTrue c (compEnvC scope cl C X.env) (eval c (compEnvC scope cl C X.env)); pure (ForInStep.yield ok) else pure (ForInStep.yield r)) (TP (cxB X N scope cl C fp s H) pi σ2 Q) (fun _ _ => False) s2)
    (he : ∀ cl C, PE (cxB X N scope cl C fp s H) elt te) (W : Nat → Nat → List V → St → Hp → Prop) (m0 : Nat) (w0 : W 0 m0 [] (capt cap σ) H)
    (RR : Value → Addr → Result → Shared → Prop)
    (turn : ∀ i m ys σb H2, W i m ys σb H2 →
      (J.stop i H2 ∧ ∀ D C s', H2 D = none → H2 C = none → D ≠ C → X.s₀.heap.objs.size ≤ C → C ≠ X.env.locals → (∀ x c, X.env.cells.lookup x = some c → c ≠ C) → (∀ p ∈ X.pn ++ pins, p.1 ≠ C) → C ∉ frs X.stack → (∃ m, s'.heap.Ns C m) → Inv X pins σ (upd H2 D (.lst ys)) s' → RR (.ref D) C (.ok .next) s') ∨
      (J.go i H2 ∧ ys.length < sizeLine ∧ ∃ Nx : List V → St → Hp → Prop, (∀ ys' σ' H', Nx ys' σ' H' → ∃ m', m' < m ∧ W (i + 1) m' ys' σ' H') ∧
        ∀ x H', J.yld i H2 x H' → g x σb H' fun σ2 H3 => tt σ2 H3 fun b H4 => if b = true then te σ2 H4 fun v H5 => Nx (ys ++ [v]) σ2 H5 else Nx ys σ2 H4)) :
    wpAny (model X.prog X.w) X.A (newList []) (fun acc s₃ => wpAny (model X.prog X.w) X.A (newFunctionEnv scope X.env.globals (clo X.env.cells scope.names []) [] X.env.qual none .none (some X.env)) (fun cenv s₄ =>
      codeAny (model X.prog X.w) X.A (.compStart (.ListComp elt [⟨tg, iter, ifs, 0⟩] scope pos) 0 (.ref it) acc { cenv with scope := relabel scope X.env }) (RR acc cenv.locals) s₄) E s₃) E s := by
  -- the names
  have nm : ∀ y ∈ scope.names, (y.2 = NameKind.free → sc.names.lookup y.1 = some NameKind.cell) ∧ y.2 ≠ NameKind.cell ∧ (y.2 = NameKind.local → scope.names.lookup y.1 = some NameKind.local) := fun y hy => by
    have q := List.all_eq_true.mp hcn y hy
    simp only [Bool.and_eq_true, Bool.or_eq_true, Bool.not_eq_true', beq_eq_false_iff_ne, ne_eq, beq_iff_eq] at q
    exact ⟨fun e => q.1.1.resolve_left fun z => z e, q.1.2, fun e => q.2.resolve_left fun z => z e⟩
  have fre : ∀ y ∈ scope.names, y.2 = .free → ∃ c, X.env.cells.lookup y.1 = some c := fun y hy e => I.ok.has y.1 (.inl (by show X.env.scope.names.lookup y.1 = _; rw [hsc]; exact (nm y hy).1 e))
  generalize hcl : clo X.env.cells scope.names [] = cl
  have csub : ∀ x c, cl.lookup x = some c → X.env.cells.lookup x = some c := fun x c e => by
    rw [← hcl] at e
    rcases clo_look _ _ _ _ _ e with z | ⟨z1, z2⟩
    · simp at z
    · obtain ⟨c', q⟩ := fre _ z1 rfl
      rw [q] at z2
      rw [q, z2]
      rfl
  have chas : ∀ x, ((relabel scope X.env).names.lookup x = some .cell ∨ (relabel scope X.env).names.lookup x = some .free) → ∃ c, cl.lookup x = some c := fun x e => by
    rcases relabel_kind e with z | z
    · exact absurd rfl (nm _ (PySem.mem_of_lookup z)).2.1
    · rw [← hcl]
      exact clo_has _ _ _ _ (.inl (PySem.mem_of_lookup z))
  have cexi : ∀ x c, cl.lookup x = some c → c < s.heap.objs.size := fun x c e => by
    obtain ⟨v, o, ho, _⟩ := I.cell x c (csub x c e)
    exact Heap.lt_size ho
  have cexX : ∀ x c, X.env.cells.lookup x = some c → c < s.heap.objs.size := fun x c e => by
    obtain ⟨v, o, ho, _⟩ := I.cell x c e
    exact Heap.lt_size ho
  have pexX : ∀ p ∈ X.pn ++ pins, p.1 < s.heap.objs.size := fun p hp => Heap.lt_size (I.pin p hp).1
  have flow : ∀ b ∈ fp, b < s.heap.objs.size := fun b hb => by
    obtain ⟨o, ho, _⟩ := T.obj 0 _ st b hb
    exact Heap.lt_size ho
  have fstk : ∀ b ∈ fp, b ∉ frs X.stack := fun b hb z => by
    obtain ⟨_, f1, f2, _⟩ := hfp b hb
    rcases List.mem_cons.mp (I.stkSub b z) with q | q
    · exact f1 q
    · exact f2 q
  have hkr : (relabel scope X.env).kind = .function := hk
  refine wpAny_newObj_type (wpAny_newFunctionEnv (fun y hy => (nm y hy).2.1) (by intro y hy; simp at hy) (fun h₁ hns₁ hsb₁ => ?_) hk)
  dsimp only at hns₁ hsb₁ ⊢
  generalize hH2 : s.heap.push { cls := .type "list", dict := none, data := .seq ([] : List Value).toArray } = G2 at hns₁ hsb₁ ⊢
  have hC : G2.objs.size = s.heap.objs.size + 1 := by rw [← hH2, Heap.size_push]
  have hDC : s.heap.objs.size ≠ G2.objs.size := by rw [hC]; exact Nat.ne_of_lt (Nat.lt_succ_self _)
  have hCle : s.heap.objs.size ≤ G2.objs.size := by rw [hC]; exact Nat.le_succ _
  have neC : ∀ b, b < s.heap.objs.size → b ≠ G2.objs.size := fun b hb => by rw [hC]; exact Nat.ne_of_lt (Nat.lt_succ_of_lt hb)
  have old : ∀ b o, s.heap.get? b = some o → h₁.get? b = some o := fun b o e => hsb₁.extBut b o (neC b (Heap.lt_size e)) (Heap.get?_push_of_some _ (hH2 ▸ Heap.get?_push_of_some _ e))
  have hacc : h₁.get? s.heap.objs.size = some { cls := .type "list", dict := none, data := .seq ([] : List Value).toArray } := hsb₁.extBut _ _ hDC (Heap.get?_push_of_some _ (hH2 ▸ Heap.get?_push_size _ rfl))
  have env_eq : ({ newEnv scope G2.objs.size X.env.globals cl X.env.qual none .none (some X.env) 0 with scope := relabel scope X.env } : Env) = compEnvC scope cl G2.objs.size X.env := rfl
  generalize hDD : s.heap.objs.size = D at *
  generalize hCC : G2.objs.size = C at *
  have okX : (cxB X N scope cl C fp s H).Ok := by
    refine ⟨I.mod, hkr, I.ok.glob, I.ok.blt, ?_, fun x y c a b => I.ok.inj x y c (csub x c a) (csub y c b), chas, (fun x c z => nomatch z), fun _ => I.ok.hd hc, I.ok.frames, .inl rfl, fun b hb => ⟨neC b (flow b hb), fun x c e => (hfp b hb).2.2.2.2.1 x c (csub x c e)⟩, I.bs, ?_, fun b o e hb => ?_, fstk, I.stack, I.stkFree⟩
    · show s.heap.objs.size ≤ C
      rw [hDD]; exact hCle
    · exact Nat.le_trans I.ok.bsz I.sz
    · rcases (hfp b hb).2.2.2.1 with z | z
      · exact I.ok.noex b o e z
      · exact absurd (Nat.lt_of_lt_of_le (Heap.lt_size e) (Nat.le_trans I.ok.bsz z)) (Nat.lt_irrefl _)
  have capE : ∀ (i : Nat) (x : Str) (v : V), N[i]? = some x → (capt cap σ)[i]? = some (some v) → ∃ k : Nat, X.N[k]? = some x ∧ σ[k]? = some (some v) ∧ sc.names.lookup x = some .cell ∧ scope.names.lookup x = some .free := fun i x v e1 e2 => by
    unfold capNames at hcap
    rw [Bool.and_eq_true] at hcap
    unfold capt at e2
    rw [List.getElem?_map] at e2
    cases q : cap[i]? with
    | none => rw [q] at e2; cases e2
    | some o =>
      rw [q] at e2
      have e2 : (o.bind fun k => (σ[k]?).join) = some v := Option.some.inj e2
      cases o with
      | none => cases e2
      | some k =>
        have e2 : (σ[k]?).join = some v := e2
        have mz : (some k, x) ∈ cap.zip N := by
          refine List.mem_of_getElem? (i := i) ?_
          rw [List.getElem?_zip_eq_some]
          exact ⟨q, e1⟩
        have z := List.all_eq_true.mp hcap.2 _ mz
        simp only [Bool.and_eq_true, beq_iff_eq] at z
        refine ⟨k, z.1.1, ?_, z.1.2, z.2⟩
        cases w : σ[k]? with
        | none => rw [w] at e2; cases e2
        | some o' =>
          rw [w] at e2
          have e2 : o' = some v := e2
          rw [e2]
  have I0 : Inv (cxB X N scope cl C fp s H) [(D, { cls := .type "list", dict := none, data := .seq ([] : List Value).toArray })] (capt cap σ) H { s with heap := h₁, toks := s.toks + ([] : List (Str × Value)).length } := by
    have dfree : H D = none := I.hok.fresh (Nat.le_of_eq hDD)
    refine ⟨okX, rfl, I.bare, Un.kept old, ⟨_, hns₁, fun i x v e1 e2 e3 => ?_⟩, fun x c e => ?_, I.hok.fresh (by rw [hDD]; exact hCle), fun x c e => I.freeC x c (csub x c e), fun p hp => ?_, I.hok.kept old, ?_⟩
    · obtain ⟨k, q1, q2, q3, q4⟩ := capE i x v e1 e2
      have q3' : X.env.scope.names.lookup x = some .cell := by rw [hsc]; exact q3
      obtain ⟨m, _, hl⟩ := I.loc
      obtain ⟨u, ru, lk⟩ := hl k x v q1 q2 (.inr (.inl q3'))
      refine ⟨u, ru, .inr ⟨.inl (lookup_relabel_free I.ok.kind q4 q3'), ?_⟩⟩
      rcases lk with ⟨z, _⟩ | ⟨_, c, z, ic⟩
      · have z' : X.env.scope.names.lookup x = some .local := z
        rw [q3'] at z'; cases z'
      · obtain ⟨c', hc'⟩ := chas x (.inl (lookup_relabel_free I.ok.kind q4 q3'))
        have := csub x c' hc'
        rw [z] at this
        have ec : c = c' := Option.some.inj this
        subst ec
        obtain ⟨o, ho, hd⟩ := ic
        exact ⟨c, hc', o, old c o ho, hd⟩
    · obtain ⟨v, o, ho, hd⟩ := I.cell x c (csub x c e)
      exact ⟨v, o, old c o ho, hd⟩
    · have hp' : p = (D, { cls := .type "list", dict := none, data := .seq ([] : List Value).toArray }) := by simpa [cxB] using hp
      subst hp'
      refine ⟨hacc, dfree, hDC, fun z => ?_, fun v z => by cases z⟩
      have := I.low D z
      rw [hDD] at this
      exact Nat.lt_irrefl _ this
    · show (capt cap σ).length = N.length
      unfold capNames at hcap
      rw [Bool.and_eq_true] at hcap
      unfold capt
      rw [List.length_map]
      simpa using hcap.1
  have dlow : ∀ b, b < D → b ≠ D := fun b hb => Nat.ne_of_lt hb
  have loop : ∀ s₃ : Shared, s₃ = { s with heap := h₁, toks := s.toks + ([] : List (Str × Value)).length } →
      codeAny (model X.prog X.w) X.A (.compLoop (.ListComp elt [⟨tg, iter, ifs, 0⟩] scope pos) 0 (.ref it) (.ref D) (compEnvC scope cl C X.env)) (RR (.ref D) C) s₃ := by
    rintro s₃ rfl
    refine comp_loop (fun n s' => ∃ (i : Nat) (ys : List V) (σb : St) (H2 : Hp) (its : List Value) (nn : Nat), Inv (cxB X N scope cl C fp s H) [(D, { cls := .type "list", dict := none, data := .seq its.toArray nn })] σb H2 s' ∧ tn i s'.heap ∧ (∀ b ∈ fp, H2 b = none) ∧ Vals ys its ∧ ys.length ≤ sizeLine ∧ W i n ys σb H2) ?_ m0
      ⟨0, [], capt cap σ, H, [], 0, I0, T.keep 0 _ _ st fun b hb o e => old b o e, fun b hb => (hfp b hb).1, .nil, Nat.zero_le _, w0⟩
    rintro n s3 ⟨i, ys, σ3, H3, its, nn, I3, st3, fr3, rv3, hlen, w3⟩
    have fpX : ∀ {H' : Hp} {its' : List Value} {nn' : Nat}, (∀ b ∈ fp, H' b = none) → ∀ b ∈ fp, FpOk (cxB X N scope cl C fp s H) [(D, { cls := .type "list", dict := none, data := .seq its'.toArray nn' })] H' b := fun {H' its' nn'} hn b hb => by
      refine ⟨hn b hb, neC b (flow b hb), fstk b hb, .inl hb, fun x c e => (hfp b hb).2.2.2.2.1 x c (csub x c e), fun p hp => ?_⟩
      have hp' : p.1 = D := by
        have q : p ∈ ([] : List (Addr × Obj)) ++ [(D, { cls := .type "list", dict := none, data := .seq its'.toArray nn' })] := hp
        rw [List.nil_append, List.mem_singleton] at q
        rw [q]
      rw [hp']
      exact Ne.symm (dlow b (flow b hb))
    rcases turn i n ys σ3 H3 w3 with ⟨stop, fin⟩ | ⟨go, hsz, Nx, hN, step⟩
    · refine thn (T.done (cxB X N scope cl C fp s H) rfl rfl rfl rfl i _ s3 σ3 H3 (fun _ _ => False) I3 (fpX fr3) st3 stop) fun r s4 ⟨hr, I4⟩ => ?_
      subst hr
      obtain ⟨m4, ns4, _⟩ := id I4.loc
      have J0 : Inv X pins σ H3 s4 := I.call' (ch := fp) I4.os I4.base I4.hok I4.bare fun b hb => ⟨(hfp b hb).2.2.2.1, (hfp b hb).2.1, (hfp b hb).2.2.2.2.1, (hfp b hb).2.2.2.2.2⟩
      obtain ⟨pd, pn, _⟩ := I4.pin (D, _) (List.mem_append_right _ List.mem_cons_self)
      have hLD : X.env.locals < D := by rw [← hDD]; exact I.lt
      refine fin D C s4 pn I4.free hDC (Nat.le_trans I.sz (by rw [hDD]; exact hCle)) (Nat.ne_of_gt (Nat.lt_of_lt_of_le hLD hCle)) (fun x c e => neC c (cexX x c e)) (fun p hp => neC _ (pexX p hp)) (fun z => absurd (I.low C z) (by rw [hDD]; exact Nat.not_lt.mpr hCle)) ⟨m4, ns4⟩ ?_
      refine J0.track pn (by rw [← hDD]; exact I.sz) (Nat.ne_of_gt hLD) (fun x c e => dlow c (cexX x c e)) (fun p hp => dlow _ (pexX p hp)) ?_
      exact ⟨hlen, its, nn, rv3, pd⟩
    · refine thn (T.item (cxB X N scope cl C fp s H) rfl rfl rfl rfl i _ s3 σ3 H3 (fun _ _ => False) I3 (fpX fr3) st3 go) fun r s4 ⟨u, hr, h4⟩ => ?_
      subst hr
      refine thn h4 fun _ s5 ⟨x, H5, I5, r5, y5, st5, fr5⟩ => ?_
      have I5' := I5.pinned (fpX fr5) (T.obj _ _ st5)
      refine thn (hg cl C _ s5 σ3 H5 x u _ I5' r5 (step x H5 y5)) fun _ s6 ⟨σ6, H6, I6, q6⟩ => ?_
      refine thn (ht cl C _ s6 σ6 H6 _ I6 q6) fun b s7 ⟨H7, I7, q7⟩ => ?_
      have tnK : ∀ {σ7 : St} {H7 : Hp} {s7 : Shared}, Inv (cxB X N scope cl C fp s H) ([(D, { cls := .type "list", dict := none, data := .seq its.toArray nn })] ++ pinsAt fp s5.heap) σ7 H7 s7 → tn (i + 1) s7.heap ∧ ∀ b ∈ fp, H7 b = none := fun {σ7 H7 s7} I7 => by
        refine ⟨T.keep _ _ _ st5 fun b hb o e => (I7.pin (b, o) (List.mem_append_right _ (List.mem_append_right _ (mem_pinsAt hb e)))).1, fun b hb => ?_⟩
        obtain ⟨o, e, d⟩ := T.obj _ _ st5 b hb
        exact (I7.pin (b, o) (List.mem_append_right _ (List.mem_append_right _ (mem_pinsAt hb e)))).2.1
      cases b with
      | false =>
        have q7' : Nx ys σ6 H7 := q7
        obtain ⟨m', hm, w7⟩ := hN _ _ _ q7'
        obtain ⟨t7, f7⟩ := tnK I7
        exact ⟨m', hm, i + 1, ys, σ6, H7, its, nn, I7.unpinned, t7, f7, rv3, hlen, w7⟩
      | true =>
        have q7' : te σ6 H7 fun v H5 => Nx (ys ++ [v]) σ6 H5 := q7
        refine thn (he cl C _ s7 σ6 H7 _ I7 q7') fun y s8 ⟨v, H8, I8, r8, q8⟩ => ?_
        obtain ⟨m', hm, w8⟩ := hN _ _ _ q8
        obtain ⟨pd, pn, pL, pf, pc⟩ := I8.pin (D, { cls := .type "list", dict := none, data := .seq its.toArray nn }) (List.mem_append_right _ (List.mem_append_left _ List.mem_cons_self))
        have hits : its.length = ys.length := rv3.length.symm
        refine wpAny_list_append_plain (items := its.toArray) ⟨nn, pd⟩ (fun h9 pl9 sb9 => ?_) (by rw [List.size_toArray, hits]; exact Nat.le_of_lt hsz)
        obtain ⟨n9, e9⟩ := pl9
        have e9' : h9.get? D = some { cls := .type "list", dict := none, data := .seq (its ++ [y]).toArray n9 } := by
          rw [e9]
          simp
        have I8' : Inv (cxB X N scope cl C fp s H) (pinsAt fp s5.heap) σ6 H8 s8 := I8.pins_of fun p hp => I8.pin p (List.mem_append_right _ (List.mem_append_right _ hp))
        have I9 : Inv (cxB X N scope cl C fp s H) (pinsAt fp s5.heap) σ6 H8 { s8 with heap := h9, toks := s8.toks } := I8'.turned (it := D) (fun b o hb e => sb9.extBut b o hb e) pn hDC (.inr (by rw [← hDD]; exact Nat.le_refl _)) (fun x c e => dlow c (cexi x c e)) fun p hp => by
          have hp' : p ∈ pinsAt fp s5.heap := by simpa [cxB] using hp
          exact dlow _ (flow _ (of_pinsAt hp').1)
        have tn9 : tn (i + 1) h9 := T.keep _ _ _ st5 fun b hb o e => (I9.pin (b, o) (List.mem_append_right _ (mem_pinsAt hb e))).1
        have fr9 : ∀ b ∈ fp, H8 b = none := fun b hb => by
          obtain ⟨o, e, d⟩ := T.obj _ _ st5 b hb
          exact (I9.pin (b, o) (List.mem_append_right _ (mem_pinsAt hb e))).2.1
        refine ⟨m', hm, i + 1, ys ++ [v], σ6, H8, its ++ [y], n9, I9.pins_of fun p hp => ?_, tn9, fr9, Vals.append rv3 (.cons r8 .nil), by rw [List.length_append]; exact hsz, w8⟩
        have hp' : p = (D, { cls := .type "list", dict := none, data := .seq (its ++ [y]).toArray n9 }) := List.mem_singleton.mp hp
        subst hp'
        exact ⟨e9', pn, pL, pf, fun v z => by cases z⟩
  exact codeAny_compStart_list (loop _ rfl) (T.self _ 0 _ _ _ (T.keep 0 _ _ st fun b hb o e => old b o e) (loop _ rfl))
end L2

namespace DL
open PySem PySem.Spec PyProof.Rows L2
abbrev St := L2.St

/-! ### data -/
inductive D where
  | non | bl (b : Bool) | int (i : Int) | str (x : Str) | tup (ds : List D) | lst (ds : List D) | dic | scr (ns : List Int) | dki (ks : List Key) (ds : List D)
mutual
def Rep (K : PySem.W.Frag) (H : Hp) : D → V → Prop
  | .non, v => v = .non
  | .bl b, v => v = .bl b
  | .int i, v => v = .int i
  | .str x, v => v = .str x
  | .tup ds, v => ∃ a xs, v = .ref a ∧ H a = some (.tup xs) ∧ RepL K H ds xs
  | .lst ds, v => ∃ a xs, v = .ref a ∧ H a = some (.lst xs) ∧ RepL K H ds xs
  | .dic, v => ∃ a, v = .ref a ∧ H a = some (.dK [])
  | .dki ks ds, v => ∃ a xs, v = .ref a ∧ H a = some (.dK (ks.zip xs)) ∧ ks.length = ds.length ∧ RepL K H ds xs
  | .scr ns, v => ∃ a, v = .ref a ∧ SqL K H a (ns.map V.int)
def RepL (K : PySem.W.Frag) (H : Hp) : List D → List V → Prop
  | [], xs => xs = []
  | d :: ds, xs => ∃ y ys, xs = y :: ys ∧ Rep K H d y ∧ RepL K H ds ys
end
mutual
theorem Rep.mono {K : PySem.W.Frag} {H H' : Hp} (h : Same H H') : ∀ {d : D} {v : V}, Rep K H d v → Rep K H' d v
  | .non, _, r => by simpa only [Rep] using r
  | .bl _, _, r => by simpa only [Rep] using r
  | .int _, _, r => by simpa only [Rep] using r
  | .str _, _, r => by simpa only [Rep] using r
  | .tup ds, v, r => by
    simp only [Rep] at r ⊢
    obtain ⟨a, xs, e, q, rl⟩ := r
    exact ⟨a, xs, e, h _ _ q, RepL.mono h rl⟩
  | .lst ds, v, r => by
    simp only [Rep] at r ⊢
    obtain ⟨a, xs, e, q, rl⟩ := r
    exact ⟨a, xs, e, h _ _ q, RepL.mono h rl⟩
  | .dki ks ds, v, r => by
    simp only [Rep] at r ⊢
    obtain ⟨a, xs, e, q, l, rl⟩ := r
    exact ⟨a, xs, e, h _ _ q, l, RepL.mono h rl⟩
  | .dic, v, r => by
    simp only [Rep] at r ⊢
    obtain ⟨a, e, q⟩ := r
    exact ⟨a, e, h _ _ q⟩
  | .scr ns, v, r => by
    simp only [Rep] at r ⊢
    obtain ⟨a, e, q⟩ := r
    exact ⟨a, e, h.seq q⟩
theorem RepL.mono {K : PySem.W.Frag} {H H' : Hp} (h : Same H H') : ∀ {ds : List D} {xs : List V}, RepL K H ds xs → RepL K H' ds xs
  | [], _, r => by simpa only [RepL] using r
  | d :: ds, xs, r => by
    simp only [RepL] at r ⊢
    obtain ⟨y, ys, e, q, rl⟩ := r
    exact ⟨y, ys, e, Rep.mono h q, RepL.mono h rl⟩
end
theorem RepL.len {K : PySem.W.Frag} {H : Hp} : ∀ {ds : List D} {xs : List V}, RepL K H ds xs → xs.length = ds.length
  | [], _, r => by simp only [RepL] at r; rw [r]; rfl
  | d :: ds, xs, r => by
    simp only [RepL] at r
    obtain ⟨y, ys, rfl, _, q⟩ := r
    simp only [List.length_cons, RepL.len q]
theorem RepL.get {K : PySem.W.Frag} {H : Hp} : ∀ {ds : List D} {xs : List V} {i : Nat} {d : D}, RepL K H ds xs → ds[i]? = some d → ∃ v, xs[i]? = some v ∧ Rep K H d v
  | [], _, i, d, r, e => by simp at e
  | d' :: ds, xs, i, d, r, e => by
    simp only [RepL] at r
    obtain ⟨y, ys, rfl, q, rl⟩ := r
    cases i with
    | zero =>
      simp at e
      subst e
      exact ⟨y, rfl, q⟩
    | succ i =>
      have e' : ds[i]? = some d := by simpa using e
      obtain ⟨v, h1, h2⟩ := RepL.get rl e'
      exact ⟨v, by simpa using h1, h2⟩
theorem RepL.app {K : PySem.W.Frag} {H : Hp} : ∀ {ds es : List D} {xs ys : List V}, RepL K H ds xs → RepL K H es ys → RepL K H (ds ++ es) (xs ++ ys)
  | [], es, xs, ys, r, q => by
    simp only [RepL] at r
    subst r
    exact q
  | d :: ds, es, xs, ys, r, q => by
    simp only [RepL] at r
    obtain ⟨y, zs, rfl, a, rl⟩ := r
    show RepL K H (d :: (ds ++ es)) (y :: (zs ++ ys))
    simp only [RepL]
    exact ⟨y, _, rfl, a, RepL.app rl q⟩
theorem RepL.nil {K : PySem.W.Frag} {H : Hp} : RepL K H [] [] := by simp only [RepL]
theorem RepL.cons {K : PySem.W.Frag} {H : Hp} {d : D} {ds : List D} {x : V} {xs : List V} (a : Rep K H d x) (b : RepL K H ds xs) : RepL K H (d :: ds) (x :: xs) := by
  simp only [RepL]
  exact ⟨x, xs, rfl, a, b⟩
theorem RepL.one {K : PySem.W.Frag} {H : Hp} {d : D} {x : V} (a : Rep K H d x) : RepL K H [d] [x] := .cons a .nil
theorem RepL.uncons {K : PySem.W.Frag} {H : Hp} {d : D} {ds : List D} {xs : List V} (r : RepL K H (d :: ds) xs) : ∃ y ys, xs = y :: ys ∧ Rep K H d y ∧ RepL K H ds ys := by
  simpa only [RepL] using r
theorem RepL.take {K : PySem.W.Frag} {H : Hp} : ∀ {ds : List D} {xs : List V} (n : Nat), RepL K H ds xs → RepL K H (ds.take n) (xs.take n)
  | _, _, 0, _ => by simp only [List.take_zero]; exact .nil
  | [], xs, n + 1, r => by
    simp only [RepL] at r
    subst r
    exact .nil
  | d :: ds, xs, n + 1, r => by
    obtain ⟨y, ys, rfl, a, rl⟩ := r.uncons
    simp only [List.take_succ_cons]
    exact .cons a (RepL.take n rl)
theorem RepL.drop {K : PySem.W.Frag} {H : Hp} : ∀ {ds : List D} {xs : List V} (n : Nat), RepL K H ds xs → RepL K H (ds.drop n) (xs.drop n)
  | _, _, 0, r => by simpa only [List.drop_zero] using r
  | [], xs, n + 1, r => by
    simp only [RepL] at r
    subst r
    exact .nil
  | d :: ds, xs, n + 1, r => by
    obtain ⟨y, ys, rfl, a, rl⟩ := r.uncons
    simp only [List.drop_succ_cons]
    exact RepL.drop n rl
theorem RepL.ints {K : PySem.W.Frag} {H : Hp} : ∀ {ns : List Int} {xs : List V}, RepL K H (ns.map D.int) xs → xs = ns.map V.int
  | [], xs, r => by simpa only [List.map_nil, RepL] using r
  | n :: ns, xs, r => by
    rw [List.map_cons] at r
    obtain ⟨y, ys, rfl, a, rl⟩ := r.uncons
    simp only [Rep] at a
    rw [a, RepL.ints rl]
    rfl
theorem RepL.set {K : PySem.W.Frag} {H : Hp} {d : D} {v : V} (q : Rep K H d v) : ∀ {ds : List D} {xs : List V} (i : Nat), RepL K H ds xs → RepL K H (ds.set i d) (xs.set i v)
  | [], xs, i, r => by
    simp only [RepL] at r
    subst r
    exact .nil
  | d' :: ds, xs, i, r => by
    obtain ⟨y, ys, rfl, a, rl⟩ := r.uncons
    cases i with
    | zero => exact .cons q rl
    | succ i => exact .cons a (RepL.set q i rl)

/-! ### the state of a frame, over data: F is what nobody changes, H all that is tracked -/
inductive Slot where
  | un | val (d : D) | own (l : Addr) (ds : List D) | gh (d : D) (G : V → Hp → Prop) | od (l : Addr) (ks : List Key) (ds : List D) | ox (ls : List Addr) (G : V → Hp → Hp → Prop)
/-- what is ours at l may be written, and is no cell -/
def Wr (l : Addr) : HO → Prop
  | .lst _ => True
  | .dK _ => True
  | .ext φ => ∃ o : Obj, φ = (fun h => h.get? l = some o) ∧ ∀ v, o.data ≠ .cell v
  | _ => False
def SlotOk (K : PySem.W.Frag) (F H : Hp) : Slot → Option V → Prop
  | .un, _ => True
  | .val d, o => ∃ v, o = some v ∧ Rep K F d v
  | .own l ds, o => o = some (.ref l) ∧ F l = none ∧ ∃ xs, H l = some (.lst xs) ∧ RepL K F ds xs
  | .od l ks ds, o => o = some (.ref l) ∧ F l = none ∧ ∃ xs, H l = some (.dK (ks.zip xs)) ∧ ks.length = ds.length ∧ RepL K F ds xs
  | .gh d G, o => ∃ v, o = some v ∧ Rep K F d v ∧ ∀ F', Same F F' → G v F'
  | .ox ls G, o => ∃ v, o = some v ∧ (∀ l ∈ ls, F l = none ∧ ∃ ob, H l = some ob ∧ Wr l ob) ∧ ∀ F' H', Same F F' → (∀ l ∈ ls, ∀ ob, H l = some ob → H' l = some ob) → G v F' H'
def SlotsOk (K : PySem.W.Frag) (F H : Hp) : List Slot → St → Prop
  | [], σ => σ = []
  | z :: zs, σ => ∃ o r, σ = o :: r ∧ SlotOk K F H z o ∧ SlotsOk K F H zs r
def ownL : Slot → List Addr
  | .own l _ => [l]
  | .od l _ _ => [l]
  | .ox ls _ => ls
  | _ => []
def owned (sd : List Slot) : List Addr := sd.flatMap ownL
theorem owned_cons (z : Slot) (zs : List Slot) : owned (z :: zs) = ownL z ++ owned zs := rfl
structure StF (K : PySem.W.Frag) (H₀ F H : Hp) (σ : St) (sd : List Slot) : Prop where
  base : Same H₀ F
  sub : Same F H
  smp : Smp H
  slots : SlotsOk K F H sd σ
  nd : (owned sd).Nodup
section
variable {K : PySem.W.Frag} {H₀ F F' H H' : Hp} {σ : St} {sd : List Slot}
theorem SlotsOk.get : ∀ {sd : List Slot} {σ : St} {i : Nat} {z : Slot}, SlotsOk K F H sd σ → sd[i]? = some z → ∃ o, σ[i]? = some o ∧ SlotOk K F H z o
  | [], _, _, _, _, e => by simp at e
  | z' :: zs, σ, i, z, h, e => by
    obtain ⟨o, r, rfl, a, b⟩ := h
    cases i with
    | zero =>
      simp at e
      subst e
      exact ⟨o, rfl, a⟩
    | succ i =>
      obtain ⟨o', h1, h2⟩ := SlotsOk.get (i := i) b (by simpa using e)
      exact ⟨o', by simpa using h1, h2⟩
theorem SlotsOk.set {z : Slot} {o : Option V} (q : SlotOk K F H z o) : ∀ {sd : List Slot} {σ : St} (i : Nat), SlotsOk K F H sd σ → SlotsOk K F H (sd.set i z) (σ.set i o)
  | [], _, _, h => by
    have h : _ = _ := h
    subst h
    rfl
  | z' :: zs, σ, i, h => by
    obtain ⟨o', r, rfl, a, b⟩ := h
    cases i with
    | zero => exact ⟨o, r, rfl, q, b⟩
    | succ i => exact ⟨o', _, rfl, a, SlotsOk.set q i b⟩
theorem SlotsOk.mono (hF : Same F F') : ∀ {sd : List Slot} {σ : St}, (∀ l ∈ owned sd, F' l = none ∧ ∀ xs, H l = some xs → H' l = some xs) → SlotsOk K F H sd σ → SlotsOk K F' H' sd σ
  | [], _, _, h => h
  | z :: zs, σ, ho, h => by
    obtain ⟨o, r, rfl, a, b⟩ := h
    refine ⟨o, r, rfl, ?_, SlotsOk.mono hF (fun l hl => ho l ?_) b⟩
    · cases z with
      | un => trivial
      | val d => obtain ⟨v, e, q⟩ := a; exact ⟨v, e, q.mono hF⟩
      | gh d G => obtain ⟨v, e, q, g⟩ := a; exact ⟨v, e, q.mono hF, fun F2 s2 => g F2 (hF.trans s2)⟩
      | own l ds =>
        obtain ⟨e, n, xs, q, rl⟩ := a
        have := ho l (by simp [owned_cons, ownL])
        exact ⟨e, this.1, xs, this.2 _ q, rl.mono hF⟩
      | od l ks ds =>
        obtain ⟨e, n, xs, q, ln, rl⟩ := a
        have := ho l (by simp [owned_cons, ownL])
        exact ⟨e, this.1, xs, this.2 _ q, ln, rl.mono hF⟩
      | ox ls G =>
        obtain ⟨v, e, h, g⟩ := a
        have ho' : ∀ l ∈ ls, F' l = none ∧ ∀ xs, H l = some xs → H' l = some xs := fun l hl => ho l (List.mem_append_left _ hl)
        exact ⟨v, e, fun l hl => ⟨(ho' l hl).1, let ⟨ob, q, w⟩ := (h l hl).2; ⟨ob, (ho' l hl).2 _ q, w⟩⟩, fun F2 H2 s2 k => g F2 H2 (hF.trans s2) fun l hl ob q => k l hl ob ((ho' l hl).2 _ q)⟩
    · exact List.mem_append_right _ hl
theorem SlotsOk.owns : ∀ {sd : List Slot} {σ : St} {l : Addr}, SlotsOk K F H sd σ → l ∈ owned sd → F l = none ∧ ∃ ob, H l = some ob ∧ Wr l ob
  | [], _, _, _, e => by simp [owned] at e
  | z :: zs, σ, l, h, e => by
    obtain ⟨o, r, rfl, a, b⟩ := h
    rcases List.mem_append.mp (show l ∈ ownL z ++ owned zs from e) with e | e
    · cases z with
      | un => cases e
      | val d => cases e
      | gh d G => cases e
      | own l' ds =>
        rw [List.mem_singleton.mp e]
        obtain ⟨_, n, xs, q, _⟩ := a
        exact ⟨n, _, q, trivial⟩
      | od l' ks ds =>
        rw [List.mem_singleton.mp e]
        obtain ⟨_, n, xs, q, _⟩ := a
        exact ⟨n, _, q, trivial⟩
      | ox ls G =>
        obtain ⟨v, _, h, _⟩ := a
        exact h l e
    · exact SlotsOk.owns b e
/-- a new thing is laid, known to all -/
theorem StF.lay {p : Addr} {o : HO} (S : StF K H₀ F H σ sd) (hp : H p = none) (ho : SmpO o) : StF K H₀ (upd F p o) (upd H p o) σ sd ∧ Same F (upd F p o) := by
  have fp : F p = none := S.sub.free hp
  have s1 : Same F (upd F p o) := fun b u e => by rw [upd_ne (ne_of_none e fp)]; exact e
  refine ⟨⟨fun b u e => s1 _ _ (S.base _ _ e), fun b u e => ?_, fun b u e => ?_, S.slots.mono s1 fun l hl => ?_, S.nd⟩, s1⟩
  · by_cases h : b = p
    · subst h
      rw [upd_same] at e ⊢
      exact e
    · rw [upd_ne h] at e ⊢
      exact S.sub _ _ e
  · by_cases h : b = p
    · subst h
      rw [upd_same] at e
      cases e
      exact ho
    · rw [upd_ne h] at e
      exact S.smp _ _ e
  · obtain ⟨n, xs, q, _⟩ := S.slots.owns hl
    have hne : l ≠ p := ne_of_none q hp
    exact ⟨by rw [upd_ne hne]; exact n, fun ys e => by rw [upd_ne hne]; exact e⟩
/-- a new list is laid, ours alone -/
theorem StF.layO {p : Addr} {xs : List V} (S : StF K H₀ F H σ sd) (hp : H p = none) : StF K H₀ F (upd H p (.lst xs)) σ sd ∧ F p = none ∧ p ∉ owned sd := by
  have fp : F p = none := S.sub.free hp
  refine ⟨⟨S.base, fun b u e => ?_, fun b u e => ?_, S.slots.mono (Same.refl _) fun l hl => ?_, S.nd⟩, fp, fun hl => ?_⟩
  · rw [upd_ne (ne_of_none e fp)]
    exact S.sub _ _ e
  · by_cases h : b = p
    · subst h
      rw [upd_same] at e
      cases e
      trivial
    · rw [upd_ne h] at e
      exact S.smp _ _ e
  · obtain ⟨n, ys, q, _⟩ := S.slots.owns hl
    have hne : l ≠ p := ne_of_none q hp
    exact ⟨n, fun ys e => by rw [upd_ne hne]; exact e⟩
  · obtain ⟨n, ys, q, _⟩ := S.slots.owns hl
    rw [hp] at q
    cases q
/-- a list of ours is given to all -/
theorem StF.freeze {p : Addr} {xs : List V} (S : StF K H₀ F H σ sd) (hp : H p = some (.lst xs)) (fp : F p = none) (ho : p ∉ owned sd) : StF K H₀ (upd F p (.lst xs)) H σ sd ∧ Same F (upd F p (.lst xs)) := by
  have s1 : Same F (upd F p (.lst xs)) := fun b u e => by rw [upd_ne (ne_of_none e fp)]; exact e
  refine ⟨⟨fun b u e => s1 _ _ (S.base _ _ e), fun b u e => ?_, S.smp, S.slots.mono s1 fun l hl => ?_, S.nd⟩, s1⟩
  · by_cases h : b = p
    · subst h
      rw [upd_same] at e
      rw [hp]
      exact e
    · rw [upd_ne h] at e
      exact S.sub _ _ e
  · obtain ⟨n, ys, q, _⟩ := S.slots.owns hl
    have hne : l ≠ p := fun z => ho (z ▸ hl)
    exact ⟨by rw [upd_ne hne]; exact n, fun ys e => e⟩
theorem SlotsOk.len : ∀ {sd : List Slot} {σ : St}, SlotsOk K F H sd σ → σ.length = sd.length
  | [], _, h => by
    have h : _ = _ := h
    rw [h]
    rfl
  | z :: zs, σ, h => by
    obtain ⟨o, r, rfl, _, b⟩ := h
    simp [SlotsOk.len b]
end

/-! ### results -/
inductive R where
  | val (d : D) | own (ds : List D) | bor (ds : List D) | pr (d : D) (ls : List D) | ox (G : V → List Addr → Hp → Hp → Prop)
def LOk (K : PySem.W.Frag) (F H : Hp) (sd : List Slot) (v : V) (ds : List D) : Prop :=
  ∃ l xs, v = .ref l ∧ H l = some (.lst xs) ∧ RepL K F ds xs ∧ (F l = some (.lst xs) ∨ Slot.own l ds ∈ sd)
def ResOk (K : PySem.W.Frag) (F H : Hp) (sd : List Slot) : R → V → Prop
  | .val d, v => Rep K F d v
  | .own ds, v => ∃ l xs, v = .ref l ∧ F l = none ∧ H l = some (.lst xs) ∧ RepL K F ds xs ∧ l ∉ owned sd
  | .bor ds, v => LOk K F H sd v ds
  | .pr d ls, v => ∃ t l xs y, v = .ref t ∧ F t = some (.tup [y, .ref l]) ∧ Rep K F d y ∧ F l = none ∧ H l = some (.lst xs) ∧ RepL K F ls xs ∧ l ∉ owned sd
  | .ox G, v => ∃ ls : List Addr, ls.Nodup ∧ (∀ l ∈ ls, F l = none ∧ (∃ ob, H l = some ob ∧ Wr l ob) ∧ l ∉ owned sd) ∧ ∀ F' H', Same F F' → (∀ l ∈ ls, ∀ ob, H l = some ob → H' l = some ob) → G v ls F' H'
def R.keeps : R → Prop
  | .own _ => False
  | .pr _ _ => False
  | .ox _ => False
  | _ => True
section
variable {K : PySem.W.Frag} {H₀ F F' H H' : Hp} {σ : St} {sd : List Slot} {r : R} {v : V}
theorem ResOk.keep (hr : r.keeps) (h : ResOk K F H sd r v) (S' : StF K H₀ F' H' σ sd) (s : Same F F') : ResOk K F' H' sd r v := by
  cases r with
  | val d => exact Rep.mono s h
  | own ds => exact hr.elim
  | pr d ls => exact hr.elim
  | ox G => exact hr.elim
  | bor ds =>
    obtain ⟨l, xs, e, hl, rl, q⟩ := h
    rcases q with q | q
    · exact ⟨l, xs, e, S'.sub _ _ (s _ _ q), rl.mono s, .inl (s _ _ q)⟩
    · obtain ⟨i, hi⟩ := List.getElem?_of_mem q
      obtain ⟨o, _, e2, _, ys, h1, h2⟩ := S'.slots.get hi
      exact ⟨l, ys, e, h1, h2, .inr q⟩
end

/-! ### judgements over data -/
structure PEd (X : Cx) (sd : List Slot) (e : Expr) (r : R) : Prop where
  run : ∀ (σ : St) (F H : Hp), StF X.K X.H₀ F H σ sd →
  wE X e σ H fun v H' => ∃ F', StF X.K X.H₀ F' H' σ sd ∧ Same F F' ∧ ResOk X.K F' H' sd r v
instance {X : Cx} {sd : List Slot} {e : Expr} {r : R} : CoeFun (PEd X sd e r) (fun _ => ∀ (σ : St) (F H : Hp), StF X.K X.H₀ F H σ sd →
  wE X e σ H fun v H' => ∃ F', StF X.K X.H₀ F' H' σ sd ∧ Same F F' ∧ ResOk X.K F' H' sd r v) := ⟨PEd.run⟩
structure PTd (X : Cx) (sd : List Slot) (e : Expr) (b : Bool) : Prop where
  run : ∀ (σ : St) (F H : Hp), StF X.K X.H₀ F H σ sd →
  wT X e σ H fun c H' => c = b ∧ ∃ F', StF X.K X.H₀ F' H' σ sd ∧ Same F F'
instance {X : Cx} {sd : List Slot} {e : Expr} {b : Bool} : CoeFun (PTd X sd e b) (fun _ => ∀ (σ : St) (F H : Hp), StF X.K X.H₀ F H σ sd →
  wT X e σ H fun c H' => c = b ∧ ∃ F', StF X.K X.H₀ F' H' σ sd ∧ Same F F') := ⟨PTd.run⟩
structure PWd (X : Cx) (sd : List Slot) (e : Expr) (b : Bool) : Prop where
  run : ∀ (σ : St) (F H : Hp), StF X.K X.H₀ F H σ sd →
  wW X e σ H fun c H' => c = b ∧ ∃ F', StF X.K X.H₀ F' H' σ sd ∧ Same F F'
instance {X : Cx} {sd : List Slot} {e : Expr} {b : Bool} : CoeFun (PWd X sd e b) (fun _ => ∀ (σ : St) (F H : Hp), StF X.K X.H₀ F H σ sd →
  wW X e σ H fun c H' => c = b ∧ ∃ F', StF X.K X.H₀ F' H' σ sd ∧ Same F F') := ⟨PWd.run⟩
inductive RsOk (K : PySem.W.Frag) (F H : Hp) (sd : List Slot) : List R → List V → Prop
  | nil : RsOk K F H sd [] []
  | cons {r v rs vs} : ResOk K F H sd r v → RsOk K F H sd rs vs → RsOk K F H sd (r :: rs) (v :: vs)
structure PAd (X : Cx) (sd : List Slot) (es : List Expr) (rs : List R) : Prop where
  run : ∀ (σ : St) (F H : Hp), StF X.K X.H₀ F H σ sd →
  wA X es σ H fun vs H' => ∃ F', StF X.K X.H₀ F' H' σ sd ∧ Same F F' ∧ RsOk X.K F' H' sd rs vs
instance {X : Cx} {sd : List Slot} {es : List Expr} {rs : List R} : CoeFun (PAd X sd es rs) (fun _ => ∀ (σ : St) (F H : Hp), StF X.K X.H₀ F H σ sd →
  wA X es σ H fun vs H' => ∃ F', StF X.K X.H₀ F' H' σ sd ∧ Same F F' ∧ RsOk X.K F' H' sd rs vs) := ⟨PAd.run⟩
structure EndD where
  nx : List Slot → Prop
  rt : R → Prop
  bk : List Slot → Prop := fun _ => False
  ct : List Slot → Prop := fun _ => False
/-- what is handed back: r as it lies in F and H -/
def RetOk (K : PySem.W.Frag) (H₀ H : Hp) (r : R) (v : V) : Prop := ∃ F, Same H₀ F ∧ Same F H ∧ Smp H ∧ ResOk K F H [] r v
def lft (X : Cx) (F₀ : Hp) (E : EndD) : Ends where
  nx := fun σ H => ∃ sd F, StF X.K X.H₀ F H σ sd ∧ Same F₀ F ∧ E.nx sd
  rt := fun v H => ∃ r, RetOk X.K X.H₀ H r v ∧ E.rt r
  bk := fun σ H => ∃ sd F, StF X.K X.H₀ F H σ sd ∧ Same F₀ F ∧ E.bk sd
  ct := fun σ H => ∃ sd F, StF X.K X.H₀ F H σ sd ∧ Same F₀ F ∧ E.ct sd
structure PSd (X : Cx) (sd : List Slot) (sts : List Stmt) (E : EndD) : Prop where
  run : ∀ (σ : St) (F H : Hp), StF X.K X.H₀ F H σ sd → wSs X sts (lft X F E) σ H
instance {X : Cx} {sd : List Slot} {sts : List Stmt} {E : EndD} : CoeFun (PSd X sd sts E) (fun _ => ∀ (σ : St) (F H : Hp), StF X.K X.H₀ F H σ sd → wSs X sts (lft X F E) σ H) := ⟨PSd.run⟩
structure PSd1 (X : Cx) (sd : List Slot) (st : Stmt) (E : EndD) : Prop where
  run : ∀ (σ : St) (F H : Hp), StF X.K X.H₀ F H σ sd → wS X st (lft X F E) σ H
instance {X : Cx} {sd : List Slot} {st : Stmt} {E : EndD} : CoeFun (PSd1 X sd st E) (fun _ => ∀ (σ : St) (F H : Hp), StF X.K X.H₀ F H σ sd → wS X st (lft X F E) σ H) := ⟨PSd1.run⟩

section
variable {X : Cx} {sd : List Slot} {e a b c : Expr} {es : List Expr} {pos : Pos} {r ra rb : R} {d : D} {ds : List D}
/-- own things may be looked at as values -/
theorem PEd.val (h : PEd X sd e (.own ds)) : PEd X sd e (.val (.lst ds)) := .mk fun σ F H S => (h σ F H S).imp fun v H' ⟨F', S', s, l, xs, e, n, q, rl, no⟩ => by
  obtain ⟨S2, s2⟩ := S'.freeze q n no
  refine ⟨_, S2, s.trans s2, ?_⟩
  show Rep _ _ _ _
  simp only [Rep]
  exact ⟨l, xs, e, upd_same, rl.mono s2⟩
theorem PEd.bor (h : PEd X sd e (.val (.lst ds))) : PEd X sd e (.bor ds) := .mk fun σ F H S => (h σ F H S).imp fun v H' ⟨F', S', s, q⟩ => by
  have q : Rep _ _ _ _ := q
  simp only [Rep] at q
  obtain ⟨l, xs, e, q, rl⟩ := q
  exact ⟨F', S', s, l, xs, e, S'.sub _ _ q, rl, .inl q⟩

theorem pd_var (i : Nat) {x : Str} (hs : sd[i]? = some (.val d)) (h : PE X (.Name x pos) (tVar i)) : PEd X sd (.Name x pos) (.val d) := .mk fun σ F H S => h.to (by
  obtain ⟨o, h1, v, h2, q⟩ := S.slots.get hs
  exact ⟨v, by rw [h1, h2], F, S, Same.refl _, q⟩)
theorem pd_varB (i : Nat) {x : Str} {l : Addr} (hs : sd[i]? = some (.own l ds)) (h : PE X (.Name x pos) (tVar i)) : PEd X sd (.Name x pos) (.bor ds) := .mk fun σ F H S => h.to (by
  obtain ⟨o, h1, h2, n, xs, q, rl⟩ := S.slots.get hs
  exact ⟨.ref l, by rw [h1, h2], F, S, Same.refl _, l, xs, rfl, q, rl, .inr (List.mem_of_getElem? hs)⟩)
theorem pd_int {i j} : PEd X sd (.Constant (.int i) j pos) (.val (.int i)) := .mk fun σ F H S => pe_int.to ⟨F, S, Same.refl _, by simp only [ResOk, Rep]⟩
theorem pd_bl {i j} : PEd X sd (.Constant (.bool i) j pos) (.val (.bl i)) := .mk fun σ F H S => pe_bl.to ⟨F, S, Same.refl _, by simp only [ResOk, Rep]⟩
theorem pd_str {i j} : PEd X sd (.Constant (.str i) j pos) (.val (.str i)) := .mk fun σ F H S => pe_str.to ⟨F, S, Same.refl _, by simp only [ResOk, Rep]⟩
/-- a constant of the module: an int -/
theorem pd_globI {x : Str} {i : Int} {u : Value} (hg : Gl X x) (hm : X.mg x = some u) (ru : RelV (.int i) u) (hd : (x == ("__debug__" : Str)) = false := by decide) : PEd X sd (.Name x pos) (.val (.int i)) := .mk fun σ F H S =>
  (pe_glob hg hm ru hd).to ⟨F, S, Same.refl _, by simp only [ResOk, Rep]⟩

/-! argument lists -/
theorem RsOk.keep {K : PySem.W.Frag} {H₀ F F' H H' : Hp} {σ : St} : ∀ {rs : List R} {vs : List V}, (∀ r ∈ rs, r.keeps) → RsOk K F H sd rs vs → StF K H₀ F' H' σ sd → Same F F' → RsOk K F' H' sd rs vs
  | _, _, _, .nil, _, _ => .nil
  | _, _, hk, .cons q t, S, s => .cons (q.keep (hk _ List.mem_cons_self) S s) (RsOk.keep (fun r hr => hk r (List.mem_cons_of_mem _ hr)) t S s)
theorem pad_nil : PAd X sd [] [] := .mk fun σ F H S => pa_nil.to ⟨F, S, Same.refl _, .nil⟩
theorem pad_cons {rs : List R} (h1 : PEd X sd e r) (h2 : PAd X sd es rs) (hk : r.keeps := by trivial) (hs : starEach (e :: es) X.env = (false, eval e X.env) :: starEach es X.env := by rfl) : PAd X sd (e :: es) (r :: rs) := .mk fun σ F H S =>
  (pa_cons pe_w pa_w hs).to ((h1 σ F H S).imp fun v H1 ⟨F1, S1, s1, q1⟩ => (h2 σ F1 H1 S1).imp fun vs H2 ⟨F2, S2, s2, q2⟩ => ⟨F2, S2, s1.trans s2, .cons (q1.keep hk S2 s2) q2⟩)
theorem RsOk.vals {K : PySem.W.Frag} {F H : Hp} : ∀ {ds : List D} {vs : List V}, RsOk K F H sd (ds.map R.val) vs → RepL K F ds vs
  | [], _, .nil => .nil
  | _ :: _, _, .cons q t => .cons q (RsOk.vals t)
/-- a tuple, a list -/
theorem pd_tup {x1} (h : PAd X sd es (ds.map R.val)) (hl : ds.length ≤ 1000) : PEd X sd (.Tuple es x1 pos) (.val (.tup ds)) := .mk fun σ F H S =>
  (pe_tup pa_w).to ((h σ F H S).imp fun vs H1 ⟨F1, S1, s1, q1⟩ => by
    have rl := q1.vals
    refine ⟨by rw [rl.len]; exact Nat.le_of_lt (small1000 hl), fun p hp => ?_⟩
    obtain ⟨S2, s2⟩ := S1.lay (o := .tup vs) hp trivial
    refine ⟨_, S2, s1.trans s2, ?_⟩
    simp only [ResOk, Rep]
    exact ⟨p, vs, rfl, upd_same, rl.mono s2⟩)
theorem pd_lst (h : PAd X sd es (ds.map R.val)) (hl : ds.length ≤ 1000) : PEd X sd (.List es pos) (.own ds) := .mk fun σ F H S =>
  (pe_lst pa_w).to ((h σ F H S).imp fun vs H1 ⟨F1, S1, s1, q1⟩ => by
    have rl := q1.vals
    refine ⟨by rw [rl.len]; exact Nat.le_of_lt (small1000 hl), fun p hp => ?_⟩
    obtain ⟨S2, fp, no⟩ := S1.layO (xs := vs) hp
    exact ⟨_, S2, s1, p, vs, rfl, fp, upd_same, rl, no⟩)
/-! two-place operations -/
theorem pd_op2 {op : Operator} {r2 : R2} (ho : OpR X (binaryOp op) r2) (ha : PEd X sd a ra) (hb : PEd X sd b rb) (hk : ra.keeps)
    (h : ∀ (σ : St) (F H : Hp) (v u : V) (Q : VK), StF X.K X.H₀ F H σ sd → ResOk X.K F H sd ra v → ResOk X.K F H sd rb u → (∀ w F' H', StF X.K X.H₀ F' H' σ sd → Same F F' → ResOk X.K F' H' sd r w → Q w H') → r2 v u H Q) :
    PEd X sd (.BinOp a op b pos) r := .mk fun σ F H S =>
  (pe_op ho pe_w pe_w).to ((ha σ F H S).imp fun v H1 ⟨F1, S1, s1, q1⟩ => (hb σ F1 H1 S1).imp fun u H2 ⟨F2, S2, s2, q2⟩ =>
    h σ F2 H2 v u _ S2 (q1.keep hk S2 s2) q2 fun w F' H' S' s' q' => ⟨F', S', (s1.trans s2).trans s', q'⟩)
theorem pd_cmp2 {op : CmpOp} {r2 : R2} (ho : OpR X (compareOp op) r2) (ha : PEd X sd a ra) (hb : PEd X sd b rb) (hk : ra.keeps) (hm : behindInMarks op b = false) {k : Bool}
    (h : ∀ (σ : St) (F H : Hp) (v u : V) (Q : VK), StF X.K X.H₀ F H σ sd → ResOk X.K F H sd ra v → ResOk X.K F H sd rb u → (∀ F' H', StF X.K X.H₀ F' H' σ sd → Same F F' → Q (.bl k) H') → r2 v u H Q) :
    PEd X sd (.Compare a [op] [b] pos) (.val (.bl k)) := .mk fun σ F H S =>
  (pe_cmpR ho pe_w pe_w hm).to ((ha σ F H S).imp fun v H1 ⟨F1, S1, s1, q1⟩ => (hb σ F1 H1 S1).imp fun u H2 ⟨F2, S2, s2, q2⟩ =>
    h σ F2 H2 v u _ S2 (q1.keep hk S2 s2) q2 fun F' H' S' s' => ⟨F', S', (s1.trans s2).trans s', by simp only [ResOk, Rep]⟩)
/-- a value that is a bool, as a test -/
theorem ptd_val {k : Bool} (h : PEd X sd e (.val (.bl k))) (he : ∀ whole, isTrue e X.env whole = (do let v ← whole; standAt e.pos; holding [v] (truthy v)) := by intro _; rfl) : PTd X sd e k := .mk fun σ F H S =>
  (pt_val pe_w he).to ((h σ F H S).imp fun v H1 ⟨F1, S1, s1, q1⟩ => by
    simp only [ResOk, Rep] at q1
    exact ⟨k, q1, rfl, F1, S1, s1⟩)
theorem ptd_cmp2 {op : CmpOp} {r2 : R2} (ho : OpR X (compareOp op) r2) (ha : PEd X sd a ra) (hb : PEd X sd b rb) (hk : ra.keeps) (hm : behindInMarks op b = false) {k : Bool}
    (h : ∀ (σ : St) (F H : Hp) (v u : V) (Q : VK), StF X.K X.H₀ F H σ sd → ResOk X.K F H sd ra v → ResOk X.K F H sd rb u → (∀ F' H', StF X.K X.H₀ F' H' σ sd → Same F F' → Q (.bl k) H') → r2 v u H Q) :
    PTd X sd (.Compare a [op] [b] pos) k := .mk fun σ F H S =>
  (pt_cmpR ho pe_w pe_w hm).to ((ha σ F H S).imp fun v H1 ⟨F1, S1, s1, q1⟩ => (hb σ F1 H1 S1).imp fun u H2 ⟨F2, S2, s2, q2⟩ =>
    h σ F2 H2 v u _ S2 (q1.keep hk S2 s2) q2 fun F' H' S' s' => ⟨k, rfl, rfl, F', S', (s1.trans s2).trans s'⟩)
end
end DL

namespace DL
open PySem PySem.Spec PyProof.Rows L2
section
variable {X : Cx} {sd : List Slot} {e a b c : Expr} {es : List Expr} {pos : Pos} {r ra rb : R} {d : D} {ds : List D} {st : Stmt} {rest : List Stmt} {E : EndD}

theorem wS.imp {D D' : Ends} {σ : St} {H : Hp} (h : wS X st D σ H) (k1 : ∀ σ H, D.nx σ H → D'.nx σ H) (k2 : ∀ v H, D.rt v H → D'.rt v H) (k3 : ∀ σ H, D.bk σ H → D'.bk σ H) (k4 : ∀ σ H, D.ct σ H → D'.ct σ H) : wS X st D' σ H :=
  fun pins s I => thn (h pins s I) fun f s' q => q.imp k1 k2 k3 k4

/-! ### tests -/
theorem ptd_not {k : Bool} (h : PTd X sd e k) : PTd X sd (.UnaryOp .Not e pos) (!k) := .mk fun σ F H S => (pt_not pt_w).to ((h σ F H S).imp fun c H' ⟨e, q⟩ => ⟨by rw [e], q⟩)
theorem pwd_and1 {k : Bool} (h : PTd X sd a k) : PWd X sd (.BoolOp .And [a] pos) k := .mk fun σ F H S => (pw_and1 pt_w).to (h σ F H S)
theorem pwd_or1 {k : Bool} (h : PTd X sd a k) : PWd X sd (.BoolOp .Or [a] pos) k := .mk fun σ F H S => (pw_or1 pt_w).to (h σ F H S)
theorem pwd_and {k j : Bool} (h : PTd X sd a k) (h2 : k = true → PWd X sd (.BoolOp .And (b :: es) pos) j) : PWd X sd (.BoolOp .And (a :: b :: es) pos) (k && j) := .mk fun σ F H S =>
  (pw_and pt_w pw_w).to ((h σ F H S).imp fun c H' ⟨e, F', S', s'⟩ => by
    subst e
    cases c with
    | false => exact iteF ⟨rfl, F', S', s'⟩
    | true => exact iteT ((h2 rfl σ F' H' S').imp fun c2 H2 ⟨e2, F2, S2, s2⟩ => ⟨by rw [e2]; rfl, F2, S2, s'.trans s2⟩))
theorem pwd_or {k j : Bool} (h : PTd X sd a k) (h2 : k = false → PWd X sd (.BoolOp .Or (b :: es) pos) j) : PWd X sd (.BoolOp .Or (a :: b :: es) pos) (k || j) := .mk fun σ F H S =>
  (pw_or pt_w pw_w).to ((h σ F H S).imp fun c H' ⟨e, F', S', s'⟩ => by
    subst e
    cases c with
    | true => exact iteT ⟨rfl, F', S', s'⟩
    | false => exact iteF ((h2 rfl σ F' H' S').imp fun c2 H2 ⟨e2, F2, S2, s2⟩ => ⟨by rw [e2]; rfl, F2, S2, s'.trans s2⟩))
theorem PWd.pt {k : Bool} (h : PWd X sd e k) : PTd X sd e k := .mk fun σ F H S => (pw_w).pt.to (h σ F H S)
/-! values: and, or, not of bools -/
theorem pd_one {op} {r : R} (h : PEd X sd a r) : PEd X sd (.BoolOp op [a] pos) r := .mk fun σ F H S => (pe_one pe_w).to (h σ F H S)
theorem pd_and {k j : Bool} (h : PEd X sd a (.val (.bl k))) (h2 : k = true → PEd X sd (.BoolOp .And (b :: es) pos) (.val (.bl j))) : PEd X sd (.BoolOp .And (a :: b :: es) pos) (.val (.bl (k && j))) := .mk fun σ F H S =>
  (pe_and pe_w pe_w).to ((h σ F H S).imp fun v H' ⟨F', S', s', q⟩ => by
    simp only [ResOk, Rep] at q
    subst q
    refine ⟨k, rfl, ?_⟩
    cases k with
    | false => exact iteF ⟨F', S', s', by simp only [ResOk, Rep, Bool.false_and]⟩
    | true => exact iteT ((h2 rfl σ F' H' S').imp fun v2 H2 ⟨F2, S2, s2, q2⟩ => ⟨F2, S2, s'.trans s2, by simpa only [Bool.true_and] using q2⟩))
theorem pd_not {k : Bool} (h : PEd X sd a (.val (.bl k))) : PEd X sd (.UnaryOp .Not a pos) (.val (.bl (!k))) := .mk fun σ F H S =>
  (pe_not pe_w).to ((h σ F H S).imp fun v H' ⟨F', S', s', q⟩ => by
    simp only [ResOk, Rep] at q
    exact ⟨k, q, F', S', s', by simp only [ResOk, Rep]⟩)
/-! ### ints -/
theorem pd_ii {op : Operator} {g : Int → Int → Int} {i j : Int} (ho : OpR X (binaryOp op) (rI0 fun i j => .int (g i j))) (ha : PEd X sd a (.val (.int i))) (hb : PEd X sd b (.val (.int j))) : PEd X sd (.BinOp a op b pos) (.val (.int (g i j))) :=
  pd_op2 ho ha hb trivial fun σ F H v u Q S q1 q2 k => by
    simp only [ResOk, Rep] at q1 q2
    exact ⟨i, j, q1, q2, k _ F H S (Same.refl _) (by simp only [ResOk, Rep])⟩
theorem pd_iiC {op : Operator} {g : Int → Int → Int} {C : Int → Int → Prop} {i j : Int} (ho : OpR X (binaryOp op) (rI C fun i j => .int (g i j))) (ha : PEd X sd a (.val (.int i))) (hb : PEd X sd b (.val (.int j))) (hc : C i j) : PEd X sd (.BinOp a op b pos) (.val (.int (g i j))) :=
  pd_op2 ho ha hb trivial fun σ F H v u Q S q1 q2 k => by
    simp only [ResOk, Rep] at q1 q2
    exact ⟨i, j, q1, q2, hc, k _ F H S (Same.refl _) (by simp only [ResOk, Rep])⟩
theorem op_mulG : OpR X (binaryOp .Mult) (rI IntMulOk fun i j => .int (i * j)) := opI fun _ _ _ _ _ _ _ hc q => mul_int q hc
theorem op_fdivG : OpR X (binaryOp .FloorDiv) (rI (fun _ j => 0 < j ∧ j.natAbs.log2 < 9000) fun i j => .int (i / j)) := opI fun i j _ _ _ _ _ hc q => by
  have h1 : (0 : Int) < j := hc.1
  exact floordiv_int (by omega) (by rw [Int.fdiv_eq_ediv_of_nonneg i (by omega)]; exact q) (.inl (PyProof.noPylong_of_log2 hc.2))
theorem pd_cI {op : CmpOp} {g : Int → Int → Bool} {i j : Int} (ho : OpR X (compareOp op) (rI0 fun i j => .bl (g i j))) (ha : PEd X sd a (.val (.int i))) (hb : PEd X sd b (.val (.int j))) (hm : behindInMarks op b = false) : PEd X sd (.Compare a [op] [b] pos) (.val (.bl (g i j))) :=
  pd_cmp2 ho ha hb trivial hm fun σ F H v u Q S q1 q2 k => by
    simp only [ResOk, Rep] at q1 q2
    exact ⟨i, j, q1, q2, k F H S (Same.refl _)⟩
theorem ptd_cI {op : CmpOp} {g : Int → Int → Bool} {i j : Int} (ho : OpR X (compareOp op) (rI0 fun i j => .bl (g i j))) (ha : PEd X sd a (.val (.int i))) (hb : PEd X sd b (.val (.int j))) (hm : behindInMarks op b = false) : PTd X sd (.Compare a [op] [b] pos) (g i j) :=
  ptd_cmp2 ho ha hb trivial hm fun σ F H v u Q S q1 q2 k => by
    simp only [ResOk, Rep] at q1 q2
    exact ⟨i, j, q1, q2, k F H S (Same.refl _)⟩
/-- == and != of scalars -/
def flt : D → Option V
  | .non => some .non
  | .bl b => some (.bl b)
  | .int i => some (.int i)
  | .str x => some (.str x)
  | _ => none
theorem flt_rep {K : PySem.W.Frag} {H : Hp} {d : D} {x v : V} (h : flt d = some x) (q : Rep K H d v) : v = x := by
  cases d with
  | non => simp only [Rep] at q; simp only [flt] at h; rw [q]; exact Option.some.inj h
  | bl => simp only [Rep] at q; simp only [flt] at h; rw [q]; exact Option.some.inj h
  | int => simp only [Rep] at q; simp only [flt] at h; rw [q]; exact Option.some.inj h
  | str => simp only [Rep] at q; simp only [flt] at h; rw [q]; exact Option.some.inj h
  | tup => simp only [flt] at h; cases h
  | lst => simp only [flt] at h; cases h
  | dic => simp only [flt] at h; cases h
  | dki => simp only [flt] at h; cases h
  | scr => simp only [flt] at h; cases h
theorem ptd_eqS {d1 d2 : D} {x y : V} {k : Bool} (ha : PEd X sd a (.val d1)) (hb : PEd X sd b (.val d2)) (h1 : flt d1 = some x) (h2 : flt d2 = some y) (hs : scal x y = true) (hk : decide (x = y) = k) : PTd X sd (.Compare a [.Eq] [b] pos) k :=
  ptd_cmp2 op_eq ha hb trivial (nomark _) fun σ F H v u Q S q1 q2 kk => by
    have e1 := flt_rep h1 q1
    have e2 := flt_rep h2 q2
    subst e1 e2
    exact ⟨hs, by rw [hk]; exact kk F H S (Same.refl _)⟩
theorem ptd_neS {d1 d2 : D} {x y : V} {k : Bool} (ha : PEd X sd a (.val d1)) (hb : PEd X sd b (.val d2)) (h1 : flt d1 = some x) (h2 : flt d2 = some y) (hs : scal x y = true) (hk : (!decide (x = y)) = k) : PTd X sd (.Compare a [.NotEq] [b] pos) k :=
  ptd_cmp2 op_ne ha hb trivial (nomark _) fun σ F H v u Q S q1 q2 kk => by
    have e1 := flt_rep h1 q1
    have e2 := flt_rep h2 q2
    subst e1 e2
    exact ⟨hs, by rw [hk]; exact kk F H S (Same.refl _)⟩
theorem ptd_eqI {i j : Int} (ha : PEd X sd a (.val (.int i))) (hb : PEd X sd b (.val (.int j))) : PTd X sd (.Compare a [.Eq] [b] pos) (decide (i = j)) := ptd_eqS ha hb rfl rfl rfl (by rw [dec_int, Bool.beq_eq_decide_eq])
theorem ptd_neI {i j : Int} (ha : PEd X sd a (.val (.int i))) (hb : PEd X sd b (.val (.int j))) : PTd X sd (.Compare a [.NotEq] [b] pos) (!decide (i = j)) := ptd_neS ha hb rfl rfl rfl (by rw [dec_int, Bool.beq_eq_decide_eq])
/-! ### items -/
theorem pd_ixT {n : Nat} (ha : PEd X sd a (.val (.tup ds))) (hb : PEd X sd b (.val (.int (n : Int)))) (hd : ds[n]? = some d) (hs : PlainIx b) : PEd X sd (.Subscript a b pos) (.val d) := .mk fun σ F H S =>
  (pe_ix ix_tup pe_w pe_w hs).to ((ha σ F H S).imp fun v H1 ⟨F1, S1, s1, q1⟩ => (hb σ F1 H1 S1).imp fun u H2 ⟨F2, S2, s2, q2⟩ => by
    have q1 := Rep.mono s2 q1
    simp only [ResOk, Rep] at q1 q2
    obtain ⟨p, xs, e1, hp, rl⟩ := q1
    obtain ⟨w, hw, rw'⟩ := rl.get hd
    exact ⟨p, xs, (n : Int), w, e1, q2, .of (S2.sub _ _ hp), atI_nat hw, F2, S2, s1.trans s2, rw'⟩)
theorem pd_ixL {n : Nat} (ha : PEd X sd a (.bor ds)) (hb : PEd X sd b (.val (.int (n : Int)))) (hd : ds[n]? = some d) (hs : PlainIx b) : PEd X sd (.Subscript a b pos) (.val d) := .mk fun σ F H S =>
  (pe_ix ix_list pe_w pe_w hs).to ((ha σ F H S).imp fun v H1 ⟨F1, S1, s1, q1⟩ => (hb σ F1 H1 S1).imp fun u H2 ⟨F2, S2, s2, q2⟩ => by
    obtain ⟨p, xs, e1, hp, rl, _⟩ := ResOk.keep (r := .bor ds) trivial q1 S2 s2
    simp only [ResOk, Rep] at q2
    obtain ⟨w, hw, rw'⟩ := rl.get hd
    exact ⟨p, xs, (n : Int), w, e1, q2, .of hp, atI_nat hw, F2, S2, s1.trans s2, rw'⟩)
/-- the script -/
theorem pd_ixS {ns : List Int} {n : Nat} {z : Int} (ha : PEd X sd a (.val (.scr ns))) (hb : PEd X sd b (.val (.int (n : Int)))) (hd : ns[n]? = some z) (hs : PlainIx b) : PEd X sd (.Subscript a b pos) (.val (.int z)) := .mk fun σ F H S =>
  (pe_ix ix_list pe_w pe_w hs).to ((ha σ F H S).imp fun v H1 ⟨F1, S1, s1, q1⟩ => (hb σ F1 H1 S1).imp fun u H2 ⟨F2, S2, s2, q2⟩ => by
    have q1 := Rep.mono (s2.trans S2.sub) q1
    simp only [ResOk, Rep] at q1 q2
    obtain ⟨p, e1, hp⟩ := q1
    exact ⟨p, _, (n : Int), .int z, e1, q2, hp, atI_nat (by rw [List.getElem?_map, hd]; rfl), F2, S2, s1.trans s2, by simp only [ResOk, Rep]⟩)

/-! ### built-in functions -/
theorem pd_callB {x : Str} {p : Pos} {id : String} {rr : List V → Hp → VK → Prop} {rs : List R} (hc : CallR X (.builtin id) rr) (hg : Gl X x) (hm : X.mg x = none) (hv : bootBuiltins x = some (.builtin id)) (ha : PAd X sd (e :: es) rs)
    (h : ∀ (σ : St) (F H : Hp) (vs : List V) (Q : VK), StF X.K X.H₀ F H σ sd → RsOk X.K F H sd rs vs → (∀ w F' H', StF X.K X.H₀ F' H' σ sd → Same F F' → ResOk X.K F' H' sd r w → Q w H') → rr vs H Q)
    (hn : x ≠ "__name__" := by decide) (hdb : (x == ("__debug__" : Str)) = false := by decide) (he : starEach (e :: es) X.env = (false, eval e X.env) :: starEach es X.env := by rfl) (hpl : (backTo pos (starEach es X.env)).any (·.1) = false := by rfl) :
    PEd X sd (.Call (.Name x p) (e :: es) [] pos) r := .mk fun σ F H S =>
  (pe_callB hc hg hm hv pa_w hn hdb he hpl).to ((ha σ F H S).imp fun vs H1 ⟨F1, S1, s1, q1⟩ => h σ F1 H1 vs _ S1 q1 fun w F' H' S' s' q' => ⟨F', S', s1.trans s', q'⟩)
theorem pd_callTy {x : Str} {p : Pos} {T : String} {rr : List V → Hp → VK → Prop} {rs : List R} (hc : CallR X (.type T) rr) (hg : Gl X x) (hm : X.mg x = none) (hv : bootBuiltins x = some (.type T)) (ha : PAd X sd (e :: es) rs)
    (h : ∀ (σ : St) (F H : Hp) (vs : List V) (Q : VK), StF X.K X.H₀ F H σ sd → RsOk X.K F H sd rs vs → (∀ w F' H', StF X.K X.H₀ F' H' σ sd → Same F F' → ResOk X.K F' H' sd r w → Q w H') → rr vs H Q)
    (hn : x ≠ "__name__" := by decide) (hdb : (x == ("__debug__" : Str)) = false := by decide) (he : starEach (e :: es) X.env = (false, eval e X.env) :: starEach es X.env := by rfl) (hpl : (backTo pos (starEach es X.env)).any (·.1) = false := by rfl) :
    PEd X sd (.Call (.Name x p) (e :: es) [] pos) r := .mk fun σ F H S =>
  (pe_callTy hc hg hm hv pa_w hn hdb he hpl).to ((ha σ F H S).imp fun vs H1 ⟨F1, S1, s1, q1⟩ => h σ F1 H1 vs _ S1 q1 fun w F' H' S' s' q' => ⟨F', S', s1.trans s', q'⟩)
/-- len -/
theorem pd_lenT {p : Pos} (hg : Gl X "len") (hm : X.mg "len" = none) (ha : PEd X sd e (.val (.tup ds))) (hst : starEach [e] X.env = (false, eval e X.env) :: starEach [] X.env := by rfl) : PEd X sd (.Call (.Name "len" p) [e] [] pos) (.val (.int ds.length)) :=
  pd_callB (he := hst) call_len_seq hg hm PySem.boot_len (pad_cons ha pad_nil trivial hst) fun σ F H vs Q S q k => by
    cases q with
    | cons q1 q2 =>
      cases q2
      simp only [ResOk, Rep] at q1
      obtain ⟨p, xs, rfl, hp, rl⟩ := q1
      refine ⟨p, xs, rfl, .inr (.of (S.sub _ _ hp)), k _ F H S (Same.refl _) ?_⟩
      simp only [ResOk, Rep, rl.len]
theorem pd_lenL {p : Pos} (hg : Gl X "len") (hm : X.mg "len" = none) (ha : PEd X sd e (.bor ds)) (hst : starEach [e] X.env = (false, eval e X.env) :: starEach [] X.env := by rfl) : PEd X sd (.Call (.Name "len" p) [e] [] pos) (.val (.int ds.length)) :=
  pd_callB (he := hst) call_len_seq hg hm PySem.boot_len (pad_cons ha pad_nil trivial hst) fun σ F H vs Q S q k => by
    cases q with
    | cons q1 q2 =>
      cases q2
      obtain ⟨p, xs, rfl, hp, rl, _⟩ := q1
      refine ⟨p, xs, rfl, .inl (.of hp), k _ F H S (Same.refl _) ?_⟩
      simp only [ResOk, Rep, rl.len]
theorem pd_lenS {p : Pos} {ns : List Int} (hg : Gl X "len") (hm : X.mg "len" = none) (ha : PEd X sd e (.val (.scr ns))) (hst : starEach [e] X.env = (false, eval e X.env) :: starEach [] X.env := by rfl) : PEd X sd (.Call (.Name "len" p) [e] [] pos) (.val (.int ns.length)) :=
  pd_callB (he := hst) call_len_seq hg hm PySem.boot_len (pad_cons ha pad_nil trivial hst) fun σ F H vs Q S q k => by
    cases q with
    | cons q1 q2 =>
      cases q2
      have q1 := Rep.mono S.sub q1
      simp only [Rep] at q1
      obtain ⟨p, rfl, hp⟩ := q1
      refine ⟨p, _, rfl, .inl hp, k _ F H S (Same.refl _) ?_⟩
      simp only [ResOk, Rep, List.length_map]
/-- isinstance -/
def tyD : D → Value
  | .non => .type "NoneType"
  | .bl _ => .type "bool"
  | .int _ => .type "int"
  | .str _ => .type "str"
  | .tup _ => .type "tuple"
  | .lst _ => .type "list"
  | .dic => .type "dict"
  | .dki _ _ => .type "dict"
  | .scr _ => .type "list"
theorem ty_of {K : PySem.W.Frag} {H : Hp} {d : D} {v : V} (h : ∀ ns, d ≠ .scr ns) (q : Rep K H d v) : TyOf K H v (tyD d) := by
  cases d with
  | non => simp only [Rep] at q; subst q; exact .non
  | bl b => simp only [Rep] at q; subst q; exact .bl b
  | int b => simp only [Rep] at q; subst q; exact .int b
  | str b => simp only [Rep] at q; subst q; exact .str b
  | tup ds => simp only [Rep] at q; obtain ⟨a, xs, rfl, h, _⟩ := q; exact .tup h
  | lst ds => simp only [Rep] at q; obtain ⟨a, xs, rfl, h, _⟩ := q; exact .lst h
  | dic => simp only [Rep] at q; obtain ⟨a, rfl, h⟩ := q; exact .dK h
  | dki ks ds => simp only [Rep] at q; obtain ⟨a, xs, rfl, h, _⟩ := q; exact .dK h
  | scr ns => exact absurd rfl (h ns)
theorem call_isin : CallR X (.builtin "isinstance") (fun xs H Q => ∃ x t n k, xs = [x, .ty n] ∧ TyOf X.K H x t ∧ PySem.W.kitOne X.K t (.type n) = some k ∧ Q (.bl k) H) := by
  intro pins s σ H xs us Q I r h
  obtain ⟨x, t, n, k, rfl, ty, e, q⟩ := h
  obtain ⟨u, u', rfl, ru, ru'⟩ := vals2 r
  cases (show u' = Value.type n from ru')
  exact isinst_ok I ru ty e fun tk => ⟨.bl k, H, I.tok tk, rfl, q⟩
theorem pe_type {x : Str} {n : String} {pos : Pos} (hg : Gl X x) (hm : X.mg x = none) (hv : bootBuiltins x = some (.type n)) (hn : x ≠ "__name__" := by decide) (hd : (x == ("__debug__" : Str)) = false := by decide) : PE X (.Name x pos) (tC (.ty n)) := pe_bltn hg hm hv rfl hn hd
theorem pd_isin {x : Str} {n : String} {p p2 : Pos} {k : Bool} (hg : Gl X "isinstance") (hm : X.mg "isinstance" = none) (hgx : Gl X x) (hmx : X.mg x = none) (hv : bootBuiltins x = some (.type n)) (ha : PEd X sd e (.val d)) (hd : ∀ ns, d ≠ .scr ns)
    (hk : PySem.W.kitOne X.K (tyD d) (.type n) = some k) (hn : x ≠ "__name__" := by decide) (hdb : (x == ("__debug__" : Str)) = false := by decide)
    (he : starEach (e :: [.Name x p2]) X.env = (false, eval e X.env) :: starEach [.Name x p2] X.env := by rfl) (hpl : (backTo pos (starEach [.Name x p2] X.env)).any (·.1) = false := by rfl) (hs2 : starEach [.Name x p2] X.env = (false, eval (.Name x p2) X.env) :: starEach [] X.env := by rfl) :
    PEd X sd (.Call (.Name "isinstance" p) [e, .Name x p2] [] pos) (.val (.bl k)) := .mk fun σ F H S =>
  (pe_callB call_isin hg hm boot_isinstance (pa_cons pe_w (pa_cons (pe_type hgx hmx hv hn hdb) pa_nil hs2) he) (by decide) (by decide) he hpl).to ((ha σ F H S).imp fun v H1 ⟨F1, S1, s1, q1⟩ => by
    exact ⟨v, tyD d, n, k, rfl, ty_of hd (Rep.mono S1.sub q1), hk, F1, S1, s1, by simp only [ResOk, Rep]⟩)

/-! ### statements -/
theorem psd_nil (h : E.nx sd) : PSd X sd [] E := .mk fun σ F H S => pss_nil.to ⟨sd, F, S, Same.refl _, h⟩
theorem psd_cons (h : PSd1 X sd st { E with nx := fun sd' => PSd X sd' rest E }) : PSd X sd (st :: rest) E := .mk fun σ F H S =>
  (pss_cons ps_w pss_w).to (wS.imp (h σ F H S) (fun σ' H' ⟨sd', F', S', s', q⟩ => (q σ' F' H' S').imp (fun σ2 H2 ⟨sd2, F2, S2, s2, q2⟩ => ⟨sd2, F2, S2, s'.trans s2, q2⟩) (fun v H2 q2 => q2)
    (fun σ2 H2 ⟨sd2, F2, S2, s2, q2⟩ => ⟨sd2, F2, S2, s'.trans s2, q2⟩) fun σ2 H2 ⟨sd2, F2, S2, s2, q2⟩ => ⟨sd2, F2, S2, s'.trans s2, q2⟩) (fun v H q => q) (fun σ H q => q) fun σ H q => q)
theorem psd_one (h : PSd1 X sd st E) : PSd X sd [st] E := .mk fun σ F H S => (pss_one ps_w).to (h σ F H S)
theorem psd_ret (h : PEd X sd e r) (hr : match r with | .bor _ => False | _ => True) (hE : E.rt r) : PSd1 X sd (.Return (some e) pos) E := .mk fun σ F H S =>
  (ps_ret pe_w).to ((h σ F H S).imp fun v H' ⟨F', S', s', q⟩ => ⟨r, ⟨F', S'.base, S'.sub, S'.smp, by
    cases r with
    | val d => exact q
    | own ds => obtain ⟨l, xs, a, b, c, d, _⟩ := q; exact ⟨l, xs, a, b, c, d, by simp [owned]⟩
    | pr d ls => obtain ⟨t, l, xs, y, a, b, c, d, e, f, _⟩ := q; exact ⟨t, l, xs, y, a, b, c, d, e, f, by simp [owned]⟩
    | ox G => obtain ⟨ls, nd, h, g⟩ := q; exact ⟨ls, nd, fun l hl => ⟨(h l hl).1, (h l hl).2.1, by simp [owned]⟩, g⟩
    | bor ds => exact hr.elim⟩, hE⟩)
theorem psd_retO (i : Nat) {x : Str} {p : Pos} {l : Addr} (hs : sd[i]? = some (.own l ds)) (h : PE X (.Name x p) (tVar i)) (hE : E.rt (.own ds)) : PSd1 X sd (.Return (some (.Name x p)) pos) E := .mk fun σ F H S =>
  (ps_ret h).to (by
    obtain ⟨o, h1, h2, n, xs, q, rl⟩ := S.slots.get hs
    exact ⟨.ref l, by rw [h1, h2], .own ds, ⟨F, S.base, S.sub, S.smp, l, xs, rfl, n, q, rl, by simp [owned]⟩, hE⟩)
theorem psd_if {k : Bool} {a o : List Stmt} (h : PTd X sd c k) (h1 : k = true → PSd X sd a E) (h2 : k = false → PSd X sd o E) : PSd1 X sd (.If c a o pos) E := .mk fun σ F H S =>
  (ps_if pt_w pss_w pss_w).to ((h σ F H S).imp fun k' H' ⟨e, F', S', s'⟩ => by
    have up : ∀ {sts : List Stmt}, PSd X sd sts E → wSs X sts (lft X F E) σ H' := fun h => (h σ F' H' S').imp (fun σ2 H2 ⟨sd2, F2, S2, s2, q2⟩ => ⟨sd2, F2, S2, s'.trans s2, q2⟩) (fun v H2 q2 => q2)
      (fun σ2 H2 ⟨sd2, F2, S2, s2, q2⟩ => ⟨sd2, F2, S2, s'.trans s2, q2⟩) fun σ2 H2 ⟨sd2, F2, S2, s2, q2⟩ => ⟨sd2, F2, S2, s'.trans s2, q2⟩
    subst e
    cases k' with
    | true => exact iteT (up (h1 rfl))
    | false => exact iteF (up (h2 rfl)))
theorem owned_set : ∀ {sd : List Slot} {z : Slot} (i : Nat), (owned sd).Nodup → (∀ l, l ∈ ownL z → l ∉ owned sd ∨ (∃ z', sd[i]? = some z' ∧ l ∈ ownL z')) → (hz : (ownL z).Nodup := by simp [ownL]) → (owned (sd.set i z)).Nodup ∧ ∀ l, l ∈ owned (sd.set i z) → l ∈ owned sd ∨ l ∈ ownL z
  | [], z, i, h, _, _ => ⟨h, fun l hl => .inl hl⟩
  | z' :: zs, z, 0, h, hz, nz => by
    show (ownL z ++ owned zs).Nodup ∧ ∀ l, l ∈ ownL z ++ owned zs → _
    obtain ⟨n1, n2, n3⟩ := List.nodup_append.mp (show (ownL z' ++ owned zs).Nodup from h)
    refine ⟨List.nodup_append.mpr ⟨nz, n2, fun a ha b hb e => ?_⟩, fun l hl => ?_⟩
    · subst e
      rcases hz a ha with y | ⟨z2, e2, y⟩
      · exact y (List.mem_append_right _ hb)
      · have : z' = z2 := by simpa using e2
        subst this
        exact n3 a y a hb rfl
    · rcases List.mem_append.mp hl with y | y
      · exact .inr y
      · exact .inl (List.mem_append_right _ y)
  | z' :: zs, z, i + 1, h, hz, nz => by
    show (ownL z' ++ owned (zs.set i z)).Nodup ∧ ∀ l, l ∈ ownL z' ++ owned (zs.set i z) → _
    obtain ⟨n1, n2, n3⟩ := List.nodup_append.mp (show (ownL z' ++ owned zs).Nodup from h)
    obtain ⟨i1, i2⟩ := owned_set (sd := zs) (z := z) i n2 (fun l hl => by
      rcases hz l hl with y | ⟨z2, e2, y⟩
      · exact .inl fun q => y (List.mem_append_right _ q)
      · exact .inr ⟨z2, by simpa using e2, y⟩) nz
    refine ⟨List.nodup_append.mpr ⟨n1, i1, fun a ha b hb e => ?_⟩, fun l hl => ?_⟩
    · subst e
      rcases i2 a hb with y | y
      · exact n3 a ha a y rfl
      · rcases hz a y with y | ⟨z2, e2, y⟩
        · exact y (List.mem_append_left _ ha)
        · have m : a ∈ owned zs := List.mem_flatMap.mpr ⟨z2, List.mem_of_getElem? (by simpa using e2), y⟩
          exact n3 a ha a m rfl
    · rcases List.mem_append.mp hl with y | y
      · exact .inl (List.mem_append_left _ y)
      · rcases i2 l y with y | y
        · exact .inl (List.mem_append_right _ y)
        · exact .inr y
theorem StF.set {K : PySem.W.Frag} {H₀ F H : Hp} {σ : St} {v : V} (S : StF K H₀ F H σ sd) (i : Nat) (q : Rep K F d v) : StF K H₀ F H (σ.set i (some v)) (sd.set i (.val d)) :=
  ⟨S.base, S.sub, S.smp, S.slots.set (z := .val d) ⟨v, rfl, q⟩ i, (owned_set i S.nd fun l e => by simp [ownL] at e).1⟩
theorem StF.setO {K : PySem.W.Frag} {H₀ F H : Hp} {σ : St} {l : Addr} {xs : List V} (S : StF K H₀ F H σ sd) (i : Nat) (n : F l = none) (h : H l = some (.lst xs)) (q : RepL K F ds xs) (no : l ∉ owned sd) : StF K H₀ F H (σ.set i (some (.ref l))) (sd.set i (.own l ds)) :=
  ⟨S.base, S.sub, S.smp, S.slots.set (z := .own l ds) ⟨rfl, n, xs, h, q⟩ i, (owned_set i S.nd fun l' e => by rw [List.mem_singleton.mp e]; exact .inl no).1⟩
theorem psd_set (i : Nat) {x : Str} {p : Pos} (hN : X.N.Nodup) (hi : X.N[i]? = some x) (hx : Loc X.env.scope x) (h : PEd X sd e (.val d)) (hE : E.nx (sd.set i (.val d))) (hs : swapsWith e (some (.Name x p)) pos.line X.env = pure false := by rfl)
    (hf : X.fn x = true ∨ X.env.scope.names.lookup x = some .local := by first | exact .inl rfl | exact .inr rfl | assumption) : PSd1 X sd (.Assign [.Name x p] e pos) E := .mk fun σ F H S =>
  (ps_set hN hi hx pe_w hs hf).to ((h σ F H S).imp fun v H' ⟨F', S', s', q⟩ => ⟨_, F', S'.set i q, s', hE⟩)
theorem psd_setO (i : Nat) {x : Str} {p : Pos} (hN : X.N.Nodup) (hi : X.N[i]? = some x) (hx : Loc X.env.scope x) (h : PEd X sd e (.own ds)) (hE : ∀ l, E.nx (sd.set i (.own l ds))) (hs : swapsWith e (some (.Name x p)) pos.line X.env = pure false := by rfl)
    (hf : X.fn x = true ∨ X.env.scope.names.lookup x = some .local := by first | exact .inl rfl | exact .inr rfl | assumption) : PSd1 X sd (.Assign [.Name x p] e pos) E := .mk fun σ F H S =>
  (ps_set hN hi hx pe_w hs hf).to ((h σ F H S).imp fun v H' ⟨F', S', s', l, xs, e, n, q, rl, no⟩ => ⟨_, F', by subst e; exact S'.setO i n q rl no, s', hE l⟩)
end
end DL

namespace DL
open PySem PySem.Spec PyProof.Rows L2
section
variable {X : Cx} {sd : List Slot} {e a b c : Expr} {es : List Expr} {pos : Pos} {r ra rb : R} {d : D} {ds : List D} {st : Stmt} {rest : List Stmt} {E : EndD}

/-! ### knowing less -/
def Le : List Slot → List Slot → Prop
  | [], [] => True
  | x :: xs, y :: ys => (y = .un ∨ x = y) ∧ Le xs ys
  | _, _ => False
theorem Le.refl : ∀ (sd : List Slot), Le sd sd
  | [] => trivial
  | _ :: xs => ⟨.inr rfl, Le.refl xs⟩
theorem Le.own : ∀ {sd sd' : List Slot}, Le sd sd' → (owned sd').Sublist (owned sd)
  | [], [], _ => List.Sublist.refl _
  | [], _ :: _, h => h.elim
  | _ :: _, [], h => h.elim
  | x :: xs, y :: ys, h => by
    obtain ⟨h1, h2⟩ := h
    have ih := Le.own h2
    rcases h1 with rfl | rfl
    · exact ih.trans (List.sublist_append_right _ _)
    · exact List.Sublist.append (List.Sublist.refl _) ih
theorem Le.slots {K : PySem.W.Frag} {F H : Hp} : ∀ {sd sd' : List Slot} {σ : St}, Le sd sd' → SlotsOk K F H sd σ → SlotsOk K F H sd' σ
  | [], [], _, _, h => h
  | [], _ :: _, _, h, _ => h.elim
  | _ :: _, [], _, h, _ => h.elim
  | x :: xs, y :: ys, σ, h, q => by
    obtain ⟨h1, h2⟩ := h
    obtain ⟨o, r, rfl, a, b⟩ := q
    refine ⟨o, r, rfl, ?_, Le.slots h2 b⟩
    rcases h1 with rfl | rfl
    · trivial
    · exact a
theorem StF.le {K : PySem.W.Frag} {H₀ F H : Hp} {σ : St} {sd' : List Slot} (S : StF K H₀ F H σ sd) (h : Le sd sd') : StF K H₀ F H σ sd' := ⟨S.base, S.sub, S.smp, h.slots S.slots, S.nd.sublist h.own⟩
theorem psd_le {sd' : List Slot} {sts : List Stmt} (h : Le sd sd') (q : PSd X sd' sts E) : PSd X sd sts E := .mk fun σ F H S => q σ F H (S.le h)
theorem lft_up {F₀ F : Hp} {E : EndD} {σ : St} {H : Hp} {sts : List Stmt} (s : Same F₀ F) (h : wSs X sts (lft X F E) σ H) : wSs X sts (lft X F₀ E) σ H :=
  h.imp (fun σ2 H2 ⟨sd2, F2, S2, s2, q2⟩ => ⟨sd2, F2, S2, s.trans s2, q2⟩) (fun v H2 q2 => q2) (fun σ2 H2 ⟨sd2, F2, S2, s2, q2⟩ => ⟨sd2, F2, S2, s.trans s2, q2⟩) fun σ2 H2 ⟨sd2, F2, S2, s2, q2⟩ => ⟨sd2, F2, S2, s.trans s2, q2⟩
theorem PSd.imp {sts : List Stmt} {E' : EndD} (h : PSd X sd sts E) (k1 : ∀ sd, E.nx sd → E'.nx sd) (k2 : ∀ r, E.rt r → E'.rt r) (k3 : ∀ sd, E.bk sd → E'.bk sd) (k4 : ∀ sd, E.ct sd → E'.ct sd) : PSd X sd sts E' := .mk fun σ F H S =>
  (h σ F H S).imp (fun _ _ ⟨sd2, F2, S2, s2, q2⟩ => ⟨sd2, F2, S2, s2, k1 _ q2⟩) (fun _ _ ⟨r, q, q2⟩ => ⟨r, q, k2 _ q2⟩) (fun _ _ ⟨sd2, F2, S2, s2, q2⟩ => ⟨sd2, F2, S2, s2, k3 _ q2⟩) fun _ _ ⟨sd2, F2, S2, s2, q2⟩ => ⟨sd2, F2, S2, s2, k4 _ q2⟩
theorem le_set_un : ∀ (sd : List Slot) (i : Nat), Le sd (sd.set i .un)
  | [], _ => trivial
  | _ :: xs, 0 => ⟨.inl rfl, Le.refl xs⟩
  | _ :: xs, i + 1 => ⟨.inr rfl, le_set_un xs i⟩
theorem not_ownedZ : ∀ {sd : List Slot} {i : Nat} {l : Addr} {z : Slot}, (owned sd).Nodup → sd[i]? = some z → l ∈ ownL z → l ∉ owned (sd.set i .un)
  | [], _, _, _, _, e, _ => by simp at e
  | y :: zs, 0, l, z, h, e, hl => by
    have : y = z := by simpa using e
    subst this
    obtain ⟨n1, n2, n3⟩ := List.nodup_append.mp (show (ownL y ++ owned zs).Nodup from h)
    exact fun hm => n3 l hl l hm rfl
  | y :: zs, i + 1, l, z, h, e, hl => by
    have e' : zs[i]? = some z := by simpa using e
    obtain ⟨n1, n2, n3⟩ := List.nodup_append.mp (show (ownL y ++ owned zs).Nodup from h)
    have ml : l ∈ owned zs := List.mem_flatMap.mpr ⟨_, List.mem_of_getElem? e', hl⟩
    intro hm
    rcases List.mem_append.mp (show l ∈ ownL y ++ owned (zs.set i .un) from hm) with q | q
    · exact n3 l q l ml rfl
    · exact not_ownedZ n2 e' hl q
theorem not_owned {sd : List Slot} {i : Nat} {l : Addr} {ds : List D} (h : (owned sd).Nodup) (e : sd[i]? = some (.own l ds)) : l ∉ owned (sd.set i .un) := not_ownedZ h e (List.mem_singleton_self l)
theorem set_same {σ : St} {i : Nat} {o : Option V} (h : σ[i]? = some o) : σ.set i o = σ := by
  obtain ⟨hi, e⟩ := List.getElem?_eq_some_iff.mp h
  rw [← e]
  exact List.set_getElem_self hi
theorem set_set (sd : List Slot) (i : Nat) (x y : Slot) : (sd.set i x).set i y = sd.set i y := by simp
/-- a list of ours is written -/
theorem StF.wr {K : PySem.W.Frag} {H₀ F H : Hp} {σ : St} {i : Nat} {l : Addr} {ds' : List D} {xs' : List V} (S : StF K H₀ F H σ sd) (hs : sd[i]? = some (.own l ds)) (rl : RepL K F ds' xs') : StF K H₀ F (upd H l (.lst xs')) σ (sd.set i (.own l ds')) := by
  obtain ⟨o, h1, h2, n, xs, q, _⟩ := S.slots.get hs
  have no := not_owned S.nd hs
  have S0 := S.le (le_set_un sd i)
  refine ⟨S.base, fun b u e => ?_, fun b u e => ?_, ?_, ?_⟩
  · rw [upd_ne (ne_of_none e n)]
    exact S.sub _ _ e
  · by_cases h : b = l
    · subst h
      rw [upd_same] at e
      cases e
      trivial
    · rw [upd_ne h] at e
      exact S.smp _ _ e
  · have q1 : SlotsOk K F (upd H l (.lst xs')) (sd.set i .un) σ := S0.slots.mono (Same.refl _) fun l' hl => by
      obtain ⟨n', ys, q', _⟩ := S0.slots.owns hl
      have hne : l' ≠ l := fun z => no (z ▸ hl)
      exact ⟨n', fun ys e => by rw [upd_ne hne]; exact e⟩
    have q2 := q1.set (z := .own l ds') (o := some (.ref l)) ⟨rfl, n, xs', upd_same, rl⟩ i
    rw [set_set, set_same (by rw [h1, h2])] at q2
    exact q2
  · have := owned_set (z := Slot.own l ds') i S0.nd fun l' e => by rw [List.mem_singleton.mp e]; exact .inl no
    rw [set_set] at this
    exact this.1
theorem psd_frz (i : Nat) {l : Addr} {sts : List Stmt} (hs : sd[i]? = some (.own l ds)) (h : PSd X (sd.set i (.val (.lst ds))) sts E) : PSd X sd sts E := .mk fun σ F H S => by
  obtain ⟨o, h1, h2, n, xs, q, rl⟩ := S.slots.get hs
  have S0 := S.le (le_set_un sd i)
  obtain ⟨S1, s1⟩ := S0.freeze q n (not_owned S.nd hs)
  have S2 := S1.set (d := .lst ds) (v := .ref l) i (by simp only [Rep]; exact ⟨l, xs, rfl, upd_same, rl.mono s1⟩)
  rw [set_set, set_same (by rw [h1, h2])] at S2
  exact lft_up s1 (h σ _ H S2)
theorem psd_append (i : Nat) {x : Str} {p ap cp : Pos} {l : Addr} (hs : sd[i]? = some (.own l ds)) (hx : PE X (.Name x p) (tVar i)) (h : PEd X sd e (.val d)) (hl : ds.length ≤ 1000) (hE : E.nx (sd.set i (.own l (ds ++ [d]))))
    (hst : starEach (e :: []) X.env = (false, eval e X.env) :: starEach [] X.env := by rfl)
    (hm : PE X (.Call (.Attribute (.Name x p) "append" ap) [e] [] cp) (tBM X.K "list" rAppend (tVar i) (tCons (wE X e) tNil)) := by exact pe_bm PySem.F.plainAttrs_list PySem.F.slot_list_append PySem.F.type_list_append mt_append (pv _) (pa_cons pe_w pa_nil))
    (hsw : swapsWith (.Call (.Attribute (.Name x p) "append" ap) [e] [] cp) none pos.line X.env = pure false := by rfl) :
    PSd1 X sd (.Expr (.Call (.Attribute (.Name x p) "append" ap) [e] [] cp) pos) E := .mk fun σ F H S =>
  (ps_expr hm hsw).to (by
    obtain ⟨o, h1, h2, n, xs, q, rl⟩ := S.slots.get hs
    refine ⟨.ref l, by rw [h1, h2], .inl ⟨rfl, xs, .of q⟩, (h σ F H S).imp fun v H1 ⟨F1, S1, s1, q1⟩ => ?_⟩
    obtain ⟨o', h1', h2', n', xs', q', rl'⟩ := S1.slots.get hs
    exact ⟨l, xs', v, rfl, rfl, q', by rw [rl'.len]; exact small1000 hl, _, F1, S1.wr hs (rl'.app (.one q1)), s1, hE⟩)
/-! ### calls -/
def spC (K : PySem.W.Frag) (n : Nat) (C : List D → R → Prop) : Sp := fun vs H Q _ => vs.length = n ∧ Smp H ∧ ∃ ds r, RepL K H ds vs ∧ C ds r ∧ ∀ v H', RetOk K H H' r v → Q v H'
/-- the same, where the caller's lists lie aside -/
def spF (K : PySem.W.Frag) (n : Nat) (C : List D → R → Prop) : Sp := fun vs H Q _ => vs.length = n ∧ Smp H ∧ ∃ F ds r, Same F H ∧ RepL K F ds vs ∧ C ds r ∧ ∀ v F2 F3 H', Same F F2 → Same F2 F3 → Same F3 H' → Same H H' → Smp H' → (∀ b o, H b = some o → F b = none → F3 b = none) → ResOk K F2 F3 [] r v → Q v H'
def merge (F H : Hp) : Hp := fun b => match F b with
  | some o => some o
  | none => H b
theorem merge_l {F H : Hp} : Same F (merge F H) := fun b o e => by unfold merge; rw [e]
theorem merge_n {F H : Hp} {b : Addr} (h : F b = none) : merge F H b = H b := by unfold merge; rw [h]
theorem FnOk.framed {P : Program} {w : World} {K : PySem.W.Frag} {mg : Str → Option Value} {base : Heap} {k n : Nat} {f : Addr} {fd : FuncData} {ps : List Str} {C : List D → R → Prop} (G : FnOk P w K mg base CX0 k f fd ps (spC K n C)) : FnOk P w K mg base CX0 k f fd ps (spF K n C) := by
  refine ⟨fun vs H Q E h => ?_, fun A outer s H args us vs Q E hr e0 hb rv h => ?_⟩
  · obtain ⟨hl, sm, F, ds, r, sF, rl, c, _⟩ := h
    exact G.len vs F (fun _ _ => True) E ⟨hl, sm.sub sF, ds, r, rl, c, fun _ _ _ => trivial⟩
  · obtain ⟨hl, sm, F, ds, r, sF, rl, c, q⟩ := h
    have e1 : Env0 P w K mg base A outer s F := ⟨e0.frames, e0.mod, fun b o e => ⟨(e0.bs b o e).1, sF.free (e0.bs b o e).2⟩, e0.bsz, e0.funs, fun b hb => sF.free (e0.frf b hb), fun b o e => (e0.hok b o (sF b o e)).smp (sm b o (sF b o e)), e0.bare⟩
    refine codeAny_mono (G.run A outer s F args us vs (fun v F3 => RetOk K F F3 r v) E hr e1 hb rv ⟨hl, sm.sub sF, ds, r, rl, c, fun v H' z => z⟩) fun rr s' hrr => ?_
    cases rr with
    | error e => exact hrr
    | ok fl =>
      cases fl with
      | ret u =>
        obtain ⟨v, F3, ho, ha, un, hk, ru, F2, s1, s2, sm3, res⟩ := hrr
        have keepF : ∀ b o, H b = some o → F b = none → F3 b = none := fun b o e n => by
          have lt := e0.hok.lt e
          cases g : s.heap.get? b with
          | none =>
            exfalso
            have ob := e0.hok b o e
            have z := sm b o e
            cases o with
            | lst xs => obtain ⟨_, _, _, _, g'⟩ := ob; rw [g] at g'; cases g'
            | tup xs => obtain ⟨_, _, _, oo, g', _⟩ := ob; rw [g] at g'; cases g'
            | dK kvs => obtain ⟨_, _, _, _, oo, _, _, g', _⟩ := ob; rw [g] at g'; cases g'
            | frz o2 u2 => obtain ⟨g', _⟩ := ob; rw [g] at g'; cases g'
            | ext φ => obtain ⟨_, ⟨oo, g'⟩, _⟩ := ob; rw [g] at g'; cases g'
            | _ => exact z
          | some ob => exact un.free b ob g n (by simp)
        have keepO : ∀ b o, H b = some o → F b = none → ∀ ob, s.heap.get? b = some ob → s'.heap.get? b = some ob := fun b o e n ob g => un.keep b ob g n (fun hb => by have := e0.frf b hb; rw [e] at this; cases this) (by simp)
        have sH : Same H (merge F3 H) := fun b o e => by
          cases g : F b with
          | none => rw [merge_n (keepF b o e g)]; exact e
          | some o' =>
            have := sF b o' g
            rw [e] at this
            cases this
            exact merge_l _ _ (s2 _ _ (s1 _ _ g))
        have smM : Smp (merge F3 H) := fun b o e => by
          cases g : F3 b with
          | some o' => have := merge_l (H := H) b o' g; rw [e] at this; cases this; exact sm3 b o g
          | none => rw [merge_n g] at e; exact sm b o e
        refine ⟨v, merge F3 H, ho, ha, ⟨fun b o g n hb hx => un.keep b o g (sF.free n) hb hx, fun b o g n hb hx => un.slot b o g (sF.free n) hb hx, fun b o g n hx => ?_, un.there, fun b xs e => sH _ _ e, fun b o u e => sH _ _ e, fun b ps e => ⟨#[], by rw [sH _ _ e]; simp⟩⟩, fun b o e => ?_, ru, ?_⟩
        · rw [merge_n (un.free b o g (sF.free n) hx)]
          exact n
        · have z := smM b o e
          cases g : F3 b with
          | some o' =>
            have := merge_l (H := H) b o' g
            rw [e] at this
            cases this
            exact (hk b o g).smp z
          | none =>
            rw [merge_n g] at e
            have n : F b = none := by
              cases g2 : F b with
              | none => rfl
              | some o2 => rw [s2 _ _ (s1 _ _ g2)] at g; cases g
            have st := (e0.hok b o e).smp (F := fun _ => none) z
            have : ObjOk P w (fun _ => none) s'.heap b o := st.stay (fun b2 u hb2 gg => by
              rcases hb2 with rfl | hb2
              · exact keepO _ o e n u gg
              · cases hb2) (fun b2 hb2 => nomatch hb2) fun b2 xs hb2 => nomatch hb2
            exact this.smp z
        · exact q v F2 F3 (merge F3 H) s1 s2 merge_l sH smM keepF res
      | _ => exact hrr
structure Callee (P : Program) (w : World) (K : PySem.W.Frag) (mg : Str → Option Value) (base : Heap) (x : Str) (k n : Nat) (C : List D → R → Prop) : Prop where
  ex : ∃ (f : Addr) (fd : FuncData) (ps : List Str), mg x = some (.ref f) ∧ PySem.W.keepIn K (.ref f) = true ∧ Binds K fd ps [] ∧ FnOk P w K mg base CX0 k f fd ps (spC K n C)
theorem pd_call {x : Str} {p : Pos} {k n : Nat} {C : List D → R → Prop} (G : Callee X.prog X.w X.K X.mg X.base x k n C) (hr : Room k X.A) (hg : Gl X x) (ha : PAd X sd (e :: es) (ds.map R.val)) (hc : C ds r) (hb : match r with | .bor _ => False | _ => True) (hn : ds.length = n)
    (hdb : (x == ("__debug__" : Str)) = false := by decide) (he : starEach (e :: es) X.env = (false, eval e X.env) :: starEach es X.env := by rfl) (hpl : (backTo pos (starEach es X.env)).any (·.1) = false := by rfl) :
    PEd X sd (.Call (.Name x p) (e :: es) [] pos) r := .mk fun σ F H S => by
  obtain ⟨f, fd, ps, hm, hk, bd, G⟩ := G.ex
  refine (pe_call (FnOk.framed G) hr hg hm hk bd .nil pass0 pa_w hdb he hpl).to ((ha σ F H S).imp fun vs H1 ⟨F1, S1, s1, q1⟩ => ?_)
  have rl := q1.vals
  refine ⟨by rw [List.append_nil, rl.len]; exact hn, S1.smp, F1, ds, r, S1.sub, by rw [List.append_nil]; exact rl, hc, fun v F2 F3 H' s2 s3 s4 sH sm kp res => ?_⟩
  have no : ∀ l, l ∈ owned sd → F2 l = none ∧ F3 l = none := fun l hl => by
    obtain ⟨n1, xs, q, _⟩ := S1.slots.owns hl
    have n3 := kp l _ q n1
    exact ⟨s3.free n3, n3⟩
  refine ⟨F2, ⟨fun b o e => s2 _ _ (S1.base _ _ e), s3.trans s4, sm, S1.slots.mono s2 fun l hl => ⟨(no l hl).1, fun ys e => sH _ _ e⟩, S1.nd⟩, s1.trans s2, ?_⟩
  cases r with
  | val d => exact res
  | own ds' =>
    obtain ⟨l, xs, e, n, q, rl', _⟩ := res
    exact ⟨l, xs, e, n, s4 _ _ q, rl', fun hl => by rw [(no l hl).2] at q; cases q⟩
  | pr d ls =>
    obtain ⟨t, l, xs, y, e, f, g, n, q, rl', _⟩ := res
    exact ⟨t, l, xs, y, e, f, g, n, s4 _ _ q, rl', fun hl => by rw [(no l hl).2] at q; cases q⟩
  | ox G =>
    obtain ⟨ls, nd, h, g⟩ := res
    refine ⟨ls, nd, fun l hl => ?_, fun F' H'' sF k => g F' H'' sF fun l hl ob q => k l hl ob (s4 _ _ q)⟩
    obtain ⟨n, ⟨ob, q, w⟩, _⟩ := h l hl
    exact ⟨n, ⟨ob, s4 _ _ q, w⟩, fun hm => by rw [(no l hm).2] at q; cases q⟩
  | bor ds' => exact hb.elim
/-- what an argument is to the callee -/
def R.toD : R → D
  | .val d => d
  | .own ds => .lst ds
  | .bor ds => .lst ds
  | .pr d ls => .tup [d, .lst ls]
  | .ox _ => .non
theorem RsOk.toD {K : PySem.W.Frag} {H₀ F H : Hp} {σ : St} (S : StF K H₀ F H σ sd) {rs : List R} {vs : List V} (hk : ∀ r ∈ rs, r.keeps) (q : RsOk K F H sd rs vs) : RepL K H (rs.map R.toD) vs := by
  induction q with
  | nil => exact .nil
  | @cons r v rs vs q t ih =>
    refine .cons ?_ (ih fun r hr => hk r (List.mem_cons_of_mem _ hr))
    cases r with
    | val d => exact Rep.mono S.sub q
    | own ds => exact (hk _ List.mem_cons_self).elim
    | pr d ls => exact (hk _ List.mem_cons_self).elim
    | ox G => exact (hk _ List.mem_cons_self).elim
    | bor ds =>
      obtain ⟨l, xs, e, hl, rl, _⟩ := q
      simp only [R.toD, Rep]
      exact ⟨l, xs, e, hl, rl.mono S.sub⟩
/-! ### a def -/
def init (n : Nat) (ds : List D) : List Slot := ds.map Slot.val ++ List.replicate (n - ds.length) .un
theorem slots_un {K : PySem.W.Frag} {F H : Hp} : ∀ n : Nat, SlotsOk K F H (List.replicate n .un) (List.replicate n none)
  | 0 => rfl
  | n + 1 => ⟨none, List.replicate n none, rfl, trivial, slots_un n⟩
theorem slots_init {K : PySem.W.Frag} {F H : Hp} {m n : Nat} : ∀ {ds : List D} {vs : List V}, RepL K F ds vs → SlotsOk K F H (ds.map Slot.val ++ List.replicate n .un) (vs.map some ++ List.replicate n none)
  | [], vs, r => by
    simp only [RepL] at r
    subst r
    exact slots_un n
  | d :: ds, vs, r => by
    obtain ⟨y, ys, rfl, a, rl⟩ := r.uncons
    exact ⟨some y, _, rfl, ⟨y, rfl, a⟩, slots_init (m := m) rl⟩
theorem owned_init (n : Nat) : ∀ ds : List D, owned (ds.map Slot.val ++ List.replicate n .un) = []
  | [] => by
    induction n with
    | zero => rfl
    | succ n ih => exact ih
  | _ :: ds => owned_init n ds
theorem def_fn {P : Program} {w : World} {K : PySem.W.Frag} {mg : Str → Option Value} {base : Heap} {x qual : Str} {st : Stmt} {f : Addr} {fd : FuncData} {N ps : List Str} {k : Nat} {C : List D → R → Prop} (F : Fun K x qual st f fd) (S : FnScope N ps (defScope st))
    (body : ∀ (cdv : Value) (A : Around) (outer : List Env) (s : Shared) (H : Hp) (E : XK), Room k (A.deeper (envOfC qual (defScope st) s.heap.objs.size f cdv)) → ∀ ds r, ds.length = ps.length → C ds r →
      PSd (cxOf CX0 P w K mg base N qual (defScope st) f cdv A outer s H E).nox (init N.length ds) (defBody st) { nx := fun _ => r = .val .non, rt := fun r' => r' = r }) : FnOk P w K mg base CX0 (k + 1) f fd ps (spC K ps.length C) := by
  refine F.ok S (fun vs H Q E h => h.1) fun cdv A outer s H vs Q E hr h => ?_
  obtain ⟨hl, sm, ds, r, rl, c, q⟩ := h
  have hds : ds.length = ps.length := by rw [← rl.len]; exact hl
  refine ⟨_, pss_w, ?_⟩
  have hlen : N.length - vs.length = N.length - ds.length := by rw [rl.len]
  have S0 : StF K H H H (L2.start N vs) (init N.length ds) := by
    refine ⟨Same.refl _, Same.refl _, sm, ?_, ?_⟩
    · unfold L2.start init
      rw [hlen]
      exact slots_init (m := 0) rl
    · unfold init
      rw [owned_init]
      exact List.nodup_nil
  refine (body cdv A outer s H E hr ds r hds c (L2.start N vs) H H S0).imp ?_ ?_ (fun _ _ ⟨_, _, _, _, z⟩ => z) fun _ _ ⟨_, _, _, _, z⟩ => z
  · rintro σ' H' ⟨sd', F', S', s', e⟩
    have e : r = .val .non := e
    subst e
    exact q .non H' ⟨F', S'.base, S'.sub, S'.smp, by simp only [ResOk, Rep]⟩
  · rintro v H' ⟨r', ro, e⟩
    have e : r' = r := e
    subst e
    exact q v H' ro
theorem def_ok {P : Program} {w : World} {K : PySem.W.Frag} {mg : Str → Option Value} {base : Heap} {x qual : Str} {st : Stmt} {f : Addr} {fd : FuncData} {N ps : List Str} {k : Nat} {C : List D → R → Prop} (F : Fun K x qual st f fd) (S : FnScope N ps (defScope st))
    (hm : mg x = some (.ref f)) (hb : ∀ (kV doc pm : Value) (an : Option Addr) (cdv ct : Value) (us : List Value), us.length = ps.length → bindArgs (PySem.W.fnOf x qual (defArgs st) (defBody st) (defScope st) .none kV doc pm an cdv ct) ⟨us, []⟩ = pure (ps.zip us))
    (body : ∀ (cdv : Value) (A : Around) (outer : List Env) (s : Shared) (H : Hp) (E : XK), Room k (A.deeper (envOfC qual (defScope st) s.heap.objs.size f cdv)) → ∀ ds r, ds.length = ps.length → C ds r →
      PSd (cxOf CX0 P w K mg base N qual (defScope st) f cdv A outer s H E).nox (init N.length ds) (defBody st) { nx := fun _ => r = .val .non, rt := fun r' => r' = r }) : Callee P w K mg base x (k + 1) ps.length C :=
  ⟨f, fd, ps, hm, F.kp, F.binds hb, def_fn F S body⟩
end
end DL

namespace DL
open PySem PySem.Spec PyProof.Rows L2
section
variable {X : Cx} {sd : List Slot} {e a b c tg iter : Expr} {es : List Expr} {pos : Pos} {r ra rb : R} {d : D} {ds : List D} {st : Stmt} {rest : List Stmt} {E : EndD}

/-! ### what is walked -/
def ItD (K : PySem.W.Frag) (F₁ : Hp) (P : Hp → Hp → Prop) (J : It) (ds : List D) : Prop := ∀ (F H : Hp), Same F₁ F → Same F H → Smp H → P F H → ∀ i, (i < ds.length → J.go i H) ∧ (ds.length ≤ i → J.stop i H) ∧
  ∀ x H' d, ds[i]? = some d → J.yld i H x H' → ∃ F', Same F F' ∧ Rep K F' d x ∧ ∀ H₀ σ sd, StF K H₀ F H σ sd → StF K H₀ F' H' σ sd
abbrev PT0 : Hp → Hp → Prop := fun _ _ => True
structure PId (X : Cx) (sd : List Slot) (P : Hp → Hp → Prop) (tg iter : Expr) (ds : List D) : Prop where
  run : ∀ (σ : St) (F H : Hp), StF X.K X.H₀ F H σ sd →
  wI X tg iter σ H fun J H1 => ∃ F1, StF X.K X.H₀ F1 H1 σ sd ∧ Same F F1 ∧ ItD X.K F1 P J ds
instance {X : Cx} {sd : List Slot} {P : Hp → Hp → Prop} {tg iter : Expr} {ds : List D} : CoeFun (PId X sd P tg iter ds) (fun _ => ∀ (σ : St) (F H : Hp), StF X.K X.H₀ F H σ sd →
  wI X tg iter σ H fun J H1 => ∃ F1, StF X.K X.H₀ F1 H1 σ sd ∧ Same F F1 ∧ ItD X.K F1 P J ds) := ⟨PId.run⟩
theorem _root_.L2.PI.to {wi : TI} {σ : St} {H : Hp} {R : It → Hp → Prop} (h : PI X tg iter wi) (q : wi σ H R) : wI X tg iter σ H R := fun pins s I => h pins s σ H R I q
theorem pid_list (h : PEd X sd iter (.val (.lst ds))) : PId X sd PT0 tg iter ds := .mk fun σ F H S =>
  (pi_list pe_w).to ((h σ F H S).imp fun v H1 ⟨F1, S1, s1, q1⟩ => by
    simp only [ResOk, Rep] at q1
    obtain ⟨l, xs, rfl, hl, rl⟩ := q1
    refine ⟨l, rfl, ⟨xs, .of (S1.sub _ _ hl)⟩, F1, S1, s1, fun F' H' sF sH sm _ i => ?_⟩
    have hl' := sH _ _ (sF _ _ hl)
    refine ⟨fun hi => ⟨xs, xs[i]'(by rw [rl.len]; exact hi), .of hl', by simp [rl.len, hi]⟩, fun hi => ⟨xs, .of hl', by rw [rl.len]; exact hi⟩, fun x H2 d hd y => ?_⟩
    obtain ⟨rfl, y⟩ := y
    obtain ⟨v, hv, rv⟩ := rl.get hd
    have := y xs (.of hl')
    rw [hv] at this
    cases this
    exact ⟨F', Same.refl _, rv.mono sF, fun _ _ _ S => S⟩)
theorem pid_tup (h : PEd X sd iter (.val (.tup ds))) : PId X sd PT0 tg iter ds := .mk fun σ F H S =>
  (pi_tup pe_w).to ((h σ F H S).imp fun v H1 ⟨F1, S1, s1, q1⟩ => by
    simp only [ResOk, Rep] at q1
    obtain ⟨l, xs, rfl, hl, rl⟩ := q1
    refine ⟨l, rfl, ⟨xs, .of (S1.sub _ _ hl)⟩, F1, S1, s1, fun F' H' sF sH sm _ i => ?_⟩
    have hl' := sH _ _ (sF _ _ hl)
    refine ⟨fun hi => ⟨xs, xs[i]'(by rw [rl.len]; exact hi), .of hl', by simp [rl.len, hi]⟩, fun hi => ⟨xs, .of hl', by rw [rl.len]; exact hi⟩, fun x H2 d hd y => ?_⟩
    obtain ⟨rfl, y⟩ := y
    obtain ⟨v, hv, rv⟩ := rl.get hd
    have := y xs (.of hl')
    rw [hv] at this
    cases this
    exact ⟨F', Same.refl _, rv.mono sF, fun _ _ _ S => S⟩)
def rangeD (lo : Int) (n : Nat) : List D := (List.range n).map fun (k : Nat) => D.int (lo + (k : Int))
theorem rangeD_len (lo : Int) (n : Nat) : (rangeD lo n).length = n := by simp [rangeD]
theorem rangeD_get {lo : Int} {n i : Nat} {d : D} (h : (rangeD lo n)[i]? = some d) : i < n ∧ d = .int (lo + (i : Int)) := by
  unfold rangeD at h
  rw [List.getElem?_map] at h
  by_cases hi : i < n
  · rw [List.getElem?_range hi] at h
    exact ⟨hi, (Option.some.inj h).symm⟩
  · rw [List.getElem?_eq_none (by simpa using hi)] at h
    cases h
theorem itd_range {K : PySem.W.Frag} {F₁ : Hp} {lo : Int} {n : Nat} : ItD K F₁ PT0 (Itr lo n) (rangeD lo n) := fun F H _ _ _ _ i => by
  refine ⟨fun hi => by rw [rangeD_len] at hi; exact hi, fun hi => by rw [rangeD_len] at hi; exact hi, fun x H' d hd y => ?_⟩
  obtain ⟨rfl, rfl⟩ := y
  obtain ⟨_, rfl⟩ := rangeD_get hd
  exact ⟨F, Same.refl _, by simp only [Rep], fun _ _ _ S => S⟩
theorem pid_range {p : Pos} {n : Nat} (hg : Gl X "range") (hm : X.mg "range" = none) (h : PEd X sd a (.val (.int (n : Int)))) (hn : (n : Int) < 2 ^ 62) (hs : starEach [a] X.env = [(false, eval a X.env)] := by rfl) : PId X sd PT0 tg (.Call (.Name "range" p) [a] [] pos) (rangeD 0 n) := .mk fun σ F H S =>
  (pi_range1 hg hm pa_w hs).to ((pad_cons h pad_nil trivial hs σ F H S).imp fun vs H1 ⟨F1, S1, s1, q1⟩ => by
    cases q1 with
    | cons q1 q2 =>
      cases q2
      simp only [ResOk, Rep] at q1
      subst q1
      exact ⟨(n : Int), rfl, by omega, hn, F1, S1, s1, by rw [Int.toNat_natCast]; exact itd_range⟩)
/-! ### targets -/
structure PGd (X : Cx) (sd : List Slot) (tg : Expr) (d : D) (sd' : List Slot) : Prop where
  run : ∀ (σ : St) (F H : Hp) (v : V), StF X.K X.H₀ F H σ sd → Rep X.K F d v → wG X tg v σ H fun σ' H' => ∃ F', StF X.K X.H₀ F' H' σ' sd' ∧ Same F F'
instance {X : Cx} {sd : List Slot} {tg : Expr} {d : D} {sd' : List Slot} : CoeFun (PGd X sd tg d sd') (fun _ => ∀ (σ : St) (F H : Hp) (v : V), StF X.K X.H₀ F H σ sd → Rep X.K F d v → wG X tg v σ H fun σ' H' => ∃ F', StF X.K X.H₀ F' H' σ' sd' ∧ Same F F') := ⟨PGd.run⟩
theorem _root_.L2.PG.to {t : TG} {v : V} {σ : St} {H : Hp} {Q : St → Hp → Prop} (h : PG X tg t) (q : t v σ H Q) : wG X tg v σ H Q := fun pins s u I r => h pins s σ H v u Q I r q
theorem pgd_name (j : Nat) (h : PG X tg (gName j)) : PGd X sd tg d (sd.set j (.val d)) := .mk fun σ F H v S q => h.to ⟨F, S.set j q, Same.refl _⟩
def gNs : List Nat → TGs
  | [] => gNil
  | j :: js => gCons (gName j) (gNs js)
def setAll : List Slot → List Nat → List D → List Slot
  | sd, j :: js, d :: ds => setAll (sd.set j (.val d)) js ds
  | sd, _, _ => sd
theorem gNs_ok {K : PySem.W.Frag} {H₀ F H : Hp} {Q : St → Hp → Prop} : ∀ {js : List Nat} {ds : List D} {vs : List V} {σ : St} {sd : List Slot}, js.length = ds.length → RepL K F ds vs → StF K H₀ F H σ sd → (∀ σ', StF K H₀ F H σ' (setAll sd js ds) → Q σ' H) → gNs js vs σ H Q
  | [], [], vs, σ, sd, _, r, S, k => by
    simp only [RepL] at r
    exact ⟨r, k σ S⟩
  | j :: js, d :: ds, vs, σ, sd, hl, r, S, k => by
    obtain ⟨y, ys, rfl, q, rl⟩ := r.uncons
    exact ⟨y, ys, rfl, gNs_ok (by simpa using hl) rl (S.set j q) k⟩
  | [], _ :: _, _, _, _, hl, _, _, _ => by simp at hl
  | _ :: _, [], _, _, _, hl, _, _, _ => by simp at hl
theorem pgd_tup {k : Nat} {js : List Nat} (hc : X.calm = true) (h : PGs X es (gNs js)) (hl : js.length = ds.length) (hn : (assignEach es X.env).length = ds.length) (hst : (assignEach es X.env).findIdx? (·.1) = none := by rfl) : PGd X sd (.Tuple es k pos) (.tup ds) (setAll sd js ds) := .mk fun σ F H v S q =>
  (pg_tup hc h hn hst).to (by
    simp only [Rep] at q
    obtain ⟨a, xs, rfl, ha, rl⟩ := q
    exact ⟨a, xs, rfl, .of (S.sub _ _ ha), rl.len, gNs_ok hl rl S fun σ' S' => ⟨F, S', Same.refl _⟩⟩)
/-! out of a list -/
theorem draw_list {prog : Program} {w : World} {A : Around} {E : Value → Shared → Prop} {it t : Addr} {items : Array Value} (hne : t ≠ it) : ∀ (n i : Nat) (s : Shared) (Q : List Value → Shared → Prop), s.heap.IsListIter it t i → s.heap.IsList t items → i + n ≤ items.size →
    (∀ h', h'.IsListIter it t (i + n) → Heap.SameBut it s.heap h' → Q ((items.toList.drop i).take n) { s with heap := h' }) → wpAny (model prog w) A (draw (.ref it) n) Q E s
  | 0, i, s, Q, hit, _, _, hQ => by
    show wpAny _ _ (pure []) Q E s
    exact wpAny_pure (by simpa using hQ s.heap hit (Heap.SameBut.refl ..))
  | n + 1, i, s, Q, hit, ht, hle, hQ => by
    have hlt : i < items.size := by omega
    show wpAny _ _ (pyNext (.ref it) >>= _) Q E s
    refine wpAny_bind (wpAny_pyNext_list_item hit ht (x := items[i]) (by simp [hlt]) fun h₁ hit₁ hs₁ => ?_)
    refine wpAny_bind (wpAny_holding (draw_list hne n (i + 1) _ _ hit₁ (ht.extBut hs₁.extBut hne) (by omega) fun h₂ hit₂ hs₂ => wpAny_pure ?_))
    have hd : items.toList.drop i = items[i] :: items.toList.drop (i + 1) := by simp [List.drop_eq_getElem_cons, hlt]
    have := hQ h₂ (by rw [show i + (n + 1) = i + 1 + n by omega]; exact hit₂) (hs₁.trans hs₂)
    rw [hd, List.take_succ_cons] at this
    exact this
theorem unpack_list {prog : Program} {w : World} {A : Around} {E : Value → Shared → Prop} {s : Shared} {t : Addr} {items : Array Value} {Q : List Value → Shared → Prop} (hh : A.handled = none) (ht : s.heap.IsList t items)
    (hQ : ∀ h', Heap.ExtBut s.heap.objs.size s.heap h' → Q items.toList { s with heap := h' }) : wpAny (model prog w) A (unpackItems (.ref t) items.size none) Q E s := by
  have hlt : t ≠ s.heap.objs.size := by obtain ⟨o, ho, _⟩ := ht; exact Nat.ne_of_lt (Heap.lt_size ho)
  unfold unpackItems
  refine wpAny_bind ?_
  unfold notIterableAtAll
  refine wpAny_bind (wpAny_specialOf ht.typeIs slot_list_iter.lookup ?_)
  refine wpAny_pure ?_
  simp only [Bool.false_eq_true, if_false]
  refine wpAny_bind (wpAny_holding (wpAny_pyIter_list ht ?_))
  refine wpAny_bind (wpAny_holding (draw_list hlt items.size 0 _ _ ⟨_, Heap.get?_push_size _ rfl, rfl, rfl⟩ (ht.at fun o e => Heap.get?_push_of_some _ e) (by omega) fun h₁ hit₁ hs₁ => ?_))
  have hall : List.take items.size (List.drop 0 items.toList) = items.toList := by
    rw [List.drop_zero]; exact List.take_of_length_le (by simp)
  rw [hall]
  rw [if_neg (by simp)]
  have ht₁ : h₁.IsList t items := (ht.at fun o e => Heap.get?_push_of_some _ e).extBut hs₁.extBut hlt
  refine wpAny_bind (wpAny_holding (wpAny_pyNext_list_end hh hit₁ ht₁ (by simp) fun h₂ he₂ => ?_))
  simp only [Option.isSome_none, Bool.false_eq_true, if_false]
  exact wpAny_pure (hQ h₂ fun b o hb e => he₂ b o hb (hs₁.extBut b o hb (Heap.get?_push_of_some _ e)))
def gLst (K : PySem.W.Frag) (n : Nat) (t : TGs) : TG := fun v σ H Q => ∃ a xs, v = .ref a ∧ SqL K H a xs ∧ xs.length = n ∧ t xs σ H Q
theorem pg_lst {k : Nat} {t : TGs} {n : Nat} (hc : X.calm = true) (h : PGs X es t)
    (hn : (assignEach es X.env).length = n := by rfl) (hst : (assignEach es X.env).findIdx? (·.1) = none := by rfl) : PG X (.Tuple es k pos) (gLst X.K n t) := by
  intro pins s σ H v u Q I r hw
  obtain ⟨a, xs, e1, hq, hl, hw⟩ := hw
  subst e1
  cases r
  obtain ⟨its, rv, ht, hz⟩ := I.list hq
  rw [PyProof.Rows.assign_Tuple]
  refine wpAny_bind (wpAny_standAt ?_)
  unfold unpack
  have e2 : (assignEach es X.env).length = its.toArray.size := by rw [hn, ← hl, rv.length]; simp
  rw [e2, hst]
  refine wpAny_bind (wpAny_holding (unpack_list (I.ok.hd hc) ht.isList fun h' hx => ?_))
  have I1 : Inv X pins σ H { s with heap := h' } := I.kept (t' := s.toks) fun b o e => hx b o (Nat.ne_of_lt (Heap.lt_size e)) e
  exact h pins _ σ H xs _ Q I1 (by simpa using rv) hw
theorem pgd_lst {k : Nat} {js : List Nat} (hc : X.calm = true) (h : PGs X es (gNs js)) (hl : js.length = ds.length) (hn : (assignEach es X.env).length = ds.length) (hst : (assignEach es X.env).findIdx? (·.1) = none := by rfl) : PGd X sd (.Tuple es k pos) (.lst ds) (setAll sd js ds) := .mk fun σ F H v S q =>
  (pg_lst hc h hn hst).to (by
    simp only [Rep] at q
    obtain ⟨a, xs, rfl, ha, rl⟩ := q
    exact ⟨a, xs, rfl, .of (S.sub _ _ ha), rl.len, gNs_ok hl rl S fun σ' S' => ⟨F, S', Same.refl _⟩⟩)
/-- targets = value -/
theorem psd_asg {sd' : List Slot} (h : PEd X sd e (.val d)) (hg : PGd X sd tg d sd') (hE : E.nx sd') (hs : swapsWithSole [tg] e pos.line X.env = pure false := by rfl) (hw : swappedStores [tg] e X.env = pure none := by rfl)
    (h1 : (assignEach [tg] X.env).map (·.2) = [assign tg X.env] := by rfl) : PSd1 X sd (.Assign [tg] e pos) E := .mk fun σ F H S =>
  (ps_asg pe_w pg_w hs hw h1).to ((h σ F H S).imp fun v H1 ⟨F1, S1, s1, q1⟩ => (hg σ F1 H1 v S1 q1).imp fun σ' H' ⟨F', S', s'⟩ => ⟨sd', F', S', s1.trans s', hE⟩)

/-! ### for -/
theorem psd_for {body : List Stmt} {P : Hp → Hp → Prop} (Sd Td : Nat → List Slot) (hi : PId X sd P tg iter ds) (h0 : Le sd (Sd 0)) (hg : ∀ k d, ds[k]? = some d → PGd X (Sd k) tg d (Td k))
    (hb : ∀ k d, ds[k]? = some d → PSd X (Td k) body { E with nx := fun sd' => Le sd' (Sd (k + 1)), ct := fun sd' => Le sd' (Sd (k + 1)), bk := E.nx }) (hE : E.nx (Sd ds.length)) (hP : ∀ k σ F H, StF X.K X.H₀ F H σ (Sd k) → P F H := by intros; trivial)
    (hc : X.calm = true := by rfl) (hp : PassesOwn (model X.prog X.w) X.A X.env X.xe := by exact PassesOwn.never) (hs : ∀ x, foldedSetIterable iter X.env x = pure x := by intro _; rfl) : PSd1 X sd (.For tg iter body [] pos) E := .mk fun σ F H S =>
  (ps_for hp hc pi_w pg_w pss_w hs).to (by
    intro pins s I
    refine thn (hi σ F H S pins s I) fun v s1 h1 => thn h1 fun itv s2 h2 => ?_
    obtain ⟨it, fp, tn, J, H2, e, I2, T, st2, f2, F1, S1, s1', itd⟩ := h2
    refine ⟨it, fp, tn, J, H2, e, I2, T, st2, f2, ?_⟩
    refine ⟨fun i m σ' H' => m = ds.length - i ∧ i ≤ ds.length ∧ ∃ F', StF X.K X.H₀ F' H' σ' (Sd i) ∧ Same F1 F', ⟨ds.length, by simp, Nat.zero_le _, F1, S1.le h0, Same.refl _⟩, ?_⟩
    rintro i m σ' H' ⟨rfl, hil, F', S', s'⟩
    obtain ⟨g1, g2, g3⟩ := itd F' H' s' S'.sub S'.smp (hP _ _ _ _ S') i
    by_cases hlt : i < ds.length
    · refine .inr ⟨g1 hlt, fun σ2 H2 => ∃ F2, StF X.K X.H₀ F2 H2 σ2 (Sd (i + 1)) ∧ Same F1 F2, fun σ2 H2 ⟨F2, S2, s2⟩ => ⟨ds.length - (i + 1), by omega, rfl, hlt, F2, S2, s2⟩, fun x H2 y => ?_⟩
      have hd : ds[i]? = some ds[i] := by simp [hlt]
      obtain ⟨F2, s2, rp, up⟩ := g3 x H2 ds[i] hd y
      refine (hg i _ hd σ' F2 H2 x (up _ _ _ S') rp).imp fun σ3 H3 ⟨F3, S3, s3⟩ => ?_
      have base : Same F1 F3 := (s'.trans s2).trans s3
      refine (hb i _ hd σ3 F3 H3 S3).imp ?_ ?_ ?_ ?_
      · rintro σ4 H4 ⟨sd4, F4, S4, s4, le⟩
        exact ⟨F4, S4.le le, base.trans s4⟩
      · exact fun v H4 q => q
      · rintro σ4 H4 ⟨sd4, F4, S4, s4, q⟩
        exact ⟨sd4, F4, S4, (s1'.trans base).trans s4, q⟩
      · rintro σ4 H4 ⟨sd4, F4, S4, s4, le⟩
        exact ⟨F4, S4.le le, base.trans s4⟩
    · have e : i = ds.length := by omega
      subst e
      exact .inl ⟨g2 (Nat.le_refl _), Sd ds.length, F', S', s1'.trans s', hE⟩)

/-! ### looking aside: what our own lists hold is not touched -/
theorem Inv.retrack {pins : List (Addr × Obj)} {σ : St} {H F : Hp} {s s' : Shared} (I0 : Inv X pins σ H s) : ∀ (ls : List Addr), ls.Nodup → (∀ l ∈ ls, F l = none ∧ (∃ xs, H l = some xs ∧ Wr l xs) ∧ ∀ o, s.heap.get? l = some o → s'.heap.get? l = some o) → Inv X pins σ F s' → Inv X pins σ (fun b => if b ∈ ls then H b else F b) s'
  | [], _, _, I => by simpa using I
  | l :: ls, nd, h, I => by
    obtain ⟨nl, nd'⟩ := List.nodup_cons.mp nd
    have J := Inv.retrack I0 ls nd' (fun l' hl => h l' (List.mem_cons_of_mem _ hl)) I
    obtain ⟨n, ⟨xs, hx, wx⟩, kp⟩ := h l List.mem_cons_self
    have e : (fun b => if b ∈ l :: ls then H b else F b) = upd (fun b => if b ∈ ls then H b else F b) l xs := by
      funext b
      unfold upd
      by_cases hb : b = l
      · subst hb
        simp [hx]
      · simp [hb]
    rw [e]
    have n' : (fun b => if b ∈ ls then H b else F b) l = none := by simp [nl, n]
    have ob := I0.hok l _ hx
    clear e
    generalize (fun b => if b ∈ ls then H b else F b) = G at J n' ⊢
    refine ⟨J.ok, J.os, J.bare, ⟨J.base.keep, J.base.slot, fun b u g n0 hx0 => ?_, J.base.there, fun b ys g => ?_, fun b u ys g => ?_, fun b ps g => ?_⟩, J.loc, J.cell, ?_, fun x c g => ?_, fun p hp => ?_, J.hok.track n' ?_, J.len⟩
    · have hb : b ≠ l := fun q => by
        subst q
        have := I0.base.free b u g n0 hx0
        rw [hx] at this
        cases this
      rw [upd_ne hb]
      exact J.base.free b u g n0 hx0
    · have q := J.base.tups b ys g
      rw [upd_ne (ne_of_none q n')]
      exact q
    · have q := J.base.frzs b u ys g
      rw [upd_ne (ne_of_none q n')]
      exact q
    · obtain ⟨m, q⟩ := J.base.tbls b ps g
      exact ⟨m, by rw [upd_ne (ne_of_none q n')]; exact q⟩
    · rw [upd_ne (fun q => by have := I0.free; rw [q, hx] at this; cases this)]
      exact J.free
    · rw [upd_ne (fun q => by have := I0.freeC x c g; rw [q, hx] at this; cases this)]
      exact J.freeC x c g
    · obtain ⟨g, n0, rr⟩ := J.pin p hp
      refine ⟨g, ?_, rr⟩
      rw [upd_ne (fun q => by have := (I0.pin p hp).2.1; rw [q, hx] at this; cases this)]
      exact n0
    · cases xs with
      | lst xs =>
        obtain ⟨z, its, nn, rv, ho⟩ := ob
        exact ⟨z, its, nn, rv, kp _ ho⟩
      | dK kvs =>
        obtain ⟨z, y, vs, r, o, es, ep, e, c⟩ := ob
        exact ⟨z, y, vs, r, o, es, ep, kp _ e, c⟩
      | ext φ =>
        obtain ⟨h1, ⟨o1, h2⟩, h3⟩ := ob
        exact ⟨h3 _ _ h1 kp, ⟨o1, kp _ h2⟩, h3⟩
      | _ => exact wx.elim
theorem wr_obj {P : Program} {w : World} {H : Hp} {h : Heap} {l : Addr} {xs : HO} (wx : Wr l xs) (q : H l = some xs) (ok : ObjOk P w H h l xs) : ∃ ys o, H l = some ys ∧ Wr l ys ∧ h.get? l = some o ∧ ∀ v, o.data ≠ .cell v := by
  cases xs with
  | lst xs =>
    obtain ⟨_, its, nn, _, ho⟩ := ok
    exact ⟨_, _, q, trivial, ho, fun v z => by cases z⟩
  | dK kvs =>
    obtain ⟨_, _, _, _, o, es, ep, e, _, d, _⟩ := ok
    exact ⟨_, _, q, trivial, e, fun v z => by rw [d] at z; cases z⟩
  | ext φ =>
    obtain ⟨o, e, n⟩ := id wx
    subst e
    exact ⟨_, o, q, wx, ok.1, n⟩
  | _ => exact wx.elim
theorem wE_frame {σ : St} {F H : Hp} (S : StF X.K X.H₀ F H σ sd) (hr : match r with | .bor _ => False | _ => True) (h : wE X e σ F fun v F3 => RetOk X.K F F3 r v) : wE X e σ H fun v H' => ∃ F', StF X.K X.H₀ F' H' σ sd ∧ Same F F' ∧ ResOk X.K F' H' sd r v := fun pins s I => by
  have I1 : Inv X pins σ F s := I.less S.sub S.base (S.smp.sub S.sub)
  have ob : ∀ l ∈ owned sd, ∃ xs o, H l = some xs ∧ Wr l xs ∧ s.heap.get? l = some o ∧ ∀ v, o.data ≠ .cell v := fun l hl => by
    obtain ⟨n, xs, q, wx⟩ := S.slots.owns hl
    exact wr_obj wx q (I.hok l _ q)
  have I2 : Inv X (pins ++ pinsAt (owned sd) s.heap) σ F s := I1.pins_of fun p hp => (List.mem_append.mp hp).elim (fun z => I1.pin p (List.mem_append_right _ z)) fun z => by
    obtain ⟨hb, g⟩ := of_pinsAt z
    obtain ⟨xs, o, q, _, ho, hc⟩ := ob p.1 hb
    rw [g] at ho
    cases ho
    refine ⟨g, (S.slots.owns hb).1, fun y => ?_, fun y => ?_, hc⟩
    · have := I.free
      rw [← y, q] at this
      cases this
    · obtain ⟨_, o', ho', _⟩ := I.ok.funs.mem y
      have := I.base.free p.1 o' ho' (I.ok.frf p.1 y) fun z => I.ok.exfs p.1 z y
      rw [q] at this
      cases this
  refine thn (h _ s I2) fun u s' ⟨v, F3, I3, rv, F2, s1, s2, sm3, res⟩ => ?_
  have kp : ∀ l ∈ owned sd, F3 l = none ∧ (∃ xs, H l = some xs ∧ Wr l xs) ∧ ∀ o, s.heap.get? l = some o → s'.heap.get? l = some o := fun l hl => by
    obtain ⟨xs, o, q, wx, ho, _⟩ := ob l hl
    have := I3.pin (l, o) (List.mem_append_right _ (List.mem_append_right _ (mem_pinsAt hl ho)))
    exact ⟨this.2.1, ⟨xs, q, wx⟩, fun o' g => by rw [ho] at g; cases g; exact this.1⟩
  have I4 := Inv.retrack I (owned sd) S.nd kp I3.unpinned
  refine ⟨v, _, I4, rv, F2, ⟨fun b o g => s1 _ _ (S.base _ _ g), fun b o g => ?_, fun b o g => ?_, S.slots.mono s1 fun l hl => ⟨s2.free (kp l hl).1, fun xs g => by simpa [hl] using g⟩, S.nd⟩, s1, ?_⟩
  · have g3 := s2 _ _ g
    have : b ∉ owned sd := fun hb => by rw [(kp b hb).1] at g3; cases g3
    simp [this, g3]
  · by_cases hb : b ∈ owned sd
    · simp [hb] at g
      exact S.smp _ _ g
    · simp [hb] at g
      exact sm3 _ _ g
  · cases r with
    | val d => exact res
    | own ds' =>
      obtain ⟨l, xs, e, n, q, rl', _⟩ := res
      have : l ∉ owned sd := fun hl => by rw [(kp l hl).1] at q; cases q
      exact ⟨l, xs, e, n, by simp [this, q], rl', this⟩
    | pr d ls =>
      obtain ⟨t, l, xs, y, e, f, g, n, q, rl', _⟩ := res
      have : l ∉ owned sd := fun hl => by rw [(kp l hl).1] at q; cases q
      exact ⟨t, l, xs, y, e, f, g, n, by simp [this, q], rl', this⟩
    | ox G =>
      obtain ⟨ls, nd, h, g⟩ := res
      have no : ∀ l ∈ ls, l ∉ owned sd := fun l hl hm => by
        obtain ⟨n, ⟨ob, q, w⟩, _⟩ := h l hl
        rw [(kp l hm).1] at q
        cases q
      refine ⟨ls, nd, fun l hl => ?_, fun F' H' sF k => g F' H' sF fun l hl ob q => k l hl ob (by simp [no l hl, q])⟩
      obtain ⟨n, ⟨ob, q, w⟩, _⟩ := h l hl
      exact ⟨n, ⟨ob, by simp [no l hl, q], w⟩, no l hl⟩
    | bor ds' => exact hr.elim
/-- what the block of a comprehension knows of our names -/
def capS : Option Slot → Slot
  | some (.val d) => .val d
  | some (.ox [] G) => .ox [] G
  | _ => .un
def capD (cap : List (Option Nat)) (sd : List Slot) : List Slot := cap.map fun o => match o with
  | none => .un
  | some k => capS sd[k]?
theorem capD_ok {K : PySem.W.Frag} {F H F' H' : Hp} {σ : St} (h : SlotsOk K F H sd σ) (s : Same F F') : ∀ cap : List (Option Nat), SlotsOk K F' H' (capD cap sd) (capt cap σ)
  | [] => rfl
  | o :: cap => by
    refine ⟨_, _, rfl, ?_, capD_ok h s cap⟩
    cases o with
    | none => trivial
    | some k =>
      show SlotOk K F' H' (capS sd[k]?) _
      cases q : sd[k]? with
      | none => trivial
      | some z =>
        cases z with
        | un => trivial
        | own l ds => trivial
        | od l ks ds => trivial
        | ox ls G =>
          cases ls with
          | cons a ls => trivial
          | nil =>
            obtain ⟨o, h1, v, h2, h3, h4⟩ := h.get q
            subst h2
            exact ⟨v, by simp [h1], fun l hl => (nomatch hl), fun F2 H2 s2 _ => h4 F2 H2 (s.trans s2) fun l hl => (nomatch hl)⟩
        | gh d G => trivial
        | val d =>
          obtain ⟨o, h1, v, h2, rv⟩ := h.get q
          subst h2
          exact ⟨v, by simp [h1], rv.mono s⟩
theorem owned_capD : ∀ (cap : List (Option Nat)) (sd : List Slot), owned (capD cap sd) = []
  | [], _ => rfl
  | o :: cap, sd => by
    have ih := owned_capD cap sd
    cases o with
    | none => exact ih
    | some k =>
      show owned (capS sd[k]? :: capD cap sd) = []
      cases q : sd[k]? with
      | none => exact ih
      | some z =>
        cases z with
        | ox ls G => cases ls <;> exact ih
        | _ => exact ih
def unS : Slot → Slot
  | .own _ _ => .un
  | .od _ _ _ => .un
  | .ox [] G => .ox [] G
  | .ox _ _ => .un
  | z => z
def unO (sd : List Slot) : List Slot := sd.map unS
theorem owned_unO : ∀ sd : List Slot, owned (unO sd) = []
  | [] => rfl
  | .un :: r => owned_unO r
  | .val _ :: r => owned_unO r
  | .gh _ _ :: r => owned_unO r
  | .own _ _ :: r => owned_unO r
  | .od _ _ _ :: r => owned_unO r
  | .ox [] _ :: r => owned_unO r
  | .ox (_ :: _) _ :: r => owned_unO r
theorem capD_unO (cap : List (Option Nat)) (sd : List Slot) : capD cap (unO sd) = capD cap sd := by
  unfold capD
  refine List.map_congr_left fun o _ => ?_
  cases o with
  | none => rfl
  | some k =>
    show capS (unO sd)[k]? = capS sd[k]?
    unfold unO
    rw [List.getElem?_map]
    cases q : sd[k]? with
    | none => rfl
    | some z =>
      cases z with
      | ox ls G => cases ls <;> rfl
      | _ => rfl
theorem slots_unO {K : PySem.W.Frag} {F H H' : Hp} : ∀ {sd : List Slot} {σ : St}, SlotsOk K F H sd σ → SlotsOk K F H' (unO sd) σ
  | [], _, h => h
  | z :: zs, σ, h => by
    obtain ⟨o, r, rfl, a, b⟩ := h
    refine ⟨o, r, rfl, ?_, slots_unO b⟩
    cases z with
    | un => trivial
    | val d => exact a
    | gh d G => exact a
    | od l ks ds => trivial
    | ox ls G =>
      cases ls with
      | cons a ls => trivial
      | nil =>
        obtain ⟨v, h2, h3, h4⟩ := a
        exact ⟨v, h2, fun l hl => (nomatch hl), fun F2 H2 s2 _ => h4 F2 H2 s2 fun l hl => (nomatch hl)⟩
    | own l ds => trivial
theorem filter_take_succ {ds : List D} {i : Nat} {d : D} (p : D → Bool) (h : ds[i]? = some d) : (ds.take (i + 1)).filter p = (ds.take i).filter p ++ (if p d then [d] else []) := by
  rw [List.take_add_one, h, List.filter_append]
  cases hp : p d <;> simp [hp]
theorem pd_comp {elt : Expr} {ifs : List Expr} {scope : Scope} {N M : List Str} {cap : List (Option Nat)} {sc : Scope} {Tb : D → List Slot} (p : D → Bool) (f : D → D)
    (hi : PId X (unO sd) PT0 tg iter ds) (hl : ds.length ≤ 1000)
    (hsc : X.env.scope = sc) (hcn : compNames scope sc = true) (hM : X.N = M) (hcap : capNames N M scope sc cap = true) (hk : scope.kind = .function)
    (hg : ∀ cl C fp s H d, d ∈ ds → PGd (cxB X N scope cl C fp s H) (capD cap sd) tg d (Tb d))
    (hle : ∀ d, d ∈ ds → Le (Tb d) (capD cap sd))
    (ht : ∀ cl C fp s H d, d ∈ ds → (ifs = [] ∧ p d = true) ∨ ∃ c, ifs = [c] ∧ PTd (cxB X N scope cl C fp s H) (Tb d) c (p d))
    (he : ∀ cl C fp s H d, d ∈ ds → p d = true → PEd (cxB X N scope cl C fp s H) (Tb d) elt (.val (f d)))
    (hc : X.calm = true := by rfl) (hs : ∀ x, foldedSetIterable iter X.env x = pure x := by intro _; rfl) :
    PEd X sd (.ListComp elt [⟨tg, iter, ifs, 0⟩] scope pos) (.own ((ds.filter p).map f)) := .mk fun σ F H S => by
  refine wE_frame S trivial ?_
  have S0 : StF X.K X.H₀ F F σ (unO sd) := ⟨S.base, Same.refl _, S.smp.sub S.sub, slots_unO S.slots, by rw [owned_unO]; exact List.nodup_nil⟩
  intro pins s I
  have nm : ∀ y ∈ scope.names, (y.2 = NameKind.free → sc.names.lookup y.1 = some NameKind.cell) ∧ (y.2 = NameKind.local → scope.names.lookup y.1 = some NameKind.local) := fun y hy => by
    have q := List.all_eq_true.mp hcn y hy
    simp only [Bool.and_eq_true, Bool.or_eq_true, Bool.not_eq_true', beq_eq_false_iff_ne, ne_eq, beq_iff_eq] at q
    exact ⟨fun e => q.1.1.resolve_left fun z => z e, fun e => q.2.resolve_left fun z => z e⟩
  have fre : ∀ y ∈ scope.names, y.2 = .free → ∃ c, X.env.cells.lookup y.1 = some c := fun y hy e => I.ok.has y.1 (.inl (by show X.env.scope.names.lookup y.1 = _; rw [hsc]; exact (nm y hy).1 e))
  rw [eval_ListComp]
  refine wpAny_comprehension_free (use := none) rfl hs (closure_eq fre) hk (fun y hy => (nm y hy).2) ?_
  refine thn (hi σ F F S0 pins s I) fun v s1 h1 => thn h1 fun itv s2 h2 => ?_
  obtain ⟨it, fp, tn, J, H2, e, I2, T, st2, f2, F1, S1, s1', itd⟩ := h2
  subst e
  have S1b : StF X.K H2 H2 H2 (capt cap σ) (capD cap sd) := ⟨Same.refl _, Same.refl _, S1.smp, by
    have q := capD_ok (sd := unO sd) (H' := H2) S1.slots S1.sub cap
    rw [capD_unO] at q
    exact q, by rw [owned_capD]; exact List.nodup_nil⟩
  refine comp_run (N := N) (cap := cap) (g := fun v σ2 H3 Q => ∀ cl C, wG (cxB X N scope cl C fp s2 H2) tg v σ2 H3 Q) (tt := fun σ2 H3 Q => ∀ cl C, wIfs (cxB X N scope cl C fp s2 H2) ifs σ2 H3 Q) (te := fun σ2 H3 Q => ∀ cl C, wE (cxB X N scope cl C fp s2 H2) elt σ2 H3 Q)
    hc hsc hcn (by rw [hM]; exact hcap) hk I2 T st2 f2 (fun cl C pi s3 σ3 H3 v u Q I3 ru q => q cl C pi s3 u I3 ru) (fun cl C pi s3 σ3 H3 Q I3 q => q cl C pi s3 I3) (fun cl C pi s3 σ3 H3 Q I3 q => q cl C pi s3 I3)
    (fun i m ys σb H3 => m = ds.length - i ∧ i ≤ ds.length ∧ ∃ Fb, StF X.K H2 Fb H3 σb (capD cap sd) ∧ RepL X.K Fb (((ds.take i).filter p).map f) ys) ds.length
    ⟨by simp, Nat.zero_le _, H2, S1b, by simpa using RepL.nil⟩ _ ?_
  rintro i m ys σb H3 ⟨rfl, hil, Fb, Sb, rl⟩
  have sF1 : Same F1 Fb := fun b o g => Sb.base _ _ (S1.sub _ _ g)
  obtain ⟨g1, g2, g3⟩ := itd Fb H3 sF1 Sb.sub Sb.smp trivial i
  by_cases hlt : i < ds.length
  · have hd : ds[i]? = some ds[i] := by simp [hlt]
    have hm : ds[i] ∈ ds := List.getElem_mem hlt
    have ylen : ys.length ≤ i := by
      rw [rl.len, List.length_map]
      exact Nat.le_trans (List.length_filter_le _ _) (by simp; omega)
    refine .inr ⟨g1 hlt, small1000 (by omega), fun ys' σ' H' => ∃ Fb', StF X.K H2 Fb' H' σ' (capD cap sd) ∧ RepL X.K Fb' (((ds.take (i + 1)).filter p).map f) ys', fun ys' σ' H' ⟨Fb', Sb', rl'⟩ => ⟨ds.length - (i + 1), by omega, rfl, hlt, Fb', Sb', rl'⟩, fun x H4 y cl C => ?_⟩
    obtain ⟨F4, s4, rp, up⟩ := g3 x H4 ds[i] hd y
    refine (hg cl C fp s2 H2 _ hm σb F4 H4 x (up _ _ _ Sb) rp).imp fun σ5 H5 ⟨F5, S5, s5⟩ cl2 C2 => ?_
    have rl5 := rl.mono (s4.trans s5)
    have fin : ∀ (b : Bool) (H6 : Hp) (F6 : Hp), b = p ds[i] → StF X.K H2 F6 H6 σ5 (Tb ds[i]) → Same F5 F6 → if b = true then (∀ cl C, wE (cxB X N scope cl C fp s2 H2) elt σ5 H6 fun v H5 => ∃ Fb', StF X.K H2 Fb' H5 σ5 (capD cap sd) ∧ RepL X.K Fb' (((ds.take (i + 1)).filter p).map f) (ys ++ [v])) else ∃ Fb', StF X.K H2 Fb' H6 σ5 (capD cap sd) ∧ RepL X.K Fb' (((ds.take (i + 1)).filter p).map f) ys := fun b H6 F6 eb S6 s6 => by
      rw [filter_take_succ p hd, ← eb]
      cases b with
      | false => exact iteF ⟨F6, S6.le (hle _ hm), by simpa using rl5.mono s6⟩
      | true =>
        refine iteT fun cl3 C3 => (he cl3 C3 fp s2 H2 _ hm eb.symm σ5 F6 H6 S6).imp fun v H7 ⟨F7, S7, s7, q7⟩ => ⟨F7, S7.le (hle _ hm), ?_⟩
        simp only [if_true, List.map_append, List.map_cons, List.map_nil]
        exact ((rl5.mono s6).mono s7).app (.one q7)
    rcases ht cl2 C2 fp s2 H2 _ hm with ⟨e1, e2⟩ | ⟨c, e1, q⟩
    · subst e1
      exact wIfs_nil (fin true H5 F5 e2.symm S5 (Same.refl _))
    · subst e1
      exact wIfs_one ((q σ5 F5 H5 S5).imp fun b H6 ⟨eb, F6, S6, s6⟩ => fin b H6 F6 eb S6 s6)
  · have e : i = ds.length := by omega
    subst e
    refine .inl ⟨g2 (Nat.le_refl _), fun D C s' hD hC hDC h0 hL hcc hpp hst ⟨m', ns'⟩ J' => ⟨m', ns', fun h' sb => ?_⟩⟩
    have J2 : Inv X pins σ (upd H3 D (.lst ys)) { s' with heap := h', toks := s'.toks } := J'.turned (it := C) (fun b o hb g => sb.extBut b o hb g) (by rw [upd_ne (Ne.symm hDC)]; exact hC) hL (.inr h0) hcc hpp
    refine ⟨.ref D, _, J2, rfl, Fb, fun b o g => Sb.base _ _ (S1.sub _ _ (s1' _ _ g)), fun b o g => ?_, fun b o g => ?_, D, ys, rfl, Sb.sub.free hD, upd_same, ?_, by simp [owned]⟩
    · have g3 := Sb.sub _ _ g
      rw [upd_ne (ne_of_none g3 hD)]
      exact g3
    · by_cases hb : b = D
      · subst hb
        rw [upd_same] at g
        cases g
        trivial
      · rw [upd_ne hb] at g
        exact Sb.smp _ _ g
    · simpa using rl
end
end DL

namespace DL
open PySem PySem.Spec PyProof.Rows L2
def isI : D → Bool
  | .int _ => true
  | _ => false
def isIB : D → Bool
  | .int _ => true
  | .bl _ => true
  | _ => false
def isB : D → Bool
  | .bl _ => true
  | _ => false
def isT : D → Bool
  | .tup _ => true
  | _ => false
def isL : D → Bool
  | .lst _ => true
  | .scr _ => true
  | _ => false
theorem kit_int (K : PySem.W.Frag) (d : D) : PySem.W.kitOne K (tyD d) (.type "int") = some (isIB d) := by
  cases d <;> with_unfolding_all rfl
theorem kit_bool (K : PySem.W.Frag) (d : D) : PySem.W.kitOne K (tyD d) (.type "bool") = some (isB d) := by
  cases d <;> with_unfolding_all rfl
theorem kit_tuple (K : PySem.W.Frag) (d : D) : PySem.W.kitOne K (tyD d) (.type "tuple") = some (isT d) := by
  cases d <;> with_unfolding_all rfl
theorem kit_list (K : PySem.W.Frag) (d : D) : PySem.W.kitOne K (tyD d) (.type "list") = some (isL d) := by
  cases d <;> with_unfolding_all rfl

section
variable {X : Cx} {sd : List Slot} {e a b c : Expr} {es : List Expr} {pos : Pos} {r ra rb : R} {d : D} {ds : List D} {st : Stmt} {rest : List Stmt} {E : EndD}
theorem PEd.cast {r' : R} (h : PEd X sd e r) (q : r = r') : PEd X sd e r' := q ▸ h
theorem psd_ifF {k : Bool} {x o : List Stmt} (h : PTd X sd c k) (hk : k = false) (h2 : PSd X sd o E) : PSd1 X sd (.If c x o pos) E := psd_if h (fun e => by rw [hk] at e; cases e) fun _ => h2
theorem psd_ifT {k : Bool} {x o : List Stmt} (h : PTd X sd c k) (hk : k = true) (h2 : PSd X sd x E) : PSd1 X sd (.If c x o pos) E := psd_if h (fun _ => h2) fun e => by rw [hk] at e; cases e
theorem pd_catL {d1 d2 : List D} (ha : PEd X sd a (.bor d1)) (hb : PEd X sd b (.bor d2)) (hl : d1.length + d2.length ≤ 1000) : PEd X sd (.BinOp a .Add b pos) (.own (d1 ++ d2)) :=
  pd_op2 op_cat ha hb trivial fun σ F H v u Q S q1 q2 k => by
    obtain ⟨l, xs, e1, h1, r1, _⟩ := q1
    obtain ⟨m, ys, e2, h2, r2, _⟩ := q2
    refine ⟨l, m, xs, ys, e1, e2, h1, h2, by rw [r1.len, r2.len]; exact Nat.le_of_lt (small1000 hl), fun p hp => ?_⟩
    obtain ⟨S2, fp, no⟩ := S.layO (xs := xs ++ ys) hp
    exact k _ F _ S2 (Same.refl _) ⟨p, _, rfl, fp, upd_same, r1.app r2, no⟩
theorem pd_ixLi {i : Int} (ha : PEd X sd a (.bor ds)) (hb : PEd X sd b (.val (.int i))) (h0 : 0 ≤ i) (hd : ds[i.toNat]? = some d) (hs : PlainIx b) : PEd X sd (.Subscript a b pos) (.val d) := by
  have e : i = (i.toNat : Int) := by omega
  rw [e] at hb
  exact pd_ixL ha hb hd hs
theorem pd_ixSi {ns : List Int} {i z : Int} (ha : PEd X sd a (.val (.scr ns))) (hb : PEd X sd b (.val (.int i))) (h0 : 0 ≤ i) (hd : ns[i.toNat]? = some z) (hs : PlainIx b) : PEd X sd (.Subscript a b pos) (.val (.int z)) := by
  have e : i = (i.toNat : Int) := by omega
  rw [e] at hb
  exact pd_ixS ha hb hd hs
end
theorem bits_small {i : Int} (h : i.natAbs < 2 ^ 250) : Builtin.Int.intBits i ≤ 2 ^ 20 := by
  unfold Builtin.Int.intBits
  split
  · exact Nat.zero_le _
  · rename_i hz
    have hne : i.natAbs ≠ 0 := by
      intro z
      apply hz
      have : i = 0 := by omega
      subst this
      rfl
    have := (Nat.log2_lt hne).mpr h
    have e : (250 : Nat) + 1 ≤ 2 ^ 20 := by decide
    omega
theorem mul_small {i j : Int} (h1 : i.natAbs < 2 ^ 250) (h2 : j.natAbs < 2 ^ 250) : IntMulOk i j := .of_bits (bits_small h1) (bits_small h2)

/-! ### the law's own draws -/
def most : Int := 1000 * 10 ^ 64
def drawX (ns : List Int) (k : Nat) : Int := if k < ns.length then ns.getD k 0 else if ns.length > 0 then (ns.getD (k % ns.length) 0 % 1000003 + 1) * ((k : Int) * k * k + 7) else (k : Int) * k * k + 7
def drawL (ns : List Int) (k : Nat) : Int := drawX ns k % most * 7919 ^ 15 % most
def CDraw : List D → R → Prop := fun ds r => ∃ ns k, ds = [.scr ns, .int ((k : Nat) : Int)] ∧ k ≤ 1000 ∧ r = .val (.int (drawL ns k))
def digL : Int → List Int → List Int
  | _, [] => []
  | x, n :: ns => (x % n) :: digL (x / n) ns
theorem digL_len : ∀ (x : Int) (ns : List Int), (digL x ns).length = ns.length
  | _, [] => rfl
  | x, n :: ns => by simp [digL, digL_len]
def CDigits : List D → R → Prop := fun ds r => ∃ x ns, ds = [.int x, .lst (ns.map D.int)] ∧ (∀ n ∈ ns, 0 < n ∧ n.natAbs.log2 < 9000) ∧ ns.length ≤ 100 ∧ r = .own ((digL x ns).map D.int)
def sizes14 : List (Int × Int) := [(2, 2), (1, 1), (1, 2), (2, 1), (1, 3), (3, 1), (2, 3), (3, 2), (1, 4), (4, 1), (1, 5), (5, 1), (1, 6), (6, 1)]
def sizD (p : Int × Int) : D := .tup [.int p.1, .int p.2]
def size14 (z : Int) : Int × Int := sizes14.getD (z % 14).toNat (2, 2)
def CSize : List D → R → Prop := fun ds r => ∃ z, ds = [.int z] ∧ r = .val (sizD (size14 z))
def CLaw : List D → R → Prop := fun ds r => ∃ ns : List Int, ds = [.scr ns] ∧ ns.length ≤ 63 ∧ r = .val (.bl true)
def divL : Int → List Int → Int
  | x, [] => x
  | x, n :: ns => divL (x / n) ns
theorem divL_snoc : ∀ (x : Int) (ns : List Int) (n : Int), divL x (ns ++ [n]) = divL x ns / n
  | _, [], _ => rfl
  | x, m :: ns, n => divL_snoc (x / m) ns n
theorem digL_snoc : ∀ (x : Int) (ns : List Int) (n : Int), digL x (ns ++ [n]) = digL x ns ++ [divL x ns % n]
  | _, [], _ => rfl
  | x, m :: ns, n => by
    show (x % m) :: digL (x / m) (ns ++ [n]) = _
    rw [digL_snoc (x / m) ns n]
    rfl
theorem ints_get {ns : List Int} {k : Nat} {d : D} (h : (ns.map D.int)[k]? = some d) : k < ns.length ∧ d = .int (ns.getD k 0) := by
  rw [List.getElem?_map] at h
  cases e : ns[k]? with
  | none =>
    rw [e] at h
    cases h
  | some z =>
    rw [e] at h
    refine ⟨(List.getElem?_eq_some_iff.mp e).1, ?_⟩
    rw [← Option.some.inj h, List.getD, e]
    rfl
theorem pd_two {X : Cx} {sd : List Slot} {i j : Int} {a1 a2 b1 : Nat} {p1 p2 p3 : Pos} (h1 : starEach [Expr.Constant (.int i) a1 p1, Expr.Constant (.int j) a2 p2] X.env = (false, eval (Expr.Constant (.int i) a1 p1) X.env) :: starEach [Expr.Constant (.int j) a2 p2] X.env)
    (h2 : starEach [Expr.Constant (.int j) a2 p2] X.env = (false, eval (Expr.Constant (.int j) a2 p2) X.env) :: starEach [] X.env) : PEd X sd (.Tuple [.Constant (.int i) a1 p1, .Constant (.int j) a2 p2] b1 p3) (.val (sizD (i, j))) :=
  pd_tup (ds := [.int i, .int j]) (pad_cons pd_int (pad_cons pd_int pad_nil trivial h2) trivial h1) (Nat.le_of_ble_eq_true rfl)
theorem getD_mem {α : Type} {l : List α} {i : Nat} {d : α} (h : i < l.length) : l.getD i d ∈ l := by
  have e : l.getD i d = l[i] := by simp [List.getD, h]
  rw [e]
  exact List.getElem_mem h
theorem smp_only {H : Hp} (h : Only H) : Smp H := fun b o e => by
  rcases h b with z | ⟨o', xs, z⟩
  · rw [z] at e
    cases e
  · rw [z] at e
    cases e
    trivial
theorem walkD {l : PySem.W.OpenLaw} {k : Nat} {x : Str} {q : Program} {loose : List Str} {XP : (Str → Option Value) → Heap → Prop} {YP : World → Heap → Prop} {d : DefRec} {K : Params → PySem.W.Frag} (hn : l.most = some 63) (hdf : d.params.defaults = [])
    (hr : Room k callerA) (hY : ∀ (w : World) (h : Heap), YP w h → (K w.params).In h)
    (F : ∀ (w : World) (mg : Str → Option Value) (fa : Addr) (h : Heap), (K w.params).In h → h.Ns mainGlobals mg → mg d.name = some (.ref fa) →
      ∃ fd : FuncData, (∀ (s : Shared) (u : Value), BindsTo s fd ⟨[u], []⟩ [(x, u)]) ∧ ∀ base : Heap, (K w.params).In base → base.Ns mainGlobals mg → FnOk l.prog w (K w.params) mg base CX0 k fa fd [x] (spC (K w.params) 1 CLaw)) :
    PySem.W.WalkO q loose XP YP l.row.toRowW d [] (fun f vs => PySem.call f vs) :=
  L2.walk_of (n := 63) (k := k) (x := x) (CX := fun _ => CX0) (sp := fun w => spC (K w.params) 1 CLaw) hn (by decide) hdf hr hY F
    (fun w H a ns hl ho hS => ⟨rfl, smp_only ho, [.scr ns], .val (.bl true), .one (by simp only [Rep]; exact ⟨a, rfl, hS⟩), ⟨ns, rfl, hl, rfl⟩, fun v H' ⟨F, _, _, _, res⟩ => by simpa only [ResOk, Rep] using res⟩) fun _ _ _ _ _ z => z
end DL

namespace DL
open PySem PySem.Spec PyProof.Rows L2
/-! ### == of data -/
mutual
def deq : D → D → Bool
  | .non, .non => true
  | .bl a, .bl b => a == b
  | .bl a, .int b => (if a then 1 else 0) == b
  | .int a, .bl b => a == (if b then 1 else 0)
  | .int a, .int b => a == b
  | .str a, .str b => a == b
  | .tup a, .tup b => deqL a b
  | .lst a, .lst b => deqL a b
  | _, _ => false
def deqL : List D → List D → Bool
  | [], [] => true
  | x :: xs, y :: ys => deq x y && deqL xs ys
  | _, _ => false
end
mutual
/-- no dict, not the script -/
def pl : D → Bool
  | .dic => false
  | .dki _ _ => false
  | .scr _ => false
  | .tup ds => plL ds
  | .lst ds => plL ds
  | _ => true
def plL : List D → Bool
  | [] => true
  | d :: ds => pl d && plL ds
end
mutual
def dep : D → Nat
  | .tup ds => depL ds + 1
  | .lst ds => depL ds + 1
  | _ => 0
def depL : List D → Nat
  | [] => 0
  | d :: ds => max (dep d) (depL ds)
end
theorem plL_get : ∀ {ds : List D} {i : Nat} {d : D}, plL ds = true → ds[i]? = some d → pl d = true
  | [], i, d, _, e => by simp at e
  | d' :: ds, i, d, h, e => by
    simp only [plL, Bool.and_eq_true] at h
    cases i with
    | zero =>
      simp at e
      subst e
      exact h.1
    | succ i => exact plL_get h.2 (by simpa using e)
theorem depL_get : ∀ {ds : List D} {i : Nat} {d : D}, ds[i]? = some d → dep d ≤ depL ds
  | [], i, d, e => by simp at e
  | d' :: ds, i, d, e => by
    simp only [depL]
    cases i with
    | zero =>
      simp at e
      subst e
      exact Nat.le_max_left _ _
    | succ i => exact Nat.le_trans (depL_get (i := i) (by simpa using e)) (Nat.le_max_right _ _)
theorem deqL_iff : ∀ {xs ys : List D}, deqL xs ys = true ↔ xs.length = ys.length ∧ ∀ (j : Nat) (x y : D), xs[j]? = some x → ys[j]? = some y → deq x y = true
  | [], [] => by simp [deqL]
  | [], y :: ys => by simp [deqL]
  | x :: xs, [] => by simp [deqL]
  | x :: xs, y :: ys => by
    simp only [deqL, Bool.and_eq_true, List.length_cons, deqL_iff (xs := xs) (ys := ys)]
    constructor
    · rintro ⟨h1, h2, h3⟩
      refine ⟨by omega, fun j a b ea eb => ?_⟩
      cases j with
      | zero =>
        simp at ea eb
        subst ea eb
        exact h1
      | succ j => exact h3 j a b (by simpa using ea) (by simpa using eb)
    · rintro ⟨h1, h2⟩
      exact ⟨h2 0 x y rfl rfl, by omega, fun j a b ea eb => h2 (j + 1) a b (by simpa using ea) (by simpa using eb)⟩
mutual
theorem deq_same {K : PySem.W.Frag} {H : Hp} : ∀ {d1 d2 : D} {v : V}, pl d1 = true → Rep K H d1 v → Rep K H d2 v → pl d2 = true → deq d1 d2 = true
  | .non, d2, v, _, r1, r2, _ => by
    simp only [Rep] at r1
    subst r1
    cases d2 <;> simp_all [Rep, deq]
  | .bl b, d2, v, _, r1, r2, _ => by
    simp only [Rep] at r1
    subst r1
    cases d2 <;> simp_all [Rep, deq]
  | .int b, d2, v, _, r1, r2, _ => by
    simp only [Rep] at r1
    subst r1
    cases d2 <;> simp_all [Rep, deq]
  | .str b, d2, v, _, r1, r2, _ => by
    simp only [Rep] at r1
    subst r1
    cases d2 <;> simp_all [Rep, deq]
  | .dic, _, _, h, _, _, _ => by simp [pl] at h
  | .dki _ _, _, _, h, _, _, _ => by simp [pl] at h
  | .scr _, _, _, h, _, _, _ => by simp [pl] at h
  | .tup ds, d2, v, p1, r1, r2, p2 => by
    simp only [Rep] at r1
    obtain ⟨a, xs, rfl, ha, rl⟩ := r1
    cases d2 with
    | tup es =>
      simp only [Rep] at r2
      obtain ⟨a', xs', e, ha', rl'⟩ := r2
      cases e
      rw [ha] at ha'
      cases ha'
      simp only [deq]
      exact deqL_same (by simpa [pl] using p1) rl rl' (by simpa [pl] using p2)
    | lst es =>
      simp only [Rep] at r2
      obtain ⟨a', xs', e, ha', rl'⟩ := r2
      cases e
      rw [ha] at ha'
      cases ha'
    | dic => simp [pl] at p2
    | dki => simp [pl] at p2
    | scr => simp [pl] at p2
    | _ => simp [Rep] at r2
  | .lst ds, d2, v, p1, r1, r2, p2 => by
    simp only [Rep] at r1
    obtain ⟨a, xs, rfl, ha, rl⟩ := r1
    cases d2 with
    | lst es =>
      simp only [Rep] at r2
      obtain ⟨a', xs', e, ha', rl'⟩ := r2
      cases e
      rw [ha] at ha'
      cases ha'
      simp only [deq]
      exact deqL_same (by simpa [pl] using p1) rl rl' (by simpa [pl] using p2)
    | tup es =>
      simp only [Rep] at r2
      obtain ⟨a', xs', e, ha', rl'⟩ := r2
      cases e
      rw [ha] at ha'
      cases ha'
    | dic => simp [pl] at p2
    | dki => simp [pl] at p2
    | scr => simp [pl] at p2
    | _ => simp [Rep] at r2
theorem deqL_same {K : PySem.W.Frag} {H : Hp} : ∀ {ds es : List D} {xs : List V}, plL ds = true → RepL K H ds xs → RepL K H es xs → plL es = true → deqL ds es = true
  | [], es, xs, _, r1, r2, _ => by
    simp only [RepL] at r1
    subst r1
    cases es with
    | nil => rfl
    | cons e es =>
      obtain ⟨y, ys, z, _⟩ := r2.uncons
      cases z
  | d :: ds, es, xs, p1, r1, r2, p2 => by
    obtain ⟨y, ys, rfl, a, rl⟩ := r1.uncons
    cases es with
    | nil =>
      simp only [RepL] at r2
      cases r2
    | cons e es =>
      obtain ⟨y', ys', z, a', rl'⟩ := r2.uncons
      cases z
      simp only [plL, Bool.and_eq_true] at p1 p2
      simp only [deqL, Bool.and_eq_true]
      exact ⟨deq_same p1.1 a a' p2.1, deqL_same p1.2 rl rl' p2.2⟩
end
def isFl : D → Bool
  | .non => true
  | .bl _ => true
  | .int _ => true
  | .str _ => true
  | _ => false
theorem fl_flat {K : PySem.W.Frag} {H : Hp} {d : D} {v : V} (h : isFl d = true) (r : Rep K H d v) : flatV v = true ∧ flt d = some v := by
  cases d <;> simp_all [isFl, Rep, flatV, flt]
section
variable {P : Program} {w : World} {K : PySem.W.Frag} {H : Hp} {s : Shared}
theorem tup_at (hok : HOk P w H s.heap) {ds : List D} {v : V} {u : Value} (r : Rep K H (.tup ds) v) (ru : RelV v u) : ∃ a xs its, u = .ref a ∧ v = .ref a ∧ RepL K H ds xs ∧ Vals xs its ∧ s.heap.IsTuple a its.toArray := by
  simp only [Rep] at r
  obtain ⟨a, xs, rfl, ha, rl⟩ := r
  cases ru
  obtain ⟨_, its, rv, p⟩ := (show ObjOk P w H s.heap a (.tup xs) from hok a _ ha)
  exact ⟨a, xs, its, rfl, rfl, rl, rv, p.tup⟩
theorem lst_at (hok : HOk P w H s.heap) {ds : List D} {v : V} {u : Value} (r : Rep K H (.lst ds) v) (ru : RelV v u) : ∃ a xs its, u = .ref a ∧ v = .ref a ∧ RepL K H ds xs ∧ Vals xs its ∧ s.heap.IsList a its.toArray := by
  simp only [Rep] at r
  obtain ⟨a, xs, rfl, ha, rl⟩ := r
  cases ru
  obtain ⟨_, its, n, rv, p⟩ := (show ObjOk P w H s.heap a (.lst xs) from hok a _ ha)
  exact ⟨a, xs, its, rfl, rfl, rl, rv, _, p, rfl, n, rfl⟩
/-- the items' answers by place -/
def dAt (ds es : List D) (j : Nat) : Bool := match ds[j]?, es[j]? with
  | some x, some y => deq x y
  | _, _ => false
theorem deqL_all (ds es : List D) : ((List.range (min ds.length es.length)).all (dAt ds es) && ds.length == es.length) = deqL ds es := by
  rw [Bool.eq_iff_iff, deqL_iff, Bool.and_eq_true, List.all_eq_true, beq_iff_eq]
  constructor
  · rintro ⟨h1, h2⟩
    refine ⟨h2, fun j x y ex ey => ?_⟩
    have hj : j < ds.length := (List.getElem?_eq_some_iff.mp ex).1
    have := h1 j (List.mem_range.mpr (by omega))
    unfold dAt at this
    rw [ex, ey] at this
    exact this
  · rintro ⟨h1, h2⟩
    refine ⟨fun j hj => ?_, h1⟩
    have hj' := List.mem_range.mp hj
    have e1 : ds[j]? = some (ds[j]'(by omega)) := by simp
    have e2 : es[j]? = some (es[j]'(by omega)) := by simp
    unfold dAt
    rw [e1, e2]
    exact h2 j _ _ e1 e2
theorem deqL_all' {ds es : List D} (h : ds.length = es.length) : (List.range ds.length).all (dAt ds es) = deqL ds es := by
  have := deqL_all ds es
  rw [h] at this ⊢
  simpa using this
theorem deqL_len {ds es : List D} (h : ds.length ≠ es.length) : deqL ds es = false := by
  cases e : deqL ds es with
  | false => rfl
  | true => exact absurd (deqL_iff.mp e).1 h
mutual
theorem eqAt_D (hok : HOk P w H s.heap) : ∀ (d1 : D) {d2 : D} {v1 v2 : V} {u1 u2 : Value} {A : Around}, pl d1 = true → pl d2 = true → Rep K H d1 v1 → Rep K H d2 v2 → RelV v1 u1 → RelV v2 u2 → A.units + dep d1 < cLine → SeqAt.EqAt A s u1 u2 (deq d1 d2)
  | .tup ds, d2, v1, v2, u1, u2, A, p1, p2, r1, r2, ru1, ru2, hu => by
    have hu' : A.units < cLine := by omega
    obtain ⟨a, xs, its, rfl, rfl, rl, rv, ht⟩ := tup_at hok r1 ru1
    cases d2 with
    | non => simp only [Rep] at r2; subst r2; cases ru2; exact SeqAt.EqAt.tuple_none ht hu'
    | bl b => simp only [Rep] at r2; subst r2; cases ru2; exact SeqAt.EqAt.tuple_bool b ht hu'
    | int b => simp only [Rep] at r2; subst r2; obtain ⟨t, rfl⟩ := ru2; exact SeqAt.EqAt.tuple_int b t ht hu'
    | str b => simp only [Rep] at r2; subst r2; obtain ⟨t, rfl⟩ := ru2; exact SeqAt.EqAt.tuple_str b t ht hu'
    | dic => simp [pl] at p2
    | dki => simp [pl] at p2
    | scr => simp [pl] at p2
    | lst es =>
      obtain ⟨b, ys, jts, rfl, rfl, rl2, rv2, hl2⟩ := lst_at hok r2 ru2
      exact SeqAt.EqAt.tuple_list ht hl2 hu'
    | tup es =>
      obtain ⟨b, ys, jts, rfl, e2, rl2, rv2, ht2⟩ := tup_at hok r2 ru2
      by_cases hab : a = b
      · subst hab
        have := deq_same p1 r1 (e2 ▸ r2) p2
        rw [this]
        exact SeqAt.EqAt.same _
      · simp only [deq]
        rw [← deqL_all]
        have l1 : its.toArray.size = ds.length := by rw [List.size_toArray, ← rv.length, rl.len]
        have l2 : jts.toArray.size = es.length := by rw [List.size_toArray, ← rv2.length, rl2.len]
        rw [← l1, ← l2]
        simp only [pl] at p1 p2
        simp only [dep] at hu
        refine .of_refs hab (.tuples ht ht2 hu' fun j h1 h2 => ?_)
        exact eqAt_L hok ds p1 p2 rl rl2 rv rv2 (A := A.in1) (by show A.units + 1 + _ < cLine; omega) (by simp) (by simp)
  | .lst ds, d2, v1, v2, u1, u2, A, p1, p2, r1, r2, ru1, ru2, hu => by
    have hu' : A.units < cLine := by omega
    obtain ⟨a, xs, its, rfl, rfl, rl, rv, ht⟩ := lst_at hok r1 ru1
    cases d2 with
    | non => simp only [Rep] at r2; subst r2; cases ru2; exact SeqAt.EqAt.list_none ht hu'
    | bl b => simp only [Rep] at r2; subst r2; cases ru2; exact SeqAt.EqAt.list_bool b ht hu'
    | int b => simp only [Rep] at r2; subst r2; obtain ⟨t, rfl⟩ := ru2; exact SeqAt.EqAt.list_int b t ht hu'
    | str b => simp only [Rep] at r2; subst r2; obtain ⟨t, rfl⟩ := ru2; exact SeqAt.EqAt.list_str b t ht hu'
    | dic => simp [pl] at p2
    | dki => simp [pl] at p2
    | scr => simp [pl] at p2
    | tup es =>
      obtain ⟨b, ys, jts, rfl, rfl, rl2, rv2, hl2⟩ := tup_at hok r2 ru2
      exact SeqAt.EqAt.list_tuple ht hl2 hu'
    | lst es =>
      obtain ⟨b, ys, jts, rfl, e2, rl2, rv2, ht2⟩ := lst_at hok r2 ru2
      by_cases hab : a = b
      · subst hab
        have := deq_same p1 r1 (e2 ▸ r2) p2
        rw [this]
        exact SeqAt.EqAt.same _
      · simp only [deq]
        have l1 : its.toArray.size = ds.length := by rw [List.size_toArray, ← rv.length, rl.len]
        have l2 : jts.toArray.size = es.length := by rw [List.size_toArray, ← rv2.length, rl2.len]
        simp only [pl] at p1 p2
        simp only [dep] at hu
        by_cases hl : ds.length = es.length
        · rw [← deqL_all' hl, ← l1]
          refine .of_refs hab (.lists ht ht2 (by rw [l1, l2, hl]) hu' fun j h1 h2 => ?_)
          exact eqAt_L hok ds p1 p2 rl rl2 rv rv2 (A := A.in1) (by show A.units + 1 + _ < cLine; omega) (by simp) (by simp)
        · rw [deqL_len hl]
          exact .of_refs hab (.lists_lengths ht ht2 (by rw [l1, l2]; simpa using hl) hu')
  | .dic, _, _, _, _, _, _, p1, _, _, _, _, _, _ => by simp [pl] at p1
  | .dki _ _, _, _, _, _, _, _, p1, _, _, _, _, _, _ => by simp [pl] at p1
  | .scr _, _, _, _, _, _, _, p1, _, _, _, _, _, _ => by simp [pl] at p1
  | .non, d2, v1, v2, u1, u2, A, p1, p2, r1, r2, ru1, ru2, hu => by
    have hu' : A.units < cLine := by omega
    simp only [Rep] at r1
    subst r1
    cases hf : isFl d2 with
    | true =>
      obtain ⟨h1, h2⟩ := fl_flat hf r2
      have := eqAt_V (A := A) (s := s) ru1 ru2 rfl h1
      cases d2 <;> simp_all [isFl, flt, Rep, deq, eqV]
    | false =>
      cases ru1
      cases d2 with
      | tup es => obtain ⟨b, ys, jts, rfl, e2, rl2, rv2, ht2⟩ := tup_at hok r2 ru2; exact SeqAt.EqAt.none_tuple ht2 hu'
      | lst es => obtain ⟨b, ys, jts, rfl, e2, rl2, rv2, ht2⟩ := lst_at hok r2 ru2; exact SeqAt.EqAt.none_list ht2 hu'
      | dic => simp [pl] at p2
      | dki => simp [pl] at p2
      | scr => simp [pl] at p2
      | _ => simp [isFl] at hf
  | .bl q, d2, v1, v2, u1, u2, A, p1, p2, r1, r2, ru1, ru2, hu => by
    have hu' : A.units < cLine := by omega
    simp only [Rep] at r1
    subst r1
    cases hf : isFl d2 with
    | true =>
      obtain ⟨h1, h2⟩ := fl_flat hf r2
      have := eqAt_V (A := A) (s := s) ru1 ru2 rfl h1
      cases d2 <;> simp_all [isFl, flt, Rep, deq, eqV]
    | false =>
      cases ru1
      cases d2 with
      | tup es => obtain ⟨b, ys, jts, rfl, e2, rl2, rv2, ht2⟩ := tup_at hok r2 ru2; exact SeqAt.EqAt.bool_tuple q ht2 hu'
      | lst es => obtain ⟨b, ys, jts, rfl, e2, rl2, rv2, ht2⟩ := lst_at hok r2 ru2; exact SeqAt.EqAt.bool_list q ht2 hu'
      | dic => simp [pl] at p2
      | dki => simp [pl] at p2
      | scr => simp [pl] at p2
      | _ => simp [isFl] at hf
  | .int q, d2, v1, v2, u1, u2, A, p1, p2, r1, r2, ru1, ru2, hu => by
    have hu' : A.units < cLine := by omega
    simp only [Rep] at r1
    subst r1
    cases hf : isFl d2 with
    | true =>
      obtain ⟨h1, h2⟩ := fl_flat hf r2
      have := eqAt_V (A := A) (s := s) ru1 ru2 rfl h1
      cases d2 <;> simp_all [isFl, flt, Rep, deq, eqV]
    | false =>
      obtain ⟨t, rfl⟩ := ru1
      cases d2 with
      | tup es => obtain ⟨b, ys, jts, rfl, e2, rl2, rv2, ht2⟩ := tup_at hok r2 ru2; exact SeqAt.EqAt.int_tuple q t ht2 hu'
      | lst es => obtain ⟨b, ys, jts, rfl, e2, rl2, rv2, ht2⟩ := lst_at hok r2 ru2; exact SeqAt.EqAt.int_list q t ht2 hu'
      | dic => simp [pl] at p2
      | dki => simp [pl] at p2
      | scr => simp [pl] at p2
      | _ => simp [isFl] at hf
  | .str q, d2, v1, v2, u1, u2, A, p1, p2, r1, r2, ru1, ru2, hu => by
    have hu' : A.units < cLine := by omega
    simp only [Rep] at r1
    subst r1
    cases hf : isFl d2 with
    | true =>
      obtain ⟨h1, h2⟩ := fl_flat hf r2
      have := eqAt_V (A := A) (s := s) ru1 ru2 rfl h1
      cases d2 <;> simp_all [isFl, flt, Rep, deq, eqV]
    | false =>
      obtain ⟨t, rfl⟩ := ru1
      cases d2 with
      | tup es => obtain ⟨b, ys, jts, rfl, e2, rl2, rv2, ht2⟩ := tup_at hok r2 ru2; exact SeqAt.EqAt.str_tuple q t ht2 hu'
      | lst es => obtain ⟨b, ys, jts, rfl, e2, rl2, rv2, ht2⟩ := lst_at hok r2 ru2; exact SeqAt.EqAt.str_list q t ht2 hu'
      | dic => simp [pl] at p2
      | dki => simp [pl] at p2
      | scr => simp [pl] at p2
      | _ => simp [isFl] at hf
theorem eqAt_L (hok : HOk P w H s.heap) : ∀ (ds : List D) {es : List D} {xs ys : List V} {its jts : List Value} {j : Nat} {x y : Value} {A : Around}, plL ds = true → plL es = true → RepL K H ds xs → RepL K H es ys → Vals xs its → Vals ys jts → A.units + depL ds < cLine → its[j]? = some x → jts[j]? = some y → SeqAt.EqAt A s x y (dAt ds es j)
  | [], es, xs, ys, its, jts, j, x, y, A, _, _, r1, _, v1, _, _, e1, _ => by
    simp only [RepL] at r1
    subst r1
    cases v1
    simp at e1
  | d :: ds, es, xs, ys, its, jts, j, x, y, A, p1, p2, r1, r2, v1, v2, hu, e1, e2 => by
    obtain ⟨a, as, rfl, ra, rl⟩ := r1.uncons
    cases v1 with
    | cons va vas =>
      cases es with
      | nil =>
        simp only [RepL] at r2
        subst r2
        cases v2
        simp at e2
      | cons e es =>
        obtain ⟨b, bs, rfl, rb, rl2⟩ := r2.uncons
        cases v2 with
        | cons vb vbs =>
          simp only [plL, Bool.and_eq_true] at p1 p2
          simp only [depL] at hu
          cases j with
          | zero =>
            simp at e1 e2
            subst e1 e2
            exact eqAt_D hok d p1.1 p2.1 ra rb va vb (by omega)
          | succ j => exact eqAt_L hok ds p1.2 p2.2 rl rl2 vas vbs (by omega) (by simpa using e1) (by simpa using e2)
end
end

section
variable {X : Cx} {sd : List Slot} {e a b c : Expr} {es : List Expr} {pos : Pos} {r ra rb : R} {d : D} {ds : List D} {st : Stmt} {rest : List Stmt} {E : EndD}
/-- == of two refs: tuples or lists -/
theorem rc_D {pins : List (Addr × Obj)} {σ : St} {H : Hp} {s : Shared} {K : PySem.W.Frag} {d1 d2 : D} {v u : V} {x y : Value} {Q : Value → Shared → Prop} (I : Inv X pins σ H s) (hs : (isT d1 = true ∧ isT d2 = true) ∨ (isL d1 = true ∧ isL d2 = true)) (p1 : pl d1 = true) (p2 : pl d2 = true) (r1 : Rep K H d1 v) (r2 : Rep K H d2 u) (rx : RelV v x) (ry : RelV u y)
    (hu : X.A.units + dep d1 + 1 < cLine) (q : Q (.bool (deq d1 d2)) s) : wpAny (model X.prog X.w) X.A (compareOp .Eq x y) Q X.xe s := by
  have hu' : X.A.units < cLine := by omega
  rcases hs with ⟨t1, t2⟩ | ⟨t1, t2⟩
  · cases d1 <;> first | (simp [isT] at t1; done) | skip
    cases d2 <;> first | (simp [isT] at t2; done) | skip
    rename_i ds es
    obtain ⟨a, xs, its, rfl, rfl, rl, rv, ht⟩ := tup_at I.hok r1 rx
    obtain ⟨b, ys, jts, rfl, rfl, rl2, rv2, ht2⟩ := tup_at I.hok r2 ry
    have l1 : its.toArray.size = ds.length := by rw [List.size_toArray, ← rv.length, rl.len]
    have l2 : jts.toArray.size = es.length := by rw [List.size_toArray, ← rv2.length, rl2.len]
    simp only [pl] at p1 p2
    simp only [dep] at hu
    simp only [deq] at q
    rw [← deqL_all, ← l1, ← l2] at q
    exact SeqAt.eq_tupleAt ht ht2 hu' (fun j h1 h2 => eqAt_L I.hok ds p1 p2 rl rl2 rv rv2 (A := X.A.in1) (by show X.A.units + 1 + _ < cLine; omega) (by simp) (by simp)) q
  · cases d1 <;> first | (simp [isL] at t1; done) | (simp [pl] at p1; done) | skip
    cases d2 <;> first | (simp [isL] at t2; done) | (simp [pl] at p2; done) | skip
    rename_i ds es
    obtain ⟨a, xs, its, rfl, rfl, rl, rv, ht⟩ := lst_at I.hok r1 rx
    obtain ⟨b, ys, jts, rfl, rfl, rl2, rv2, ht2⟩ := lst_at I.hok r2 ry
    have l1 : its.toArray.size = ds.length := by rw [List.size_toArray, ← rv.length, rl.len]
    have l2 : jts.toArray.size = es.length := by rw [List.size_toArray, ← rv2.length, rl2.len]
    simp only [pl] at p1 p2
    simp only [dep] at hu
    simp only [deq] at q
    by_cases hl : ds.length = es.length
    · rw [← deqL_all' hl, ← l1] at q
      exact SeqAt.eq_listAt ht ht2 (by rw [l1, l2, hl]) hu' (fun j h1 h2 => eqAt_L I.hok ds p1 p2 rl rl2 rv rv2 (A := X.A.in1) (by show X.A.units + 1 + _ < cLine; omega) (by simp) (by simp)) q
    · rw [deqL_len hl] at q
      exact SeqAt.eq_list_lengthsAt ht ht2 (by rw [l1, l2]; simpa using hl) hu' q
theorem rc_Dn {pins : List (Addr × Obj)} {σ : St} {H : Hp} {s : Shared} {K : PySem.W.Frag} {d1 d2 : D} {v u : V} {x y : Value} {Q : Value → Shared → Prop} (I : Inv X pins σ H s) (hs : (isT d1 = true ∧ isT d2 = true) ∨ (isL d1 = true ∧ isL d2 = true)) (p1 : pl d1 = true) (p2 : pl d2 = true) (r1 : Rep K H d1 v) (r2 : Rep K H d2 u) (rx : RelV v x) (ry : RelV u y)
    (hu : X.A.units + dep d1 + 1 < cLine) (q : Q (.bool (!deq d1 d2)) s) : wpAny (model X.prog X.w) X.A (compareOp .NotEq x y) Q X.xe s := by
  have hu' : X.A.units < cLine := by omega
  rcases hs with ⟨t1, t2⟩ | ⟨t1, t2⟩
  · cases d1 <;> first | (simp [isT] at t1; done) | skip
    cases d2 <;> first | (simp [isT] at t2; done) | skip
    rename_i ds es
    obtain ⟨a, xs, its, rfl, rfl, rl, rv, ht⟩ := tup_at I.hok r1 rx
    obtain ⟨b, ys, jts, rfl, rfl, rl2, rv2, ht2⟩ := tup_at I.hok r2 ry
    have l1 : its.toArray.size = ds.length := by rw [List.size_toArray, ← rv.length, rl.len]
    have l2 : jts.toArray.size = es.length := by rw [List.size_toArray, ← rv2.length, rl2.len]
    simp only [pl] at p1 p2
    simp only [dep] at hu
    simp only [deq] at q
    rw [← deqL_all, ← l1, ← l2] at q
    exact SeqAt.RcNeAt.tuples ht ht2 hu' (fun j h1 h2 => eqAt_L I.hok ds p1 p2 rl rl2 rv rv2 (A := X.A.in1) (by show X.A.units + 1 + _ < cLine; omega) (by simp) (by simp)) _ _ _ _ q
  · cases d1 <;> first | (simp [isL] at t1; done) | (simp [pl] at p1; done) | skip
    cases d2 <;> first | (simp [isL] at t2; done) | (simp [pl] at p2; done) | skip
    rename_i ds es
    obtain ⟨a, xs, its, rfl, rfl, rl, rv, ht⟩ := lst_at I.hok r1 rx
    obtain ⟨b, ys, jts, rfl, rfl, rl2, rv2, ht2⟩ := lst_at I.hok r2 ry
    have l1 : its.toArray.size = ds.length := by rw [List.size_toArray, ← rv.length, rl.len]
    have l2 : jts.toArray.size = es.length := by rw [List.size_toArray, ← rv2.length, rl2.len]
    simp only [pl] at p1 p2
    simp only [dep] at hu
    simp only [deq] at q
    by_cases hl : ds.length = es.length
    · rw [← deqL_all' hl, ← l1] at q
      exact SeqAt.RcNeAt.lists ht ht2 (by rw [l1, l2, hl]) hu' (fun j h1 h2 => eqAt_L I.hok ds p1 p2 rl rl2 rv rv2 (A := X.A.in1) (by show X.A.units + 1 + _ < cLine; omega) (by simp) (by simp)) _ _ _ _ q
    · rw [deqL_len hl] at q
      exact SeqAt.RcNeAt.lists_lengths ht ht2 (by rw [l1, l2]; simpa using hl) hu' _ _ _ _ q
/-- what a result is as a datum in H -/
theorem ResOk.rep {K : PySem.W.Frag} {H₀ F H : Hp} {σ : St} {v : V} (S : StF K H₀ F H σ sd) (hk : r.keeps) (q : ResOk K F H sd r v) : Rep K H r.toD v := by
  cases r with
  | val d => exact Rep.mono S.sub q
  | own ds => exact hk.elim
  | pr d ls => exact hk.elim
  | ox G => exact hk.elim
  | bor ds =>
    obtain ⟨l, xs, e, hl, rl, _⟩ := q
    simp only [R.toD, Rep]
    exact ⟨l, xs, e, hl, rl.mono S.sub⟩
theorem op_eqD (K : PySem.W.Frag) (d1 d2 : D) (hs : (isT d1 = true ∧ isT d2 = true) ∨ (isL d1 = true ∧ isL d2 = true)) (p1 : pl d1 = true) (p2 : pl d2 = true) (hu : X.A.units + dep d1 + 1 < cLine) : OpR X (compareOp .Eq) (fun x y H Q => Rep K H d1 x ∧ Rep K H d2 y ∧ Q (.bl (deq d1 d2)) H) := by
  intro pins s σ H x y v u Q I rx ry h
  obtain ⟨h1, h2, q⟩ := h
  exact rc_D I hs p1 p2 h1 h2 rx ry hu ⟨.bl (deq d1 d2), H, I, rfl, q⟩
theorem op_neD (K : PySem.W.Frag) (d1 d2 : D) (hs : (isT d1 = true ∧ isT d2 = true) ∨ (isL d1 = true ∧ isL d2 = true)) (p1 : pl d1 = true) (p2 : pl d2 = true) (hu : X.A.units + dep d1 + 1 < cLine) : OpR X (compareOp .NotEq) (fun x y H Q => Rep K H d1 x ∧ Rep K H d2 y ∧ Q (.bl (!deq d1 d2)) H) := by
  intro pins s σ H x y v u Q I rx ry h
  obtain ⟨h1, h2, q⟩ := h
  exact rc_Dn I hs p1 p2 h1 h2 rx ry hu ⟨.bl (!deq d1 d2), H, I, rfl, q⟩
theorem pd_eqD (ha : PEd X sd a ra) (hb : PEd X sd b rb) (ka : ra.keeps) (kb : rb.keeps) (hs : (isT ra.toD = true ∧ isT rb.toD = true) ∨ (isL ra.toD = true ∧ isL rb.toD = true)) (p1 : pl ra.toD = true) (p2 : pl rb.toD = true) (hu : X.A.units + dep ra.toD + 1 < cLine) : PEd X sd (.Compare a [.Eq] [b] pos) (.val (.bl (deq ra.toD rb.toD))) :=
  pd_cmp2 (op_eqD X.K _ _ hs p1 p2 hu) ha hb ka (nomark _) fun σ F H v u Q S q1 q2 k => ⟨q1.rep S ka, q2.rep S kb, k F H S (Same.refl _)⟩
theorem ptd_neD (ha : PEd X sd a ra) (hb : PEd X sd b rb) (ka : ra.keeps) (kb : rb.keeps) (hs : (isT ra.toD = true ∧ isT rb.toD = true) ∨ (isL ra.toD = true ∧ isL rb.toD = true)) (p1 : pl ra.toD = true) (p2 : pl rb.toD = true) (hu : X.A.units + dep ra.toD + 1 < cLine) : PTd X sd (.Compare a [.NotEq] [b] pos) (!deq ra.toD rb.toD) :=
  ptd_cmp2 (op_neD X.K _ _ hs p1 p2 hu) ha hb ka (nomark _) fun σ F H v u Q S q1 q2 k => ⟨q1.rep S ka, q2.rep S kb, k F H S (Same.refl _)⟩
/-- t + u -/
def rCatT0 (K : PySem.W.Frag) : R2 := fun x y H Q => ∃ a b ys, x = .ref a ∧ y = .ref b ∧ SqT K H a [] ∧ SqT K H b ys ∧ Q (.ref b) H
theorem op_catT0 : OpR X (binaryOp .Add) (rCatT0 X.K) := by
  intro pins s σ H x y v u Q I rx ry h
  obtain ⟨a, b, ys, rfl, rfl, ha, hb, q⟩ := h
  cases rx
  cases ry
  obtain ⟨its, r1, p1, _⟩ := I.tuple ha
  obtain ⟨its2, r2, p2, _⟩ := I.tuple hb
  cases r1
  obtain ⟨⟨cls, dd, data, sl⟩, ho, hc, n, hd⟩ := id p1
  obtain ⟨⟨cls2, dd2, data2, sl2⟩, ho2, hc2, n2, hd2⟩ := id p2
  simp only at hc hd hc2 hd2
  subst hc hd hc2 hd2
  exact concat_meets ⟨_, ho, rfl⟩ ⟨_, ho2, rfl⟩ noFill_tuple_add seq_tuple_add PySem.F.slot_tuple_add PySem.F.entry_tuple_add (PySem.F.args_tuple_add_2 _ _)
    (tuple_addW0 a b ([] : List Value).toArray its2.toArray n n2 dd dd2 sl sl2 (by simp)) ⟨ho, ho2, ⟨.ref b, H, I, rfl, q⟩⟩
theorem pd_catT {d1 d2 : List D} (ha : PEd X sd a (.val (.tup d1))) (hb : PEd X sd b (.val (.tup d2))) (hl : d1.length + d2.length ≤ 1000) : PEd X sd (.BinOp a .Add b pos) (.val (.tup (d1 ++ d2))) :=
  pd_op2 (op_catT0.or op_catT) ha hb trivial fun σ F H v u Q S q1 q2 k => by
    simp only [ResOk, Rep] at q1 q2
    obtain ⟨p, xs, e1, hp, rl⟩ := q1
    obtain ⟨q, ys, e2, hq, rl2⟩ := q2
    cases d1 with
    | nil =>
      simp only [RepL] at rl
      subst rl
      refine .inl ⟨p, q, ys, e1, e2, .of (S.sub _ _ hp), .of (S.sub _ _ hq), k _ F H S (Same.refl _) ?_⟩
      simp only [ResOk, Rep, List.nil_append]
      exact ⟨q, ys, rfl, hq, rl2⟩
    | cons z zs =>
      refine .inr ⟨p, q, xs, ys, e1, e2, .of (S.sub _ _ hp), .of (S.sub _ _ hq), ?_, by rw [rl.len, rl2.len]; exact Nat.le_of_lt (small1000 hl), fun hy => ?_, fun hy p2 hp2 => ?_⟩
      · intro hx
        subst hx
        obtain ⟨_, _, w, _⟩ := rl.uncons
        cases w
      · subst hy
        have : d2 = [] := by
          cases d2 with
          | nil => rfl
          | cons w ws => obtain ⟨_, _, w, _⟩ := rl2.uncons; cases w
        subst this
        refine k _ F H S (Same.refl _) ?_
        simp only [ResOk, Rep, List.append_nil]
        exact ⟨p, xs, rfl, hp, rl⟩
      · obtain ⟨S2, s2⟩ := S.lay (o := .tup (xs ++ ys)) hp2 trivial
        refine k _ _ _ S2 s2 ?_
        simp only [ResOk, Rep]
        exact ⟨p2, _, rfl, upd_same, (rl.app rl2).mono s2⟩
/-- tuple(l) -/
theorem pd_tupleL {p : Pos} (hg : Gl X "tuple") (hm : X.mg "tuple" = none) (ha : PEd X sd e (.bor ds)) (hst : starEach [e] X.env = (false, eval e X.env) :: starEach [] X.env := by rfl) : PEd X sd (.Call (.Name "tuple" p) [e] [] pos) (.val (.tup ds)) :=
  pd_callTy (he := hst) call_tuple_of hg hm PyProof.Rows.boot_tuple (pad_cons ha pad_nil trivial hst) fun σ F H vs Q S q k => by
    cases q with
    | cons q1 q2 =>
      cases q2
      obtain ⟨p, xs, rfl, hp, rl, _⟩ := q1
      refine ⟨p, xs, rfl, .inl ⟨.of hp, fun l hl => ?_⟩⟩
      obtain ⟨S2, s2⟩ := S.lay (o := .tup xs) hl trivial
      refine k _ _ _ S2 s2 ?_
      simp only [ResOk, Rep]
      exact ⟨l, xs, rfl, upd_same, rl.mono s2⟩
end
end DL

namespace DL
open PySem PySem.Spec PyProof.Rows L2
section
variable {X : Cx} {sd : List Slot} {e a b c tg iter : Expr} {es : List Expr} {pos : Pos} {r ra rb : R} {d : D} {ds : List D} {st : Stmt} {rest : List Stmt} {E : EndD}
/-! ### slices -/
def cutD (ds : List D) (lo hi : Option Int) : List D := (ds.drop (HT.sIx ds.length 0 lo)).take (HT.sIx ds.length ds.length hi - HT.sIx ds.length 0 lo)
theorem RepL.cut {K : PySem.W.Frag} {H : Hp} {xs : List V} (r : RepL K H ds xs) (lo hi : Option Int) : RepL K H (cutD ds lo hi) (cutV xs lo hi) := by
  unfold cutD cutV
  rw [r.len]
  exact (r.drop _).take _
def POd (X : Cx) (sd : List Slot) (e : Option Expr) (o : Option Int) : Prop := match e, o with
  | none, none => True
  | some e, some i => PEd X sd e (.val (.int i))
  | _, _ => False
theorem pod_run {eo : Option Expr} {o : Option Int} (h : POd X sd eo o) : ∃ t : TO, PO X eo t ∧ ∀ (σ : St) (F H : Hp), StF X.K X.H₀ F H σ sd → ∀ Q : Option Int → Hp → Prop, (∀ F' H', StF X.K X.H₀ F' H' σ sd → Same F F' → Q o H') → t σ H Q := by
  cases eo with
  | none =>
    cases o with
    | none => exact ⟨_, po_none, fun σ F H S Q k => k F H S (Same.refl _)⟩
    | some i => exact h.elim
  | some e =>
    cases o with
    | none => exact h.elim
    | some i =>
      have h : PEd X sd e (.val (.int i)) := h
      refine ⟨_, po_some pe_w, fun σ F H S Q k => (h σ F H S).imp fun v H1 ⟨F1, S1, s1, q1⟩ => ?_⟩
      simp only [ResOk, Rep] at q1
      exact ⟨i, q1, k F1 H1 S1 s1⟩
theorem pd_slL {lo hi : Option Expr} {ol oh : Option Int} {p2 : Pos} (ha : PEd X sd a (.bor ds)) (hl : POd X sd lo ol) (hh : POd X sd hi oh) : PEd X sd (.Subscript a (.Slice lo hi none p2) pos) (.own (cutD ds ol oh)) := .mk fun σ F H S => by
  obtain ⟨tl, pl, kl⟩ := pod_run hl
  obtain ⟨th, ph, kh⟩ := pod_run hh
  refine (pe_slice sl_list pe_w pl ph).to ((ha σ F H S).imp fun v H1 ⟨F1, S1, s1, q1⟩ => kl σ F1 H1 S1 _ fun F2 H2 S2 s2 => kh σ F2 H2 S2 _ fun F3 H3 S3 s3 => ?_)
  obtain ⟨l, xs, rfl, hl', rl, _⟩ := ResOk.keep (r := .bor ds) trivial q1 S3 (s2.trans s3)
  refine ⟨l, xs, rfl, .of hl', fun p hp => ?_⟩
  obtain ⟨S4, fp, no⟩ := S3.layO (xs := cutV xs ol oh) hp
  exact ⟨F3, S4, (s1.trans s2).trans s3, p, _, rfl, fp, upd_same, rl.cut ol oh, no⟩
end
end DL

namespace DL
open PySem PySem.Spec PyProof.Rows L2
section
variable {X : Cx} {sd : List Slot} {e a b c tg iter : Expr} {es : List Expr} {pos : Pos} {r ra rb : R} {d : D} {ds : List D} {st : Stmt} {rest : List Stmt} {E : EndD}
end
/-! ### fillings -/
def filI (m : Nat) : Nat → List (List Int)
  | 0 => [[]]
  | k + 1 => (filI m k).flatMap fun s => (List.range m).map fun (w : Nat) => s ++ [(w : Int)]
def numI (m : Int) (ws : List Int) : Int := ws.foldl (fun n w => n * m + w) 0
theorem sz14 : ∀ p ∈ sizes14, 1 ≤ p.1 ∧ p.1 ≤ 6 ∧ 1 ≤ p.2 ∧ p.2 ≤ 6 ∧ p.1 * p.2 ≤ 6 := by decide +kernel
structure FilOk (b k : Nat) : Prop where
  len : (filI (2 ^ b) k).length = 2 ^ (b * k)
  at_ : ∀ i, i < 2 ^ (b * k) → ((filI (2 ^ b) k).getD i []).length = k ∧ (∀ w ∈ (filI (2 ^ b) k).getD i [], 0 ≤ w ∧ w < 2 ^ b) ∧ numI (2 ^ b) ((filI (2 ^ b) k).getD i []) = i ∧ (i = 0 ∨ HT.lexLt ((filI (2 ^ b) k).getD (i - 1) []) ((filI (2 ^ b) k).getD i []) = true)
theorem mul64 {i j : Int} (h1 : -(2 ^ 64) < j) (h2 : j < 2 ^ 64) : IntMulOk i j := .of_right (intBits_le_64 h1 h2)
theorem pow_tab : ∀ n : Nat, n ≤ 6 → ([.int 1, .int 2, .int 4, .int 8, .int 16, .int 32, .int 64] : List D)[n]? = some (.int (((2 ^ n : Nat) : Int))) := by
  intro n hn
  match n, hn with
  | 0, _ => rfl
  | 1, _ => rfl
  | 2, _ => rfl
  | 3, _ => rfl
  | 4, _ => rfl
  | 5, _ => rfl
  | 6, _ => rfl
end DL

namespace DL
open PySem PySem.Spec PyProof.Rows L2
section
variable {X : Cx} {sd : List Slot} {e a b c tg iter : Expr} {es : List Expr} {pos : Pos} {r ra rb : R} {d : D} {ds : List D} {st : Stmt} {rest : List Stmt} {E : EndD}
end
end DL

namespace DL
open PySem PySem.Spec PyProof.Rows L2
/-! ### steps -/
def stepNames : List Str := ["and", "or", "xor", "add", "take", "copy", "put", "not", "up", "down"]
def nm (k : Nat) : Str := stepNames.getD k "down"
def stpD (k : Nat) (i j n : Int) : D := if k < 6 then .tup [.str (nm k), .int i, .int j] else if k = 6 then .tup [.str (nm k), .int i, .int n] else .tup [.str (nm k), .int i]
def selfW (k : Nat) (m a : Int) : Int := match k with
  | 7 => m - 1 - a
  | 8 => a * 2 % m
  | _ => a / 2
def anoW (k : Nat) (m a c : Int) : Int := match k with
  | 0 => Builtin.bitAnd a c
  | 1 => Builtin.bitOr a c
  | 2 => Builtin.bitXor a c
  | 3 => (a + c) % m
  | 4 => (a - c) % m
  | _ => c
def newW (k : Nat) (m a c n : Int) : Int := if k = 6 then n else if 7 ≤ k then selfW k m a else anoW k m a c
section
variable {X : Cx} {sd : List Slot} {e a b c tg iter : Expr} {es : List Expr} {pos : Pos} {d : D}
theorem RepL.strs {K : PySem.W.Frag} {H : Hp} : ∀ {ss : List Str} {xs : List V}, RepL K H (ss.map D.str) xs → xs = ss.map V.str
  | [], xs, r => by simpa only [List.map_nil, RepL] using r
  | n :: ns, xs, r => by
    rw [List.map_cons] at r
    obtain ⟨y, ys, rfl, a, rl⟩ := r.uncons
    simp only [Rep] at a
    rw [a, RepL.strs rl]
    rfl
end
end DL

namespace DL
open PySem PySem.Spec PyProof.Rows L2
section
variable {X : Cx} {sd : List Slot} {e a b c tg iter : Expr} {es : List Expr} {pos : Pos} {d : D}
/-- a op b op' c, whole numbers -/
theorem pd_chainI {op op' : CmpOp} {g g' : Int → Int → Bool} {i j l : Int} (ho : OpR X (compareOp op) (rI0 fun i j => .bl (g i j))) (ho' : OpR X (compareOp op') (rI0 fun i j => .bl (g' i j))) (ha : PEd X sd a (.val (.int i))) (hb : PEd X sd b (.val (.int j))) (hc : PEd X sd c (.val (.int l))) (hm : lastMarks [op, op'] [b, c] = false := by with_unfolding_all rfl) : PEd X sd (.Compare a [op, op'] [b, c] pos) (.val (.bl (g i j && g' j l))) := .mk fun σ F H S =>
  (pe_chain ho ho' pe_w pe_w pe_w hm).to ((ha σ F H S).imp fun v H1 ⟨F1, S1, s1, q1⟩ => (hb σ F1 H1 S1).imp fun u H2 ⟨F2, S2, s2, q2⟩ => by
    simp only [ResOk, Rep] at q1 q2
    refine ⟨i, j, q1, q2, g i j, rfl, ?_⟩
    cases hk : g i j with
    | true =>
      rw [if_pos rfl]
      refine (hc σ F2 H2 S2).imp fun w H3 ⟨F3, S3, s3, q3⟩ => ?_
      simp only [ResOk, Rep] at q3
      exact ⟨j, l, q2, q3, F3, S3, s1.trans (s2.trans s3), by simp only [ResOk, Rep, Bool.true_and]⟩
    | false =>
      rw [if_neg (by decide)]
      exact ⟨F2, S2, s1.trans s2, by simp only [ResOk, Rep, Bool.false_and]⟩)
/-- a datum in a module's tuple of texts -/
def inD (ss : List Str) (d : D) : Bool := ss.any fun z => deq (.str z) d
def inU (d : D) (u : Value) : Bool := match u with
  | .str z _ => deq (.str z) d
  | _ => false
theorem inU_any {d : D} : ∀ {ss : List Str} {us : List Value}, Vals (ss.map V.str) us → us.any (inU d) = inD ss d
  | [], _, .nil => rfl
  | z :: ss, u :: us, .cons r t => by
    obtain ⟨k, rfl⟩ := r
    unfold inD
    rw [List.any_cons, List.any_cons, inU_any t]
    rfl
theorem vals_str : ∀ {ss : List Str} {us : List Value} {u : Value}, Vals (ss.map V.str) us → u ∈ us → ∃ z t, u = .str z t
  | [], _, _, .nil, h => by cases h
  | z :: ss, v :: us, u, .cons r t, h => by
    rcases List.mem_cons.mp h with rfl | h
    · obtain ⟨k, rfl⟩ := r
      exact ⟨_, _, rfl⟩
    · exact vals_str t h
theorem op_inD {ss : List Str} (d : D) (p1 : pl d = true) (hu : X.A.units + 1 < cLine) : OpR X (compareOp .In) (fun x y H Q => ∃ p, y = .ref p ∧ SqT X.K H p (ss.map V.str) ∧ Rep X.K H d x ∧ Q (.bl (inD ss d)) H) := by
  intro pins s σ H x y v u Q I rx ry h
  obtain ⟨p, rfl, hq, hd, k⟩ := h
  cases ry
  obtain ⟨its, r, ht, hz⟩ := I.tuple hq
  refine SeqAt.in_tupleAt (inU d) ht (fun w hw => ?_) ⟨.bl _, H, I, rfl, ?_⟩
  · have hw' : w ∈ its := by simpa using hw
    obtain ⟨z, t, rfl⟩ := vals_str r hw'
    exact eqAt_D I.hok (.str z) (v1 := .str z) rfl p1 (by simp only [Rep]) hd ⟨t, rfl⟩ rx (by show X.A.units + 1 + 0 < cLine; omega)
  · rw [show its.toArray.any (inU d) = its.any (inU d) by simp, inU_any r]
    exact k
theorem ptd_inMD {g : Str} {ad : Addr} {ss : List Str} {p : Pos} (hg : Gl X g) (hm : X.mg g = some (.ref ad)) (hq : ∀ H, SqT X.K H ad (ss.map V.str)) (hu : X.A.units + 1 < cLine) (ha : PEd X sd a (.val d)) (p1 : pl d = true)
    (hk : behindInMarks .In (.Name g p) = false := by with_unfolding_all rfl) (hdb : (g == ("__debug__" : Str)) = false := by decide) : PTd X sd (.Compare a [.In] [.Name g p] pos) (inD ss d) := .mk fun σ F H S =>
  (pt_cmpR (op_inD d p1 hu) pe_w (pe_glob (v := .ref ad) hg hm rfl hdb) hk).to ((ha σ F H S).imp fun x H1 ⟨F1, S1, s1, q1⟩ =>
    ⟨ad, rfl, hq H1, Rep.mono S1.sub q1, _, rfl, rfl, F1, S1, s1⟩)
theorem pd_inMD {g : Str} {ad : Addr} {ss : List Str} {p : Pos} (hg : Gl X g) (hm : X.mg g = some (.ref ad)) (hq : ∀ H, SqT X.K H ad (ss.map V.str)) (hu : X.A.units + 1 < cLine) (ha : PEd X sd a (.val d)) (p1 : pl d = true)
    (hk : behindInMarks .In (.Name g p) = false := by with_unfolding_all rfl) (hdb : (g == ("__debug__" : Str)) = false := by decide) : PEd X sd (.Compare a [.In] [.Name g p] pos) (.val (.bl (inD ss d))) := .mk fun σ F H S =>
  (pe_cmpR (op_inD d p1 hu) pe_w (pe_glob (v := .ref ad) hg hm rfl hdb) hk).to ((ha σ F H S).imp fun x H1 ⟨F1, S1, s1, q1⟩ =>
    ⟨ad, rfl, hq H1, Rep.mono S1.sub q1, F1, S1, s1, by simp only [ResOk, Rep]⟩)
/-- a list or a tuple == a text -/
theorem op_eqRS (d : D) (hs : (∃ es, d = .lst es) ∨ ∃ es, d = .tup es) (hu : X.A.units + 1 < cLine) : OpR X (compareOp .Eq) (fun x y H Q => ∃ z, y = .str z ∧ Rep X.K H d x ∧ Q (.bl false) H) := by
  intro pins s σ H x y v u Q I rx ry h
  obtain ⟨z, rfl, hd, k⟩ := h
  obtain ⟨t, rfl⟩ := ry
  have kk : EP X pins σ Q (.bool false) s := ⟨.bl false, H, I, rfl, k⟩
  rcases hs with ⟨es, rfl⟩ | ⟨es, rfl⟩
  · obtain ⟨a, xs, its, rfl, rfl, rl, rv, ht⟩ := lst_at I.hok hd rx
    exact SeqAt.RcAt.list_str z t ht (by omega) _ _ _ _ kk
  · obtain ⟨a, xs, its, rfl, rfl, rl, rv, ht⟩ := tup_at I.hok hd rx
    exact SeqAt.RcAt.tuple_str z t ht (by omega) _ _ _ _ kk
theorem ptd_eqRS {z : Str} (hs : (∃ es, d = .lst es) ∨ ∃ es, d = .tup es) (hu : X.A.units + 1 < cLine) (ha : PEd X sd a (.val d)) (hb : PEd X sd b (.val (.str z))) : PTd X sd (.Compare a [.Eq] [b] pos) false :=
  ptd_cmp2 (op_eqRS d hs hu) ha hb trivial (nomark _) fun σ F H x u Q S q1 q2 k => by
    simp only [ResOk, Rep] at q2
    exact ⟨z, q2, Rep.mono S.sub q1, k F H S (Same.refl _)⟩
theorem pd_eqI {i j : Int} (ha : PEd X sd a (.val (.int i))) (hb : PEd X sd b (.val (.int j))) : PEd X sd (.Compare a [.Eq] [b] pos) (.val (.bl (decide (i = j)))) :=
  pd_cmp2 op_eq ha hb trivial (nomark _) fun σ F H v u Q S q1 q2 k => by
    simp only [ResOk, Rep] at q1 q2
    subst q1
    subst q2
    refine ⟨rfl, ?_⟩
    have e : decide (V.int i = V.int j) = decide (i = j) := by rw [dec_int, Bool.beq_eq_decide_eq]
    rw [e]
    exact k F H S (Same.refl _)
end
end DL

namespace DL
open PySem PySem.Spec PyProof.Rows L2
/-! ### sets of whole numbers below 6 -/
def byT (w : World) : Bool := w.params.followText "set-order"
def tabR (led : Bool) (m mv : Nat) (ks : List Nat) : SetTable := { mask := m, place := ks.toArray, dummies := #[], finger := 0, led := led, moves := mv, plain := true }
def tabK (led : Bool) (ks : List Nat) : SetTable := if ks.length < 5 then tabR led 7 0 ks else tabR led 31 1 ks
/-- the set object with the members ks -/
structure SmS (w : World) (o : Obj) (ks : List Nat) : Prop where
  ex : ∃ (es : List (Int × Value)) (ep : Nat), o = { cls := .type "set", dict := none, data := .set es.toArray ep (tabK (!byT w) ks) } ∧ es.map (·.1) = ks.map Int.ofNat ∧ ∀ e ∈ es, ∃ t, e.2 = .int e.1 t
theorem insAt {α : Type} (l : List α) (p : Nat) (y : α) : SetTable.insertAt l.toArray p y = (l.take p ++ y :: l.drop p).toArray := by
  unfold SetTable.insertAt
  apply Array.toList_inj.mp
  simp
  exact List.take_of_length_le (by simp)
section
variable {prog : Program} {w : World} {A : Around} {E : Value → Shared → Prop} {s : Shared}
end
end DL

namespace DL
open PySem PySem.Spec PyProof.Rows L2
section
variable {prog : Program} {w : World} {A : Around} {s : Shared}
abbrev set0 (w : World) : Obj := { cls := .type "set", dict := none, data := .set #[] 0 (tabK (!byT w) []) }
theorem newK {E : Value → Shared → Prop} (a : Value) {Q₁ : Value → Shared → Prop} (h : Q₁ (.ref s.heap.objs.size) { s with heap := s.heap.push (set0 w) }) :
    codeAny (model prog w) A (.call (.builtin "set.__new__") ⟨[.type "set", a], []⟩) (wants Q₁ E) s := by
  refine codeAny_of_tree ?_
  refine wpAny_bind (m := checkBuiltinCall "set.__new__" _) (wpAny_of_eq (F.newCall_set_1 a) (wpAny_pure ⟨plainId_quiet F.plain_set_new _, codeAny_builtin F.entry_set_new ?_⟩))
  rw [Around.under_plainId F.plain_set_new]
  unfold Builtin.«set.__new__» Builtin.Frozenset.newClass
  have q := sub_set_self
  obtain ⟨hp, g, d, tk, os⟩ := s
  dsimp only
  wp_walk
  refine wpAny_askSetting (wpAny_pure ?_)
  dsimp only
  simp only [newObj]
  refine wpAny_bind (wpAny_alloc (wpAny_pure (wpAny_pure ?_)))
  exact h

theorem sub_lst_set : isSubtype (.type "list") (.type "set") = pure false := by rw [isSubtype_type]; kernel_rfl
theorem sub_lst_fz : isSubtype (.type "list") (.type "frozenset") = pure false := by rw [isSubtype_type]; kernel_rfl
end
end DL

namespace DL
open PySem PySem.Spec PyProof.Rows L2
section
variable {prog : Program} {w : World} {A : Around} {E : Value → Shared → Prop} {s : Shared}
end
end DL

namespace DL
open PySem PySem.Spec PyProof.Rows L2
section
variable {prog : Program} {w : World} {A : Around} {E : Value → Shared → Prop} {s : Shared}
end
end DL

namespace DL
open PySem PySem.Spec PyProof.Rows L2
section
variable {prog : Program} {w : World} {A : Around} {E : Value → Shared → Prop} {s : Shared}
end
section
variable {X : Cx} {sd : List Slot} {e : Expr} {pos : Pos}
end
end DL

namespace DL
open PySem PySem.Spec PyProof.Rows L2
/-! ### a table of open addressing: pure facts -/
theorem below_go {a b : List Nat} {j : Nat} (ha : ∀ x ∈ a, x < j) (hb : ∀ x ∈ b, j ≤ x) : ∀ (fuel lo hi : Nat), hi - lo ≤ fuel → lo ≤ a.length → a.length ≤ hi → hi ≤ (a ++ b).length → SetTable.below.go (a ++ b).toArray j fuel lo hi = a.length
  | 0, lo, hi, h1, h2, h3, h4 => by
    unfold SetTable.below.go
    omega
  | fuel + 1, lo, hi, h1, h2, h3, h4 => by
    unfold SetTable.below.go
    by_cases hlt : lo < hi
    · rw [if_pos hlt]
      have hm : (lo + hi) / 2 < hi := by omega
      have hl : (lo + hi) / 2 < (a ++ b).length := by omega
      have hl2 : (lo + hi) / 2 < a.length + b.length := by rw [← List.length_append]; exact hl
      have e : (a ++ b).toArray.getD ((lo + hi) / 2) j = (a ++ b)[(lo + hi) / 2] := by simp [Array.getD, hl2]
      dsimp only
      rw [e]
      by_cases hc : (lo + hi) / 2 < a.length
      · have : (a ++ b)[(lo + hi) / 2] < j := by
          rw [List.getElem_append_left hc]
          exact ha _ (List.getElem_mem hc)
        rw [if_pos this]
        exact below_go ha hb fuel _ _ (by omega) (by omega) h3 h4
      · have hb' : j ≤ (a ++ b)[(lo + hi) / 2] := by
          rw [List.getElem_append_right (by omega)]
          exact hb _ (List.getElem_mem _)
        rw [if_neg (by omega)]
        exact below_go ha hb fuel _ _ (by omega) h2 (by omega) (by omega)
    · rw [if_neg hlt]
      omega
theorem below_at {a b : List Nat} {j : Nat} (ha : ∀ x ∈ a, x < j) (hb : ∀ x ∈ b, j ≤ x) : SetTable.below (a ++ b).toArray j = a.length := by
  unfold SetTable.below
  rw [List.size_toArray]
  exact below_go ha hb _ _ _ (by omega) (Nat.zero_le _) (by simp) (Nat.le_refl _)
theorem cut_at (j : Nat) : ∀ {xs : List Nat}, xs.Pairwise (· < ·) → ∃ a b, xs = a ++ b ∧ (∀ x ∈ a, x < j) ∧ ∀ x ∈ b, j ≤ x
  | [], _ => ⟨[], [], rfl, (fun x h => by cases h), fun x h => by cases h⟩
  | x :: xs, h => by
    obtain ⟨h1, h2⟩ := List.pairwise_cons.mp h
    by_cases hx : x < j
    · obtain ⟨a, b, e, ha, hb⟩ := cut_at j h2
      refine ⟨x :: a, b, by rw [e]; rfl, fun y hy => ?_, hb⟩
      rcases List.mem_cons.mp hy with rfl | hy
      · exact hx
      · exact ha y hy
    · refine ⟨[], x :: xs, rfl, (fun y h => by cases h), fun y hy => ?_⟩
      rcases List.mem_cons.mp hy with rfl | hy
      · omega
      · have := h1 y hy
        omega
/-! the way of a search -/
def advM (m : Nat) (p : SetTable.Probe) : SetTable.Probe := if p.more > 0 then { p with j := p.j + 1, more := p.more - 1 } else { p with j := (SetTable.leap m p.i p.perturb).1, more := SetTable.runEnd m (SetTable.leap m p.i p.perturb).1 - (SetTable.leap m p.i p.perturb).1, i := (SetTable.leap m p.i p.perturb).1, perturb := (SetTable.leap m p.i p.perturb).2 }
def at0 (m i q : Nat) : SetTable.Probe := { j := i, more := SetTable.runEnd m i - i, i := i, perturb := q, dummy := none }
def pr (m : Nat) (h : Int) : Nat → SetTable.Probe
  | 0 => at0 m (SetTable.bits h % (m + 1)) (SetTable.bits h)
  | n + 1 => advM m (pr m h n)
theorem pr_dummy (m : Nat) (h : Int) : ∀ n, (pr m h n).dummy = none
  | 0 => rfl
  | n + 1 => by
    show (advM m (pr m h n)).dummy = none
    unfold advM
    split
    · exact pr_dummy m h n
    · exact pr_dummy m h n
def lp (m : Nat) (h : Int) : Nat → Nat
  | 0 => SetTable.bits h % (m + 1)
  | k + 1 => (lp m h k * 5 + 1 + SetTable.bits h / 32 ^ k / 32) % (m + 1)
theorem run_le (m i : Nat) : SetTable.runEnd m i - i ≤ 9 := by
  unfold SetTable.runEnd
  split <;> omega
theorem pr_run (m : Nat) (h : Int) (n i q : Nat) (e : pr m h n = at0 m i q) : ∀ r, r ≤ SetTable.runEnd m i - i → pr m h (n + r) = { at0 m i q with j := i + r, more := SetTable.runEnd m i - i - r }
  | 0, _ => e
  | r + 1, hr => by
    have ih := pr_run m h n i q e r (by omega)
    show advM m (pr m h (n + r)) = _
    rw [ih]
    unfold advM
    rw [if_pos (by show SetTable.runEnd m i - i - r > 0; omega)]
    rfl
theorem pr_leap (m : Nat) (h : Int) : ∀ k, ∃ n, n ≤ 10 * k ∧ pr m h n = at0 m (lp m h k) (SetTable.bits h / 32 ^ k)
  | 0 => ⟨0, Nat.le_refl _, by show at0 _ _ _ = _; rw [Nat.pow_zero, Nat.div_one]; rfl⟩
  | k + 1 => by
    obtain ⟨n, hn, e⟩ := pr_leap m h k
    have r9 := run_le m (lp m h k)
    have e2 := pr_run m h n _ _ e _ (Nat.le_refl _)
    refine ⟨n + (SetTable.runEnd m (lp m h k) - lp m h k) + 1, by omega, ?_⟩
    show advM m (pr m h _) = _
    rw [e2]
    unfold advM
    rw [if_neg (by show ¬ (SetTable.runEnd m (lp m h k) - lp m h k - (SetTable.runEnd m (lp m h k) - lp m h k) > 0); omega)]
    show at0 m _ _ = at0 m _ _
    have z : SetTable.bits h / 32 ^ (k + 1) = SetTable.bits h / 32 ^ k / 32 := by rw [Nat.pow_succ, Nat.div_div_eq_div_mul]
    rw [z]
    rfl
def itM (m : Nat) : Nat → Nat → Nat
  | 0, i => i
  | q + 1, i => (itM m q i * 5 + 1) % (m + 1)
theorem bits_lt (h : Int) : SetTable.bits h < 2 ^ 64 := by
  unfold SetTable.bits
  have h1 := Int.emod_nonneg h (show ((2 : Int) ^ 64) ≠ 0 by decide)
  have h2 := Int.emod_lt_of_pos h (show (0 : Int) < 2 ^ 64 by decide)
  omega
theorem lp_late (m : Nat) (h : Int) : ∀ q, lp m h (13 + q) = itM m q (lp m h 13)
  | 0 => rfl
  | q + 1 => by
    show (lp m h (13 + q) * 5 + 1 + SetTable.bits h / 32 ^ (13 + q) / 32) % (m + 1) = (itM m q (lp m h 13) * 5 + 1) % (m + 1)
    rw [lp_late m h q]
    have z : SetTable.bits h / 32 ^ (13 + q) = 0 := by
      refine Nat.div_eq_of_lt (Nat.lt_of_lt_of_le (bits_lt h) ?_)
      exact Nat.le_trans (show 2 ^ 64 ≤ 32 ^ 13 by decide) (Nat.pow_le_pow_right (by decide) (Nat.le_add_right _ _))
    rw [z]
theorem lp_lt (m : Nat) (h : Int) : ∀ k, lp m h k < m + 1
  | 0 => Nat.mod_lt _ (Nat.succ_pos _)
  | k + 1 => Nat.mod_lt _ (Nat.succ_pos _)
def okM (m : Nat) : Prop := m = 7 ∨ m = 31
theorem cov7 : ((List.range 8).all fun i => (List.range 8).all fun e => (List.range 8).any fun q => itM 7 q i == e) = true := by decide +kernel
theorem cov31 : ((List.range 32).all fun i => (List.range 32).all fun e => (List.range 32).any fun q => itM 31 q i == e) = true := by decide +kernel
theorem cov {m : Nat} (hm : okM m) {i e : Nat} (hi : i < m + 1) (he : e < m + 1) : ∃ q, q < m + 1 ∧ itM m q i = e := by
  rcases hm with rfl | rfl
  · have h1 := List.all_eq_true.mp cov7 i (List.mem_range.mpr hi)
    have h2 := List.all_eq_true.mp h1 e (List.mem_range.mpr he)
    obtain ⟨q, hq, h3⟩ := List.any_eq_true.mp h2
    exact ⟨q, List.mem_range.mp hq, beq_iff_eq.mp h3⟩
  · have h1 := List.all_eq_true.mp cov31 i (List.mem_range.mpr hi)
    have h2 := List.all_eq_true.mp h1 e (List.mem_range.mpr he)
    obtain ⟨q, hq, h3⟩ := List.any_eq_true.mp h2
    exact ⟨q, List.mem_range.mp hq, beq_iff_eq.mp h3⟩
theorem pr_cover {m : Nat} (hm : okM m) (h : Int) {e : Nat} (he : e < m + 1) : ∃ k n, k < m + 14 ∧ lp m h k = e ∧ n ≤ 10 * k ∧ (pr m h n).j = e := by
  obtain ⟨q, hq, eq⟩ := cov hm (lp_lt m h 13) he
  obtain ⟨n, hn, en⟩ := pr_leap m h (13 + q)
  refine ⟨13 + q, n, by omega, by rw [lp_late]; exact eq, hn, ?_⟩
  rw [en, lp_late, eq]
  rfl
def pbQ (m : Nat) (p : SetTable.Probe) : Prop := p.j ≤ m ∧ p.j + p.more ≤ m ∧ p.i < m + 1
theorem pbQ_at {m : Nat} (i : Nat) (q : Nat) (d : Option Nat) (hi : i < m + 1) : pbQ m { j := i, more := SetTable.runEnd m i - i, i := i, perturb := q, dummy := d } := by
  refine ⟨by show i ≤ m; omega, ?_, hi⟩
  show i + (SetTable.runEnd m i - i) ≤ m
  unfold SetTable.runEnd
  split <;> omega
theorem pbQ_adv {m : Nat} {p : SetTable.Probe} (h : pbQ m p) : pbQ m (advM m p) := by
  obtain ⟨h1, h2, h3⟩ := h
  unfold advM
  split
  · exact ⟨by show p.j + 1 ≤ m; omega, by show p.j + 1 + (p.more - 1) ≤ m; omega, h3⟩
  · exact pbQ_at _ _ _ (Nat.mod_lt _ (Nat.succ_pos _))
theorem pr_Q {m : Nat} (h : Int) : ∀ n : Nat, pbQ m (pr m h n)
  | 0 => pbQ_at _ _ _ (Nat.mod_lt _ (Nat.succ_pos _))
  | n + 1 => pbQ_adv (pr_Q h n)
end DL

namespace DL
open PySem PySem.Spec PyProof.Rows L2
abbrev RowT := Nat × List Key × Addr
structure TabT (hs : List Key → Int) (t : SetTable) (es : Array (Int × Value)) (T : List RowT) : Prop where
  om : okM t.mask
  pl : t.place = (T.map (·.1)).toArray
  en : es = (T.map fun r => (hs r.2.1, Value.ref r.2.2)).toArray
  du : t.dummies = #[]
  rs : (T.map (·.1)).Pairwise (· < ·)
  lt : ∀ r ∈ T, r.1 ≤ t.mask
  rc : ∀ r ∈ T, ∃ n, (pr t.mask (hs r.2.1) n).j = r.1 ∧ ∀ i, i < n → (pr t.mask (hs r.2.1) i).j ∈ T.map (·.1)
  kn : (T.map (·.2.1)).Nodup
section
variable {hs : List Key → Int} {t : SetTable} {es : Array (Int × Value)} {T : List RowT}
theorem TabT.slot_live (X : TabT hs t es T) {A B : List RowT} {r : RowT} (e : T = A ++ r :: B) : t.slot r.1 = .live A.length := by
  have h := X.rs
  rw [e, List.map_append, List.map_cons] at h
  obtain ⟨_, h2, h3⟩ := List.pairwise_append.mp h
  have hb := below_at (a := A.map (·.1)) (b := r.1 :: B.map (·.1)) (j := r.1) (fun x hx => h3 x hx r.1 List.mem_cons_self) fun x hx => by
    rcases List.mem_cons.mp hx with rfl | hx
    · exact Nat.le_refl _
    · exact Nat.le_of_lt ((List.pairwise_cons.mp h2).1 x hx)
  unfold SetTable.slot
  rw [X.pl, e, List.map_append, List.map_cons, hb]
  simp
theorem TabT.slot_empty (X : TabT hs t es T) {j : Nat} (h : j ∉ T.map (·.1)) : t.slot j = .empty := by
  obtain ⟨a, b, e, ha, hb⟩ := cut_at j X.rs
  have hbl := below_at ha hb
  unfold SetTable.slot
  rw [X.pl, X.du, e, hbl]
  have hn : ((a ++ b).toArray[a.length]? == some j) = false := by
    cases b with
    | nil => simp
    | cons y b =>
      have : y ≠ j := fun z => h (by rw [e, ← z]; simp)
      simp [this]
  dsimp only
  rw [hn]
  rfl
theorem mem_cutT {j : Nat} (h : j ∈ T.map (·.1)) : ∃ A r B, T = A ++ r :: B ∧ r.1 = j := by
  obtain ⟨r, hr, e⟩ := List.mem_map.mp h
  obtain ⟨A, B, q⟩ := List.append_of_mem hr
  exact ⟨A, r, B, q, e⟩
theorem TabT.same_row (X : TabT hs t es T) {r r' : RowT} (h : r ∈ T) (h' : r' ∈ T) (e : r.1 = r'.1) : r = r' := by
  obtain ⟨A, B, q⟩ := List.append_of_mem h
  have hp := X.rs
  rw [q, List.map_append, List.map_cons] at hp
  obtain ⟨_, h2, h3⟩ := List.pairwise_append.mp hp
  rw [q] at h'
  rcases List.mem_append.mp h' with z | z
  · have := h3 r'.1 (List.mem_map_of_mem z) r.1 List.mem_cons_self
    omega
  · rcases List.mem_cons.mp z with z | z
    · exact z.symm
    · have := (List.pairwise_cons.mp h2).1 r'.1 (List.mem_map_of_mem z)
      omega
theorem go_spec (X : TabT hs t es T) {hashAt : Nat → Int} (hh : ∀ A r B, T = A ++ r :: B → hashAt A.length = hs r.2.1) (h : Int) : ∀ (fuel n e : Nat), n ≤ e → e - n < fuel → (pr t.mask h e).j ∉ T.map (·.1) →
    ∃ k, n ≤ k ∧ k ≤ e ∧ (∀ i, n ≤ i → i < k → (pr t.mask h i).j ∈ T.map (·.1) ∧ ∀ r ∈ T, r.1 = (pr t.mask h i).j → hs r.2.1 ≠ h) ∧
      (((pr t.mask h k).j ∉ T.map (·.1) ∧ SetTable.probe.go t hashAt h fuel (pr t.mask h n) = some (.empty (pr t.mask h k).j none)) ∨
       ∃ A r B, T = A ++ r :: B ∧ r.1 = (pr t.mask h k).j ∧ hs r.2.1 = h ∧ SetTable.probe.go t hashAt h fuel (pr t.mask h n) = some (.candidate (pr t.mask h k).j A.length (pr t.mask h (k + 1))))
  | 0, n, e, h1, h2, h3 => by omega
  | fuel + 1, n, e, h1, h2, h3 => by
    by_cases hm : (pr t.mask h n).j ∈ T.map (·.1)
    · obtain ⟨A, r, B, q, er⟩ := mem_cutT hm
      have hl := X.slot_live q
      rw [er] at hl
      have hlt : n < e := by
        rcases Nat.lt_or_eq_of_le h1 with z | z
        · exact z
        · rw [z] at hm
          exact absurd hm h3
      by_cases hq : hs r.2.1 = h
      · refine ⟨n, Nat.le_refl _, h1, (fun i a b => by omega), .inr ⟨A, r, B, q, er, hq, ?_⟩⟩
        unfold SetTable.probe.go
        rw [hl]
        simp only
        rw [hh A r B q, hq]
        simp
        rfl
      · obtain ⟨k, k1, k2, k3, k4⟩ := go_spec X hh h fuel (n + 1) e hlt (by omega) h3
        refine ⟨k, by omega, k2, fun i a b => ?_, ?_⟩
        · rcases Nat.lt_or_eq_of_le a with z | z
          · exact k3 i z b
          · subst z
            refine ⟨hm, fun r' hr' e' => ?_⟩
            have : r' = r := X.same_row hr' (by rw [q]; simp) (e'.trans er.symm)
            rw [this]
            exact hq
        · have st : SetTable.probe.go t hashAt h (fuel + 1) (pr t.mask h n) = SetTable.probe.go t hashAt h fuel (pr t.mask h (n + 1)) := by
            conv => lhs; unfold SetTable.probe.go
            rw [hl]
            simp only
            rw [hh A r B q, if_neg (by simpa using hq)]
            rfl
          rw [st]
          exact k4
    · refine ⟨n, Nat.le_refl _, h1, (fun i a b => by omega), .inl ⟨hm, ?_⟩⟩
      unfold SetTable.probe.go
      rw [X.slot_empty hm]
      simp only
      rw [pr_dummy]
/-- there is room: the first empty place of a way -/
theorem TabT.room (X : TabT hs t es T) (hl : T.length ≤ t.mask) (h : Int) : ∃ e, e < 10 * SetTable.turns t.mask ∧ (pr t.mask h e).j ∉ T.map (·.1) ∧ ∀ i, i < e → (pr t.mask h i).j ∈ T.map (·.1) := by
  have ex : ∃ j, j < t.mask + 1 ∧ j ∉ T.map (·.1) := by
    refine Classical.byContradiction fun hn => ?_
    have all : ∀ j ∈ List.range (t.mask + 1), j ∈ T.map (·.1) := fun j hj => Classical.byContradiction fun z => hn ⟨j, List.mem_range.mp hj, z⟩
    have := (List.nodup_range (n := t.mask + 1)).length_le_of_subset all
    rw [List.length_range, List.length_map] at this
    omega
  obtain ⟨j, hj, hn⟩ := ex
  obtain ⟨k, n, h1, h2, h3, h4⟩ := pr_cover X.om h hj
  have : ∃ e, (pr t.mask h e).j ∉ T.map (·.1) := ⟨n, by rw [h4]; exact hn⟩
  obtain ⟨e, he, hmin⟩ : ∃ e, (pr t.mask h e).j ∉ T.map (·.1) ∧ ∀ i, i < e → ¬ (pr t.mask h i).j ∉ T.map (·.1) := by
    refine Classical.byContradiction fun z => ?_
    have noall : ∀ m, ∀ i, i < m → ¬ (pr t.mask h i).j ∉ T.map (·.1) := fun m => by
      induction m with
      | zero => intro i hi; omega
      | succ m ih =>
        intro i hi hc
        rcases Nat.lt_or_eq_of_le (Nat.le_of_lt_succ hi) with q | q
        · exact ih i q hc
        · subst q
          exact z ⟨i, hc, ih⟩
    obtain ⟨e, he⟩ := this
    exact noall (e + 1) e (Nat.lt_succ_self _) he
  refine ⟨e, ?_, he, fun i hi => Classical.byContradiction fun z => hmin i hi z⟩
  have : e ≤ n := Nat.le_of_not_lt fun z => hmin n z (by rw [h4]; exact hn)
  unfold SetTable.turns
  omega
/-- a key that is there stands ahead of the first empty place -/
theorem TabT.ahead (X : TabT hs t es T) {r : RowT} (hr : r ∈ T) {e : Nat} (he : (pr t.mask (hs r.2.1) e).j ∉ T.map (·.1)) : ∃ n, n < e ∧ (pr t.mask (hs r.2.1) n).j = r.1 := by
  obtain ⟨n, h1, h2⟩ := X.rc r hr
  refine ⟨n, Nat.lt_of_not_le fun z => ?_, h1⟩
  rcases Nat.lt_or_eq_of_le z with q | q
  · exact he (h2 e q)
  · subst q
    exact he (by rw [h1]; exact List.mem_map_of_mem hr)
end
end DL

namespace DL
open PySem PySem.Spec PyProof.Rows L2
section
variable {hs : List Key → Int} {t : SetTable} {es : Array (Int × Value)} {T : List RowT}
/-! ### a row put in -/
theorem cutT {T : List RowT} (h : (T.map (·.1)).Pairwise (· < ·)) {j : Nat} (hj : j ∉ T.map (·.1)) : ∃ A B, T = A ++ B ∧ (∀ r ∈ A, r.1 < j) ∧ ∀ r ∈ B, j < r.1 := by
  obtain ⟨a, b, e, ha, hb⟩ := cut_at j h
  refine ⟨T.take a.length, T.drop a.length, (List.take_append_drop _ _).symm, fun r hr => ?_, fun r hr => ?_⟩
  · have : r.1 ∈ (T.take a.length).map (·.1) := List.mem_map_of_mem hr
    rw [List.map_take, e, List.take_left] at this
    exact ha _ this
  · have h1 : r.1 ∈ (T.drop a.length).map (·.1) := List.mem_map_of_mem hr
    rw [List.map_drop, e, List.drop_left] at h1
    have h2 := hb _ h1
    rcases Nat.lt_or_eq_of_le h2 with q | q
    · exact q
    · exact absurd (List.mem_map_of_mem (List.mem_of_mem_drop hr)) (by rw [q] at hj; exact hj)
theorem TabT.put (X : TabT hs t es T) {j : Nat} {k : List Key} {a : Addr} (hj : j ∉ T.map (·.1)) (hm : j ≤ t.mask) (hk : k ∉ T.map (·.2.1)) (hr : ∃ n, (pr t.mask (hs k) n).j = j ∧ ∀ i, i < n → (pr t.mask (hs k) i).j ∈ T.map (·.1)) (b : Bool) :
    ∃ A B, T = A ++ B ∧ TabT hs { (t.put j).1 with plain := b } (SetTable.insertAt es (t.put j).2 (hs k, .ref a)) (A ++ (j, k, a) :: B) := by
  obtain ⟨A, B, e, hA, hB⟩ := cutT X.rs hj
  have hbl : SetTable.below t.place j = A.length := by
    rw [X.pl, e, List.map_append]
    rw [below_at (a := A.map (·.1)) (b := B.map (·.1)) (fun x hx => by obtain ⟨r, hr, rfl⟩ := List.mem_map.mp hx; exact hA r hr) fun x hx => by obtain ⟨r, hr, rfl⟩ := List.mem_map.mp hx; exact Nat.le_of_lt (hB r hr)]
    rw [List.length_map]
  have e1 : (t.put j).2 = A.length := hbl
  have e2 : (t.put j).1.place = ((A ++ (j, k, a) :: B).map (·.1)).toArray := by
    show SetTable.insertAt t.place (SetTable.below t.place j) j = _
    rw [hbl, X.pl, insAt, e]
    congr 1
    rw [List.map_append, List.map_append, List.map_cons, List.take_left' (by rw [List.length_map]), List.drop_left' (by rw [List.length_map])]
  have e3 : (t.put j).1.dummies = #[] := by
    show (if SetTable.has t.dummies j then _ else t.dummies) = #[]
    rw [X.du]
    rfl
  have mem : ∀ {x : Nat}, x ∈ T.map (·.1) → x ∈ (A ++ (j, k, a) :: B).map (·.1) := fun {x} hx => by
    rw [e, List.map_append] at hx
    rw [List.map_append, List.map_cons]
    rcases List.mem_append.mp hx with z | z
    · exact List.mem_append_left _ z
    · exact List.mem_append_right _ (List.mem_cons_of_mem _ z)
  have rows : ∀ {r : RowT}, r ∈ A ++ (j, k, a) :: B → r = (j, k, a) ∨ r ∈ T := fun {r} hr => by
    rcases List.mem_append.mp hr with z | z
    · exact .inr (by rw [e]; exact List.mem_append_left _ z)
    · rcases List.mem_cons.mp z with z | z
      · exact .inl z
      · exact .inr (by rw [e]; exact List.mem_append_right _ z)
  refine ⟨A, B, e, X.om, e2, ?_, e3, ?_, fun r hr' => ?_, fun r hr' => ?_, ?_⟩
  · rw [e1, X.en, insAt, e]
    congr 1
    rw [List.map_append, List.map_append, List.map_cons, List.take_left' (by rw [List.length_map]), List.drop_left' (by rw [List.length_map])]
  · have hp := X.rs
    rw [e, List.map_append] at hp
    obtain ⟨p1, p2, p3⟩ := List.pairwise_append.mp hp
    rw [List.map_append, List.map_cons]
    refine List.pairwise_append.mpr ⟨p1, List.pairwise_cons.mpr ⟨fun x hx => ?_, p2⟩, fun x hx y hy => ?_⟩
    · obtain ⟨r, hr, rfl⟩ := List.mem_map.mp hx
      exact hB r hr
    · obtain ⟨r, hrA, rfl⟩ := List.mem_map.mp hx
      rcases List.mem_cons.mp hy with hy | hy
      · rw [show y = j from hy]
        exact hA r hrA
      · exact p3 _ (List.mem_map_of_mem hrA) y hy
  · rcases rows hr' with rfl | z
    · exact hm
    · exact X.lt r z
  · rcases rows hr' with rfl | z
    · obtain ⟨n, q1, q2⟩ := hr
      exact ⟨n, q1, fun i hi => mem (q2 i hi)⟩
    · obtain ⟨n, q1, q2⟩ := X.rc r z
      exact ⟨n, q1, fun i hi => mem (q2 i hi)⟩
  · have hn := X.kn
    rw [e, List.map_append] at hn hk
    obtain ⟨n1, n2, n3⟩ := List.nodup_append.mp hn
    rw [List.map_append, List.map_cons]
    refine List.nodup_append.mpr ⟨n1, List.nodup_cons.mpr ⟨fun z => hk (List.mem_append_right _ z), n2⟩, fun x hx y hy => ?_⟩
    rcases List.mem_cons.mp hy with rfl | hy
    · exact fun z => hk (List.mem_append_left _ (z ▸ hx))
    · exact n3 x hx y hy
/-! ### laid anew -/
def emp (ow : Array (Option Nat)) (j : Nat) : Prop := (ow.getD j (some 0)).isNone = true
theorem pr_next {m : Nat} {h : Int} {n c : Nat} (e : pr m h n = at0 m (lp m h c) (SetTable.bits h / 32 ^ c)) : pr m h (n + (SetTable.runEnd m (lp m h c) - lp m h c) + 1) = at0 m (lp m h (c + 1)) (SetTable.bits h / 32 ^ (c + 1)) := by
  have e2 := pr_run m h n _ _ e _ (Nat.le_refl _)
  show advM m (pr m h _) = _
  rw [e2]
  unfold advM
  rw [if_neg (by show ¬ (SetTable.runEnd m (lp m h c) - lp m h c - (SetTable.runEnd m (lp m h c) - lp m h c) > 0); omega)]
  show at0 m _ _ = at0 m _ _
  have z : SetTable.bits h / 32 ^ (c + 1) = SetTable.bits h / 32 ^ c / 32 := by rw [Nat.pow_succ, Nat.div_div_eq_div_mul]
  rw [z]
  rfl
theorem free_spec {m : Nat} {ow : Array (Option Nat)} (h : Int) : ∀ (fuel c n k : Nat), pr m h n = at0 m (lp m h c) (SetTable.bits h / 32 ^ c) → c ≤ k → k - c < fuel → emp ow (lp m h k) →
    ∃ j n', SetTable.layClean.free m ow fuel (lp m h c) (SetTable.bits h / 32 ^ c) = some j ∧ n ≤ n' ∧ (pr m h n').j = j ∧ emp ow j ∧ ∀ i, n ≤ i → i < n' → ¬ emp ow (pr m h i).j
  | 0, c, n, k, e, h1, h2, h3 => by omega
  | fuel + 1, c, n, k, e, h1, h2, h3 => by
    have rl : lp m h c ≤ SetTable.runEnd m (lp m h c) := by
      unfold SetTable.runEnd
      split <;> omega
    cases hf : (List.range (SetTable.runEnd m (lp m h c) + 1 - lp m h c)).find? fun x => (ow.getD (lp m h c + x) (some 0)).isNone with
    | some x =>
      have hx := List.find?_some hf
      have hm := List.mem_range.mp (List.mem_of_find?_eq_some hf)
      refine ⟨lp m h c + x, n + x, ?_, by omega, ?_, hx, fun i i1 i2 hc => ?_⟩
      · unfold SetTable.layClean.free
        rw [hf]
      · rw [pr_run m h n _ _ e x (by omega)]
      · have er := pr_run m h n _ _ e (i - n) (by omega)
        rw [show n + (i - n) = i by omega] at er
        rw [er] at hc
        obtain ⟨l1, l2, el, hl⟩ := List.find?_eq_some_iff_append.mp hf |>.2
        have hmem : (i - n) ∈ l1 := by
          have hp : (l1 ++ x :: l2).Pairwise (· < ·) := el ▸ List.pairwise_lt_range
          have hin : (i - n) ∈ l1 ++ x :: l2 := el ▸ List.mem_range.mpr (by omega)
          rcases List.mem_append.mp hin with z | z
          · exact z
          · rcases List.mem_cons.mp z with z | z
            · omega
            · have := (List.pairwise_cons.mp (List.pairwise_append.mp hp).2.1).1 _ z
              omega
        have := hl _ hmem
        have hc' : (ow.getD (lp m h c + (i - n)) (some 0)).isNone = true := hc
        simp only [hc', Bool.not_true, Bool.false_eq_true] at this
    | none =>
      have hno : ∀ x, x < SetTable.runEnd m (lp m h c) + 1 - lp m h c → ¬ emp ow (lp m h c + x) := fun x hx hc => by
        have := List.find?_eq_none.mp hf x (List.mem_range.mpr hx)
        exact this hc
      have hlt : c < k := by
        rcases Nat.lt_or_eq_of_le h1 with z | z
        · exact z
        · subst z
          exact absurd h3 (by have := hno 0 (by omega); rwa [Nat.add_zero] at this)
      obtain ⟨j, n', a1, a2, a3, a4, a5⟩ := free_spec h fuel (c + 1) _ k (pr_next e) hlt (by omega) h3
      refine ⟨j, n', ?_, by omega, a3, a4, fun i i1 i2 hc => ?_⟩
      · unfold SetTable.layClean.free
        rw [hf]
        have z : SetTable.bits h / 32 ^ (c + 1) = SetTable.bits h / 32 ^ c / 32 := by rw [Nat.pow_succ, Nat.div_div_eq_div_mul]
        rw [z] at a1
        exact a1
      · by_cases hi : i < n + (SetTable.runEnd m (lp m h c) - lp m h c) + 1
        · have er := pr_run m h n _ _ e (i - n) (by omega)
          rw [show n + (i - n) = i by omega] at er
          rw [er] at hc
          exact hno (i - n) (by omega) hc
        · exact a5 i (by omega) i2 hc
end
end DL

namespace DL
open PySem PySem.Spec PyProof.Rows L2
theorem emp_iff {ow : Array (Option Nat)} {j : Nat} : emp ow j ↔ ow[j]? = some none := by
  unfold emp
  rw [Array.getD_eq_getD_getElem?]
  cases h : ow[j]? with
  | none => simp
  | some o => cases o <;> simp
structure LI (m : Nat) (ow : Array (Option Nat)) (dn : List Int) : Prop where
  sz : ow.size = m + 1
  at_ : ∀ (x : Nat) (h : Int), dn[x]? = some h → ∃ j, ow[j]? = some (some x) ∧ ∃ n, (pr m h n).j = j ∧ ∀ i, i < n → ow[(pr m h i).j]? ≠ some none
  lt : ∀ (j x : Nat), ow[j]? = some (some x) → x < dn.length
  un : ∀ (j j' x : Nat), ow[j]? = some (some x) → ow[j']? = some (some x) → j = j'
theorem LI.nil (m : Nat) : LI m (Array.replicate (m + 1) none) [] := by
  refine ⟨by simp, fun x h e => by simp at e, fun j x e => ?_, fun j j' x e _ => ?_⟩
  · rw [Array.getElem?_replicate] at e
    split at e <;> simp at e
  · rw [Array.getElem?_replicate] at e
    split at e <;> simp at e
theorem LI.free {m : Nat} {ow : Array (Option Nat)} {dn : List Int} (L : LI m ow dn) (hl : dn.length ≤ m) : ∃ j, j < m + 1 ∧ ow[j]? = some none := by
  refine Classical.byContradiction fun hn => ?_
  have all : ∀ j, j < m + 1 → ∃ x, ow[j]? = some (some x) := fun j hj => by
    have hs : j < ow.size := by rw [L.sz]; exact hj
    cases h : ow[j]? with
    | none => rw [Array.getElem?_eq_none_iff] at h; omega
    | some o =>
      cases o with
      | none => exact absurd ⟨j, hj, h⟩ hn
      | some x => exact ⟨x, rfl⟩
  have nd : ((List.range (m + 1)).map fun j => ((ow[j]?).getD none).getD 0).Nodup := by
    rw [List.nodup_iff_pairwise_ne, List.pairwise_map]
    refine List.Pairwise.imp_of_mem ?_ (List.nodup_iff_pairwise_ne.mp (List.nodup_range (n := m + 1)))
    intro a b ha hb hab hc
    obtain ⟨x, hx⟩ := all a (List.mem_range.mp ha)
    obtain ⟨y, hy⟩ := all b (List.mem_range.mp hb)
    rw [hx, hy] at hc
    have hc : x = y := hc
    subst hc
    exact hab (L.un a b x hx hy)
  have sub : ∀ y ∈ (List.range (m + 1)).map (fun j => ((ow[j]?).getD none).getD 0), y ∈ List.range dn.length := fun y hy => by
    obtain ⟨j, hj, rfl⟩ := List.mem_map.mp hy
    obtain ⟨x, hx⟩ := all j (List.mem_range.mp hj)
    rw [hx]
    exact List.mem_range.mpr (L.lt j x hx)
  have := nd.length_le_of_subset sub
  rw [List.length_map, List.length_range, List.length_range] at this
  omega
def layS (m : Nat) (acc : Option (Array (Option Nat) × Nat)) (h : Int) : Option (Array (Option Nat) × Nat) := do
  let (owner, k) ← acc
  let j ← SetTable.layClean.free m owner (SetTable.turns m) (SetTable.bits h % (m + 1)) (SetTable.bits h)
  pure (owner.setIfInBounds j (some k), k + 1)
theorem LI.step {m : Nat} (hm : okM m) {ow : Array (Option Nat)} {dn : List Int} (L : LI m ow dn) (hl : dn.length ≤ m) (h : Int) : ∃ ow', layS m (some (ow, dn.length)) h = some (ow', (dn ++ [h]).length) ∧ LI m ow' (dn ++ [h]) := by
  obtain ⟨e, he, h0⟩ := L.free hl
  obtain ⟨k, n, k1, k2, k3, k4⟩ := pr_cover hm h he
  obtain ⟨j, n', f1, f2, f3, f4, f5⟩ := free_spec (ow := ow) h (SetTable.turns m) 0 0 k (by show at0 _ _ _ = _; rw [Nat.pow_zero, Nat.div_one]; rfl) (Nat.zero_le _) (by unfold SetTable.turns; omega) (by rw [k2]; exact emp_iff.mpr h0)
  rw [Nat.pow_zero, Nat.div_one] at f1
  have hj := emp_iff.mp f4
  have hjs : j < ow.size := by
    rcases Nat.lt_or_ge j ow.size with z | z
    · exact z
    · rw [Array.getElem?_eq_none z] at hj
      cases hj
  have g : ∀ i, (ow.setIfInBounds j (some dn.length))[i]? = if j = i then some (some dn.length) else ow[i]? := fun i => by
    rw [Array.getElem?_setIfInBounds]
    by_cases z : j = i
    · rw [if_pos z, if_pos z, if_pos (z ▸ hjs)]
    · rw [if_neg z, if_neg z]
  refine ⟨ow.setIfInBounds j (some dn.length), ?_, by simpa using L.sz, fun x h' hx => ?_, fun i x hi => ?_, fun i i' x hi hi' => ?_⟩
  · unfold layS
    have f1' : SetTable.layClean.free m ow (SetTable.turns m) (SetTable.bits h % (m + 1)) (SetTable.bits h) = some j := f1
    simp only [Option.bind_eq_bind, Option.bind_some, f1', Option.pure_def]
    simp
  · rcases Nat.lt_or_ge x dn.length with z | z
    · rw [List.getElem?_append_left z] at hx
      obtain ⟨i, i1, n1, i2, i3⟩ := L.at_ x h' hx
      refine ⟨i, ?_, n1, i2, fun a ha => ?_⟩
      · rw [g, if_neg (fun q => by rw [q] at hj; rw [hj] at i1; cases i1)]
        exact i1
      · rw [g]
        split
        · simp
        · exact i3 a ha
    · rw [List.getElem?_append_right z] at hx
      have : x = dn.length := by
        rcases Nat.lt_or_eq_of_le z with q | q
        · rw [List.getElem?_eq_none (by simp; omega)] at hx
          cases hx
        · exact q.symm
      subst this
      rw [Nat.sub_self] at hx
      have : h = h' := by simpa using hx
      subst this
      refine ⟨j, by rw [g, if_pos rfl], n', f3, fun a ha => ?_⟩
      rw [g]
      split
      · simp
      · exact fun q => f5 a (Nat.zero_le _) ha (emp_iff.mpr q)
  · rw [g] at hi
    rw [List.length_append]
    split at hi
    · have : dn.length = x := by simpa using hi
      simp
      omega
    · have := L.lt i x hi
      omega
  · rw [g] at hi hi'
    split at hi
    · rename_i q1
      split at hi'
      · rename_i q2
        rw [← q1, ← q2]
      · have e1 : dn.length = x := by simpa using hi
        have := L.lt i' x hi'
        omega
    · split at hi'
      · have e1 : dn.length = x := by simpa using hi'
        have := L.lt i x hi
        omega
      · exact L.un i i' x hi hi'
theorem LI.fold {m : Nat} (hm : okM m) : ∀ (hl dn : List Int) (ow : Array (Option Nat)), LI m ow dn → (dn ++ hl).length ≤ m + 1 → ∃ ow', hl.foldl (layS m) (some (ow, dn.length)) = some (ow', (dn ++ hl).length) ∧ LI m ow' (dn ++ hl)
  | [], dn, ow, L, _ => ⟨ow, by simp, by simpa using L⟩
  | h :: hl, dn, ow, L, hlen => by
    obtain ⟨ow1, e1, L1⟩ := L.step hm (by simp at hlen; omega) h
    obtain ⟨ow2, e2, L2'⟩ := LI.fold hm hl (dn ++ [h]) ow1 L1 (by simpa using hlen)
    refine ⟨ow2, ?_, by simpa using L2'⟩
    rw [List.foldl_cons, e1, e2]
    simp
theorem lay_clean {m : Nat} (hm : okM m) (hl : List Int) (h : hl.length ≤ m + 1) : ∃ ow, SetTable.layClean m hl.toArray = some ow ∧ LI m ow hl := by
  obtain ⟨ow, e, L⟩ := LI.fold hm hl [] _ (LI.nil m) (by simpa using h)
  refine ⟨ow, ?_, by simpa using L⟩
  have e' : hl.foldl (layS m) (some (Array.replicate (m + 1) none, 0)) = some (ow, hl.length) := by simpa using e
  unfold SetTable.layClean
  rw [List.foldl_toArray]
  show Option.map (·.1) (hl.foldl (layS m) (some (Array.replicate (m + 1) none, 0))) = some ow
  rw [e']
  rfl
end DL

namespace DL
open PySem PySem.Spec PyProof.Rows L2
def gT (hs : List Key → Int) (r : RowT) : Int × Value := (hs r.2.1, Value.ref r.2.2)
def rowAt (T : List RowT) (p : Nat × Nat) : RowT := (p.1, (T.getD p.2 (0, [], 0)).2)
theorem fm_rows (hs : List Key → Int) (T : List RowT) : ∀ (lv : List (Nat × Nat)), (∀ p ∈ lv, p.2 < T.length) → (lv.map (·.2)).filterMap (fun i => (T.map (gT hs))[i]?) = (lv.map (rowAt T)).map (gT hs)
  | [], _ => rfl
  | p :: lv, h => by
    have hp := h p List.mem_cons_self
    rw [List.map_cons, List.filterMap_cons, List.getElem?_map, List.getElem?_eq_getElem hp]
    dsimp only [Option.map_some]
    rw [fm_rows hs T lv fun q hq => h q (List.mem_cons_of_mem _ hq), List.map_cons, List.map_cons]
    congr 1
    unfold gT rowAt
    simp [List.getD, hp]
section
variable {hs : List Key → Int} {t : SetTable} {es : Array (Int × Value)} {T : List RowT}
theorem laid_ok {m : Nat} (hm : okM m) (hl : T.length ≤ m + 1) (kn : (T.map (·.2.1)).Nodup) (fg mv : Nat) (ld pn : Bool) :
    ∃ (t' : SetTable) (ord : Array Nat) (T' : List RowT), SetTable.laid m fg mv ld pn ((T.map (gT hs)).toArray.map (·.1)) = some (t', ord) ∧ t'.mask = m ∧ t'.moves = mv ∧ t'.led = ld ∧
      TabT hs t' (ord.filterMap ((T.map (gT hs)).toArray[·]?)) T' ∧ T'.length = T.length ∧ (T'.map (·.2)).Perm (T.map (·.2)) := by
  have eh : (T.map (gT hs)).toArray.map (·.1) = (T.map fun r => hs r.2.1).toArray := by
    rw [List.map_toArray, List.map_map]
    rfl
  obtain ⟨ow, e, L⟩ := lay_clean hm (T.map fun r => hs r.2.1) (by rw [List.length_map]; exact hl)
  obtain ⟨lv, hlv⟩ : ∃ lv, lv = (List.range (m + 1)).filterMap fun j => (ow.getD j none).map (j, ·) := ⟨_, rfl⟩
  have gd : ∀ j, ow.getD j none = (ow[j]?).getD none := fun j => Array.getD_eq_getD_getElem? ..
  have memlv : ∀ p : Nat × Nat, p ∈ lv ↔ ow[p.1]? = some (some p.2) := fun p => by
    rw [hlv, List.mem_filterMap]
    constructor
    · rintro ⟨j, hj, q⟩
      rw [gd] at q
      cases h : ow[j]? with
      | none => rw [h] at q; simp at q
      | some o =>
        rw [h] at q
        cases o with
        | none => simp at q
        | some x =>
          have : (j, x) = p := by simpa using q
          rw [← this]
          exact h
    · intro h
      have hs' : p.1 < ow.size := by
        rcases Nat.lt_or_ge p.1 ow.size with z | z
        · exact z
        · rw [Array.getElem?_eq_none z] at h
          cases h
      refine ⟨p.1, List.mem_range.mpr (by rw [← L.sz]; exact hs'), ?_⟩
      rw [gd, h]
      rfl
  have lt2 : ∀ p ∈ lv, p.2 < T.length := fun p hp => by
    have := L.lt p.1 p.2 ((memlv p).mp hp)
    rwa [List.length_map] at this
  have rs : (lv.map (·.1)).Pairwise (· < ·) := by
    rw [hlv, List.pairwise_map]
    refine List.Pairwise.filterMap _ ?_ (List.pairwise_lt_range (n := m + 1))
    intro a b hab x hx y hy
    obtain ⟨u, _, e1⟩ := Option.map_eq_some_iff.mp hx
    obtain ⟨v, _, e2⟩ := Option.map_eq_some_iff.mp hy
    rw [← e1, ← e2]
    exact hab
  have nd2 : (lv.map (·.2)).Nodup := by
    rw [List.nodup_iff_pairwise_ne, List.pairwise_map]
    have := List.pairwise_map.mp rs
    refine List.Pairwise.imp_of_mem ?_ this
    intro a b ha hb hab hc
    have h1 := (memlv a).mp ha
    have h2 := (memlv b).mp hb
    rw [hc] at h1
    have := L.un a.1 b.1 b.2 h1 h2
    omega
  have perm : (lv.map (·.2)).Perm (List.range T.length) := by
    refine (List.perm_ext_iff_of_nodup nd2 List.nodup_range).mpr fun x => ⟨fun hx => ?_, fun hx => ?_⟩
    · obtain ⟨p, hp, rfl⟩ := List.mem_map.mp hx
      exact List.mem_range.mpr (lt2 p hp)
    · have hx' := List.mem_range.mp hx
      obtain ⟨j, hj, _⟩ := L.at_ x (hs (T[x]).2.1) (by rw [List.getElem?_map, List.getElem?_eq_getElem hx']; rfl)
      exact List.mem_map.mpr ⟨(j, x), (memlv (j, x)).mpr hj, rfl⟩
  have len : (lv.map (rowAt T)).length = T.length := by
    rw [List.length_map, ← List.length_map (f := (·.2)) (as := lv), perm.length_eq, List.length_range]
  have fst : (lv.map (rowAt T)).map (·.1) = lv.map (·.1) := by rw [List.map_map]; rfl
  have snd : ((lv.map (rowAt T)).map (·.2)).Perm (T.map (·.2)) := by
    have e1 : (lv.map (rowAt T)).map (·.2) = (lv.map (·.2)).map fun i => (T.getD i (0, [], 0)).2 := by rw [List.map_map, List.map_map]; rfl
    rw [e1]
    refine (perm.map _).trans (List.Perm.of_eq ?_)
    apply List.ext_getElem
    · simp
    · intro i h1 h2
      have hi : i < T.length := by simpa using h2
      simp [List.getD, hi]
  refine ⟨{ mask := m, place := (lv.map (·.1)).toArray, dummies := #[], finger := fg, led := ld, moves := mv, plain := pn }, (lv.map (·.2)).toArray, lv.map (rowAt T), ?_, rfl, rfl, rfl, ⟨hm, ?_, ?_, rfl, ?_, fun r hr => ?_, fun r hr => ?_, ?_⟩, len, snd⟩
  · unfold SetTable.laid
    rw [eh, e]
    simp only [Option.bind_eq_bind, Option.bind_some, Option.pure_def]
    rw [← hlv]
  · show (lv.map (·.1)).toArray = _
    rw [fst]
  · have := fm_rows hs T lv lt2
    show Array.filterMap _ (lv.map (·.2)).toArray = ((lv.map (rowAt T)).map (gT hs)).toArray
    rw [← this]
    simp
  · rw [fst]
    exact rs
  · obtain ⟨p, hp, rfl⟩ := List.mem_map.mp hr
    have h := (memlv p).mp hp
    have hs' : p.1 < ow.size := by
      rcases Nat.lt_or_ge p.1 ow.size with z | z
      · exact z
      · rw [Array.getElem?_eq_none z] at h
        cases h
    rw [L.sz] at hs'
    show p.1 ≤ m
    omega
  · obtain ⟨p, hp, rfl⟩ := List.mem_map.mp hr
    have h := (memlv p).mp hp
    have hi := lt2 p hp
    have ek : (rowAt T p).2.1 = (T[p.2]).2.1 := by unfold rowAt; simp [List.getD, hi]
    obtain ⟨j, hj, n, n1, n2⟩ := L.at_ p.2 (hs (T[p.2]).2.1) (by rw [List.getElem?_map, List.getElem?_eq_getElem hi]; rfl)
    have : j = p.1 := L.un j p.1 p.2 hj h
    subst this
    rw [ek]
    refine ⟨n, n1, fun i hin => ?_⟩
    have occ := n2 i hin
    show (pr m (hs (T[p.2]).2.1) i).j ∈ _
    rw [fst]
    have hq := (pr_Q (m := m) (hs (T[p.2]).2.1) i).1
    have hb : (pr m (hs (T[p.2]).2.1) i).j < ow.size := by rw [L.sz]; omega
    cases ho : ow[(pr m (hs (T[p.2]).2.1) i).j]? with
    | none => rw [Array.getElem?_eq_none_iff] at ho; omega
    | some o =>
      cases o with
      | none => exact absurd ho occ
      | some x => exact List.mem_map.mpr ⟨(_, x), (memlv (_, x)).mpr ho, rfl⟩
  · have e1 : (lv.map (rowAt T)).map (·.2.1) = ((lv.map (rowAt T)).map (·.2)).map (·.1) := by simp only [List.map_map]; rfl
    have e2 : T.map (·.2.1) = (T.map (·.2)).map (·.1) := by rw [List.map_map]; rfl
    rw [e1]
    rw [e2] at kn
    exact (snd.map _).nodup_iff.mpr kn
end
end DL

namespace DL
open PySem PySem.Spec PyProof.Rows L2
section
variable {prog : Program} {w : World} {A : Around} {E : Value → Shared → Prop} {s : Shared}
abbrev tK (prog : Program) (w : World) := tupleKind (mixKind prog w)
theorem class_scalar {d : Nat} {v : Value} (h : carriedByValue v = true) : ofAClassStatement d v = pure false := by
  cases v <;> first | rfl | (cases d <;> rfl) | (simp [carriedByValue] at h)
theorem classT {x : Addr} {k : List Key} {Q : Bool → Shared → Prop} (hx : (tK prog w).is s.heap k x) (h : Q false s) : wpAny (model prog w) A (ofAClassStatement 8 (.ref x)) Q E s := by
  have hk : IsTupleKey (mixKind prog w) s.heap k x := hx
  have hT := hk.typeIs
  obtain ⟨o, items, n, ho, hc, hd, hi⟩ := hk
  unfold ofAClassStatement
  refine wpAny_bind (wpAny_typeOf hT ?_)
  dsimp only
  refine wpAny_bind (wpAny_pure ?_)
  simp only [Bool.not_true, Bool.false_eq_true, if_false]
  refine wpAny_bind (wpAny_seqItems ho hd ?_)
  dsimp only
  refine wpAny_bind ?_
  rw [← Array.forIn_toList]
  refine wpAny_forIn_list _ (fun rest r s' => r.1 = none ∧ s' = s ∧ ∀ v ∈ rest, carriedByValue v = true) _ ?_ ?_ _ _ ⟨rfl, rfl, hi.byValue⟩
  · rintro v rest r s' ⟨hr, rfl, hall⟩
    rw [class_scalar (hall v List.mem_cons_self)]
    refine wpAny_bind (wpAny_pure ?_)
    simp only [Bool.false_eq_true, if_false]
    exact wpAny_pure ⟨rfl, rfl, fun u hu' => hall u (List.mem_cons_of_mem _ hu')⟩
  · rintro ⟨r1, r2⟩ s' ⟨hr, rfl, _⟩
    simp only at hr
    subst hr
    exact wpAny_pure h
theorem seenT {x : Addr} {k : List Key} {stored : List Value} {Q : Bool → Shared → Prop} (hx : (tK prog w).is s.heap k x) (hs : ∀ v ∈ stored, ∃ k' b, v = .ref b ∧ (tK prog w).is s.heap k' b) (h : Q false s) : wpAny (model prog w) A (searchCouldBeSeen (.ref x) stored) Q E s := by
  unfold searchCouldBeSeen
  refine wpAny_bind ?_
  refine wpAny_forIn_list _ (fun rest r s' => r.1 = none ∧ s' = s ∧ ∀ v ∈ rest, ∃ k' b, v = .ref b ∧ (tK prog w).is s.heap k' b) _ ?_ ?_ _ _ ⟨rfl, rfl, hs⟩
  · rintro v rest r s' ⟨hr, rfl, hall⟩
    obtain ⟨k', b, rfl, hb⟩ := hall v List.mem_cons_self
    have nx : ∀ u ∈ rest, ∃ k' b, u = .ref b ∧ (tK prog w).is s'.heap k' b := fun u hu => hall u (List.mem_cons_of_mem _ hu)
    dsimp only
    by_cases hxb : (x == b) = true
    · rw [hxb]
      simp only [Bool.true_or, if_true]
      exact wpAny_pure ⟨rfl, rfl, nx⟩
    · have hxb : (x == b) = false := by simpa using hxb
      rw [hxb]
      simp only [carriedByValue, Bool.false_and, Bool.or_self, Bool.false_eq_true, if_false]
      refine wpAny_bind ((tK prog w).quiet hx ?_)
      simp only [Bool.not_true, Bool.false_eq_true, if_false]
      refine wpAny_bind ((tK prog w).quiet hb ?_)
      simp only [Bool.not_true, Bool.false_eq_true, if_false]
      refine wpAny_bind (classT hx ?_)
      simp only [Bool.false_eq_true, if_false]
      refine wpAny_bind (classT hb ?_)
      simp only [Bool.false_eq_true, if_false]
      exact wpAny_pure ⟨rfl, rfl, nx⟩
  · rintro ⟨r1, r2⟩ s' ⟨hr, rfl, _⟩
    simp only at hr
    subst hr
    exact wpAny_pure h
theorem searchT {a x : Addr} {o : Obj} {kx : List Key} {T : List RowT} {t : SetTable} {es : Array (Int × Value)} {ep : Nat} {Q : SetFound → Shared → Prop} (hu : A.units < cLine) (ho : s.heap.get? a = some o) (hd : o.data = .set es ep t) (X : TabT (tK prog w).hash t es T) (fit : t.fits es.size = true)
    (hx : (tK prog w).is s.heap kx x) (hk : ∀ r ∈ T, (tK prog w).is s.heap r.2.1 r.2.2) {e : Nat} (he : (pr t.mask ((tK prog w).hash kx) e).j ∉ T.map (·.1)) (hl : ∀ i, i < e → (pr t.mask ((tK prog w).hash kx) i).j ∈ T.map (·.1)) (h10 : e < 10 * SetTable.turns t.mask)
    (q1 : kx ∈ T.map (·.2.1) → Q (.there none) s) (q2 : kx ∉ T.map (·.2.1) → Q (.free (pr t.mask ((tK prog w).hash kx) e).j false) s) : ∀ (fuel n : Nat) (stand : Option SetTable.Probe), stand.getD (t.probeStart ((tK prog w).hash kx)) = pr t.mask ((tK prog w).hash kx) n → n ≤ e → e - n < fuel → (∀ r ∈ T, r.2.1 = kx → ∃ i, n ≤ i ∧ i < e ∧ (pr t.mask ((tK prog w).hash kx) i).j = r.1) →
      wpAny (model prog w) A (setSearchFrom a (.ref x) ((tK prog w).hash kx) true fuel stand) Q E s
  | 0, n, stand, e1, h1, h2, h3 => by omega
  | fuel + 1, n, stand, e1, h1, h2, h3 => by
    unfold setSearchFrom
    refine wpAny_bind (wpAny_setState_of ho hd fit ?_)
    dsimp only
    have gw : t.gaveWay = false := by
      unfold SetTable.gaveWay
      rcases X.om with q | q <;> rw [q] <;> rfl
    rw [gw]
    simp only [Bool.false_eq_true, if_false]
    have hAt : ∀ B r C, T = B ++ r :: C → es[B.length]? = some ((tK prog w).hash r.2.1, Value.ref r.2.2) := fun B r C q => by
      rw [X.en, q]
      simp
    rw [e1]
    generalize hf : t.probe _ ((tK prog w).hash kx) (pr t.mask ((tK prog w).hash kx) n) = met
    obtain ⟨F, hF, hf⟩ : ∃ F : Nat → Int, (∀ i, F i = ((es[i]?).map (·.1)).getD 0) ∧ t.probe F ((tK prog w).hash kx) (pr t.mask ((tK prog w).hash kx) n) = met := ⟨_, fun i => rfl, hf⟩
    unfold SetTable.probe at hf
    obtain ⟨k, k1, k2, k3, k4⟩ := go_spec X (hashAt := F) (fun B r C q => by
      have := hAt B r C q
      rw [hF, this]
      rfl) ((tK prog w).hash kx) (10 * SetTable.turns t.mask) n e h1 (by omega) he
    rcases k4 with ⟨hm, hg⟩ | ⟨B, r, C, eT, hj, hh, hg⟩
    · rw [hg] at hf
      subst hf
      dsimp only
      have ke : k = e := by
        rcases Nat.lt_or_eq_of_le k2 with z | z
        · exact absurd (hl k z) hm
        · exact z
      subst ke
      refine wpAny_pure (q2 fun hc => ?_)
      obtain ⟨r, hr, er⟩ := List.mem_map.mp hc
      obtain ⟨i, i1, i2, i3⟩ := h3 r hr er
      exact (k3 i i1 i2).2 r hr i3.symm (by rw [er])
    · rw [hg] at hf
      subst hf
      dsimp only
      have hr : r ∈ T := by rw [eT]; simp
      have hei := hAt B r C eT
      have hsl := X.slot_live eT
      rw [hj] at hsl
      have sm : t.sameMemory t.moves t.mask = some true := by unfold SetTable.sameMemory; simp
      have hke : k < e := by
        rcases Nat.lt_or_eq_of_le k2 with z | z
        · exact z
        · subst z
          exact absurd (hj ▸ List.mem_map_of_mem hr) he
      cases hled : t.led with
      | true =>
        simp only [Bool.not_true, Bool.false_eq_true, if_false]
        rw [hei]
        dsimp only
        refine wpAny_bind (wpAny_holding ((tK prog w).eqBool hu (hk r hr) hx ?_))
        refine wpAny_bind (wpAny_setState_of ho hd fit ?_)
        dsimp only
        by_cases hkx : r.2.1 = kx
        · rw [decide_eq_true hkx]
          simp only [Bool.and_self, if_true]
          exact wpAny_pure (q1 (hkx ▸ List.mem_map_of_mem hr))
        · rw [decide_eq_false hkx]
          simp only [Bool.and_false, Bool.false_eq_true, if_false]
          rw [sm]
          dsimp only
          rw [if_pos rfl, hsl]
          dsimp only
          rw [hei]
          dsimp only
          refine wpAny_bind (wpAny_isSame_ref_self ?_)
          refine wpAny_bind (wpAny_pure ?_)
          simp only [if_true]
          refine searchT hu ho hd X fit hx hk he hl h10 q1 q2 fuel (k + 1) (some _) rfl (by omega) (by omega) fun r' hr' e' => ?_
          obtain ⟨i, i1, i2, i3⟩ := h3 r' hr' e'
          refine ⟨i, ?_, i2, i3⟩
          rcases Nat.lt_or_ge i k with z | z
          · exact absurd (by rw [e']) ((k3 i i1 z).2 r' hr' i3.symm)
          · rcases Nat.lt_or_eq_of_le z with z | z
            · exact z
            · exfalso
              subst z
              have : r' = r := X.same_row hr' hr (i3.symm.trans hj.symm)
              rw [this] at e'
              exact hkx e'
      | false =>
        simp only [Bool.not_false, if_true]
        refine wpAny_bind (seenT hx (fun v hv => ?_) ?_)
        · obtain ⟨p, hp, rfl⟩ := List.mem_map.mp hv
          have hp' : p ∈ es.toList := by
            have := Array.mem_toList_iff.mp hp
            exact Array.mem_toList_iff.mpr (Array.mem_filter.mp this).1
          rw [X.en] at hp'
          obtain ⟨r2, h2', rfl⟩ := List.mem_map.mp (by simpa using hp' : p ∈ T.map fun r => ((tK prog w).hash r.2.1, Value.ref r.2.2))
          exact ⟨r2.2.1, r2.2.2, rfl, hk r2 h2'⟩
        simp only [Bool.false_eq_true, if_false]
        rw [hei]
        dsimp only
        refine wpAny_bind (wpAny_holding ((tK prog w).eqBool hu (hk r hr) hx ?_))
        refine wpAny_bind (wpAny_setState_of ho hd fit ?_)
        dsimp only
        by_cases hkx : r.2.1 = kx
        · rw [decide_eq_true hkx]
          simp only [Bool.and_self, if_true]
          exact wpAny_pure (q1 (hkx ▸ List.mem_map_of_mem hr))
        · rw [decide_eq_false hkx]
          simp only [Bool.and_false, Bool.false_eq_true, if_false]
          rw [sm]
          dsimp only
          rw [if_pos rfl, hsl]
          dsimp only
          rw [hei]
          dsimp only
          refine wpAny_bind (wpAny_isSame_ref_self ?_)
          refine wpAny_bind (wpAny_pure ?_)
          simp only [if_true]
          refine searchT hu ho hd X fit hx hk he hl h10 q1 q2 fuel (k + 1) (some _) rfl (by omega) (by omega) fun r' hr' e' => ?_
          obtain ⟨i, i1, i2, i3⟩ := h3 r' hr' e'
          refine ⟨i, ?_, i2, i3⟩
          rcases Nat.lt_or_ge i k with z | z
          · exact absurd (by rw [e']) ((k3 i i1 z).2 r' hr' i3.symm)
          · rcases Nat.lt_or_eq_of_le z with z | z
            · exact z
            · exfalso
              subst z
              have : r' = r := X.same_row hr' hr (i3.symm.trans hj.symm)
              rw [this] at e'
              exact hkx e'
end
end DL

namespace DL
open PySem PySem.Spec PyProof.Rows L2
section
variable {prog : Program} {w : World} {A : Around} {E : Value → Shared → Prop} {s : Shared}
theorem hbv_scalar (d : Nat) {v : Value} (h : carriedByValue v = true) : ∃ b, hashByValue d v = pure b := by
  cases v <;> first | exact ⟨_, rfl⟩ | (cases d <;> exact ⟨_, rfl⟩) | (simp [carriedByValue] at h)
theorem hbvT {x : Addr} {k : List Key} {Q : Bool → Shared → Prop} (hx : (tK prog w).is s.heap k x) (h : ∀ b, Q b s) : wpAny (model prog w) A (hashByValue 8 (.ref x)) Q E s := by
  have hk : IsTupleKey (mixKind prog w) s.heap k x := hx
  have hT := hk.typeIs
  obtain ⟨o, items, n, ho, hc, hd, hi⟩ := hk
  unfold hashByValue
  refine wpAny_bind (wpAny_specialOf hT F.slot_tuple_hash.lookup ?_)
  dsimp only
  refine wpAny_bind (wpAny_seqItems ho hd ?_)
  dsimp only [Option.getD]
  refine wpAny_bind ?_
  rw [← Array.forIn_toList]
  refine wpAny_forIn_list _ (fun rest r s' => s' = s ∧ ∀ v ∈ rest, carriedByValue v = true) _ ?_ ?_ _ _ ⟨rfl, hi.byValue⟩
  · rintro v rest r s' ⟨rfl, hall⟩
    obtain ⟨b, hb⟩ := hbv_scalar 7 (hall v List.mem_cons_self)
    rw [hb]
    refine wpAny_bind (wpAny_pure ?_)
    cases b with
    | true =>
      simp only [Bool.not_true, Bool.false_eq_true, if_false]
      exact wpAny_pure ⟨rfl, fun u hu' => hall u (List.mem_cons_of_mem _ hu')⟩
    | false =>
      simp only [Bool.not_false, if_true]
      exact wpAny_pure (wpAny_pure (h _))
  · rintro ⟨r1, r2⟩ s' ⟨rfl, _⟩
    cases r1 with
    | none => exact wpAny_pure (h _)
    | some b => exact wpAny_pure (h _)
/-- the set object with the rows T -/
def SetT (prog : Program) (w : World) (o : Obj) (T : List RowT) : Prop := ∃ (es : Array (Int × Value)) (ep : Nat) (t : SetTable), o = { cls := .type "set", dict := none, data := .set es ep t } ∧ TabT (tK prog w).hash t es T ∧ (t.mask = 7 → T.length ≤ 4)
theorem TabT.size {hs : List Key → Int} {t : SetTable} {es : Array (Int × Value)} {T : List RowT} (X : TabT hs t es T) : es.size = T.length := by
  rw [X.en]
  simp
theorem TabT.fill {hs : List Key → Int} {t : SetTable} {es : Array (Int × Value)} {T : List RowT} (X : TabT hs t es T) : t.fill = T.length := by
  unfold SetTable.fill
  rw [X.pl, X.du]
  simp
theorem TabT.fit {hs : List Key → Int} {t : SetTable} {es : Array (Int × Value)} {T : List RowT} (X : TabT hs t es T) (hl : T.length ≤ t.mask) : t.fits es.size = true := by
  have e1 := X.size
  have e2 := X.fill
  have e3 : t.place.size = T.length := by rw [X.pl]; simp
  unfold SetTable.fits
  simp only [Bool.and_eq_true, beq_iff_eq, decide_eq_true_eq]
  exact ⟨by rw [e3, e1], by rw [e2]; exact hl⟩
/-- a fuller table laid anew -/
theorem relayT {a : Addr} {o : Obj} {es : Array (Int × Value)} {ep : Nat} {t : SetTable} {T : List RowT} {Q : Unit → Shared → Prop} (ho : s.heap.get? a = some o) (ho' : o = { cls := .type "set", dict := none, data := .set es ep t }) (X : TabT (tK prog w).hash t es T) (hl : T.length = 5) (hm : t.mask = 7)
    (h : ∀ (es' : Array (Int × Value)) (ep' : Nat) (t' : SetTable) (T' : List RowT) (h' : Heap), Heap.SameBut a s.heap h' → h'.get? a = some { cls := .type "set", dict := none, data := .set es' ep' t' } → TabT (tK prog w).hash t' es' T' → t'.mask = 31 → T'.length = 5 → (T'.map (·.2)).Perm (T.map (·.2)) → Q () { s with heap := h' }) :
    wpAny (model prog w) A (setRelay a (SetTable.grown 5)) Q E s := by
  subst ho'
  have fit := X.fit (by omega)
  obtain ⟨t', ord, T', e1, m1, _, _, X', l', p'⟩ := laid_ok (hs := (tK prog w).hash) (T := T) (m := 31) (.inr rfl) (by omega) X.kn t.finger (t.movedTo 31) t.led t.plain
  have ee : es = (T.map (gT (tK prog w).hash)).toArray := X.en
  unfold setRelay
  refine wpAny_bind (wpAny_setState_of ho rfl fit ?_)
  dsimp only
  have sa : SetTable.sizeAbove (SetTable.grown 5) = 32 := by decide +kernel
  rw [sa, sizeLine_eq]
  simp only [show ¬ (32 > 16777216) by decide, if_false]
  refine wpAny_bind ?_
  have rl : t.relaid (es.map (·.1)) (SetTable.grown 5) = some (t', ord) := by
    unfold SetTable.relaid
    rw [sa, ee]
    exact e1
  rw [rl, ee]
  have sz : (ord.filterMap ((T.map (gT (tK prog w).hash)).toArray[·]?)).size = (T.map (gT (tK prog w).hash)).toArray.size := by
    rw [X'.size, l']
    simp
  show wpAny _ _ (if ((ord.filterMap ((T.map (gT (tK prog w).hash)).toArray[·]?)).size != (T.map (gT (tK prog w).hash)).toArray.size) = true then _ else _) _ _ _
  rw [sz]
  simp only [bne_self_eq_false, Bool.false_eq_true, if_false]
  refine wpAny_pure ?_
  dsimp only
  refine wpAny_storeSet_of ho rfl ?_ (by rw [sz, sizeLine_eq]; simp; omega)
  have g1 := Heap.get?_update_self (Obj.putSet (ord.filterMap ((T.map (gT (tK prog w).hash)).toArray[·]?)) t') ho (by rw [putSet_of _ _ rfl]; rfl)
  rw [putSet_of _ _ rfl] at g1
  exact h _ _ _ T' _ (Heap.SameBut.update s.heap a _) g1 X' m1 (by omega) p'
theorem addT {a x : Addr} {o : Obj} {kx : List Key} {T : List RowT} {Q : Bool → Shared → Prop} (hu : A.units < cLine) (hl : T.length ≤ 16) (ho : s.heap.get? a = some o) (S : SetT prog w o T) (hk : ∀ r ∈ T, (tK prog w).is s.heap r.2.1 r.2.2) (hx : (tK prog w).is s.heap kx x)
    (h : ∀ (b : Bool) (h' : Heap) (o' : Obj) (tk : Nat) (T' : List RowT), Heap.SameBut a s.heap h' → h'.get? a = some o' → SetT prog w o' T' → (∀ p, p ∈ T'.map (·.2) → p = (kx, x) ∨ p ∈ T.map (·.2)) → (∀ k, k ∈ T'.map (·.2.1) ↔ k = kx ∨ k ∈ T.map (·.2.1)) → Q b { s with heap := h', toks := tk }) : wpAny (model prog w) A (setAdd a (.ref x)) Q E s := by
  have S0 := S
  obtain ⟨es, ep, t, rfl, X, h7⟩ := S
  have lm : T.length ≤ t.mask := by
    rcases X.om with q | q
    · have := h7 q
      omega
    · omega
  have fit := X.fit lm
  unfold setAdd
  refine wpAny_holding (wpAny_bind ((tK prog w).pyHash hu hx ?_))
  generalize htk : s.toks + (tK prog w).draws kx = tk
  unfold setAddHashed setAddHashedIn
  refine wpAny_holding (wpAny_bind (wpAny_setState_of (s := { s with toks := tk }) ho rfl fit ?_))
  dsimp only
  have bs : byScan (.ref x) es = false := rfl
  rw [bs]
  simp only [Bool.false_eq_true, if_false]
  obtain ⟨e, e1, e2, e3⟩ := X.room lm ((tK prog w).hash kx)
  unfold setSearch
  refine wpAny_bind (searchT (s := { s with toks := tk }) hu ho rfl X fit hx hk e2 e3 e1 (fun hm => ?_) (fun hm => ?_) 100000 0 none rfl (Nat.zero_le _) ?_ fun r hr er => ?_)
  · dsimp only
    refine wpAny_pure (h false s.heap _ _ T (Heap.SameBut.refl a s.heap) ho S0 (fun p hp => .inr hp) fun k => ⟨fun z => .inr z, fun z => ?_⟩)
    rcases z with rfl | z
    · exact hm
    · exact z
  · dsimp only
    refine wpAny_bind (wpAny_setState_of (s := { s with toks := tk }) ho rfl fit ?_)
    dsimp only
    generalize hj : (pr t.mask ((tK prog w).hash kx) e).j = j
    rw [hj] at e2
    have jm : j ≤ t.mask := hj ▸ (pr_Q (m := t.mask) ((tK prog w).hash kx) e).1
    rcases hp : t.put j with ⟨t1, p⟩
    have fin : ∀ b : Bool, wpAny (model prog w) A (do
        storeSet a (SetTable.insertAt es p ((tK prog w).hash kx, .ref x)) { t1 with plain := b }
        if (!false && SetTable.tooFull { t1 with plain := b }) = true then setRelay a (SetTable.grown (es.size + 1))
        return true) Q E { s with toks := tk } := fun b => by
      obtain ⟨B, C, eT, X2⟩ := X.put (a := x) e2 jm hm ⟨e, hj, e3⟩ b
      rw [hp] at X2
      generalize hT2 : B ++ (j, kx, x) :: C = T2 at X2
      have mk1 : ({ t1 with plain := b } : SetTable).mask = t.mask := by
        have : t1 = (t.put j).1 := by rw [hp]
        rw [this]
        rfl
      generalize ({ t1 with plain := b } : SetTable) = t2 at X2 mk1 ⊢
      dsimp only at X2
      generalize hes2 : SetTable.insertAt es p ((tK prog w).hash kx, Value.ref x) = es2 at X2 ⊢
      have l2 : T2.length = T.length + 1 := by
        rw [← hT2, eT]
        simp
        omega
      have rw1 : ∀ p, p ∈ T2.map (·.2) → p = (kx, x) ∨ p ∈ T.map (·.2) := fun p hp => by
        rw [← hT2] at hp
        rw [eT]
        simp only [List.map_append, List.map_cons, List.mem_append, List.mem_cons] at hp ⊢
        rcases hp with z | z | z
        · exact .inr (.inl z)
        · exact .inl z
        · exact .inr (.inr z)
      have kw1 : ∀ k, k ∈ T2.map (·.2.1) ↔ k = kx ∨ k ∈ T.map (·.2.1) := fun k => by
        rw [← hT2, eT]
        simp only [List.map_append, List.map_cons, List.mem_append, List.mem_cons]
        constructor
        · rintro (z | z | z)
          · exact .inr (.inl z)
          · exact .inl z
          · exact .inr (.inr z)
        · rintro (z | z | z)
          · exact .inr (.inl z)
          · exact .inl z
          · exact .inr (.inr z)
      refine wpAny_bind (wpAny_storeSet_of (s := { s with toks := tk }) ho rfl ?_ (by rw [X2.size, sizeLine_eq]; omega))
      have g1 := Heap.get?_update_self (Obj.putSet es2 t2) ho (by rw [putSet_of _ _ rfl]; rfl)
      rw [putSet_of _ _ rfl] at g1
      have tf : SetTable.tooFull t2 = decide (T2.length * 5 ≥ t.mask * 3) := by
        unfold SetTable.tooFull
        rw [X2.fill, mk1]
      rw [tf]
      by_cases hc : T2.length * 5 ≥ t.mask * 3
      · rw [decide_eq_true hc]
        simp only [Bool.not_false, Bool.and_self, if_true]
        have m7 : t.mask = 7 := by
          rcases X.om with q | q
          · exact q
          · rw [q] at hc
            omega
        have l5 : T2.length = 5 := by
          have := h7 m7
          rw [m7] at hc
          omega
        have s5 : es.size + 1 = 5 := by rw [X.size]; omega
        rw [s5]
        refine wpAny_bind (relayT (s := { s with heap := s.heap.update a (Obj.putSet es2 t2), toks := tk }) g1 rfl X2 l5 (by rw [mk1, m7]) fun es' ep' t' T' h' sb g2 X' m' l' pm => wpAny_pure ?_)
        refine h true h' _ tk T' ((Heap.SameBut.update s.heap a _).trans sb) g2 ⟨es', ep', t', rfl, X', fun z => by omega⟩ (fun p hp => rw1 p (pm.mem_iff.mp hp)) fun k => ?_
        have pk : (T'.map (·.2.1)).Perm (T2.map (·.2.1)) := by
          have := pm.map (·.1)
          rw [List.map_map, List.map_map] at this
          exact this
        rw [pk.mem_iff]
        exact kw1 k
      · rw [decide_eq_false hc]
        simp only [Bool.and_false, Bool.false_eq_true, if_false]
        refine wpAny_bind (wpAny_pure (wpAny_pure ?_))
        refine h true _ _ tk T2 (Heap.SameBut.update s.heap a _) g1 ⟨es2, _, t2, rfl, X2, fun z => by rw [mk1] at z; rw [z] at hc; omega⟩ rw1 kw1
    cases hpl : t1.plain with
    | true =>
      simp only [hpl, if_true]
      refine wpAny_bind (hbvT (s := { s with toks := tk }) hx fun b => ?_)
      cases b with
      | true =>
        simp only [if_true]
        have := fin true
        rw [show ({ t1 with plain := true } : SetTable) = t1 by rw [← hpl]] at this
        exact this
      | false =>
        simp only [Bool.false_eq_true, if_false]
        exact fin false
    | false =>
      simp only [hpl, Bool.false_eq_true, if_false]
      refine wpAny_bind (wpAny_pure ?_)
      simp only [if_true]
      have := fin false
      rw [show ({ t1 with plain := false } : SetTable) = t1 by rw [← hpl]] at this
      exact this
  · have : SetTable.turns t.mask ≤ 100 := by
      rcases X.om with q | q <;> rw [q] <;> decide
    omega
  · obtain ⟨n, n1, n2⟩ := X.ahead hr (e := e) (by rw [er]; exact e2)
    rw [er] at n2
    exact ⟨n, Nat.zero_le _, n1, n2⟩
end
end DL

namespace DL
open PySem PySem.Spec PyProof.Rows L2
theorem tab_len {T : List RowT} {vs : List (List Key)} {n : Nat} (nd : (T.map (·.2.1)).Nodup) (h : ∀ k, k ∈ T.map (·.2.1) ↔ k ∈ vs) (hn : vs.length ≤ n) : T.length ≤ n := by
  have := nd.length_le_of_subset fun k hk => (h k).mp hk
  rw [List.length_map] at this
  omega
section
variable {prog : Program} {w : World} {A : Around} {s : Shared}
theorem isT_move {h h' : Heap} {x : Addr} {k : List Key} (hx : (tK prog w).is h k x) (kp : ∀ o, h.get? x = some o → h'.get? x = some o) : (tK prog w).is h' k x := by
  obtain ⟨o, items, n, ho, hc, hd, hi⟩ := (show IsTupleKey (mixKind prog w) h k x from hx)
  exact (show IsTupleKey (mixKind prog w) h' k x from ⟨o, items, n, kp _ ho, hc, hd, hi⟩)
theorem SetT.nd {o : Obj} {T : List RowT} (S : SetT prog w o T) : (T.map (·.2.1)).Nodup := by
  obtain ⟨es, ep, t, _, X, _⟩ := S
  exact X.kn
theorem loopT {R : Result → Shared → Prop} {I S : Addr} {fp wr : List Addr} {n : Nat} {P : Nat → Value → Prop} {St : Nat → Heap → Prop} (hu : A.in1.units < cLine) (W : Walks prog w A.in1 I fp wr n P St) (hSf : S ∉ fp) (vs : List (List Key)) (hn : vs.length = n) (h16 : n ≤ 16) (h0 : Heap)
    (hval : ∀ i v, P i v → ∃ x, v = .ref x ∧ x ≠ S ∧ x ∉ wr ∧ (tK prog w).is h0 (vs.getD i []) x) : ∀ (m i : Nat) (s : Shared) (o : Obj) (T : List RowT), n - i = m → i ≤ n → St i s.heap → s.heap.get? S = some o → SetT prog w o T → (∀ k, k ∈ T.map (·.2.1) ↔ k ∈ vs.take i) → (∀ p ∈ T.map (·.2), p.2 ≠ S ∧ p.2 ∉ wr ∧ (tK prog w).is h0 p.1 p.2) → (∀ b x, b ≠ S → b ∉ wr → h0.get? b = some x → s.heap.get? b = some x) →
      (∀ h' tk o' T', (∀ b x, b ≠ S → b ∉ wr → s.heap.get? b = some x → h'.get? b = some x) → h'.get? S = some o' → SetT prog w o' T' → (∀ k, k ∈ T'.map (·.2.1) ↔ k ∈ vs) → R (.ok (.ret .none)) { s with heap := h', toks := tk }) →
      codeAny (model prog w) A (.builtin "set.update.loop" ⟨[.ref S, .ref I], []⟩) R s := by
  have hSw : S ∉ wr := fun h => hSf (W.sub _ h)
  intro m
  induction m with
  | zero =>
    intro i s o T hm hi st ho sm kt rt k0 k
    have e : i = n := by omega
    subst e
    refine codeAny_builtin F.entry_set_update_loop ?_
    rw [Around.under_plainId F.plain_set_update_loop]
    refine wpAny_bind (W.done s _ _ st fun h' tk kp => wpAny_pure ?_)
    rw [← hn, List.take_length] at kt
    exact k h' tk o T (fun b x _ hb g => kp b x hb g) (kp S o hSw ho) sm kt
  | succ m ih =>
    intro i s o T hm hi st ho sm kt rt k0 k
    have hlt : i < n := by omega
    have hlt' : i < vs.length := by omega
    refine codeAny_builtin F.entry_set_update_loop ?_
    rw [Around.under_plainId F.plain_set_update_loop]
    refine wpAny_bind (W.item i s _ _ hlt st fun v h' tk hP st' kp => ?_)
    obtain ⟨x, rfl, xS, xw, hx⟩ := hval i v hP
    have vi : vs.getD i [] = vs[i] := by simp [List.getD, hlt']
    have tk1 : vs.take (i + 1) = vs.take i ++ [vs.getD i []] := by rw [List.take_add_one, vi]; simp [hlt']
    have k1 : ∀ b x, b ≠ S → b ∉ wr → h0.get? b = some x → h'.get? b = some x := fun b x h1 h2 g => kp b x h2 (k0 b x h1 h2 g)
    have tl : T.length ≤ 16 := tab_len sm.nd kt (by rw [List.length_take]; omega)
    refine wpAny_bind (wpAny_holding (addT (s := { s with heap := h', toks := tk }) hu tl (kp S o hSw ho) sm (fun r hr => ?_) (isT_move hx fun o g => k1 x o xS xw g) fun b h2 o2 tk2 T2 sb g2 sm2 rt2 kt2 => ?_))
    · obtain ⟨q1, q2, q3⟩ := rt r.2 (List.mem_map_of_mem hr)
      exact isT_move q3 fun o g => k1 _ o q1 q2 g
    · refine wpAny_pure ⟨plainId_quiet F.plain_set_update_loop _, ih (i + 1) _ o2 T2 (by omega) hlt (W.frame _ _ _ st' fun b hb x g => ?_) g2 sm2 (fun k => ?_) (fun p hp => ?_) (fun b x h1 h3 g => ?_) fun h3 tk3 o3 T3 kp3 g3 sm4 kt4 => ?_⟩
      · rw [sb.2 b fun z => hSf (z ▸ hb)]
        exact g
      · rw [kt2, kt, tk1, List.mem_append, List.mem_singleton]
        exact ⟨fun z => z.symm, fun z => z.symm⟩
      · rcases rt2 p hp with rfl | z
        · exact ⟨xS, xw, hx⟩
        · exact rt p z
      · rw [sb.2 b h1]
        exact k1 b x h1 h3 g
      · refine k h3 tk3 o3 T3 (fun b x h1 h2 g => kp3 b x h1 h2 ?_) g3 sm4 kt4
        rw [sb.2 b h1]
        exact kp b x h2 g
theorem setT0 : SetT prog w (set0 w) [] := ⟨#[], 0, tabK (!byT w) [], rfl, ⟨.inl rfl, rfl, rfl, rfl, List.Pairwise.nil, fun r h => (by cases h), fun r h => (by cases h), List.nodup_nil⟩, fun _ => Nat.zero_le _⟩
theorem initT {R : Result → Shared → Prop} {S l : Addr} {items : Array Value} (hu : A.in1.in1.units < cLine) (vs : List (List Key)) (hn : vs.length = items.size) (h16 : items.size ≤ 16) (hi : ∀ (i : Nat) (v : Value), items[i]? = some v → ∃ x, v = .ref x ∧ x ≠ S ∧ (tK prog w).is s.heap (vs.getD i []) x) (hh : A.handled = none)
    (ho : s.heap.get? S = some (set0 w)) (ht : s.heap.IsList l items)
    (k : ∀ h' tk o' T', (∀ b x, b ≠ S → s.heap.get? b = some x → h'.get? b = some x) → h'.get? S = some o' → SetT prog w o' T' → (∀ k, k ∈ T'.map (·.2.1) ↔ k ∈ vs) → R (.ok (.ret .none)) { s with heap := h', toks := tk }) :
    wpAny (model prog w) A.in1 (Builtin.«set.__init__» ⟨[.ref S, .ref l], []⟩) (fun fin s' => match fin with | .done f => R (.ok f) s' | .again c' => c'.quiet = true ∧ codeAny (model prog w) A c' R s') (fun e s' => R (.error e) s') s := by
  obtain ⟨ol, hol, hcl, nl, hdl⟩ := id ht
  obtain ⟨ocls, odict, odata, oslots⟩ := ol
  simp only at hcl hdl
  subst hcl hdl
  have q1 := sub_lst_set
  have q2 := sub_lst_fz
  have q3 : (Value.type "list" == Value.type "dict") = false := by decide
  have hT : Shared.TypeIs s (.ref S) "set" := ⟨_, ho, rfl⟩
  have hSl : S ≠ l := fun z => by
    rw [z, hol] at ho
    have q : (Value.type "list") = Value.type "set" := congrArg Obj.cls (Option.some.inj ho)
    exact absurd q (by decide)
  unfold Builtin.«set.__init__» noKeywords Builtin.Frozenset.updateFrom
  generalize pI : pyIter = PI
  wp_walk
  subst pI
  refine wpAny_pyIter_list (show s.heap.IsList l items from ht) (wpAny_bind (wpAny_runValue ?_))
  have lS : l < s.heap.objs.size := Heap.lt_size hol
  have sS : S < s.heap.objs.size := Heap.lt_size ho
  refine loopT (n := items.size) (P := fun i v => items[i]? = some v) hu (Walks.list (A := A.in1.in1) (by simpa using hh) s.heap.objs.size l (Nat.ne_of_lt lS) items) (fun z => ?_) vs hn h16 s.heap (fun i v hv => ?_) (items.size - 0) 0 _ (set0 w) [] rfl (Nat.zero_le _) ⟨⟨_, Heap.get?_push_size _ rfl, rfl, rfl⟩, ht.push _⟩ (Heap.get?_push_of_some _ ho) setT0 (fun k => by simp) (fun p hp => by cases hp) (fun b x h1 h2 g => Heap.get?_push_of_some _ g) fun h' tk o' T' kp g sm kt => ?_
  · rcases List.mem_cons.mp z with z | z
    · exact Nat.ne_of_lt sS z
    · exact hSl (by simpa using z)
  · obtain ⟨x, e, xS, hx⟩ := hi i v hv
    obtain ⟨o, _, _, hxo, _⟩ := (show IsTupleKey (mixKind prog w) s.heap _ x from hx)
    exact ⟨x, e, xS, fun z => absurd (Heap.lt_size hxo) (by rw [show x = s.heap.objs.size by simpa using z]; exact Nat.lt_irrefl _), hx⟩
  · refine wpAny_pure (wpAny_pure (k h' tk o' T' (fun b x h1 g => kp b x h1 (fun z => ?_) (Heap.get?_push_of_some _ g)) g sm kt))
    have z : b = s.heap.objs.size := by simpa using z
    exact absurd (Heap.lt_size g) (by rw [z]; exact Nat.lt_irrefl _)
theorem callT {E : Value → Shared → Prop} {Q : Value → Shared → Prop} {l : Addr} {items : Array Value} (hu : A.units + 8 < cLine) (vs : List (List Key)) (hn : vs.length = items.size) (h16 : items.size ≤ 16) (hi : ∀ (i : Nat) (v : Value), items[i]? = some v → ∃ x, v = .ref x ∧ (tK prog w).is s.heap (vs.getD i []) x) (hh : A.handled = none) (ht : s.heap.IsList l items)
    (k : ∀ h' tk o' T', (∀ b x, s.heap.get? b = some x → h'.get? b = some x) → h'.get? s.heap.objs.size = some o' → SetT prog w o' T' → (∀ k, k ∈ T'.map (·.2.1) ↔ k ∈ vs) → Q (.ref s.heap.objs.size) { s with heap := h', toks := tk }) :
    wpAny (model prog w) A (call (.type "set") [.ref l]) Q E s := by
  obtain ⟨c, tl, m1⟩ := F.called_set.mro
  have m2 := F.called_set.made
  have m3 := F.called_set.sub
  refine wpAny_call (codeAny_of_tree (show wpAny _ _ (callAny (.type "set") _) _ _ _ from ?_))
  refine wpAny_pure ⟨Code.quiet_builtin _ (by decide +kernel), codeAny_builtin F.entry_type_call ?_⟩
  rw [Around.under_plain (weight_type_call_type "set" [Value.ref l] []) rfl]
  have m4 := F.called_set.notType
  have m5 := F.called_set.canCreate
  have m6 := F.typeCall_set_1 (.ref l)
  repeat (any_goals (first | assumption | wp_step))
  refine codeAny_mono (newK (.ref l) (E := E) (Q₁ := fun ob s1 => ob = .ref s.heap.objs.size ∧ s1 = { s with heap := s.heap.push (set0 w) }) ⟨rfl, rfl⟩) fun r s1 hr => ?_
  cases r with
  | error e => exact hr
  | ok fl =>
    cases fl with
    | ret ob =>
      obtain ⟨rfl, rfl⟩ := hr
      have ho : (s.heap.push (set0 w)).get? s.heap.objs.size = some (set0 w) := Heap.get?_push_size _ rfl
      have hT : Shared.TypeIs { s with heap := s.heap.push (set0 w) } (.ref s.heap.objs.size) "set" := ⟨_, ho, rfl⟩
      have m7 := F.called_set.init.lookup
      have m8 := F.called_set.init.bind (.ref s.heap.objs.size)
      repeat (any_goals (first | assumption | wp_step))
      refine codeAny_mono (codeAny_call_builtin (R := wants (fun r s2 => r = .none ∧ ∃ h' tk o' T', s2 = { s with heap := h', toks := tk } ∧ (∀ b x, s.heap.get? b = some x → h'.get? b = some x) ∧ h'.get? s.heap.objs.size = some o' ∧ SetT prog w o' T' ∧ (∀ k, k ∈ T'.map (·.2.1) ↔ k ∈ vs)) E) F.called_set.init.plain F.entry_set_init (check_set_init_1 hT ?_)) fun r2 s2 hr2 => ?_
      · refine initT (s := { s with heap := s.heap.push (set0 w) }) (by simp only [Around.in1]; omega) vs hn h16 (fun i v hv => ?_) (by simpa using hh) ho (ht.push _) fun h' tk o' T' kp g sm kt => ?_
        · obtain ⟨x, e, hx⟩ := hi i v hv
          obtain ⟨o, _, _, hxo, _⟩ := (show IsTupleKey (mixKind prog w) s.heap _ x from hx)
          exact ⟨x, e, Nat.ne_of_lt (Heap.lt_size hxo), isT_move hx fun o g => Heap.get?_push_of_some _ g⟩
        · exact ⟨rfl, h', tk, o', T', rfl, fun b x gx => kp b x (Nat.ne_of_lt (Heap.lt_size gx)) (Heap.get?_push_of_some _ gx), g, sm, kt⟩
      · cases r2 with
        | error e => exact hr2
        | ok fl2 =>
          cases fl2 with
          | ret r =>
            obtain ⟨rfl, h', tk, o', T', rfl, kp, g, sm, kt⟩ := hr2
            repeat (any_goals (first | assumption | wp_step))
            exact k _ _ _ _ kp g sm kt
          | _ => exact hr2.elim
    | _ => exact hr.elim
end
end DL

namespace DL
open PySem PySem.Spec PyProof.Rows L2
section
variable {X : Cx} {sd : List Slot} {e a b c tg iter o : Expr} {es : List Expr} {pos : Pos} {r ra rb : R} {d : D} {ds : List D} {st : Stmt} {rest : List Stmt} {E : EndD}
theorem PEd.ic {i j : Int} (h : PEd X sd e (.val (.int i))) (q : i = j) : PEd X sd e (.val (.int j)) := q ▸ h
theorem PWd.cast {k k' : Bool} (h : PWd X sd e k) (q : k = k') : PWd X sd e k' := q ▸ h
end
end DL

namespace DL
open PySem PySem.Spec PyProof.Rows L2
/-! ### a list of ours, lent for one look -/
mutual
def noL : D → Bool
  | .tup ds => noLs ds
  | .lst _ => false
  | .scr _ => false
  | .dic => false
  | .dki _ _ => false
  | _ => true
def noLs : List D → Bool
  | [] => true
  | d :: ds => noL d && noLs ds
end
def del (F : Hp) (l : Addr) : Hp := fun b => if b = l then none else F b
theorem del_ne {F : Hp} {l b : Addr} (h : b ≠ l) : del F l b = F b := by unfold del; rw [if_neg h]
theorem del_same {F : Hp} {l : Addr} : del F l l = none := by unfold del; rw [if_pos rfl]
mutual
theorem Rep.del {K : PySem.W.Frag} {F : Hp} {l : Addr} {xs : List V} (hl : F l = some (.lst xs)) : ∀ {d : D} {v : V}, noL d = true → Rep K F d v → Rep K (del F l) d v
  | .non, _, _, r => by simpa only [Rep] using r
  | .bl _, _, _, r => by simpa only [Rep] using r
  | .int _, _, _, r => by simpa only [Rep] using r
  | .str _, _, _, r => by simpa only [Rep] using r
  | .tup ds, v, h, r => by
    simp only [Rep] at r ⊢
    obtain ⟨a, ys, e, q, rl⟩ := r
    have ne : a ≠ l := fun z => by
      rw [z, hl] at q
      cases q
    exact ⟨a, ys, e, by rw [del_ne ne]; exact q, RepL.del hl (by simpa only [noL] using h) rl⟩
  | .lst _, _, h, _ => by simp [noL] at h
  | .dic, _, h, _ => by simp [noL] at h
  | .dki _ _, _, h, _ => by simp [noL] at h
  | .scr _, _, h, _ => by simp [noL] at h
theorem RepL.del {K : PySem.W.Frag} {F : Hp} {l : Addr} {xs : List V} (hl : F l = some (.lst xs)) : ∀ {ds : List D} {ys : List V}, noLs ds = true → RepL K F ds ys → RepL K (del F l) ds ys
  | [], _, _, r => by simpa only [RepL] using r
  | d :: ds, ys, h, r => by
    simp only [noLs, Bool.and_eq_true] at h
    obtain ⟨y, zs, rfl, a, rl⟩ := r.uncons
    exact .cons (Rep.del hl h.1 a) (RepL.del hl h.2 rl)
end
theorem slots_of {K : PySem.W.Frag} {F H : Hp} : ∀ {sd : List Slot} {σ : St}, σ.length = sd.length → (∀ (k : Nat) (z : Slot), sd[k]? = some z → ∃ o, σ[k]? = some o ∧ SlotOk K F H z o) → SlotsOk K F H sd σ
  | [], [], _, _ => rfl
  | z :: zs, o :: r, hl, h => by
    obtain ⟨o', e, q⟩ := h 0 z rfl
    have : o = o' := by simpa using e
    subst this
    exact ⟨o, r, rfl, q, slots_of (by simpa using hl) fun k z hz => by
      obtain ⟨o', e, q⟩ := h (k + 1) z (by simpa using hz)
      exact ⟨o', by simpa using e, q⟩⟩
  | [], _ :: _, hl, _ => by simp at hl
  | _ :: _, [], hl, _ => by simp at hl
def FlatR : R → Bool
  | .val d => noL d
  | .own ds => noLs ds
  | .bor _ => false
  | .pr _ _ => false
  | .ox _ => false
/-- the other lists of ours hold no lists -/
def okS : Slot → Bool
  | .own _ ds => noLs ds
  | .od _ _ ds => noLs ds
  | .ox _ _ => false
  | _ => true
def Oth (sd : List Slot) (i : Nat) : Prop := ∀ (k : Nat) (z : Slot), k ≠ i → sd[k]? = some z → okS z = true
section
variable {K : PySem.W.Frag} {H₀ F F' H H' : Hp} {σ : St} {sd : List Slot} {i : Nat} {l : Addr} {ds : List D} {xs : List V}
theorem StF.lend (S : StF K H₀ F H σ sd) (hs : sd[i]? = some (.own l ds)) (hx : H l = some (.lst xs)) : StF K H₀ (upd F l (.lst xs)) H σ (sd.set i (.val (.lst ds))) := by
  obtain ⟨o, h1, h2, n, ys, q, rl⟩ := S.slots.get hs
  rw [hx] at q
  cases q
  have S0 := S.le (le_set_un sd i)
  obtain ⟨S1, s1⟩ := S0.freeze hx n (not_owned S.nd hs)
  have S2 := S1.set (d := .lst ds) (v := .ref l) i (by simp only [Rep]; exact ⟨l, xs, rfl, upd_same, rl.mono s1⟩)
  rw [set_set, set_same (by rw [h1, h2])] at S2
  exact S2
theorem StF.back (S : StF K H₀ F H σ sd) (hs : sd[i]? = some (.own l ds)) (hx : H l = some (.lst xs)) (ho : Oth sd i) (S' : StF K H₀ F' H' σ (sd.set i (.val (.lst ds)))) (s : Same (upd F l (.lst xs)) F') : StF K H₀ (del F' l) H' σ sd ∧ Same F (del F' l) ∧ F' l = some (.lst xs) := by
  obtain ⟨o, h1, h2, n, ys, q, rl⟩ := S.slots.get hs
  rw [hx] at q
  cases q
  have fl : F' l = some (.lst xs) := s _ _ upd_same
  have sF : Same F (del F' l) := fun b u e => by
    have ne : b ≠ l := ne_of_none e n
    rw [del_ne ne]
    exact s _ _ (by rw [upd_ne ne]; exact e)
  refine ⟨⟨fun b u e => sF _ _ (S.base _ _ e), fun b u e => ?_, S'.smp, ?_, S.nd⟩, sF, fl⟩
  · by_cases h : b = l
    · subst h
      rw [del_same] at e
      cases e
    · rw [del_ne h] at e
      exact S'.sub _ _ e
  · refine slots_of S.slots.len fun k z hz => ?_
    by_cases hk : k = i
    · subst hk
      rw [hs] at hz
      cases hz
      exact ⟨o, h1, h2, del_same, xs, S'.sub _ _ fl, rl.mono sF⟩
    · obtain ⟨o1, g1, g2⟩ := S.slots.get hz
      obtain ⟨o2, g3, g4⟩ := S'.slots.get (i := k) (z := z) (by rw [List.getElem?_set_ne (Ne.symm hk)]; exact hz)
      rw [g1] at g3
      cases g3
      refine ⟨o1, g1, ?_⟩
      cases z with
      | un => trivial
      | val d =>
        obtain ⟨v, e, r⟩ := g2
        exact ⟨v, e, r.mono sF⟩
      | gh d G =>
        obtain ⟨v, e, r, g⟩ := g2
        exact ⟨v, e, r.mono sF, fun F2 s2 => g F2 (sF.trans s2)⟩
      | own l' ds' =>
        obtain ⟨e, n', ys, q', rl'⟩ := g4
        have ne : l' ≠ l := fun e2 => by
          rw [e2, fl] at n'
          cases n'
        exact ⟨e, by rw [del_ne ne]; exact n', ys, q', RepL.del fl (ho k _ hk hz) rl'⟩
      | od l' ks ds' =>
        obtain ⟨e, n', ys, q', ln, rl'⟩ := g4
        have ne : l' ≠ l := fun e2 => by
          rw [e2, fl] at n'
          cases n'
        exact ⟨e, by rw [del_ne ne]; exact n', ys, q', ln, RepL.del fl (ho k _ hk hz) rl'⟩
      | ox ls G => exact absurd (ho k _ hk hz) (by simp [okS])
end
section
variable {X : Cx} {sd : List Slot} {e a b c tg iter o : Expr} {es : List Expr} {pos : Pos} {r ra rb : R} {d : D} {ds : List D} {st : Stmt} {rest : List Stmt} {E : EndD}
theorem PEd.lend (i : Nat) {l : Addr} (hs : sd[i]? = some (.own l ds)) (ho : Oth sd i) (hf : FlatR r = true) (h : PEd X (sd.set i (.val (.lst ds))) e r) : PEd X sd e r := .mk fun σ F H S => by
  obtain ⟨o, h1, h2, n, xs, q, rl⟩ := S.slots.get hs
  refine (h σ _ H (S.lend hs q)).imp fun v H' ⟨F', S', s', res⟩ => ?_
  obtain ⟨S2, s2, fl⟩ := S.back hs q ho S' s'
  refine ⟨del F' l, S2, s2, ?_⟩
  cases r with
  | val d => exact Rep.del fl hf res
  | own ds' =>
    obtain ⟨l', xs', e, n', q', rl', no⟩ := res
    have ne : l' ≠ l := fun e2 => by
      rw [e2, fl] at n'
      cases n'
    refine ⟨l', xs', e, by rw [del_ne ne]; exact n', q', RepL.del fl hf rl', fun hm => no ?_⟩
    obtain ⟨z, hz, ez⟩ := List.mem_flatMap.mp hm
    obtain ⟨k, hk⟩ := List.getElem?_of_mem hz
    have ki : k ≠ i := fun y => by
      subst y
      rw [hs] at hk
      cases hk
      have : l = l' := (List.mem_singleton.mp ez).symm
      exact ne this.symm
    exact List.mem_flatMap.mpr ⟨_, List.mem_of_getElem? (by rw [List.getElem?_set_ne (Ne.symm ki)]; exact hk), ez⟩
  | bor _ => cases hf
  | pr _ _ => cases hf
  | ox _ => cases hf
theorem PTd.lend (i : Nat) {l : Addr} {k : Bool} (hs : sd[i]? = some (.own l ds)) (ho : Oth sd i) (h : PTd X (sd.set i (.val (.lst ds))) e k) : PTd X sd e k := .mk fun σ F H S => by
  obtain ⟨o, h1, h2, n, xs, q, rl⟩ := S.slots.get hs
  refine (h σ _ H (S.lend hs q)).imp fun v H' ⟨e, F', S', s'⟩ => ?_
  obtain ⟨S2, s2, fl⟩ := S.back hs q ho S' s'
  exact ⟨e, del F' l, S2, s2⟩
theorem PTd.cast {k k' : Bool} (h : PTd X sd e k) (q : k = k') : PTd X sd e k' := q ▸ h
def othB : List Slot → Nat → Bool
  | [], _ => true
  | _ :: zs, 0 => zs.all okS
  | z :: zs, i + 1 => okS z && othB zs i
theorem oth_b : ∀ {sd : List Slot} {i : Nat}, othB sd i = true → Oth sd i
  | [], _, _, k, y, _, hz => by simp at hz
  | z :: zs, 0, h, k, y, hk, hz => by
    cases k with
    | zero => exact absurd rfl hk
    | succ k => exact List.all_eq_true.mp (show zs.all okS = true from h) _ (List.mem_of_getElem? (by simpa using hz))
  | z :: zs, i + 1, h, k, y, hk, hz => by
    have h' : (okS z && othB zs i) = true := h
    rw [Bool.and_eq_true] at h'
    cases k with
    | zero =>
      have : z = y := by simpa using hz
      subst this
      exact h'.1
    | succ k => exact oth_b h'.2 k y (fun q => hk (by rw [q])) (by simpa using hz)
end
end DL

namespace DL
open PySem PySem.Spec PyProof.Rows L2
section
variable {X : Cx} {sd : List Slot} {e a b c tg iter o : Expr} {es : List Expr} {pos : Pos} {r ra rb : R} {d : D} {ds : List D} {st : Stmt} {rest : List Stmt} {E : EndD}
end
end DL

namespace DL
open PySem PySem.Spec PyProof.Rows L2
abbrev SQ := Nat × Int × Int × Int
def sqD (q : SQ) : D := stpD q.1 q.2.1 q.2.2.1 q.2.2.2
structure SqOk (p : Int × Int) (q : SQ) : Prop where
  sz : p ∈ sizes14
  k10 : q.1 < 10
  i0 : 0 ≤ q.2.1 ∧ q.2.1 < p.2
  j0 : 0 ≤ q.2.2.1 ∧ q.2.2.1 < p.2
  n0 : 0 ≤ q.2.2.2 ∧ q.2.2.2 < ((2 ^ p.1.toNat : Nat) : Int)
theorem pw0 (n : Nat) : (0 : Int) < ((2 ^ n : Nat) : Int) := by
  have : 0 < 2 ^ n := Nat.pow_pos (by decide)
  generalize 2 ^ n = q at this ⊢
  omega
abbrev SK := SQ × Int
def skD (s : SK) : D := .tup [sqD s.1, .int s.2]
structure StkOk (p : Int × Int) (L : List SK) : Prop where
  pos : 0 < L.length
  le : L.length ≤ 8
  st : ∀ s ∈ L, SqOk p s.1 ∧ 1 ≤ s.2 ∧ s.2 ≤ 9
/-! ### words, fillings -/
structure Fil (p : Int × Int) (ws : List Int) : Prop where
  len : ws.length = p.2.toNat
  wd : ∀ w ∈ ws, 0 ≤ w ∧ w < ((2 ^ p.1.toNat : Nat) : Int)
def nwQ (p : Int × Int) (q : SQ) (ws : List Int) : Int := newW q.1 ((2 ^ p.1.toNat : Nat) : Int) (ws.getD q.2.1.toNat 0) (ws.getD q.2.2.1.toNat 0) q.2.2.2
def onQ (p : Int × Int) (q : SQ) (ws : List Int) : List Int := ws.set q.2.1.toNat (nwQ p q ws)
def rowQ (p : Int × Int) (L : List SK) (row : List Nat) (ws : List Int) : List Int := row.foldl (fun f t => onQ p (L.getD t default).1 f) ws
def prcL (L : List SK) (row : List Nat) : List Int := row.map fun t => (L.getD t default).2
def sumI (l : List Int) : Int := preSum (fun i => l.getD i 0) l.length
end DL

namespace DL
open PySem PySem.Spec PyProof.Rows L2
section
variable {X : Cx} {sd : List Slot} {e a b c tg iter o : Expr} {es : List Expr} {pos : Pos} {r ra rb : R} {d : D} {ds : List D} {st : Stmt} {rest : List Stmt} {E : EndD}
theorem pd_eqS {d1 d2 : D} {x y : V} {k : Bool} (ha : PEd X sd a (.val d1)) (hb : PEd X sd b (.val d2)) (h1 : flt d1 = some x) (h2 : flt d2 = some y) (hs : scal x y = true) (hk : decide (x = y) = k) : PEd X sd (.Compare a [.Eq] [b] pos) (.val (.bl k)) :=
  pd_cmp2 op_eq ha hb trivial (nomark _) fun σ F H v u Q S q1 q2 kk => by
    have e1 := flt_rep h1 q1
    have e2 := flt_rep h2 q2
    subst e1 e2
    exact ⟨hs, by rw [hk]; exact kk F H S (Same.refl _)⟩
/-- list(xs) -/
theorem pd_listL {p : Pos} (hg : Gl X "list") (hm : X.mg "list" = none) (ha : PEd X sd e (.bor ds)) (hst : starEach [e] X.env = (false, eval e X.env) :: starEach [] X.env := by rfl) : PEd X sd (.Call (.Name "list" p) [e] [] pos) (.own ds) :=
  pd_callTy (he := hst) call_list_of hg hm PyProof.Rows.boot_list (pad_cons ha pad_nil trivial hst) fun σ F H vs Q S q k => by
    cases q with
    | cons q1 q2 =>
      cases q2
      obtain ⟨p, xs, rfl, hp, rl, _⟩ := q1
      refine ⟨p, xs, rfl, .inl (.of hp), fun l hl => ?_⟩
      obtain ⟨S2, fp, no⟩ := S.layO (xs := xs) hl
      exact k _ F _ S2 (Same.refl _) ⟨l, xs, rfl, fp, upd_same, rl, no⟩
end
mutual
theorem deq_refl : ∀ d : D, pl d = true → deq d d = true
  | .non, _ => rfl
  | .bl b, _ => by simp [deq]
  | .int i, _ => by simp [deq]
  | .str x, _ => by simp [deq]
  | .tup ds, h => by
    simp only [deq]
    exact deqL_refl ds (by simpa only [pl] using h)
  | .lst ds, h => by
    simp only [deq]
    exact deqL_refl ds (by simpa only [pl] using h)
  | .dic, h => by simp [pl] at h
  | .dki _ _, h => by simp [pl] at h
  | .scr _, h => by simp [pl] at h
theorem deqL_refl : ∀ ds : List D, plL ds = true → deqL ds ds = true
  | [], _ => rfl
  | d :: ds, h => by
    simp only [plL, Bool.and_eq_true] at h
    simp only [deqL, Bool.and_eq_true]
    exact ⟨deq_refl d h.1, deqL_refl ds h.2⟩
end
end DL

namespace DL
open PySem PySem.Spec PyProof.Rows L2
/-! ### zip of two, each a list or a tuple -/
def ItAt (tp : Bool) (h : Heap) (it src : Addr) (i : Nat) : Prop := match tp with
  | true => h.IsTupleIter it src i
  | false => h.IsListIter it src i
def SqAt (tp : Bool) (h : Heap) (src : Addr) (xs : Array Value) : Prop := match tp with
  | true => h.IsTuple src xs
  | false => h.IsList src xs
theorem ItAt.ex {tp : Bool} {h : Heap} {it src : Addr} {i : Nat} (x : ItAt tp h it src i) : ∃ o, h.get? it = some o ∧ ∀ v, o.data ≠ .cell v := by
  cases tp with
  | true =>
    obtain ⟨o, e, _, d⟩ := (show h.IsTupleIter it src i from x)
    exact ⟨o, e, fun v z => by rw [d] at z; cases z⟩
  | false =>
    obtain ⟨o, e, _, d⟩ := (show h.IsListIter it src i from x)
    exact ⟨o, e, fun v z => by rw [d] at z; cases z⟩
theorem ItAt.keep {tp : Bool} {h h' : Heap} {it src : Addr} {i : Nat} (x : ItAt tp h it src i) (k : ∀ o, h.get? it = some o → h'.get? it = some o) : ItAt tp h' it src i := by
  cases tp with
  | true => exact Heap.IsTupleIter.at (show h.IsTupleIter it src i from x) k
  | false => exact Heap.IsListIter.at (show h.IsListIter it src i from x) k
theorem SqAt.keep {tp : Bool} {h h' : Heap} {src : Addr} {xs : Array Value} (x : SqAt tp h src xs) (k : ∀ o, h.get? src = some o → h'.get? src = some o) : SqAt tp h' src xs := by
  cases tp with
  | true => exact Heap.IsTuple.at (show h.IsTuple src xs from x) k
  | false => exact Heap.IsList.at (show h.IsList src xs from x) k
theorem SqAt.lt {tp : Bool} {h : Heap} {src : Addr} {xs : Array Value} (x : SqAt tp h src xs) : src < h.objs.size := by
  cases tp with
  | true =>
    obtain ⟨o, e, _⟩ := (show h.IsTuple src xs from x)
    exact Heap.lt_size e
  | false =>
    obtain ⟨o, e, _⟩ := (show h.IsList src xs from x)
    exact Heap.lt_size e
section
variable {prog : Program} {w : World} {A : Around} {E : Value → Shared → Prop} {s : Shared}
end
end DL

namespace DL
open PySem PySem.Spec PyProof.Rows L2
end DL

namespace DL
open PySem PySem.Spec PyProof.Rows L2
def itO (tp : Bool) (l : Addr) : Obj := match tp with
  | true => { cls := .type "tuple_iterator", data := .fields #[.ref l, .int 0 0] }
  | false => { cls := .type "list_iterator", data := .fields #[.ref l, .int 0 0] }
section
variable {prog : Program} {w : World} {A : Around} {E : Value → Shared → Prop} {s : Shared}
end
abbrev zA (p : Bool) (h : Heap) (l : Addr) : Heap := h.push (itO p l)
abbrev zB (p q : Bool) (h : Heap) (l m : Addr) : Heap := (zA p h l).push (itO q m)
abbrev zC (p q : Bool) (h : Heap) (l m : Addr) : Heap := (zB p q h l m).push { cls := .type "tuple", data := .seq #[.ref h.objs.size, .ref (zA p h l).objs.size] }
abbrev zD (p q : Bool) (h : Heap) (l m : Addr) : Heap := (zC p q h l m).push { cls := .type "tuple", data := .seq #[.none, .none] }
abbrev zE (p q : Bool) (h : Heap) (l m : Addr) : Heap := (zD p q h l m).push { cls := .type "zip", data := .fields #[.none, .bool false, .bool false, .ref (zB p q h l m).objs.size, .ref (zC p q h l m).objs.size] }
section
variable {prog : Program} {w : World} {A : Around} {E : Value → Shared → Prop} {s : Shared}
end
section
variable {X : Cx} {sd : List Slot} {e a b c tg iter : Expr} {es : List Expr} {pos : Pos} {r ra rb : R} {d : D} {ds : List D} {st : Stmt} {rest : List Stmt} {E : EndD}
end
end DL

namespace DL
open PySem PySem.Spec PyProof.Rows L2
end DL

namespace DL
open PySem PySem.Spec PyProof.Rows L2
section
variable {X : Cx} {sd : List Slot} {e a b c tg iter o : Expr} {es : List Expr} {pos : Pos} {r ra rb : R} {d : D} {ds : List D} {st : Stmt} {rest : List Stmt} {E : EndD}
/-! ### a def whose last parameter is None where it is left out -/
structure FunD (K : PySem.W.Frag) (x qual : Str) (st : Stmt) (f : Addr) (fd : FuncData) : Prop where
  ex : ∃ (oc : Value) (od : Option Addr) (T : Addr) (kV doc pm : Value) (an : Option Addr) (cdv ct : Value) (osl : Array (Option Value)) (tc : Value) (td : Option Addr) (n : Nat) (tsl : Array (Option Value)),
    fd = PySem.W.fnOf x qual (defArgs st) (defBody st) (defScope st) (.ref T) kV doc pm an cdv ct ∧ K.lookup f = some ⟨oc, od, .func fd, osl⟩ ∧ PySem.W.codeIn K cdv qual = true ∧ K.lookup T = some ⟨tc, td, .seq #[.none] n, tsl⟩
  kp : PySem.W.keepIn K (.ref f) = true
structure CalleeD (P : Program) (w : World) (K : PySem.W.Frag) (mg : Str → Option Value) (base : Heap) (x : Str) (k n : Nat) (C : List D → R → Prop) : Prop where
  ex : ∃ (f : Addr) (fd : FuncData) (ps : List Str), mg x = some (.ref f) ∧ PySem.W.keepIn K (.ref f) = true ∧ Binds K fd ps [] ∧ Binds K fd ps [.none] ∧ FnOk P w K mg base CX0 k f fd ps (spC K n C)
end
end DL

namespace DL
open PySem PySem.Spec PyProof.Rows L2
def filA (p : Int × Int) : List (List Int) := filI (2 ^ p.1.toNat) p.2.toNat
structure TabOk (p : Int × Int) (T : List (List Int)) : Prop where
  len : T.length = (filA p).length
  fil : ∀ ws ∈ T, Fil p ws
end DL

namespace DL
open PySem PySem.Spec PyProof.Rows L2
section
variable {X : Cx} {sd : List Slot} {e a b c tg iter o : Expr} {es : List Expr} {pos : Pos} {r ra rb : R} {d : D} {ds : List D} {st : Stmt} {rest : List Stmt} {E : EndD}
/-! ### a datum not in a list of data -/
theorem op_notInD (d : D) (ds : List D) (p1 : pl d = true) (p2 : plL ds = true) (hu : X.A.units + 1 + depL ds < cLine) : OpR X (compareOp .NotIn) (fun x y H Q => Rep X.K H (.lst ds) y ∧ Rep X.K H d x ∧ Q (.bl (!ds.any fun z => deq z d)) H) := by
  intro pins s σ H x y v u Q I rx ry h
  obtain ⟨hl, hd, k⟩ := h
  obtain ⟨a, xs, its, rfl, rfl, rl, rv, ht⟩ := lst_at I.hok hl ry
  have hat : ∀ (j : Nat) (w : Value), its[j]? = some w → ∃ z v, ds[j]? = some z ∧ xs[j]? = some v ∧ Rep X.K H z v ∧ RelV v w := fun j w hw => by
    have hj : j < its.length := (List.getElem?_eq_some_iff.mp hw).1
    have hx : j < xs.length := by rw [Vals.length rv]; exact hj
    have hd : j < ds.length := by rw [← rl.len]; exact hx
    obtain ⟨v, hv, rz⟩ := rl.get (i := j) (d := ds[j]) (by simp [hd])
    exact ⟨ds[j], v, by simp [hd], hv, rz, by
      have := rv.get hv
      obtain ⟨w', hw', r⟩ := this
      rw [hw] at hw'
      cases hw'
      exact r⟩
  have dc := fun w : Value => Classical.propDecidable (∃ (j : Nat) (z : D), its[j]? = some w ∧ ds[j]? = some z ∧ deq z d = true)
  refine SeqAt.notIn_listAt (fun w => @decide _ (dc w)) ht (fun w hw => ?_) ⟨.bl _, H, I, rfl, ?_⟩
  · by_cases q : ∃ (j : Nat) (z : D), its[j]? = some w ∧ ds[j]? = some z ∧ deq z d = true
    · obtain ⟨j, z, e1, e2, e3⟩ := q
      obtain ⟨z', v, f1, f2, f3, f4⟩ := hat j w e1
      rw [e2] at f1
      cases f1
      have : @decide _ (dc w) = true := by rw [decide_eq_true_eq]; exact ⟨j, z, e1, e2, e3⟩
      rw [this, ← e3]
      exact eqAt_D I.hok z (plL_get p2 e2) p1 f3 hd f4 rx (by have := depL_get e2; show X.A.units + 1 + dep z < cLine; omega)
    · have hw' : w ∈ its := by simpa using hw
      obtain ⟨j, hj, rfl⟩ := List.getElem_of_mem hw'
      obtain ⟨z, v, f1, f2, f3, f4⟩ := hat j its[j] (by simp [hj])
      have e3 : deq z d = false := by
        cases h : deq z d with
        | false => rfl
        | true => exact (q ⟨j, z, by simp [hj], f1, h⟩).elim
      have : @decide _ (dc its[j]) = false := by rw [decide_eq_false_iff_not]; exact q
      rw [this, ← e3]
      exact eqAt_D I.hok z (plL_get p2 f1) p1 f3 hd f4 rx (by have := depL_get f1; show X.A.units + 1 + dep z < cLine; omega)
  · have e : its.toArray.any (fun w => @decide _ (dc w)) = ds.any fun z => deq z d := by
      rw [Bool.eq_iff_iff, List.any_toArray, List.any_eq_true, List.any_eq_true]
      constructor
      · rintro ⟨w, hw, q⟩
        rw [decide_eq_true_eq] at q
        obtain ⟨j, z, e1, e2, e3⟩ := q
        exact ⟨z, List.mem_of_getElem? e2, e3⟩
      · rintro ⟨z, hz, e3⟩
        obtain ⟨j, hj, rfl⟩ := List.getElem_of_mem hz
        have hi : j < its.length := by rw [← Vals.length rv, rl.len]; exact hj
        exact ⟨its[j], List.getElem_mem hi, by rw [decide_eq_true_eq]; exact ⟨j, ds[j], by simp [hi], by simp [hj], e3⟩⟩
    rw [e]
    exact k
theorem ptd_ninD (ha : PEd X sd a (.val d)) (hb : PEd X sd b (.val (.lst ds))) (p1 : pl d = true) (p2 : plL ds = true) (hu : X.A.units + 1 + depL ds < cLine) (hk : behindInMarks .NotIn b = false := by with_unfolding_all rfl) : PTd X sd (.Compare a [.NotIn] [b] pos) (!ds.any fun z => deq z d) :=
  ptd_cmp2 (op_notInD d ds p1 p2 hu) ha hb trivial hk fun σ F H x u Q S q1 q2 k => ⟨Rep.mono S.sub q2, Rep.mono S.sub q1, k F H S (Same.refl _)⟩
end
end DL

namespace DL
open PySem PySem.Spec PyProof.Rows L2
section
variable {X : Cx} {sd : List Slot} {E : EndD} {e a b o : Expr} {ds es : List D} {d : D} {pos : Pos}
theorem RepL.atI {K : PySem.W.Frag} {H : Hp} {ds : List D} {xs : List V} {i : Int} {d : D} (r : RepL K H ds xs) (h : L2.atI ds i = some d) : ∃ v, L2.atI xs i = some v ∧ Rep K H d v := by
  unfold L2.atI at h ⊢
  rw [r.len]
  cases e : ixN ds.length i with
  | none => rw [e] at h; cases h
  | some j =>
    rw [e] at h
    exact r.get h
theorem kit_str1 (K : PySem.W.Frag) (x : Str) : PySem.W.kitOne K (tyD (.str x)) (.type "str") = some true := by with_unfolding_all rfl
end
end DL

namespace DL
open PySem PySem.Spec PyProof.Rows L2
section
variable {X : Cx} {sd : List Slot} {b : Expr} {pos : Pos}
end
end DL

namespace DL
open PySem PySem.Spec PyProof.Rows L2
section
variable {prog : Program} {w : World} {A : Around} {E : Value → Shared → Prop} {s : Shared}
end
section
variable {X : Cx} {sd : List Slot} {E : EndD} {e a b o : Expr} {ds es : List D} {d : D} {pos : Pos}
end
end DL

namespace DL
open PySem PySem.Spec PyProof.Rows L2
/-! ### turns -/
structure TurnOk (n : Nat) (τ : List Nat) : Prop where
  len : τ.length = n
  lt : ∀ b ∈ τ, b < n
  mem : ∀ b, b < n → b ∈ τ
  nd : τ.Nodup
def backQ (τ : List Nat) : List Nat := (List.range τ.length).map fun b => τ.idxOf b
def tsQ (τ : List Nat) (q : SQ) : SQ := (q.1, ((τ.getD q.2.1.toNat 0 : Nat) : Int), ((τ.getD q.2.2.1.toNat 0 : Nat) : Int), q.2.2.2)
section
variable {n : Nat} {τ : List Nat}
theorem TurnOk.at (T : TurnOk n τ) {i : Nat} (h : i < n) : τ.getD i 0 < n := by
  have h' : i < τ.length := by rw [T.len]; exact h
  have e : τ.getD i 0 = τ[i] := by simp [List.getD, h']
  rw [e]
  exact T.lt _ (List.getElem_mem h')
theorem TurnOk.idx (T : TurnOk n τ) {i : Nat} (h : i < n) : τ.idxOf (τ.getD i 0) = i := by
  have h' : i < τ.length := by rw [T.len]; exact h
  have e : τ.getD i 0 = τ[i] := by simp [List.getD, h']
  rw [e]
  exact T.nd.idxOf_getElem i h'
theorem TurnOk.idx_lt (T : TurnOk n τ) {b : Nat} (h : b < n) : τ.idxOf b < n := by
  have := List.idxOf_lt_length_of_mem (T.mem b h)
  rw [T.len] at this
  exact this
theorem TurnOk.get_idx (T : TurnOk n τ) {b : Nat} (h : b < n) : τ.getD (τ.idxOf b) 0 = b := by
  have h' := List.idxOf_lt_length_of_mem (T.mem b h)
  simp [List.getD, h']
theorem back_len : (backQ τ).length = τ.length := by simp [backQ]
theorem TurnOk.back (T : TurnOk n τ) : TurnOk n (backQ τ) := by
  refine ⟨by rw [back_len, T.len], fun b hb => ?_, fun b hb => ?_, ?_⟩
  · obtain ⟨c, hc, rfl⟩ := List.mem_map.mp hb
    rw [List.mem_range, T.len] at hc
    exact T.idx_lt hc
  · refine List.mem_map.mpr ⟨τ.getD b 0, ?_, T.idx hb⟩
    rw [List.mem_range, T.len]
    exact T.at hb
  · unfold backQ
    refine List.nodup_iff_pairwise_ne.mpr (List.pairwise_map.mpr ?_)
    have : (List.range τ.length).Nodup := List.nodup_range
    refine (List.nodup_iff_pairwise_ne.mp this).imp_of_mem fun {a b} ha hb hne z => hne ?_
    rw [List.mem_range, T.len] at ha hb
    have : τ.getD (τ.idxOf a) 0 = τ.getD (τ.idxOf b) 0 := by rw [z]
    rwa [T.get_idx ha, T.get_idx hb] at this
end
/-! ### what is told of turns -/
structure SqN (n : Nat) (q : SQ) : Prop where
  k10 : q.1 < 10
  i0 : 0 ≤ q.2.1 ∧ q.2.1 < n
  j0 : 0 ≤ q.2.2.1 ∧ q.2.2.1 < n
theorem SqOk.b {p : Int × Int} {q : SQ} (O : SqOk p q) : SqN p.2.toNat q := by
  have hi := O.i0
  have hj := O.j0
  exact ⟨O.k10, ⟨hi.1, by omega⟩, ⟨hj.1, by omega⟩⟩
theorem SqN.ts {n : Nat} {τ : List Nat} {q : SQ} (T : TurnOk n τ) (O : SqN n q) : SqN n (tsQ τ q) := by
  have hi := O.i0
  have hj := O.j0
  have a := T.at (i := q.2.1.toNat) (by omega)
  have b := T.at (i := q.2.2.1.toNat) (by omega)
  exact ⟨O.k10, ⟨by simp only [tsQ]; omega, by simp only [tsQ]; omega⟩, ⟨by simp only [tsQ]; omega, by simp only [tsQ]; omega⟩⟩
end DL

namespace DL
open PySem PySem.Spec PyProof.Rows L2
section
variable {prog : Program} {w : World} {A : Around} {E : Value → Shared → Prop} {s : Shared}
end
section
variable {prog : Program} {w : World} {A : Around} {E : Value → Shared → Prop} {s : Shared}
end
section
variable {X : Cx} {sd : List Slot} {e a b c tg iter : Expr} {es : List Expr} {pos : Pos} {r ra rb : R} {d : D} {ds : List D} {st : Stmt} {rest : List Stmt} {E : EndD}
end

section
variable {prog : Program} {w : World} {A : Around} {E : Value → Shared → Prop} {s : Shared}
end
section
variable {X : Cx} {sd : List Slot} {e a b c tg iter : Expr} {es : List Expr} {pos : Pos} {r ra rb : R} {d : D} {ds : List D} {st : Stmt} {rest : List Stmt} {E : EndD}
end
end DL

namespace DL
open PySem PySem.Spec PyProof.Rows L2
section
variable {X : Cx} {sd : List Slot} {e a b c tg iter o : Expr} {es : List Expr} {pos : Pos} {r ra rb : R} {d d' : D} {ds ls : List D} {ks : List Key} {st : Stmt} {rest : List Stmt} {E : EndD}
end
end DL
namespace DL
open PySem PySem.Spec PyProof.Rows L2
section
variable {X : Cx} {sd : List Slot} {e : Expr} {pos : Pos}
end
end DL

namespace DL
open PySem PySem.Spec PyProof.Rows L2
/-! ### a dict of ours whose keys are tuples -/
def exO (l : Addr) (o : Obj) : HO := .ext (fun h => h.get? l = some o)
def TDo (P : Program) (w : World) (F : Hp) (l : Addr) (o : Obj) (kvs : List (List Key × V)) : Prop :=
  kvs.length ≤ sizeLine ∧ (l == sysModules) = false ∧ ∃ xs, KT F kvs xs ∧ ∃ es ep, o.ExactDict ∧ o.data = .dict es ep ∧ es.toList = xs.map (entryOfKey (tupleKind (mixKind P w))) ∧ (xs.map (·.1)).Nodup
theorem TDo.mono {P : Program} {w : World} {F F' : Hp} {l : Addr} {o : Obj} {kvs : List (List Key × V)} (t : TDo P w F l o kvs) (s : Same F F') : TDo P w F' l o kvs := by
  obtain ⟨z, y, xs, r, q⟩ := t
  exact ⟨z, y, xs, r.keeps fun b ys e => s _ _ e, q⟩
theorem KT.all {P : Program} {w : World} {H : Hp} {h : Heap} (ok : HOk P w H h) {l : List (List Key × V)} {m : List (List Key × Addr × Value)} (q : KT H l m) : ∀ x ∈ m, (tupleKind (mixKind P w)).is h x.1 x.2.1 := by
  induction q with
  | nil => intro x hx; exact nomatch hx
  | @cons p q ps qs hq t ih =>
    intro x hx
    rcases List.mem_cons.mp hx with e | hx
    · subst e
      exact key_of ok (by rw [← hq.1]; exact hq.2.1)
    · exact ih x hx
def kD : Key → D
  | .inl i => .int i
  | .inr x => .str x
theorem rep_keys {K : PySem.W.Frag} {F : Hp} : ∀ {k : List Key} {xs : List V}, RepL K F (k.map kD) xs → xs = k.map kV
  | [], xs, r => by simpa only [List.map_nil, RepL] using r
  | a :: k, xs, r => by
    rw [List.map_cons] at r
    obtain ⟨y, ys, rfl, q, rl⟩ := r.uncons
    rw [rep_keys rl, List.map_cons]
    congr 1
    cases a with
    | inl i =>
      simp only [kD, Rep] at q
      exact q
    | inr x =>
      simp only [kD, Rep] at q
      exact q
def Gt (P : Program) (w : World) (K : PySem.W.Frag) (l : Addr) (ks : List (List Key)) (ds : List D) : V → Hp → Hp → Prop := fun v F H => v = .ref l ∧ ∃ o xs, H l = some (exO l o) ∧ (∀ v, o.data ≠ .cell v) ∧ RepL K F ds xs ∧ ks.length = ds.length ∧ TDo P w F l o (ks.zip xs)
def odT (P : Program) (w : World) (K : PySem.W.Frag) (l : Addr) (ks : List (List Key)) (ds : List D) : Slot := .ox [l] (Gt P w K l ks ds)
section
variable {K : PySem.W.Frag} {H₀ F F' H H' : Hp} {σ : St} {sd : List Slot} {i : Nat} {l : Addr} {P : Program} {w : World} {ks : List (List Key)} {ds : List D}
end
section
variable {X : Cx} {sd : List Slot} {e a b c : Expr} {pos : Pos} {d : D} {ds : List D} {ks : List (List Key)} {k : List Key} {st : Stmt} {E : EndD} {l : Addr}
end
end DL

namespace DL
open PySem PySem.Spec PyProof.Rows L2
section
variable {X : Cx} {sd : List Slot} {e : Expr} {pos : Pos}
/-- len(set(xs)), xs some tuples of whole numbers and texts -/
theorem pd_lenSet {p p2 q2 : Pos} {ks : List (List Key)} {n : Nat} (hu : X.A.units + 10 < cLine) (hg : Gl X "len") (hm : X.mg "len" = none) (hg2 : Gl X "set") (hm2 : X.mg "set" = none) (ha : PEd X sd e (.val (.lst (ks.map fun k => D.tup (k.map kD))))) (h16 : ks.length ≤ 16) (hn : ∀ T : List (List Key), T.Nodup → (∀ k, k ∈ T ↔ k ∈ ks) → T.length = n)
    (hc : X.calm = true := by rfl) (hst : starEach [e] X.env = (false, eval e X.env) :: starEach [] X.env := by rfl) (hst2 : starEach [.Call (.Name "set" p2) [e] [] q2] X.env = (false, eval (.Call (.Name "set" p2) [e] [] q2) X.env) :: starEach [] X.env := by rfl) :
    PEd X sd (.Call (.Name "len" p) [.Call (.Name "set" p2) [e] [] q2] [] pos) (.val (.int (n : Int))) := .mk fun σ F H S pins s I => by
  refine wpAny_Call_Name_kw (ld_blt I hg hm PySem.boot_len ?_)
  refine PyProof.Rows.callWith_builtin1 ?_ hst2 rfl
  rw [hst2]
  refine Calls.spliced_cons (wpAny_Call_Name_kw (ld_blt I hg2 hm2 PyProof.Rows.boot_set ?_))
  refine PyProof.Rows.callWith_type1 (thn ((pa_cons (te := wE X e) pe_w pa_nil hst) q2 pins s σ H (fun us H1 => ∃ v F1, us = [v] ∧ StF X.K X.H₀ F1 H1 σ sd ∧ Same F F1 ∧ ResOk X.K F1 H1 sd (.val (.lst (ks.map fun k => D.tup (k.map kD)))) v) I ((ha σ F H S).imp fun v H1 ⟨F1, S1, s1, q1⟩ => ⟨v, F1, rfl, S1, s1, q1⟩)) fun us s1 hus => ?_) hst rfl
  obtain ⟨ws, H1, I1, rv, v, F1, rfl, S1, sF, q1⟩ := hus
  obtain ⟨u, rfl, ru⟩ := vals1 rv
  simp only [ResOk, Rep] at q1
  obtain ⟨l, xs, rfl, hl, rl⟩ := q1
  cases ru
  obtain ⟨its, rv2, ht0, hz⟩ := I1.list (.of (S1.sub _ _ hl))
  have ht : s1.heap.IsList l its.toArray := ht0.isList
  have lx : xs.length = ks.length := by rw [rl.len, List.length_map]
  have ln : its.length = ks.length := by rw [← rv2.length, lx]
  refine callT (by omega) ks (by simpa using ln.symm) (by simpa [ln] using h16) (fun i v hv => ?_) (I1.ok.hd hc) ht fun h' tk o' T kp g sm kt => ?_
  · have hv' : its[i]? = some v := by simpa using hv
    have hi : i < ks.length := by
      rw [← ln]
      exact (List.getElem?_eq_some_iff.mp hv').1
    obtain ⟨x, hx, rx⟩ := rl.get (i := i) (d := D.tup ((ks[i]).map kD)) (by rw [List.getElem?_map, List.getElem?_eq_getElem hi]; rfl)
    obtain ⟨u, hu', ru⟩ := rv2.get hx
    rw [hv'] at hu'
    cases hu'
    simp only [Rep] at rx
    obtain ⟨a, ys, rfl, fa, ry⟩ := rx
    have ey := rep_keys ry
    subst ey
    cases ru
    refine ⟨a, rfl, ?_⟩
    have e : ks.getD i [] = ks[i] := by simp [List.getD, hi]
    rw [e]
    exact key_of I1.hok (S1.sub _ _ fa)
  · refine Calls.spliced_nil ?_
    obtain ⟨es, ep, t, rfl, Y, h7⟩ := sm
    have tl : T.length = n := by
      rw [← hn _ Y.kn kt, List.length_map]
    have t16 : T.length ≤ 16 := tab_len Y.kn kt h16
    have fit := Y.fit (by
      rcases Y.om with q | q
      · have := h7 q
        omega
      · omega)
    have sz : es.size = n := by rw [Y.size, tl]
    refine call_len_set (s := { s1 with heap := h', toks := tk }) g ⟨rfl, rfl, rfl⟩ rfl fit (by rw [sz]; omega) ?_
    rw [sz]
    have I2 : Inv X pins σ H1 { s1 with heap := h', toks := tk + 1 + 1 } := I1.kept fun b o g => kp b o g
    exact ⟨.int (n : Int), H1, I2, ⟨_, rfl⟩, F1, S1, sF, by simp only [ResOk, Rep]⟩
end
end DL

namespace DL
open PySem PySem.Spec PyProof.Rows L2
section
variable {X : Cx} {sd : List Slot} {a b : Expr} {pos : Pos} {ds : List D}
theorem RepL.rep {K : PySem.W.Frag} {H : Hp} {ds : List D} {xs : List V} (r : RepL K H ds xs) : ∀ k : Nat, RepL K H (List.replicate k ds).flatten (List.replicate k xs).flatten
  | 0 => .nil
  | k + 1 => by
    rw [List.replicate_succ, List.replicate_succ, List.flatten_cons, List.flatten_cons]
    exact r.app (RepL.rep r k)
end
end DL

namespace DL
open PySem PySem.Spec PyProof.Rows L2
/-! ### all(l), l a list of truths -/
theorem bools_at {bs : List Bool} {its : List Value} {i : Nat} {v : Value} (r : Vals (bs.map V.bl) its) (h : its[i]? = some v) : ∃ b, bs[i]? = some b ∧ v = .bool b := by
  have hi : i < its.length := (List.getElem?_eq_some_iff.mp h).1
  have hl := r.length
  rw [List.length_map] at hl
  have hb : i < bs.length := by omega
  obtain ⟨u, h1, h2⟩ := r.get (i := i) (x := .bl bs[i]) (by simp [hb])
  rw [h] at h1
  cases h1
  exact ⟨bs[i], by simp [hb], h2⟩
theorem range_allB (bs : List Bool) : ((List.range bs.length).all fun i => (bs[i]?).getD true) = bs.all id := by
  apply Bool.eq_iff_iff.mpr
  simp only [List.all_eq_true, List.mem_range, id_eq]
  constructor
  · intro h b hb
    obtain ⟨i, hi, rfl⟩ := List.getElem_of_mem hb
    have := h i hi
    simpa [hi] using this
  · intro h i hi
    have := h bs[i] (List.getElem_mem hi)
    simpa [hi] using this
section
variable {X : Cx} {sd : List Slot} {e a b c : Expr} {pos : Pos} {ds : List D}
theorem call_allB (hc : X.calm = true) : CallR X (.builtin "all") (fun xs H Q => ∃ (a : Addr) (bs : List Bool), xs = [.ref a] ∧ SqL X.K H a (bs.map V.bl) ∧ Q (.bl (bs.all id)) H) := by
  intro pins s σ H xs us Q I r h
  obtain ⟨a, bs, rfl, ha, q⟩ := h
  obtain ⟨u, rfl, ru⟩ := vals1 r
  cases ru
  obtain ⟨its, rv, p, hz⟩ := I.list ha
  have hl := rv.length
  rw [List.length_map] at hl
  have isl : s.heap.IsList a its.toArray := p.isList
  have alt : a < s.heap.objs.size := by obtain ⟨o, ho, _⟩ := isl; exact Heap.lt_size ho
  refine call_all_walk (wpAny_pyIter_list isl ?_)
  refine ⟨s.heap.objs.size, [s.heap.objs.size, a], [s.heap.objs.size], its.toArray.size, _, _, fun i => (bs[i]?).getD true, rfl, Walks.list (A := X.A.in1) (I.ok.hd hc) _ a (Nat.ne_of_lt alt) its.toArray, ⟨⟨_, Heap.get?_push_size _ rfl, rfl, rfl⟩, isl.push _⟩, fun i v s' Q' E' hP hQ => ?_, fun h' tk hk => ?_⟩
  · obtain ⟨b, e, rfl⟩ := bools_at rv (by simpa using hP)
    simp only [e, Option.getD_some] at hQ
    exact wpAny_truthy_bool hQ
  · have e : ((List.range its.toArray.size).all fun i => (bs[i]?).getD true) = bs.all id := by
      rw [List.size_toArray, ← hl]
      exact range_allB bs
    rw [e]
    exact ⟨.bl (bs.all id), H, I.kept (t' := tk) fun b o g => hk b o (fun z => by
      have z : b = s.heap.objs.size := by simpa using z
      exact absurd (Heap.lt_size g) (by rw [z]; exact Nat.lt_irrefl _)) (Heap.get?_push_of_some _ g), rfl, q⟩
theorem RepL.bls {K : PySem.W.Frag} {H : Hp} : ∀ {bs : List Bool} {xs : List V}, RepL K H (bs.map D.bl) xs → xs = bs.map V.bl
  | [], xs, r => by simpa only [List.map_nil, RepL] using r
  | n :: ns, xs, r => by
    rw [List.map_cons] at r
    obtain ⟨y, ys, rfl, a, rl⟩ := r.uncons
    simp only [Rep] at a
    rw [a, RepL.bls rl]
    rfl
theorem pd_allL {p : Pos} {bs : List Bool} (hg : Gl X "all") (hm : X.mg "all" = none) (ha : PEd X sd e (.bor (bs.map D.bl))) (hc : X.calm = true := by rfl) (hst : starEach [e] X.env = (false, eval e X.env) :: starEach [] X.env := by rfl) : PEd X sd (.Call (.Name "all" p) [e] [] pos) (.val (.bl (bs.all id))) :=
  pd_callB (he := hst) (call_allB hc) hg hm boot_all (pad_cons ha pad_nil trivial hst) fun σ F H vs Q S q k => by
    cases q with
    | cons q1 q2 =>
      cases q2
      obtain ⟨p, xs, rfl, hp, rl, _⟩ := q1
      exact ⟨p, bs, rfl, .of (by rw [← rl.bls]; exact hp), k _ F H S (Same.refl _) (by simp only [ResOk, Rep])⟩
end
/-! ### changes -/
abbrev Ch := Nat × Nat × List Nat
def wcQ (row : List Nat) (c : Ch) : List Nat := row.take c.1 ++ c.2.2 ++ row.drop (c.1 + c.2.1)
def prcI (L : List SK) (row : List Nat) : Int := sumI (prcL L row)
def endQ (p : Int × Int) (L : List SK) (row : List Nat) (o : Option (List Nat)) : List (List Int) := (filA p).map fun ws => match o with
  | none => rowQ p L row ws
  | some l => l.map fun j => (rowQ p L row ws).getD j 0
def winB (row : List Nat) (c : Ch) : Bool := decide (1 ≤ c.2.1 ∧ c.1 + c.2.1 ≤ row.length)
def hoQ (p : Int × Int) (L : List SK) (row : List Nat) (c : Ch) (o : Option (List Nat)) : Bool := winB row c && (decide (prcI L c.2.2 < prcI L ((row.drop c.1).take c.2.1)) && decide (endQ p L (wcQ row c) o = endQ p L row o))
def RowOk (L : List SK) (row : List Nat) : Prop := ∀ t ∈ row, t < L.length
theorem RowOk.wc {L : List SK} {row : List Nat} {c : Ch} (h : RowOk L row) (hc : RowOk L c.2.2) : RowOk L (wcQ row c) := fun t ht => by
  unfold wcQ at ht
  rcases List.mem_append.mp ht with ht | ht
  · rcases List.mem_append.mp ht with ht | ht
    · exact h t (List.mem_of_mem_take ht)
    · exact hc t ht
  · exact h t (List.mem_of_mem_drop ht)
theorem wc_len (row : List Nat) (c : Ch) : (wcQ row c).length ≤ row.length + c.2.2.length := by
  unfold wcQ
  rw [List.length_append, List.length_append, List.length_take, List.length_drop]
  by_cases h : c.1 ≤ row.length
  · omega
  · omega
/-- rows and the changes between them -/
structure Chn (p : Int × Int) (L : List SK) (o : Option (List Nat)) (row : List Nat) (cs : List Ch) (rs : List (List Nat)) : Prop where
  len : rs.length = cs.length + 1
  hd : rs.getD 0 [] = row
  st : ∀ i, i < cs.length → hoQ p L (rs.getD i []) (cs.getD i (0, 0, [])) o = true ∧ rs.getD (i + 1) [] = wcQ (rs.getD i []) (cs.getD i (0, 0, []))
  ok : ∀ r ∈ rs, RowOk L r ∧ r.length ≤ 8 + 9 * cs.length
  pc : ∀ c ∈ cs, RowOk L c.2.2 ∧ c.2.2.length ≤ 9
theorem Chn.start {p : Int × Int} {L : List SK} {o : Option (List Nat)} {row : List Nat} (h : RowOk L row) (h8 : row.length ≤ 8) : Chn p L o row [] [row] :=
  ⟨rfl, rfl, fun i hi => absurd hi (Nat.not_lt_zero _), fun r hr => by rw [List.mem_singleton.mp hr]; exact ⟨h, by simpa using h8⟩, fun c hc => nomatch hc⟩
theorem getD_app_l {α : Type} (l m : List α) (d : α) {i : Nat} (h : i < l.length) : (l ++ m).getD i d = l.getD i d := by
  simp [List.getD, List.getElem?_append_left h]
theorem getD_app_r {α : Type} (l : List α) (x d : α) : (l ++ [x]).getD l.length d = x := by
  simp [List.getD]
theorem Chn.more {p : Int × Int} {L : List SK} {o : Option (List Nat)} {row : List Nat} {cs : List Ch} {rs : List (List Nat)} {c : Ch} (C : Chn p L o row cs rs) (hc : RowOk L c.2.2) (h9 : c.2.2.length ≤ 9) (hh : hoQ p L (rs.getD cs.length []) c o = true) : Chn p L o row (cs ++ [c]) (rs ++ [wcQ (rs.getD cs.length []) c]) := by
  have l1 := C.len
  have mem : rs.getD cs.length [] ∈ rs := DL.getD_mem (by omega)
  obtain ⟨ok1, ok2⟩ := C.ok _ mem
  refine ⟨by simp [l1], by rw [getD_app_l _ _ _ (by omega)]; exact C.hd, fun i hi => ?_, fun r hr => ?_, fun x hx => ?_⟩
  · rw [List.length_append, List.length_singleton] at hi
    by_cases q : i < cs.length
    · rw [getD_app_l rs _ _ (by omega), getD_app_l cs _ _ q, getD_app_l rs _ _ (by omega)]
      exact C.st i q
    · have : i = cs.length := by omega
      subst this
      rw [getD_app_l rs _ _ (by omega), getD_app_r cs]
      refine ⟨hh, ?_⟩
      rw [← l1, getD_app_r rs]
  · rcases List.mem_append.mp hr with hr | hr
    · obtain ⟨a, b⟩ := C.ok r hr
      exact ⟨a, by rw [List.length_append, List.length_singleton]; omega⟩
    · rw [List.mem_singleton.mp hr]
      refine ⟨ok1.wc hc, ?_⟩
      have := wc_len (rs.getD cs.length []) c
      rw [List.length_append, List.length_singleton]
      omega
  · rcases List.mem_append.mp hx with hx | hx
    · exact C.pc x hx
    · rw [List.mem_singleton.mp hx]
      exact ⟨hc, h9⟩
end DL

namespace DL
open PySem PySem.Spec PyProof.Rows L2
section
variable {prog : Program} {w : World} {A : Around} {E : Value → Shared → Prop} {s : Shared}
end
section
variable {X : Cx} {sd : List Slot} {e a b c tg iter : Expr} {es : List Expr} {pos : Pos} {r ra rb : R} {d : D} {ds : List D} {st : Stmt} {rest : List Stmt} {E : EndD}
end
end DL

namespace DL
open PySem PySem.Spec PyProof.Rows L2
def agree (bs : List Nat) (ws vs : List Int) : Prop := ∀ b ∈ bs, ws.getD b 0 = vs.getD b 0
theorem agree.trans {bs : List Nat} {ws vs us : List Int} (a : agree bs ws vs) (b : agree bs vs us) : agree bs ws us := fun x hx => (a x hx).trans (b x hx)
section
variable {p : Int × Int} {L : List SK} {look : List Nat}
end
section
variable (L : List SK) (look row : List Nat)
end
end DL

namespace DL
open PySem PySem.Spec PyProof.Rows L2
/-- what a slot was before: told in the older heap -/
def gV (K : PySem.W.Frag) (F0 : Hp) (d : D) : V → Hp → Prop := fun v F => Rep K F0 d v ∧ Same F0 F
def gst (K : PySem.W.Frag) (F0 : Hp) : Slot → Slot
  | .val d => .gh d (gV K F0 d)
  | z => z
theorem gst_ok {K : PySem.W.Frag} {F0 H : Hp} : ∀ {sd : List Slot} {σ : St}, SlotsOk K F0 H sd σ → SlotsOk K F0 H (sd.map (gst K F0)) σ
  | [], _, h => h
  | z :: zs, σ, h => by
    obtain ⟨o, r, rfl, a, b⟩ := h
    refine ⟨o, r, rfl, ?_, gst_ok b⟩
    cases z with
    | val d =>
      obtain ⟨v, e, q⟩ := a
      exact ⟨v, e, q, fun F' s => ⟨q, s⟩⟩
    | _ => exact a
theorem owned_gst {K : PySem.W.Frag} {F0 : Hp} : ∀ sd : List Slot, owned (sd.map (gst K F0)) = owned sd
  | [] => rfl
  | .un :: zs => owned_gst zs
  | .val _ :: zs => owned_gst zs
  | .gh _ _ :: zs => owned_gst zs
  | .own l _ :: zs => by
    show l :: owned (zs.map (gst K F0)) = l :: owned zs
    rw [owned_gst zs]
  | .od l _ _ :: zs => by
    show l :: owned (zs.map (gst K F0)) = l :: owned zs
    rw [owned_gst zs]
  | .ox ls _ :: zs => by
    show ls ++ owned (zs.map (gst K F0)) = ls ++ owned zs
    rw [owned_gst zs]
theorem StF.setG {K : PySem.W.Frag} {H₀ F H : Hp} {σ : St} {v : V} {sd : List Slot} {d : D} {G : V → Hp → Prop} (S : StF K H₀ F H σ sd) (i : Nat) (q : Rep K F d v) (g : ∀ F', Same F F' → G v F') : StF K H₀ F H (σ.set i (some v)) (sd.set i (.gh d G)) :=
  ⟨S.base, S.sub, S.smp, S.slots.set (z := .gh d G) ⟨v, rfl, q, g⟩ i, (owned_set i S.nd fun l e => by simp [ownL] at e).1⟩
def GLe (K : PySem.W.Frag) (F0 : Hp) : List Slot → List Slot → Prop
  | [], [] => True
  | z :: zs, u :: us => (u = .un ∨ ∃ d, z = .gh d (gV K F0 d) ∧ u = .val d) ∧ GLe K F0 zs us
  | _, _ => False
theorem GLe.slots {K : PySem.W.Frag} {F0 F H H' : Hp} : ∀ {sd sd' : List Slot} {σ : St}, GLe K F0 sd sd' → SlotsOk K F H sd σ → SlotsOk K F0 H' sd' σ ∧ owned sd' = []
  | [], [], _, _, h => ⟨h, rfl⟩
  | [], _ :: _, _, h, _ => h.elim
  | _ :: _, [], _, h, _ => h.elim
  | x :: xs, y :: ys, σ, h, q => by
    obtain ⟨h1, h2⟩ := h
    obtain ⟨o, r, rfl, a, b⟩ := q
    obtain ⟨c1, c2⟩ := GLe.slots (H' := H') h2 b
    rcases h1 with rfl | ⟨d, rfl, rfl⟩
    · exact ⟨⟨o, r, rfl, trivial, c1⟩, c2⟩
    · obtain ⟨v, e, _, g⟩ := a
      exact ⟨⟨o, r, rfl, ⟨v, e, (g F (Same.refl _)).1⟩, c1⟩, c2⟩
section
variable {X : Cx} {sd : List Slot} {e a b c tg iter o : Expr} {es : List Expr} {pos : Pos} {r ra rb : R} {d d' : D} {ds ls : List D} {st : Stmt} {rest : List Stmt} {E : EndD}
/-! ### a pair whose second is a list of ours -/
theorem PEd.valP (h : PEd X sd e (.pr d ls)) : PEd X sd e (.val (.tup [d, .lst ls])) := .mk fun σ F H S => (h σ F H S).imp fun v H' ⟨F', S', s, t, l, xs, y, e, ft, ry, n, q, rl, no⟩ => by
  obtain ⟨S2, s2⟩ := S'.freeze q n no
  refine ⟨_, S2, s.trans s2, ?_⟩
  show Rep _ _ _ _
  simp only [Rep]
  refine ⟨t, [y, .ref l], e, s2 _ _ ft, .cons (ry.mono s2) (.one ?_)⟩
  simp only [Rep]
  exact ⟨l, xs, rfl, upd_same, rl.mono s2⟩
/-- return (e, x), x a list of ours -/
theorem psd_retP (i : Nat) {x : Str} {p p2 : Pos} {l : Addr} {x1} (hs : sd[i]? = some (.own l ls)) (hx : PE X (.Name x p) (tVar i)) (h : PEd X sd e (.val d)) (hE : E.rt (.pr d ls))
    (hst : starEach [e, .Name x p] X.env = (false, eval e X.env) :: starEach [.Name x p] X.env := by rfl) (hst2 : starEach [.Name x p] X.env = (false, eval (.Name x p) X.env) :: starEach [] X.env := by rfl) : PSd1 X sd (.Return (some (.Tuple [e, .Name x p] x1 p2)) pos) E := .mk fun σ F H S =>
  (ps_ret (pe_tup (pa_cons pe_w (pa_cons hx pa_nil hst2) hst))).to ((h σ F H S).imp fun v H1 ⟨F1, S1, s1, q1⟩ => by
    obtain ⟨o', h1, h2, n, xs, q, rl⟩ := S1.slots.get hs
    refine ⟨.ref l, by rw [h1, h2], Nat.le_of_lt (small1000 (show 2 ≤ 1000 by decide)), fun p hp => ?_⟩
    obtain ⟨S2, s2⟩ := S1.lay (o := .tup [v, .ref l]) hp trivial
    have ne : l ≠ p := ne_of_none q hp
    exact ⟨.pr d ls, ⟨_, S2.base, S2.sub, S2.smp, p, l, xs, v, rfl, upd_same, Rep.mono s2 q1, by rw [upd_ne ne]; exact n, by rw [upd_ne ne]; exact q, rl.mono s2, by simp [owned]⟩, hE⟩)
theorem pd_varG (i : Nat) {x : Str} {G : V → Hp → Prop} (hs : sd[i]? = some (.gh d G)) (h : PE X (.Name x pos) (tVar i)) : PEd X sd (.Name x pos) (.val d) := .mk fun σ F H S => h.to (by
  obtain ⟨o, h1, v, h2, q, _⟩ := S.slots.get hs
  exact ⟨v, by rw [h1, h2], F, S, Same.refl _, q⟩)
/-- x = e, a pair with a list of ours: all that was known is remembered in the older heap -/
theorem psd_setP (i : Nat) {x : Str} {p : Pos} (hN : X.N.Nodup) (hi : X.N[i]? = some x) (hx : Loc X.env.scope x) (h : PEd X sd e (.pr d ls))
    (hE : ∀ (F0 : Hp) (t l : Addr) (y : V), Same X.H₀ F0 → F0 l = none → F0 t = some (.tup [y, .ref l]) → E.nx ((sd.map (gst X.K F0)).set i (.gh (.tup [d, .lst ls]) fun v F => v = .ref t ∧ Same F0 F))) (hs : swapsWith e (some (.Name x p)) pos.line X.env = pure false := by rfl)
    (hf : X.fn x = true ∨ X.env.scope.names.lookup x = some .local := by first | exact .inl rfl | exact .inr rfl | assumption) : PSd1 X sd (.Assign [.Name x p] e pos) E := .mk fun σ F H S =>
  (ps_set hN hi hx pe_w hs hf).to ((h σ F H S).imp fun v H' ⟨F', S', s', t, l, xs, y, e, ft, ry, n, q, rl, no⟩ => by
    have S1 : StF X.K X.H₀ F' H' σ (sd.map (gst X.K F')) := ⟨S'.base, S'.sub, S'.smp, gst_ok S'.slots, by rw [owned_gst]; exact S'.nd⟩
    obtain ⟨S2, s2⟩ := S1.freeze q n (by rw [owned_gst]; exact no)
    subst e
    refine ⟨_, _, S2.setG (d := .tup [d, .lst ls]) (v := .ref t) (G := fun v F => v = .ref t ∧ Same F' F) i ?_ fun F2 s3 => ⟨rfl, s2.trans s3⟩, s'.trans s2, hE F' t l y S'.base n ft⟩
    simp only [Rep]
    refine ⟨t, [y, .ref l], rfl, s2 _ _ ft, .cons (ry.mono s2) (.one ?_)⟩
    simp only [Rep]
    exact ⟨l, xs, rfl, upd_same, rl.mono s2⟩)
end
end DL

namespace DL
open PySem PySem.Spec PyProof.Rows L2
section
variable {X : Cx} {sd : List Slot} {e a b c tg iter o : Expr} {es : List Expr} {pos : Pos} {r ra rb : R} {d : D} {ds : List D} {st : Stmt} {rest : List Stmt} {E : EndD}
end
end DL

namespace DL
open PySem PySem.Spec PyProof.Rows L2
section
variable {X : Cx} {sd : List Slot} {e a b c tg iter o : Expr} {es : List Expr} {pos : Pos} {r ra rb : R} {d d' : D} {ds ls : List D} {st : Stmt} {rest : List Stmt} {E : EndD}
end
end DL

namespace DL
open PySem PySem.Spec PyProof.Rows L2
/-! ### a list of lists, all of them ours -/
def InL (H : Hp) : List Addr → List (List Int) → Prop
  | [], [] => True
  | a :: as, ns :: nss => H a = some (.lst (ns.map V.int)) ∧ InL H as nss
  | _, _ => False
theorem InL.len {H : Hp} : ∀ {as : List Addr} {nss : List (List Int)}, InL H as nss → as.length = nss.length
  | [], [], _ => rfl
  | [], _ :: _, h => h.elim
  | _ :: _, [], h => h.elim
  | _ :: as, _ :: nss, h => by rw [List.length_cons, List.length_cons, InL.len h.2]
theorem InL.mono {H H' : Hp} : ∀ {as : List Addr} {nss : List (List Int)}, InL H as nss → (∀ a ∈ as, ∀ ob, H a = some ob → H' a = some ob) → InL H' as nss
  | [], [], _, _ => trivial
  | [], _ :: _, h, _ => h.elim
  | _ :: _, [], h, _ => h.elim
  | a :: as, _ :: nss, h, k => ⟨k a List.mem_cons_self _ h.1, InL.mono h.2 fun b hb => k b (List.mem_cons_of_mem _ hb)⟩
theorem InL.app {H : Hp} : ∀ {as bs : List Addr} {nss mss : List (List Int)}, InL H as nss → InL H bs mss → InL H (as ++ bs) (nss ++ mss)
  | [], bs, [], mss, _, h => h
  | [], _, _ :: _, _, h, _ => h.elim
  | _ :: _, _, [], _, h, _ => h.elim
  | a :: as, bs, _ :: nss, mss, h, g => ⟨h.1, InL.app h.2 g⟩
theorem InL.get {H : Hp} : ∀ {as : List Addr} {nss : List (List Int)} {t : Nat} {a : Addr}, InL H as nss → as[t]? = some a → ∃ ns, nss[t]? = some ns ∧ H a = some (.lst (ns.map V.int))
  | [], [], t, a, _, e => by simp at e
  | [], _ :: _, _, _, h, _ => h.elim
  | _ :: _, [], _, _, h, _ => h.elim
  | b :: as, ns :: nss, 0, a, h, e => by
    have : b = a := by simpa using e
    subst this
    exact ⟨ns, rfl, h.1⟩
  | b :: as, ns :: nss, t + 1, a, h, e => by
    obtain ⟨ms, e1, e2⟩ := InL.get (t := t) h.2 (by simpa using e)
    exact ⟨ms, by simpa using e1, e2⟩
theorem InL.of {H : Hp} {as : List Addr} {nss : List (List Int)} (h : InL H as nss) : ∀ a ∈ as, ∃ ns : List Int, H a = some (.lst (ns.map V.int)) := fun a ha => by
  obtain ⟨t, ht⟩ := List.getElem?_of_mem ha
  obtain ⟨ns, _, e⟩ := h.get ht
  exact ⟨ns, e⟩
theorem InL.set {H : Hp} : ∀ {as : List Addr} {nss : List (List Int)} {t : Nat} {a : Addr} (ms : List Int), as.Nodup → InL H as nss → as[t]? = some a → InL (upd H a (.lst (ms.map V.int))) as (nss.set t ms)
  | [], [], t, a, _, _, _, e => by simp at e
  | [], _ :: _, _, _, _, _, h, _ => h.elim
  | _ :: _, [], _, _, _, _, h, _ => h.elim
  | b :: as, ns :: nss, 0, a, ms, nd, h, e => by
    have : b = a := by simpa using e
    subst this
    refine ⟨upd_same, h.2.mono fun c hc ob q => ?_⟩
    rw [upd_ne (show c ≠ b from fun z => (List.nodup_cons.mp nd).1 (z ▸ hc))]
    exact q
  | b :: as, ns :: nss, t + 1, a, ms, nd, h, e => by
    have e' : as[t]? = some a := by simpa using e
    refine ⟨?_, InL.set ms (List.nodup_cons.mp nd).2 h.2 e'⟩
    rw [upd_ne (show b ≠ a from fun z => (List.nodup_cons.mp nd).1 (z ▸ List.mem_of_getElem? e'))]
    exact h.1
def lI (ns : List Int) : D := .lst (ns.map D.int)
section
variable {K : PySem.W.Frag} {H₀ F F' H H' : Hp} {σ : St} {sd : List Slot} {i : Nat} {l : Addr} {ls : List Addr} {nss : List (List Int)}
def outF (F : Hp) : List Addr → Hp
  | [] => F
  | a :: as => del (outF F as) a
theorem outF_ni : ∀ {as : List Addr} {a : Addr}, a ∉ as → outF F as a = F a
  | [], _, _ => rfl
  | b :: as, a, h => by
    show del (outF F as) b a = F a
    rw [del_ne (show a ≠ b from fun e => h (e ▸ List.mem_cons_self))]
    exact outF_ni fun z => h (List.mem_cons_of_mem _ z)
theorem Rep.delN {d : D} {v : V} (hn : noL d = true) (r : Rep K F d v) : ∀ {as : List Addr}, as.Nodup → (∀ a ∈ as, ∃ xs, F a = some (.lst xs)) → Rep K (outF F as) d v
  | [], _, _ => r
  | a :: as, nd, h => by
    obtain ⟨n1, n2⟩ := List.nodup_cons.mp nd
    obtain ⟨xs, e⟩ := h a List.mem_cons_self
    exact Rep.del (xs := xs) (by rw [outF_ni n1]; exact e) hn (Rep.delN hn r n2 fun b hb => h b (List.mem_cons_of_mem _ hb))
theorem RepL.delN {ds : List D} {vs : List V} (hn : noLs ds = true) (r : RepL K F ds vs) : ∀ {as : List Addr}, as.Nodup → (∀ a ∈ as, ∃ xs, F a = some (.lst xs)) → RepL K (outF F as) ds vs
  | [], _, _ => r
  | a :: as, nd, h => by
    obtain ⟨n1, n2⟩ := List.nodup_cons.mp nd
    obtain ⟨xs, e⟩ := h a List.mem_cons_self
    exact RepL.del (xs := xs) (by rw [outF_ni n1]; exact e) hn (RepL.delN hn r n2 fun b hb => h b (List.mem_cons_of_mem _ hb))
end
section
variable {X : Cx} {sd : List Slot} {e a b c tg iter o : Expr} {es : List Expr} {pos : Pos} {r ra rb : R} {d : D} {ds : List D} {st : Stmt} {rest : List Stmt} {E : EndD} {l : Addr} {ls : List Addr} {nss : List (List Int)} {ns : List Int}
end
end DL

namespace DL
open PySem PySem.Spec PyProof.Rows L2
/-! ### a comprehension whose items are fresh lists -/
def InD (K : PySem.W.Frag) (F H : Hp) : List Addr → List (List D) → Prop
  | [], [] => True
  | a :: as, ds :: dss => (∃ xs, H a = some (.lst xs) ∧ RepL K F ds xs) ∧ InD K F H as dss
  | _, _ => False
section
variable {K : PySem.W.Frag} {F F' H H' : Hp}
theorem InD.len : ∀ {as : List Addr} {dss : List (List D)}, InD K F H as dss → as.length = dss.length
  | [], [], _ => rfl
  | [], _ :: _, h => h.elim
  | _ :: _, [], h => h.elim
  | _ :: as, _ :: dss, h => by rw [List.length_cons, List.length_cons, InD.len h.2]
theorem InD.of : ∀ {as : List Addr} {dss : List (List D)}, InD K F H as dss → ∀ a ∈ as, ∃ xs, H a = some (.lst xs)
  | [], [], _, a, ha => by cases ha
  | [], _ :: _, h, _, _ => h.elim
  | _ :: _, [], h, _, _ => h.elim
  | b :: as, _ :: dss, h, a, ha => by
    rcases List.mem_cons.mp ha with rfl | ha
    · exact ⟨h.1.choose, h.1.choose_spec.1⟩
    · exact InD.of h.2 a ha
theorem InD.mono : ∀ {as : List Addr} {dss : List (List D)}, InD K F F as dss → Same F F' → InD K F' F' as dss
  | [], [], _, _ => trivial
  | [], _ :: _, h, _ => h.elim
  | _ :: _, [], h, _ => h.elim
  | _ :: as, _ :: dss, h, s => by
    obtain ⟨⟨xs, e, r⟩, h2⟩ := h
    exact ⟨⟨xs, s _ _ e, r.mono s⟩, InD.mono h2 s⟩
theorem InD.app : ∀ {as bs : List Addr} {dss ess : List (List D)}, InD K F H as dss → InD K F H bs ess → InD K F H (as ++ bs) (dss ++ ess)
  | [], bs, [], ess, _, h => h
  | [], _, _ :: _, _, h, _ => h.elim
  | _ :: _, _, [], _, h, _ => h.elim
  | a :: as, bs, _ :: dss, ess, h, g => ⟨h.1, InD.app h.2 g⟩
theorem InD.out {cs : List Addr} {Fb : Hp} : ∀ {as : List Addr} {dss : List (List D)}, InD K Fb Fb as dss → (∀ es ∈ dss, noLs es = true) → cs.Nodup → (∀ a ∈ cs, ∃ xs, Fb a = some (.lst xs)) → Same (outF Fb cs) F' → (∀ a ∈ as, ∀ ob, Fb a = some ob → H' a = some ob) → InD K F' H' as dss
  | [], [], _, _, _, _, _, _ => trivial
  | [], _ :: _, h, _, _, _, _, _ => h.elim
  | _ :: _, [], h, _, _, _, _, _ => h.elim
  | a :: as, es :: dss, h, hn, nd, fx, s, k => by
    obtain ⟨⟨xs, e, r⟩, h2⟩ := h
    exact ⟨⟨xs, k a List.mem_cons_self _ e, (RepL.delN (hn es List.mem_cons_self) r nd fx).mono s⟩, InD.out h2 (fun x hx => hn x (List.mem_cons_of_mem _ hx)) nd fx s fun b hb => k b (List.mem_cons_of_mem _ hb)⟩
end
def GD (K : PySem.W.Frag) (l : Addr) (ls : List Addr) (dss : List (List D)) : V → Hp → Hp → Prop := fun v F H => v = .ref l ∧ H l = some (.lst (ls.map V.ref)) ∧ InD K F H ls dss
section
variable {X : Cx} {sd : List Slot} {e a b c tg iter : Expr} {es : List Expr} {pos : Pos} {r ra rb : R} {d : D} {ds : List D} {st : Stmt} {rest : List Stmt} {E : EndD}
end
end DL

namespace DL
open PySem PySem.Spec PyProof.Rows L2
section
variable {K : PySem.W.Frag} {H₀ F F' H H' : Hp} {σ : St} {sd : List Slot} {i : Nat} {l : Addr} {ls : List Addr} {dss : List (List D)}
theorem InD.mono2 : ∀ {as : List Addr} {dss : List (List D)}, InD K F H as dss → Same F F' → (∀ a ∈ as, ∀ ob, H a = some ob → H' a = some ob) → InD K F' H' as dss
  | [], [], _, _, _ => trivial
  | [], _ :: _, h, _, _ => h.elim
  | _ :: _, [], h, _, _ => h.elim
  | a :: as, _ :: dss, h, s, k => by
    obtain ⟨⟨xs, e, r⟩, h2⟩ := h
    exact ⟨⟨xs, k a List.mem_cons_self _ e, r.mono s⟩, InD.mono2 h2 s fun b hb => k b (List.mem_cons_of_mem _ hb)⟩
theorem InD.get : ∀ {as : List Addr} {dss : List (List D)} {t : Nat} {a : Addr}, InD K F H as dss → as[t]? = some a → ∃ ds xs, dss[t]? = some ds ∧ H a = some (.lst xs) ∧ RepL K F ds xs
  | [], [], t, a, _, e => by simp at e
  | [], _ :: _, _, _, h, _ => h.elim
  | _ :: _, [], _, _, h, _ => h.elim
  | b :: as, ds :: dss, 0, a, h, e => by
    have : b = a := by simpa using e
    subst this
    obtain ⟨⟨xs, e1, r⟩, _⟩ := h
    exact ⟨ds, xs, rfl, e1, r⟩
  | b :: as, ds :: dss, t + 1, a, h, e => by
    obtain ⟨ms, xs, e1, e2⟩ := InD.get (t := t) h.2 (by simpa using e)
    exact ⟨ms, xs, by simpa using e1, e2⟩
theorem InD.set : ∀ {as : List Addr} {dss : List (List D)} {t : Nat} {a : Addr} {es : List D} {ys : List V}, as.Nodup → InD K F H as dss → as[t]? = some a → RepL K F es ys → InD K F (upd H a (.lst ys)) as (dss.set t es)
  | [], [], t, a, _, _, _, _, e, _ => by simp at e
  | [], _ :: _, _, _, _, _, _, h, _, _ => h.elim
  | _ :: _, [], _, _, _, _, _, h, _, _ => h.elim
  | b :: as, ds :: dss, 0, a, es, ys, nd, h, e, r => by
    have : b = a := by simpa using e
    subst this
    refine ⟨⟨ys, upd_same, r⟩, h.2.mono2 (Same.refl _) fun c hc ob q => ?_⟩
    rw [upd_ne (show c ≠ b from fun z => (List.nodup_cons.mp nd).1 (z ▸ hc))]
    exact q
  | b :: as, ds :: dss, t + 1, a, es, ys, nd, h, e, r => by
    have e' : as[t]? = some a := by simpa using e
    obtain ⟨⟨xs, e1, r1⟩, h2⟩ := h
    refine ⟨⟨xs, ?_, r1⟩, InD.set (List.nodup_cons.mp nd).2 h2 e' r⟩
    rw [upd_ne (show b ≠ a from fun z => (List.nodup_cons.mp nd).1 (z ▸ List.mem_of_getElem? e'))]
    exact e1
end
section
variable {X : Cx} {sd : List Slot} {e a b c tg iter o : Expr} {es : List Expr} {pos : Pos} {r ra rb : R} {d : D} {ds : List D} {st : Stmt} {rest : List Stmt} {E : EndD} {l : Addr} {ls : List Addr} {dss : List (List D)}
end
end DL

namespace DL
open PySem PySem.Spec PyProof.Rows L2
section
variable {X : Cx} {sd : List Slot} {e a b c ix : Expr} {pos : Pos} {d : D} {ds : List D} {E : EndD} {l : Addr} {ls : List Addr} {dss : List (List D)}
end
end DL

namespace DL
open PySem PySem.Spec PyProof.Rows L2
theorem plL_map' {α : Type} (f : α → D) (h : ∀ a, pl (f a) = true) : ∀ l : List α, plL (l.map f) = true
  | [] => rfl
  | a :: l => by
    show (pl (f a) && plL (l.map f)) = true
    rw [h a, plL_map' f h l]
    rfl
theorem depL_map' {α : Type} (f : α → D) (n : Nat) (h : ∀ a, dep (f a) ≤ n) : ∀ l : List α, depL (l.map f) ≤ n
  | [] => Nat.zero_le _
  | a :: l => Nat.max_le.mpr ⟨h a, depL_map' f n h l⟩
def WsOk (p : Int × Int) (o : Option (List (List Int))) : Prop := ∀ L, o = some L → 0 < L.length ∧ L.length ≤ 100 ∧ ∀ ws ∈ L, Fil p ws
structure WishOk (p : Int × Int) (w : List (Option (List (List Int)))) : Prop where
  len : w.length = (filA p).length
  ok : ∀ o ∈ w, WsOk p o
end DL

namespace DL
open PySem PySem.Spec PyProof.Rows L2
end DL

namespace DL
open PySem PySem.Spec PyProof.Rows L2
section
variable {X : Cx} {sd : List Slot} {e a b c : Expr} {pos : Pos} {ds : List D}
theorem cutD_drop (ds : List D) (k : Nat) : DL.cutD ds (some (k : Int)) none = ds.drop k := by
  unfold DL.cutD
  rw [HT.sIx_nat, HT.sIx_none]
  by_cases q : k ≤ ds.length
  · rw [Nat.min_eq_left q]
    exact List.take_of_length_le (by simp)
  · rw [Nat.min_eq_right (by omega), List.drop_of_length_le (Nat.le_refl _), List.drop_of_length_le (by omega)]
    simp
/-- a statement after which all ways meet at the slots sd' -/
theorem PSd1.imp {st : Stmt} {E E' : EndD} (h : PSd1 X sd st E) (k1 : ∀ sd, E.nx sd → E'.nx sd) (k2 : ∀ r, E.rt r → E'.rt r) (k3 : ∀ sd, E.bk sd → E'.bk sd) (k4 : ∀ sd, E.ct sd → E'.ct sd) : PSd1 X sd st E' := .mk fun σ F H S =>
  wS.imp (h σ F H S) (fun _ _ ⟨sd2, F2, S2, s2, q2⟩ => ⟨sd2, F2, S2, s2, k1 _ q2⟩) (fun _ _ ⟨r, q, q2⟩ => ⟨r, q, k2 _ q2⟩) (fun _ _ ⟨sd2, F2, S2, s2, q2⟩ => ⟨sd2, F2, S2, s2, k3 _ q2⟩) fun _ _ ⟨sd2, F2, S2, s2, q2⟩ => ⟨sd2, F2, S2, s2, k4 _ q2⟩
/-- l[k:] -/
theorem pd_dropL {k : Nat} {p2 : Pos} (ha : PEd X sd a (.bor ds)) (hb : PEd X sd b (.val (.int (k : Int)))) : PEd X sd (.Subscript a (.Slice (some b) none none p2) pos) (.own (ds.drop k)) :=
  PEd.cast (pd_slL (ol := some (k : Int)) (oh := none) ha hb trivial) (by rw [cutD_drop])
end
end DL

namespace DL
open PySem PySem.Spec PyProof.Rows L2
/-! ### setdefault with a tuple as the key -/
section
variable {prog : Program} {w : World} {K : Type} [DecidableEq K] {knd : HeapKind prog w K} {A : Around} {E : Value → Shared → Prop} {s : Shared}
end
section
variable {prog : Program} {w : World} {K : Type} [DecidableEq K] (knd : HeapKind prog w K) (d a : Addr)
end
section
variable {X : Cx} {o e : Expr} {es : List Expr} {to : TE} {t : TA} {name : Str} {apos cpos : Pos} {id : String} {r : V → List V → Hp → VK → Prop}
end
end DL

namespace DL
open PySem PySem.Spec PyProof.Rows L2
/-! ### a dict of fresh lists, tuples as keys -/
def Gg (P : Program) (w : World) (K : PySem.W.Frag) (l : Addr) (ks : List (List Key)) (ls : List Addr) (dss : List (List D)) : V → Hp → Hp → Prop := fun v F H => v = .ref l ∧ (∃ o, H l = some (exO l o) ∧ (∀ v, o.data ≠ .cell v) ∧ ks.length = ls.length ∧ TDo P w F l o (ks.zip (ls.map V.ref))) ∧ InD K F H ls dss
def odG (P : Program) (w : World) (K : PySem.W.Frag) (l : Addr) (ks : List (List Key)) (ls : List Addr) (dss : List (List D)) : Slot := .ox (l :: ls) (Gg P w K l ks ls dss)
section
variable {K : PySem.W.Frag} {H₀ F F' H H' : Hp} {σ : St} {sd : List Slot} {i : Nat} {l : Addr} {ls : List Addr} {dss : List (List D)} {P : Program} {w : World} {ks : List (List Key)}
theorem InD.snoc {a : Addr} : ∀ {as : List Addr} {dss : List (List D)}, InD K F H as dss → H a = some (.lst []) → InD K F H (as ++ [a]) (dss ++ [[]])
  | [], [], _, e => ⟨⟨[], e, .nil⟩, trivial⟩
  | [], _ :: _, h, _ => h.elim
  | _ :: _, [], h, _ => h.elim
  | _ :: _, _ :: _, h, e => ⟨h.1, InD.snoc h.2 e⟩
end
section
variable {X : Cx} {sd : List Slot} {e a b c : Expr} {pos : Pos} {d : D} {ds : List D} {ks : List (List Key)} {k : List Key} {st : Stmt} {E : EndD} {l : Addr} {ls : List Addr} {dss : List (List D)}
end
end DL

namespace DL
open PySem PySem.Spec PyProof.Rows L2
section
variable {X : Cx} {sd : List Slot} {e a b c tg iter o : Expr} {es : List Expr} {pos : Pos} {r ra rb : R} {d : D} {ds : List D} {st : Stmt} {rest : List Stmt} {E : EndD}
end
end DL

namespace DL
open PySem PySem.Spec PyProof.Rows L2
section
variable {X : Cx} {sd : List Slot} {e a b c tg iter o : Expr} {es : List Expr} {pos : Pos} {r ra rb : R} {d : D} {ds : List D} {st : Stmt} {rest : List Stmt} {E : EndD}
end
end DL

namespace DL
open PySem PySem.Spec PyProof.Rows L2
end DL

namespace DL
open PySem PySem.Spec PyProof.Rows L2
section
variable {p : Int × Int} {τ : List Nat} {T U : List (List Int)}
end
end DL

namespace DL
open PySem PySem.Spec PyProof.Rows L2
end DL

namespace DL
open PySem PySem.Spec PyProof.Rows L2
/-! ### t < u of any two tuples -/
def LtAt (A : Around) (s : Shared) (x y : Value) (b : Bool) : Prop := ∀ (prog : Program) (w : World) (E : Value → Shared → Prop) (Q : Value → Shared → Prop), Q (.bool b) s → wpAny (model prog w) A (richCompare .Lt x y) Q E s
inductive LexV (A : Around) (s : Shared) (fin : Bool) : List (Value × Value) → Bool → Prop
  | nil : LexV A s fin [] fin
  | eq {x y : Value} {r : List (Value × Value)} {b : Bool} : SeqAt.EqAt A.in1 s x y true → LexV A s fin r b → LexV A s fin ((x, y) :: r) b
  | lt {x y : Value} {r : List (Value × Value)} {b : Bool} : SeqAt.EqAt A.in1 s x y false → LtAt A.in1 s x y b → LexV A s fin ((x, y) :: r) b
section
open PySem.SeqAt
open PySem.AutoSeq1 (wpAny_loadPart')
open PySem.MeetsSeq PySem.MeetsSeq2 PySem.MeetsSeq3
theorem tuple_lt_gen (l b : Addr) (items items2 : Array Value) (n n2 : Nat) (dd dd2 : Option Addr) (sl sl2 : Array (Option Value)) (res : Bool) :
    Meets (Builtin.«tuple.__lt__» ⟨[.ref l, .ref b], []⟩)
      (fun A R s => s.heap.get? l = some { cls := .type "tuple", dict := dd, data := .seq items n, slots := sl } ∧ s.heap.get? b = some { cls := .type "tuple", dict := dd2, data := .seq items2 n2, slots := sl2 } ∧
        LexV A s (decide (items.size < items2.size)) (items.toList.zip items2.toList) res ∧ R (.ok (.ret (.bool res))) s) :=
  .of_wp fun prog w A R s h => by
    obtain ⟨hp, g, d, tk, os⟩ := s; obtain ⟨hl, hb, hx, h⟩ := h
    have f2 := AutoSeq1.sub_tuple_tuple
    wp_walk using wpAny_loadPart' hl, wpAny_loadPart' hb, wpAny_forIn_list _ (fun rest b s' => b.1 = none ∧ s' = ⟨hp, g, d, tk, os⟩ ∧ LexV A ⟨hp, g, d, tk, os⟩ (decide (items.size < items2.size)) rest res) _
    case turn =>
      rintro ⟨y, x⟩ rest b s' ⟨hb', rfl, hv⟩
      cases hv with
      | eq he hr =>
        refine wpAny_bind (he prog w _ _ ?_)
        wp_walk
        exact ⟨rfl, rfl, hr⟩
      | lt he hlt =>
        refine wpAny_bind (he prog w _ _ ?_)
        have hri := hlt prog w
        wp_walk using hri
        exact ⟨_, rfl, by simpa using h⟩
    case fin =>
      rintro ⟨b1, b2⟩ s' ⟨hb', rfl, hv⟩
      simp only at hb'
      subst hb'
      cases hv
      wp_walk
      exact ⟨_, rfl, by simpa [Builtin.Tuple.tupleCompareSizes] using h⟩
    case h =>
      exact ⟨rfl, rfl, hx⟩
theorem lt_tup_gen {A : Around} {s : Shared} {l b : Addr} {items items2 : Array Value} {res : Bool} (hl : IsTup s.heap l items) (hb : IsTup s.heap b items2) (hx : LexV A s (decide (items.size < items2.size)) (items.toList.zip items2.toList) res)
    (hu : A.units < cLine) : LtAt A s (.ref l) (.ref b) res := fun prog w E Q h => by
  obtain ⟨⟨cls, dd, data, sl⟩, ho, hc, n, hd⟩ := id hl
  obtain ⟨⟨cls2, dd2, data2, sl2⟩, ho2, hc2, n2, hd2⟩ := id hb
  simp only at hc hd hc2 hd2
  subst hc hd hc2 hd2
  exact richCompare_meets_room (op := .Lt) ⟨_, ho, rfl⟩ ⟨_, ho2, rfl⟩ PySem.F.slot_tuple_lt PySem.F.entry_tuple_lt (PySem.F.args_tuple_lt_2 _ _) (tuple_lt_gen l b items items2 n n2 dd dd2 sl sl2 res)
    ⟨ho, ho2, hx, show Value.bool res ≠ Value.notImplemented ∧ Q (.bool res) s from ⟨(fun x => nomatch x), h⟩⟩ hu
end
end DL
namespace DL
open PySem PySem.Spec PyProof.Rows L2
mutual
def dlt : D → D → Bool
  | .int a, .int b => decide (a < b)
  | .tup a, .tup b => dltL a b
  | _, _ => false
def dltL : List D → List D → Bool
  | [], [] => false
  | [], _ :: _ => true
  | _ :: _, [] => false
  | d :: ds, e :: es => if deq d e = true then dltL ds es else dlt d e
end
mutual
def cmp2 : D → D → Bool
  | .int _, .int _ => true
  | .tup a, .tup b => cmpL a b
  | _, _ => false
def cmpL : List D → List D → Bool
  | [], _ => true
  | _ :: _, [] => true
  | d :: ds, e :: es => cmp2 d e && cmpL ds es
end
section
variable {P : Program} {w : World} {K : PySem.W.Frag} {H : Hp} {s : Shared}
mutual
theorem ltAt_D (hok : HOk P w H s.heap) : ∀ (d : D) {d2 : D} {v1 v2 : V} {u1 u2 : Value} {A : Around}, cmp2 d d2 = true → pl d = true → pl d2 = true → Rep K H d v1 → Rep K H d2 v2 → RelV v1 u1 → RelV v2 u2 → A.units + dep d < cLine → LtAt A s u1 u2 (dlt d d2)
  | .int a, d2, v1, v2, u1, u2, A, c, p1, p2, r1, r2, ru1, ru2, hu => by
    cases d2 with
    | int b =>
      simp only [Rep] at r1 r2
      subst r1 r2
      obtain ⟨t, rfl⟩ := ru1
      obtain ⟨t2, rfl⟩ := ru2
      simp only [dlt]
      exact fun prog w E Q h => (PyProof.Rows.lt_int h : wpAny (model prog w) A (compareOp .Lt (.int a t) (.int b t2)) Q E s)
    | _ => simp [cmp2] at c
  | .tup ds, d2, v1, v2, u1, u2, A, c, p1, p2, r1, r2, ru1, ru2, hu => by
    cases d2 with
    | tup es =>
      obtain ⟨a, xs, its, rfl, rfl, rl, rv, ht⟩ := tup_at hok r1 ru1
      obtain ⟨b, ys, jts, rfl, rfl, rl2, rv2, ht2⟩ := tup_at hok r2 ru2
      simp only [dlt]
      have l1 : its.length = ds.length := by rw [← rv.length, rl.len]
      have l2 : jts.length = es.length := by rw [← rv2.length, rl2.len]
      simp only [pl] at p1 p2
      simp only [dep] at hu
      simp only [cmp2] at c
      refine lt_tup_gen ht ht2 ?_ (by omega)
      exact ltAt_L hok ds c p1 p2 rl rl2 rv rv2 (by omega) (by simp [l1, l2])
    | _ => simp [cmp2] at c
  | .non, d2, _, _, _, _, _, c, _, _, _, _, _, _, _ => by cases d2 <;> simp [cmp2] at c
  | .bl _, d2, _, _, _, _, _, c, _, _, _, _, _, _, _ => by cases d2 <;> simp [cmp2] at c
  | .str _, d2, _, _, _, _, _, c, _, _, _, _, _, _, _ => by cases d2 <;> simp [cmp2] at c
  | .lst _, d2, _, _, _, _, _, c, _, _, _, _, _, _, _ => by cases d2 <;> simp [cmp2] at c
  | .dic, d2, _, _, _, _, _, c, _, _, _, _, _, _, _ => by cases d2 <;> simp [cmp2] at c
  | .dki _ _, d2, _, _, _, _, _, c, _, _, _, _, _, _, _ => by cases d2 <;> simp [cmp2] at c
  | .scr _, d2, _, _, _, _, _, c, _, _, _, _, _, _, _ => by cases d2 <;> simp [cmp2] at c
theorem ltAt_L (hok : HOk P w H s.heap) : ∀ (ds : List D) {es : List D} {xs ys : List V} {its jts : List Value} {A : Around} {fin : Bool}, cmpL ds es = true → plL ds = true → plL es = true → RepL K H ds xs → RepL K H es ys → Vals xs its → Vals ys jts → A.units + 1 + depL ds < cLine → fin = decide (ds.length < es.length) → LexV A s fin (its.zip jts) (dltL ds es)
  | [], es, xs, ys, its, jts, A, fin, c, p1, p2, r1, r2, v1, v2, hu, hf => by
    simp only [RepL] at r1
    subst r1
    cases v1
    subst hf
    rw [List.zip_nil_left]
    cases es with
    | nil => exact .nil
    | cons e es =>
      have : dltL [] (e :: es) = decide (([] : List D).length < (e :: es).length) := by simp [dltL]
      rw [this]
      exact .nil
  | d :: ds, [], xs, ys, its, jts, A, fin, c, p1, p2, r1, r2, v1, v2, hu, hf => by
    simp only [RepL] at r2
    subst r2
    cases v2
    subst hf
    rw [List.zip_nil_right]
    have : dltL (d :: ds) [] = decide ((d :: ds).length < ([] : List D).length) := by simp [dltL]
    rw [this]
    exact .nil
  | d :: ds, e :: es, xs, ys, its, jts, A, fin, c, p1, p2, r1, r2, v1, v2, hu, hf => by
    obtain ⟨x, xs, rfl, a1, r1⟩ := r1.uncons
    obtain ⟨y, ys, rfl, a2, r2⟩ := r2.uncons
    simp only [plL, Bool.and_eq_true] at p1 p2
    simp only [cmpL, Bool.and_eq_true] at c
    simp only [depL] at hu
    cases v1 with
    | cons q1 v1 =>
      cases v2 with
      | cons q2 v2 =>
        rw [List.zip_cons_cons]
        have he := eqAt_D (A := A.in1) hok d p1.1 p2.1 a1 a2 q1 q2 (by show A.units + 1 + dep d < cLine; omega)
        simp only [dltL]
        by_cases z : deq d e = true
        · rw [if_pos z]
          rw [z] at he
          exact .eq he (ltAt_L hok ds c.2 p1.2 p2.2 r1 r2 v1 v2 (by omega) (by rw [hf]; simp))
        · rw [if_neg z]
          rw [Bool.eq_false_iff.mpr z] at he
          exact .lt he (ltAt_D (A := A.in1) hok d c.1 p1.1 p2.1 a1 a2 q1 q2 (by show A.units + 1 + dep d < cLine; omega))
end
end
section
variable {X : Cx} {sd : List Slot} {e a b c tg iter o : Expr} {es : List Expr} {pos : Pos} {r ra rb : R} {d d1 d2 : D} {ds ls : List D} {st : Stmt} {rest : List Stmt} {E : EndD}
end
end DL

namespace DL
open PySem PySem.Spec PyProof.Rows L2
section
variable {prog : Program} {w : World} {A : Around} {E : Value → Shared → Prop} {s : Shared}
open HT
end
end DL

namespace DL
open PySem PySem.Spec PyProof.Rows L2
section
variable {X : Cx} {sd : List Slot} {e a b c tg iter o : Expr} {es : List Expr} {pos : Pos} {r ra rb : R} {d : D} {ds : List D} {st : Stmt} {rest : List Stmt} {E : EndD}
end
end DL

namespace DL
open PySem PySem.Spec PyProof.Rows L2
section
variable {X : Cx} {sd : List Slot} {e a b c : Expr} {pos : Pos} {d : D} {ds : List D}
end
/-! ### the words told, each once, and the fillings that have them -/
def kY (ws : List Int) : List Key := ws.map Sum.inl
end DL

namespace DL
open PySem PySem.Spec PyProof.Rows L2
section
variable {X : Cx} {sd : List Slot} {a b c e : Expr} {pos : Pos} {ds : List D} {d : D}
/-- a op b op' c as a test, whole numbers -/
theorem ptd_chainI {op op' : CmpOp} {g g' : Int → Int → Bool} {i j l : Int} (ho : OpR X (compareOp op) (rI0 fun i j => .bl (g i j))) (ho' : OpR X (compareOp op') (rI0 fun i j => .bl (g' i j))) (ha : PEd X sd a (.val (.int i))) (hb : PEd X sd b (.val (.int j))) (hc : PEd X sd c (.val (.int l))) (hm : lastMarks [op, op'] [b, c] = false := by with_unfolding_all rfl) : PTd X sd (.Compare a [op, op'] [b, c] pos) (g i j && g' j l) := .mk fun σ F H S =>
  (pt_chain ho ho' pe_w pe_w pe_w hm).to ((ha σ F H S).imp fun v H1 ⟨F1, S1, s1, q1⟩ => (hb σ F1 H1 S1).imp fun u H2 ⟨F2, S2, s2, q2⟩ => by
    simp only [ResOk, Rep] at q1 q2
    refine ⟨i, j, q1, q2, g i j, rfl, ?_⟩
    cases hk : g i j with
    | true =>
      rw [if_pos rfl]
      refine (hc σ F2 H2 S2).imp fun w H3 ⟨F3, S3, s3, q3⟩ => ?_
      simp only [ResOk, Rep] at q3
      exact ⟨j, l, q2, q3, _, rfl, by simp, F3, S3, s1.trans (s2.trans s3)⟩
    | false =>
      rw [if_neg (by decide)]
      exact ⟨_, rfl, by simp, F2, S2, s1.trans s2⟩)
end
end DL

namespace DL
open PySem PySem.Spec PyProof.Rows L2
/-! ### texts -/
theorem strs_vals : ∀ {ss : List Str} {us : List Value}, Vals (ss.map V.str) us → ∃ l : List (Str × Tok), us = strValues l ∧ l.map (·.1) = ss
  | [], _, .nil => ⟨[], rfl, rfl⟩
  | x :: ss, _ :: _, .cons r t => by
    obtain ⟨k, rfl⟩ := r
    obtain ⟨l, e1, e2⟩ := strs_vals t
    exact ⟨(x, k) :: l, by rw [e1]; rfl, by rw [← e2]; rfl⟩
theorem vals_strs : ∀ (l : List (Str × Tok)), Vals ((l.map (·.1)).map V.str) (strValues l)
  | [] => .nil
  | p :: l => .cons ⟨p.2, rfl⟩ (vals_strs l)
def catS (acc : Str) : List Str → Str
  | [] => acc
  | z :: zs => catS (acc ++ z) zs
theorem catS_len : ∀ (zs : List Str) (acc : Str), acc.length ≤ (catS acc zs).length
  | [], acc => Nat.le_refl _
  | z :: zs, acc => Nat.le_trans (by rw [strLen_append]; omega) (catS_len zs (acc ++ z))
section
variable {prog : Program} {w : World} {A : Around} {E : Value → Shared → Prop} {s : Shared}
theorem split_at {x y : Str} {t u : Tok} {Q : Value → Shared → Prop} (hy : (y.length == 0) = false) (hx : x.length ≤ 100000) (hp : (Txt.split x y).length ≤ 100000)
    (hq : ∀ l tk, l.map Prod.fst = Txt.split x y → Q (.ref s.heap.objs.size) { s with heap := s.heap.push { cls := .type "list", data := .seq (strValues l).toArray }, toks := tk }) :
    wpAny (model prog w) A (call (.builtin "str.split") [.str x t, .str y u]) Q E s := by
  have hz : x.length ≤ sizeLine := by rw [sizeLine_eq]; omega
  by_cases h1 : (decide (x.length < y.length) || decide (Builtin.Str.strKind x < Builtin.Str.strKind y)) = true
  · have g := meets_str_split_cannot_occur x y t u h1
    exact call_meets PySem.F.slot_str_split (typeIs_str _ _ _) PySem.F.entry_str_split (PySem.F.args_str_split_2 _ _) g (hq [(x, t)] s.toks (if_pos h1).symm)
  · have h1f : (decide (x.length < y.length) || decide (Builtin.Str.strKind x < Builtin.Str.strKind y)) = false := by simpa using h1
    by_cases h2 : (Builtin.Str.occurrences x y 0 x.length (x.length + 1)).isEmpty = true
    · have g := meets_str_split_not_found x y t u h1f hy h2
      exact call_meets PySem.F.slot_str_split (typeIs_str _ _ _) PySem.F.entry_str_split (PySem.F.args_str_split_2 _ _) g (hq [(x, t)] s.toks ((if_neg h1).trans (if_pos h2)).symm)
    · have e : Txt.split x y = Builtin.Str.partsBetween x (Builtin.Str.occurrences x y 0 x.length (x.length + 1)) y.length := (if_neg h1).trans (if_neg h2)
      have g := meets_str_split_sep x y t u h1f hy (by simpa using h2) hz (by rw [← e, sizeLine_eq]; omega)
      refine call_meets PySem.F.slot_str_split (typeIs_str _ _ _) PySem.F.entry_str_split (PySem.F.args_str_split_2 _ _) g ?_
      have k := hq (numbered s.toks (Txt.split x y)) (s.toks + (Txt.split x y).length) (numbered_texts _ _)
      rw [e] at k
      show wants Q E _ { s with toks := _, heap := s.heap.push { cls := .type "list", data := .seq (strsFrom s.toks _).toArray } }
      rw [strsFrom_eq]
      exact k
theorem part_at {x y : Str} {t u : Tok} {Q : Value → Shared → Prop} (hy : (y.length == 0) = false) (hx : x.length ≤ 100000)
    (hq : ∀ t1 t2 t3 tk, Q (.ref s.heap.objs.size) { s with heap := s.heap.push { cls := .type "tuple", data := .seq [.str (Txt.partition x y).1 t1, .str (Txt.partition x y).2.1 t2, .str (Txt.partition x y).2.2 t3].toArray }, toks := tk }) :
    wpAny (model prog w) A (call (.builtin "str.partition") [.str x t, .str y u]) Q E s := by
  have hz : x.length ≤ sizeLine := by rw [sizeLine_eq]; omega
  refine call_meets PySem.F.slot_str_partition (typeIs_str _ _ _) PySem.F.entry_str_partition (PySem.F.args_str_partition_2 _ _) (meets_str_partition x y t u hy hz) ?_
  have e : Txt.partition x y = match Builtin.Str.occurrences x y 0 x.length 1 with | i :: _ => (Builtin.Str.strSub x 0 i, y, Builtin.Str.strSub x (i + y.length) x.length) | [] => (x, Str.empty, Str.empty) := rfl
  rw [e] at hq
  cases h : Builtin.Str.occurrences x y 0 x.length 1 with
  | nil =>
    rw [h] at hq
    exact hq _ _ _ _
  | cons i r =>
    rw [h] at hq
    exact hq _ _ _ _
end
section
variable {X : Cx} {sd : List Slot} {e a b c tg iter o : Expr} {es : List Expr} {pos : Pos} {r ra rb : R} {d : D} {ds : List D}
/-- f'..{e}..', e a whole number -/
theorem pd_fmtI {i : Int} (h : PEd X sd e (.val (.int i))) (hi : i.natAbs.log2 < 1920) : PEd X sd (.FormattedValue e (-1) none pos) (.val (.str (toString i))) := .mk fun σ F H S pins s I => by
  refine wpAny_FormattedValue_plain (thn (h σ F H S pins s I) fun v s1 ⟨x, H1, I1, r1, F1, S1, sF, q1⟩ => ?_)
  simp only [ResOk, Rep] at q1
  subst q1
  obtain ⟨t, rfl⟩ := r1
  refine wpAny_formatField_int hi ?_
  exact ⟨.str _, H1, I1.tok _, ⟨_, rfl⟩, F1, S1, sF, by simp only [ResOk, Rep]⟩
structure PJ (X : Cx) (sd : List Slot) (es : List Expr) (zs : List Str) : Prop where
  run : ∀ (σ : St) (F H : Hp), StF X.K X.H₀ F H σ sd → ∀ (pins : List (Addr × Obj)) (s : Shared), Inv X pins σ H s → ∀ (acc : Str) (Q : Str → Shared → Prop), (catS acc zs).length ≤ sizeLine →
    (∀ s1 H1 F1, Inv X pins σ H1 s1 → StF X.K X.H₀ F1 H1 σ sd → Same F F1 → Q (catS acc zs) s1) → Joins (model X.prog X.w) X.A X.xe (evalEach es X.env) acc Q s
theorem pj_nil : PJ X sd [] [] := ⟨fun σ F H S pins s I acc Q _ k => k s H F I S (Same.refl _)⟩
theorem pj_cons {z : Str} {zs : List Str} (h : PEd X sd e (.val (.str z))) (t : PJ X sd es zs) (he : evalEach (e :: es) X.env = eval e X.env :: evalEach es X.env := by rfl) : PJ X sd (e :: es) (z :: zs) := ⟨fun σ F H S pins s I acc Q hl k => by
  rw [he]
  refine thn (h σ F H S pins s I) fun v s1 ⟨x, H1, I1, r1, F1, S1, sF, q1⟩ => ?_
  simp only [ResOk, Rep] at q1
  subst q1
  obtain ⟨u, rfl⟩ := r1
  refine ⟨z, u, rfl, Nat.le_trans (catS_len zs (acc ++ z)) hl, t.run σ F1 H1 S1 pins s1 I1 (acc ++ z) Q hl fun s2 H2 F2 I2 S2 s2' => k s2 H2 F2 I2 S2 (sF.trans s2')⟩⟩
theorem pd_joined {e1 e2 : Expr} {zs : List Str} (h : PJ X sd (e1 :: e2 :: es) zs) (hl : (catS Str.empty zs).length ≤ 100000) : PEd X sd (.JoinedStr (e1 :: e2 :: es) pos) (.val (.str (catS Str.empty zs))) := .mk fun σ F H S pins s I => by
  have hz : (catS Str.empty zs).length ≤ sizeLine := by rw [sizeLine_eq]; omega
  refine wpAny_JoinedStr (h.run σ F H S pins s I Str.empty _ hz fun s1 H1 F1 I1 S1 sF => ⟨hz, ?_⟩)
  exact ⟨.str _, H1, I1.tok _, ⟨_, rfl⟩, F1, S1, sF, by simp only [ResOk, Rep]⟩
/-- str(n) -/
theorem pd_strI {i : Int} {p : Pos} (hg : Gl X "str") (hm : X.mg "str" = none) (h : PEd X sd e (.val (.int i))) (hi : i.natAbs.log2 < 1920) (hst : starEach [e] X.env = (false, eval e X.env) :: starEach [] X.env := by rfl) : PEd X sd (.Call (.Name "str" p) [e] [] pos) (.val (.str (toString i))) :=
  pd_callTy (he := hst) call_str_int hg hm PyProof.Rows.boot_str (pad_cons h pad_nil trivial hst) fun σ F H vs Q S q k => by
    cases q with
    | cons q1 q2 =>
      cases q2
      simp only [ResOk, Rep] at q1
      exact ⟨i, by rw [q1], hi, k _ F H S (Same.refl _) (by simp only [ResOk, Rep])⟩
theorem call_str_str : CallR X (.type "str") (fun xs H Q => ∃ z, xs = [.str z] ∧ Q (.str z) H) := by
  intro pins s σ H xs us Q I r h
  obtain ⟨z, rfl, q⟩ := h
  obtain ⟨u, rfl, t, rfl⟩ := vals1 r
  exact PySem.P.str_of_str ⟨.str _, H, I, ⟨_, rfl⟩, q⟩
theorem pd_strS {z : Str} {p : Pos} (hg : Gl X "str") (hm : X.mg "str" = none) (h : PEd X sd e (.val (.str z))) (hst : starEach [e] X.env = (false, eval e X.env) :: starEach [] X.env := by rfl) : PEd X sd (.Call (.Name "str" p) [e] [] pos) (.val (.str z)) :=
  pd_callTy (he := hst) call_str_str hg hm PyProof.Rows.boot_str (pad_cons h pad_nil trivial hst) fun σ F H vs Q S q k => by
    cases q with
    | cons q1 q2 =>
      cases q2
      simp only [ResOk, Rep] at q1
      exact ⟨z, by rw [q1], k _ F H S (Same.refl _) (by simp only [ResOk, Rep])⟩
/-- text + text -/
theorem pd_addS {x y : Str} (ha : PEd X sd a (.val (.str x))) (hb : PEd X sd b (.val (.str y))) (hl : x.length + y.length ≤ 100000) : PEd X sd (.BinOp a .Add b pos) (.val (.str (x ++ y))) :=
  pd_op2 op_add_str ha hb trivial fun σ F H v u Q S q1 q2 k => by
    simp only [ResOk, Rep] at q1 q2
    exact ⟨x, y, q1, q2, by rw [sizeLine_eq]; omega, k _ F H S (Same.refl _) (by simp only [ResOk, Rep])⟩
/-- text in text -/
theorem pd_inS {x y : Str} (ha : PEd X sd a (.val (.str x))) (hb : PEd X sd b (.val (.str y))) (hk : behindInMarks .In b = false := by with_unfolding_all rfl) : PEd X sd (.Compare a [.In] [b] pos) (.val (.bl (!(Builtin.Str.occurrences y x 0 y.length 1).isEmpty))) :=
  pd_cmp2 op_in_str ha hb trivial hk fun σ F H v u Q S q1 q2 k => by
    simp only [ResOk, Rep] at q1 q2
    exact ⟨x, y, q1, q2, k F H S (Same.refl _)⟩
/-- len(text) -/
theorem pd_lenX {x : Str} {p : Pos} (hg : Gl X "len") (hm : X.mg "len" = none) (h : PEd X sd e (.val (.str x))) (hl : x.length ≤ 100000) (hst : starEach [e] X.env = (false, eval e X.env) :: starEach [] X.env := by rfl) : PEd X sd (.Call (.Name "len" p) [e] [] pos) (.val (.int ((x.length : Nat) : Int))) :=
  pd_callB (he := hst) call_len_str hg hm PySem.boot_len (pad_cons h pad_nil trivial hst) fun σ F H vs Q S q k => by
    cases q with
    | cons q1 q2 =>
      cases q2
      simp only [ResOk, Rep] at q1
      exact ⟨x, by rw [q1], by rw [sizeLine_eq]; omega, k _ F H S (Same.refl _) (by simp only [ResOk, Rep])⟩
/-- text[n] -/
theorem pd_ixX {x : Str} {i : Int} {c : Nat} (ha : PEd X sd a (.val (.str x))) (hb : PEd X sd b (.val (.int i))) (hl : x.length ≤ 100000) (hc : L2.atI x.cps.toList i = some c) (hs : PlainIx b) : PEd X sd (.Subscript a b pos) (.val (.str ⟨#[c]⟩)) := .mk fun σ F H S =>
  (pe_ix ix_str pe_w pe_w hs).to ((ha σ F H S).imp fun v H1 ⟨F1, S1, s1, q1⟩ => (hb σ F1 H1 S1).imp fun u H2 ⟨F2, S2, s2, q2⟩ => by
    simp only [ResOk, Rep] at q1 q2
    exact ⟨x, i, c, q1, q2, by rw [sizeLine_eq]; omega, hc, F2, S2, s1.trans s2, by simp only [ResOk, Rep]⟩)
/-- sep.join(xs) -/
theorem mt_join : MtR X "str.join" (fun x xs H Q => ∃ z p ss, x = .str z ∧ xs = [.ref p] ∧ SqL X.K H p (ss.map V.str) ∧ JoinOk z ss = true ∧ Q (.str (Txt.join z ss)) H) := by
  intro pins s σ H x xs v us Q I rx rs h
  obtain ⟨z, p, ss, rfl, rfl, hq, hok, q⟩ := h
  obtain ⟨t, rfl⟩ := rx
  obtain ⟨u, rfl, ru⟩ := vals1 rs
  cases ru
  obtain ⟨its, rv, pl, _⟩ := I.list hq
  obtain ⟨l, rfl, el⟩ := strs_vals rv
  exact SC.join pl.isList el hok fun t' k => ⟨.str _, H, I.kept fun b u g => g, ⟨_, rfl⟩, q⟩
theorem pd_join {z : Str} {ss : List Str} {apos cpos : Pos} (h : PEd X sd o (.val (.str z))) (hz : PEd X sd e (.val (.lst (ss.map D.str)))) (hok : JoinOk z ss = true)
    (hst : starEach (e :: []) X.env = (false, eval e X.env) :: starEach [] X.env := by rfl)
    (hm : PE X (.Call (.Attribute o "join" apos) [e] [] cpos) (tBM X.K "str" (fun x xs H Q => ∃ z p ss, x = .str z ∧ xs = [.ref p] ∧ SqL X.K H p (ss.map V.str) ∧ JoinOk z ss = true ∧ Q (.str (Txt.join z ss)) H) (wE X o) (tCons (wE X e) tNil)) := by exact pe_bm PySem.F.plainAttrs_str PySem.F.slot_str_join PySem.F.type_str_join mt_join pe_w (pa_cons pe_w pa_nil)) :
    PEd X sd (.Call (.Attribute o "join" apos) [e] [] cpos) (.val (.str (Txt.join z ss))) := .mk fun σ F H S =>
  hm.to ((h σ F H S).imp fun v H1 ⟨F1, S1, s1, q1⟩ => by
    simp only [ResOk, Rep] at q1
    subst q1
    refine ⟨rfl, (hz σ F1 H1 S1).imp fun u H2 ⟨F2, S2, s2, q2⟩ => ?_⟩
    simp only [ResOk, Rep] at q2
    obtain ⟨l, xs, rfl, hl, rl⟩ := q2
    have ex := rl.strs
    subst ex
    exact ⟨z, l, ss, rfl, rfl, .of (S2.sub _ _ hl), hok, F2, S2, s1.trans s2, by simp only [ResOk, Rep]⟩)
/-- text.split(sep) -/
theorem mt_split : MtR X "str.split" (fun x xs H Q => ∃ z y, x = .str z ∧ xs = [.str y] ∧ (y.length == 0) = false ∧ z.length ≤ 100000 ∧ (Txt.split z y).length ≤ 100000 ∧ ∀ p, H p = none → Q (.ref p) (upd H p (.lst ((Txt.split z y).map V.str)))) := by
  intro pins s σ H x xs v us Q I rx rs h
  obtain ⟨z, y, rfl, rfl, hy, hz, hp, q⟩ := h
  obtain ⟨t, rfl⟩ := rx
  obtain ⟨u, rfl, t2, rfl⟩ := vals1 rs
  refine split_at hy hz hp fun l tk el => ?_
  have hn : H s.heap.objs.size = none := I.hok.fresh (Nat.le_refl _)
  refine ⟨.ref s.heap.objs.size, _, I.laid (o := .lst ((Txt.split z y).map V.str)) (fun b o g => Heap.get?_push_of_some _ g) (Nat.le_refl _) ⟨?_, strValues l, 0, ?_, Heap.get?_push_size _ rfl⟩, rfl, q _ hn⟩
  · rw [sizeLine_eq, List.length_map]; omega
  · rw [← el]
    exact vals_strs l
theorem pd_split {z y : Str} {apos cpos : Pos} (h : PEd X sd o (.val (.str z))) (hb : PEd X sd e (.val (.str y))) (hy : (y.length == 0) = false) (hz : z.length ≤ 100000) (hp : (Txt.split z y).length ≤ 100000)
    (hst : starEach (e :: []) X.env = (false, eval e X.env) :: starEach [] X.env := by rfl)
    (hm : PE X (.Call (.Attribute o "split" apos) [e] [] cpos) (tBM X.K "str" (fun x xs H Q => ∃ z y, x = .str z ∧ xs = [.str y] ∧ (y.length == 0) = false ∧ z.length ≤ 100000 ∧ (Txt.split z y).length ≤ 100000 ∧ ∀ p, H p = none → Q (.ref p) (upd H p (.lst ((Txt.split z y).map V.str)))) (wE X o) (tCons (wE X e) tNil)) := by exact pe_bm PySem.F.plainAttrs_str PySem.F.slot_str_split PySem.F.type_str_split mt_split pe_w (pa_cons pe_w pa_nil)) :
    PEd X sd (.Call (.Attribute o "split" apos) [e] [] cpos) (.own ((Txt.split z y).map D.str)) := .mk fun σ F H S =>
  hm.to ((h σ F H S).imp fun v H1 ⟨F1, S1, s1, q1⟩ => by
    simp only [ResOk, Rep] at q1
    subst q1
    refine ⟨rfl, (hb σ F1 H1 S1).imp fun u H2 ⟨F2, S2, s2, q2⟩ => ?_⟩
    simp only [ResOk, Rep] at q2
    subst q2
    refine ⟨z, y, rfl, rfl, hy, hz, hp, fun p hn => ?_⟩
    obtain ⟨S3, fp, no⟩ := S2.layO (xs := (Txt.split z y).map V.str) hn
    refine ⟨F2, S3, s1.trans s2, p, _, rfl, fp, upd_same, ?_, no⟩
    have gg : ∀ ks : List Str, RepL X.K F2 (ks.map D.str) (ks.map V.str) := fun ks => by
      induction ks with
      | nil => exact .nil
      | cons k ks ih => exact .cons (by simp only [Rep]) ih
    exact gg _)
/-- text.partition(sep) -/
theorem mt_part : MtR X "str.partition" (fun x xs H Q => ∃ z y, x = .str z ∧ xs = [.str y] ∧ (y.length == 0) = false ∧ z.length ≤ 100000 ∧ ∀ p, H p = none → Q (.ref p) (upd H p (.tup [.str (Txt.partition z y).1, .str (Txt.partition z y).2.1, .str (Txt.partition z y).2.2]))) := by
  intro pins s σ H x xs v us Q I rx rs h
  obtain ⟨z, y, rfl, rfl, hy, hz, q⟩ := h
  obtain ⟨t, rfl⟩ := rx
  obtain ⟨u, rfl, t2, rfl⟩ := vals1 rs
  refine part_at hy hz fun t1 t2 t3 tk => ?_
  have hn : H s.heap.objs.size = none := I.hok.fresh (Nat.le_refl _)
  refine ⟨.ref s.heap.objs.size, _, I.laid (o := .tup [.str (Txt.partition z y).1, .str (Txt.partition z y).2.1, .str (Txt.partition z y).2.2]) (fun b o g => Heap.get?_push_of_some _ g) (Nat.le_refl _) ⟨?_, _, .cons ⟨t1, rfl⟩ (.cons ⟨t2, rfl⟩ (.cons ⟨t3, rfl⟩ .nil)), IsTupD.new _ _⟩, rfl, q _ hn⟩
  rw [sizeLine_eq]
  exact Nat.le_of_ble_eq_true rfl
theorem pd_part {z y : Str} {apos cpos : Pos} (h : PEd X sd o (.val (.str z))) (hb : PEd X sd e (.val (.str y))) (hy : (y.length == 0) = false) (hz : z.length ≤ 100000)
    (hst : starEach (e :: []) X.env = (false, eval e X.env) :: starEach [] X.env := by rfl)
    (hm : PE X (.Call (.Attribute o "partition" apos) [e] [] cpos) (tBM X.K "str" (fun x xs H Q => ∃ z y, x = .str z ∧ xs = [.str y] ∧ (y.length == 0) = false ∧ z.length ≤ 100000 ∧ ∀ p, H p = none → Q (.ref p) (upd H p (.tup [.str (Txt.partition z y).1, .str (Txt.partition z y).2.1, .str (Txt.partition z y).2.2]))) (wE X o) (tCons (wE X e) tNil)) := by exact pe_bm PySem.F.plainAttrs_str PySem.F.slot_str_partition PySem.F.type_str_partition mt_part pe_w (pa_cons pe_w pa_nil)) :
    PEd X sd (.Call (.Attribute o "partition" apos) [e] [] cpos) (.val (.tup [.str (Txt.partition z y).1, .str (Txt.partition z y).2.1, .str (Txt.partition z y).2.2])) := .mk fun σ F H S =>
  hm.to ((h σ F H S).imp fun v H1 ⟨F1, S1, s1, q1⟩ => by
    simp only [ResOk, Rep] at q1
    subst q1
    refine ⟨rfl, (hb σ F1 H1 S1).imp fun u H2 ⟨F2, S2, s2, q2⟩ => ?_⟩
    simp only [ResOk, Rep] at q2
    subst q2
    refine ⟨z, y, rfl, rfl, hy, hz, fun p hn => ?_⟩
    obtain ⟨S3, s3⟩ := S2.lay (o := .tup [.str (Txt.partition z y).1, .str (Txt.partition z y).2.1, .str (Txt.partition z y).2.2]) hn trivial
    refine ⟨_, S3, (s1.trans s2).trans s3, ?_⟩
    simp only [ResOk, Rep]
    exact ⟨p, _, rfl, upd_same, .cons (by simp only [Rep]) (.cons (by simp only [Rep]) (.cons (by simp only [Rep]) .nil))⟩)
end
end DL

namespace DL
open PySem PySem.Spec PyProof.Rows L2
/-! ### int(text) -/
theorem lkT1 : typeLookup (.type "str") "__int__" = pure none := by rw [typeLookup_type, builtinLookup_eq_fast]; kernel_rfl
theorem lkT2 : typeLookup (.type "str") "__index__" = pure none := by rw [typeLookup_type, builtinLookup_eq_fast]; kernel_rfl
theorem lkT3 : typeLookup (.type "str") "__trunc__" = pure none := by rw [typeLookup_type, builtinLookup_eq_fast]; kernel_rfl
def numT (n : Nat) : Str := if n < 10 then ⟨#[48 + n]⟩ else ⟨#[48 + n / 10, 48 + n % 10]⟩
theorem numT_eq : ∀ n : Nat, n < 64 → Str.ofString (toString (n : Int)) = numT n := by decide +kernel
theorem new_text (n : Nat) (hn : n < 64) (x : Str) (hx : x = numT n) (u : Tok) : Meets (Builtin.«int.__new__» ⟨[.type "int", .str x u], []⟩) (Made.int n).spec :=
  Meets.of_wp fun prog w A R s hs => by
    obtain ⟨hp, g, d, tk, os⟩ := s
    have f1 := PySem.F.conv_sub_int
    have f2 := PySem.F.madeHere_int
    have hT : (⟨hp, g, d, tk, os⟩ : Shared).TypeIs (.str x u) "str" := rfl
    have f3 := lkT1
    have f4 := lkT2
    have f5 := lkT3
    repeat (any_goals (first | assumption | wp_step))
    have tr : ∀ {m m' : Sem Value} {Q : Value → Shared → Prop} {E : Value → Shared → Prop} {s : Shared}, m = m' → wpAny (model prog w) A.in1 m' Q E s → wpAny (model prog w) A.in1 m Q E s := fun e h => e ▸ h
    subst hx
    refine tr (m' := mkInt n) ?_ (wpAny_mkInt (wpAny_pure ⟨_, rfl, hs⟩))
    match n, hn with
    | 0, _ => kernel_rfl
    | 1, _ => kernel_rfl
    | 2, _ => kernel_rfl
    | 3, _ => kernel_rfl
    | 4, _ => kernel_rfl
    | 5, _ => kernel_rfl
    | 6, _ => kernel_rfl
    | 7, _ => kernel_rfl
    | 8, _ => kernel_rfl
    | 9, _ => kernel_rfl
    | 10, _ => kernel_rfl
    | 11, _ => kernel_rfl
    | 12, _ => kernel_rfl
    | 13, _ => kernel_rfl
    | 14, _ => kernel_rfl
    | 15, _ => kernel_rfl
    | 16, _ => kernel_rfl
    | 17, _ => kernel_rfl
    | 18, _ => kernel_rfl
    | 19, _ => kernel_rfl
    | 20, _ => kernel_rfl
    | 21, _ => kernel_rfl
    | 22, _ => kernel_rfl
    | 23, _ => kernel_rfl
    | 24, _ => kernel_rfl
    | 25, _ => kernel_rfl
    | 26, _ => kernel_rfl
    | 27, _ => kernel_rfl
    | 28, _ => kernel_rfl
    | 29, _ => kernel_rfl
    | 30, _ => kernel_rfl
    | 31, _ => kernel_rfl
    | 32, _ => kernel_rfl
    | 33, _ => kernel_rfl
    | 34, _ => kernel_rfl
    | 35, _ => kernel_rfl
    | 36, _ => kernel_rfl
    | 37, _ => kernel_rfl
    | 38, _ => kernel_rfl
    | 39, _ => kernel_rfl
    | 40, _ => kernel_rfl
    | 41, _ => kernel_rfl
    | 42, _ => kernel_rfl
    | 43, _ => kernel_rfl
    | 44, _ => kernel_rfl
    | 45, _ => kernel_rfl
    | 46, _ => kernel_rfl
    | 47, _ => kernel_rfl
    | 48, _ => kernel_rfl
    | 49, _ => kernel_rfl
    | 50, _ => kernel_rfl
    | 51, _ => kernel_rfl
    | 52, _ => kernel_rfl
    | 53, _ => kernel_rfl
    | 54, _ => kernel_rfl
    | 55, _ => kernel_rfl
    | 56, _ => kernel_rfl
    | 57, _ => kernel_rfl
    | 58, _ => kernel_rfl
    | 59, _ => kernel_rfl
    | 60, _ => kernel_rfl
    | 61, _ => kernel_rfl
    | 62, _ => kernel_rfl
    | 63, _ => kernel_rfl
    | n + 64, h => omega
/-! ### the signs of a text -/
def Its (x : Str) : It := ⟨fun i _ => i < x.cps.size, fun i H v H' => H' = H ∧ ∃ c, x.cps[i]? = some c ∧ v = .str ⟨#[c]⟩, fun i _ => x.cps.size ≤ i⟩
theorem turn_str {P : Program} {w : World} {K : PySem.W.Frag} {tg : Expr} (it : Addr) (x : Str) (t : Tok) : Turn P w K tg (Its x) [it] it (fun i h => h.IsStrIter it "str_ascii_iterator" x t i) where
  mem := by simp
  obj := fun i h st b hb => by
    have e : b = it := by simpa using hb
    subst e
    obtain ⟨o, e, c, d⟩ := st
    exact ⟨o, e, fun v z => by rw [d] at z; cases z⟩
  keep := fun i h h' st k => by
    obtain ⟨o, e, r⟩ := st
    exact ⟨o, k it (by simp) o e, r⟩
  item := by
    intro X hP hw hK hc i pins s σ H E I hf st hg
    subst hP hw hK
    obtain ⟨f0, f1, f2, f3, f4, f5⟩ := hf it (by simp)
    have hi : i < x.cps.size := hg
    refine wpAny_pyNext_ascii_item st (c := x.cps[i]) (by simp [hi]) fun h' st' sb => ?_
    have I1 : Inv X pins σ H { s with heap := h', toks := s.toks + 1 } := I.turned (fun b o hb e => (sb.2 b hb).trans e) f0 f1 f3 f4 f5
    obtain ⟨o, e, c, d⟩ := id st'
    exact ⟨_, rfl, go_of (s := { s with heap := h', toks := s.toks + 1 }) e c d (by decide) ⟨.str ⟨#[x.cps[i]]⟩, H, I1, ⟨_, rfl⟩, ⟨rfl, x.cps[i], by simp [hi], rfl⟩, st', fun b hb => (hf b hb).1⟩⟩
  done := by
    intro X hP hw hK hc i pins s σ H E I hf st hg
    subst hP hw hK
    obtain ⟨f0, f1, f2, f3, f4, f5⟩ := hf it (by simp)
    have hi : x.cps.size ≤ i := hg
    exact wpAny_pyNext_ascii_end (I.ok.hd hc) st (by simp [hi]) fun h' eb => ⟨rfl, I.turned (t' := s.toks) (fun b o hb e => eb b o hb e) f0 f1 f3 f4 f5⟩
  self := fun _ _ _ _ _ st h => wpAny_pyIter_striter_ascii st h
def sgnD (x : Str) : List D := x.cps.toList.map fun c => D.str ⟨#[c]⟩
section
variable {X : Cx} {sd : List Slot} {e a b c tg iter o : Expr} {es : List Expr} {pos : Pos} {r ra rb : R} {d d' : D} {ds ls : List D} {rest : List Stmt} {E : EndD}
theorem pid_str {x : Str} (h : PEd X sd iter (.val (.str x))) (ha : x.cps.all (· < 128) = true) : PId X sd PT0 tg iter (sgnD x) := .mk fun σ F H S pins s I => by
  refine thn (h σ F H S pins s I) fun v s1 ⟨y, H1, I1, r1, F1, S1, sF, q1⟩ => ?_
  simp only [ResOk, Rep] at q1
  subst q1
  obtain ⟨t, rfl⟩ := r1
  refine wpAny_pyIter_ascii ha ?_
  refine ⟨s1.heap.objs.size, [s1.heap.objs.size], _, Its x, H1, rfl, I1.kept (t' := s1.toks) fun b o e => Heap.get?_push_of_some _ e, turn_str _ x t, ⟨_, Heap.get?_push_size _ rfl, rfl, rfl⟩, fun b hb => ?_, F1, S1, sF, ?_⟩
  · have e : b = s1.heap.objs.size := by simpa using hb
    subst e
    exact I1.fpOk (Nat.le_refl _) (I1.hok.fresh (Nat.le_refl _))
  · intro F2 H2 _ _ _ _ i
    refine ⟨fun hi => (show i < x.cps.size by simpa [sgnD] using hi), fun hi => (show x.cps.size ≤ i by simpa [sgnD] using hi), fun y H' d hd yy => ?_⟩
    obtain ⟨rfl, c, hc, rfl⟩ := yy
    have : d = .str ⟨#[c]⟩ := by
      unfold sgnD at hd
      rw [List.getElem?_map, Array.getElem?_toList, hc] at hd
      exact (Option.some.inj hd).symm
    subst this
    exact ⟨F2, Same.refl _, by simp only [Rep], fun _ _ _ S => S⟩
theorem call_int_text : CallR X (.type "int") (fun xs H Q => ∃ n, xs = [.str (numT n)] ∧ n < 64 ∧ Q (.int (n : Int)) H) := by
  intro pins s σ H xs us Q I r h
  obtain ⟨n, rfl, hn, q⟩ := h
  obtain ⟨u, rfl, t, rfl⟩ := vals1 r
  exact call_int_1 (new_text n hn _ rfl t) (show (Made.int n).post _ s from ⟨rfl, .int (n : Int), H, I.tok _, ⟨_, rfl⟩, q⟩)
theorem pd_intT {n : Nat} {p : Pos} (hg : Gl X "int") (hm : X.mg "int" = none) (h : PEd X sd e (.val (.str (numT n)))) (hn : n < 64) (hst : starEach [e] X.env = (false, eval e X.env) :: starEach [] X.env := by rfl) : PEd X sd (.Call (.Name "int" p) [e] [] pos) (.val (.int (n : Int))) :=
  pd_callTy (he := hst) call_int_text hg hm PyProof.Rows.boot_int (pad_cons h pad_nil trivial hst) fun σ F H vs Q S q k => by
    cases q with
    | cons q1 q2 =>
      cases q2
      simp only [ResOk, Rep] at q1
      exact ⟨n, by rw [q1], hn, k _ F H S (Same.refl _) (by simp only [ResOk, Rep])⟩
end
end DL

namespace DL
open PySem PySem.Spec PyProof.Rows L2
mutual
def pyD : D → PyData
  | .non => .none
  | .bl b => .bool b
  | .int i => .int i
  | .str x => .str x
  | .tup ds => .tuple (pyL ds)
  | .lst ds => .list (pyL ds)
  | .dic => .none
  | .dki _ _ => .none
  | .scr _ => .none
def pyL : List D → List PyData
  | [] => []
  | d :: ds => pyD d :: pyL ds
end
section
variable {P : Program} {w : World} {K : PySem.W.Frag} {F H : Hp} {h : Heap}
mutual
theorem reads_of (ok : HOk P w H h) (sub : Same F H) : ∀ {d : D} {v : V} {u : Value}, pl d = true → Rep K F d v → RelV v u → ∃ as, Reads h u (pyD d) as
  | .non, v, u, _, r, q => by
    simp only [Rep] at r
    subst r
    cases q
    simp only [pyD]
    exact ⟨_, .none⟩
  | .bl b, v, u, _, r, q => by
    simp only [Rep] at r
    subst r
    cases q
    simp only [pyD]
    exact ⟨_, .bool b⟩
  | .int i, v, u, _, r, q => by
    simp only [Rep] at r
    subst r
    obtain ⟨t, rfl⟩ := q
    simp only [pyD]
    exact ⟨_, .int i t⟩
  | .str x, v, u, _, r, q => by
    simp only [Rep] at r
    subst r
    obtain ⟨t, rfl⟩ := q
    simp only [pyD]
    exact ⟨_, .str x t⟩
  | .tup ds, v, u, hp, r, q => by
    simp only [Rep] at r
    obtain ⟨a, xs, rfl, f, rl⟩ := r
    cases q
    obtain ⟨_, its, rv, o, g, c, ⟨n, dd⟩, _⟩ := (show ObjOk P w H h a (.tup xs) from ok a _ (sub _ _ f))
    obtain ⟨as, z⟩ := readsL_of ok sub (by simpa only [pl] using hp) rl rv
    simp only [pyD]
    exact ⟨_, .tuple g c dd (by simpa using z)⟩
  | .lst ds, v, u, hp, r, q => by
    simp only [Rep] at r
    obtain ⟨a, xs, rfl, f, rl⟩ := r
    cases q
    obtain ⟨_, its, n, rv, g⟩ := (show ObjOk P w H h a (.lst xs) from ok a _ (sub _ _ f))
    obtain ⟨as, z⟩ := readsL_of ok sub (by simpa only [pl] using hp) rl rv
    simp only [pyD]
    exact ⟨_, .list g rfl rfl (by simpa using z)⟩
  | .dic, _, _, hp, _, _ => by simp only [pl] at hp; cases hp
  | .dki _ _, _, _, hp, _, _ => by simp only [pl] at hp; cases hp
  | .scr _, _, _, hp, _, _ => by simp only [pl] at hp; cases hp
theorem readsL_of (ok : HOk P w H h) (sub : Same F H) : ∀ {ds : List D} {xs : List V} {us : List Value}, plL ds = true → RepL K F ds xs → Vals xs us → ∃ as, ReadsAll h us (pyL ds) as
  | [], xs, us, _, r, q => by
    simp only [RepL] at r
    subst r
    cases q
    simp only [pyL]
    exact ⟨_, .nil⟩
  | d :: ds, xs, us, hp, r, q => by
    simp only [RepL] at r
    obtain ⟨y, ys, rfl, r1, r2⟩ := r
    cases q with
    | cons q1 q2 =>
      simp only [plL, Bool.and_eq_true] at hp
      obtain ⟨a1, z1⟩ := reads_of ok sub hp.1 r1 q1
      obtain ⟨a2, z2⟩ := readsL_of ok sub hp.2 r2 q2
      simp only [pyL]
      exact ⟨_, .cons z1 z2⟩
end
end
section
variable {X : Cx} {sd : List Slot} {e a b c tg iter o : Expr} {es : List Expr} {pos : Pos} {r ra rb : R} {d d' : D} {ds ls : List D} {rest : List Stmt} {E : EndD}
/-- repr(x), x a tuple -/
theorem pd_repr {p : Pos} (hg : Gl X "repr") (hm : X.mg "repr" = none) (h : PEd X sd e (.val (.tup ds))) (hp : plL ds = true) (hs : (pyD (.tup ds)).showable = true) (hd : (pyD (.tup ds)).hasDict = false) (hgd : X.A.guards = some []) (hu : X.A.units + ((pyD (.tup ds)).depth + 1) < cLine) (hl : (pyD (.tup ds)).shown.length ≤ sizeLine)
    (hst : starEach [e] X.env = (false, eval e X.env) :: starEach [] X.env := by rfl) : PEd X sd (.Call (.Name "repr" p) [e] [] pos) (.val (.str (pyD (.tup ds)).shown)) := .mk fun σ F H S pins s I => by
  refine wpAny_Call_Name_kw (ld_blt I hg hm PyProof.Rows.boot_repr ?_)
  refine PyProof.Rows.callWith_builtin1 (thn ((pa_cons (te := wE X e) pe_w pa_nil hst) pos pins s σ H (fun us H1 => ∃ v F1, us = [v] ∧ StF X.K X.H₀ F1 H1 σ sd ∧ Same F F1 ∧ ResOk X.K F1 H1 sd (.val (.tup ds)) v) I ((h σ F H S).imp fun v H1 ⟨F1, S1, s1, q1⟩ => ⟨v, F1, rfl, S1, s1, q1⟩)) fun us s1 hus => ?_) hst rfl
  obtain ⟨ws, H1, I1, rv, v, F1, rfl, S1, sF, q1⟩ := hus
  obtain ⟨u, rfl, ru⟩ := vals1 rv
  simp only [ResOk] at q1
  obtain ⟨as, z⟩ := reads_of I1.hok S1.sub (by simpa only [pl] using hp) q1 ru
  simp only [Rep] at q1
  obtain ⟨a, xs, rfl, _, _⟩ := q1
  cases ru
  refine repr_of_reads' z hs (PyData.noDict_hsm hd) hgd hu (fun b o g => g) (fun h' u tk kp => ?_) hl
  exact ⟨.str _, H1, I1.kept kp, ⟨_, rfl⟩, F1, S1, sF, by simp only [ResOk, Rep]⟩
/-- x[1].clear() -/
theorem psd_clP (i : Nat) {x : Str} {p p3 p4 ap cp : Pos} {j3} {F0 : Hp} {t l : Addr} {y : V} {sd2 : List Slot} (hb : Same X.H₀ F0) (hl : F0 l = none) (ht : F0 t = some (.tup [y, .ref l])) (hs : sd[i]? = some (.gh (.tup [d, .lst ls]) fun v F => v = .ref t ∧ Same F0 F)) (hx : PE X (.Name x p) (tVar i))
    (hg : GLe X.K F0 sd sd2) (k : PSd X sd2 rest { nx := fun _ => False, rt := E.rt })
    (hpx : PlainIx (.Constant (.int 1) j3 p3) := by exact fun _ _ => rfl)
    (hm : PE X (.Call (.Attribute (.Subscript (.Name x p) (.Constant (.int 1) j3 p3) p4) "clear" ap) [] [] cp) (tBM0 X.K "list" rClear (wE X (.Subscript (.Name x p) (.Constant (.int 1) j3 p3) p4))) := by exact pe_bm0 PySem.F.plainAttrs_list PySem.F.slot_list_clear PySem.F.type_list_clear mt_clear pe_w)
    (hsw : swapsWith (.Call (.Attribute (.Subscript (.Name x p) (.Constant (.int 1) j3 p3) p4) "clear" ap) [] [] cp) none pos.line X.env = pure false := by rfl) :
    PSd X sd (.Expr (.Call (.Attribute (.Subscript (.Name x p) (.Constant (.int 1) j3 p3) p4) "clear" ap) [] [] cp) pos :: rest) E := .mk fun σ F H S =>
  (pss_cons (ps_expr hm hsw) pss_w).to (by
    have at' : ∀ {F H : Hp}, StF X.K X.H₀ F H σ sd → Same F0 F ∧ ∃ xs, F l = some (.lst xs) ∧ xs.length = ls.length := fun {F H} S => by
      obtain ⟨o, h1, v, h2, q, g⟩ := S.slots.get hs
      obtain ⟨rfl, s⟩ := g F (Same.refl _)
      simp only [Rep] at q
      obtain ⟨t', us, e, q, rl⟩ := q
      cases e
      rw [s _ _ ht] at q
      cases q
      obtain ⟨_, _, e, _, rl⟩ := rl.uncons
      cases e
      obtain ⟨_, _, e, q, _⟩ := rl.uncons
      cases e
      simp only [Rep] at q
      obtain ⟨l', xs, e, q, rl⟩ := q
      cases e
      exact ⟨s, xs, q, rl.len⟩
    have hr : wE X (.Subscript (.Name x p) (.Constant (.int 1) j3 p3) p4) σ H fun v H' => v = .ref l ∧ H' = H := (pe_ix ix_tup hx pe_int hpx).to (by
      obtain ⟨o, h1, v, h2, q, g⟩ := S.slots.get hs
      obtain ⟨rfl, s⟩ := g F (Same.refl _)
      exact ⟨.ref t, by rw [h1, h2], t, _, 1, .ref l, rfl, rfl, .of (S.sub _ _ (s _ _ ht)), rfl, rfl, rfl⟩)
    refine hr.imp fun v H' ⟨e1, e2⟩ => ?_
    subst e1 e2
    obtain ⟨s0, xs, q, _⟩ := at' S
    have S1 := S
    have s2 := s0
    refine ⟨.inl ⟨rfl, xs, .of (S.sub _ _ q)⟩, l, xs, rfl, rfl, S.sub _ _ q, ?_⟩
    obtain ⟨c1, c2⟩ := hg.slots (H' := upd H' l (.lst [])) S1.slots
    have S3 : StF X.K X.H₀ F0 (upd H' l (.lst [])) σ sd2 := ⟨hb, fun b u e => by
      rw [upd_ne (ne_of_none e hl)]
      exact S1.sub _ _ (s2 _ _ e), fun b u e => by
      by_cases h : b = l
      · subst h
        rw [upd_same] at e
        cases e
        trivial
      · rw [upd_ne h] at e
        exact S1.smp _ _ e, c1, by rw [c2]; exact List.nodup_nil⟩
    exact (k σ F0 _ S3).imp (fun _ _ ⟨_, _, _, _, z⟩ => z.elim) (fun _ _ z => z) (fun _ _ ⟨_, _, _, _, z⟩ => z.elim) fun _ _ ⟨_, _, _, _, z⟩ => z.elim)
end
end DL

namespace DL
open PySem PySem.Spec PyProof.Rows L2
/-! ### texts joined and cut -/
theorem cut_inj {c : Nat} : ∀ {a a' b b' : List Nat}, c ∉ a → c ∉ a' → a ++ c :: b = a' ++ c :: b' → a = a' ∧ b = b'
  | [], [], b, b', _, _, h => ⟨rfl, by simpa using h⟩
  | [], x :: a', b, b', _, h2, h => by
    simp at h
    exact absurd (by rw [h.1]; exact List.mem_cons_self) h2
  | x :: a, [], b, b', h1, _, h => by
    simp at h
    exact absurd (by rw [← h.1]; exact List.mem_cons_self) h1
  | x :: a, y :: a', b, b', h1, h2, h => by
    simp at h
    obtain ⟨e1, e2⟩ := cut_inj (fun z => h1 (List.mem_cons_of_mem _ z)) (fun z => h2 (List.mem_cons_of_mem _ z)) h.2
    exact ⟨by rw [h.1, e1], e2⟩
theorem join_cps (c : Nat) (x y : Str) (r : List Str) : (Str.join ⟨#[c]⟩ (x :: y :: r)).cps.toList = x.cps.toList ++ c :: (Str.join ⟨#[c]⟩ (y :: r)).cps.toList := by
  show ((x ++ ⟨#[c]⟩ ++ Str.join ⟨#[c]⟩ (y :: r)).cps).toList = _
  simp [Str.cps_append]
theorem join_inj (c : Nat) : ∀ {xs ys : List Str}, xs ≠ [] → ys ≠ [] → (∀ p ∈ xs, c ∉ p.cps.toList) → (∀ p ∈ ys, c ∉ p.cps.toList) → (Str.join ⟨#[c]⟩ xs).cps.toList = (Str.join ⟨#[c]⟩ ys).cps.toList → xs = ys
  | [], _, h, _, _, _, _ => absurd rfl h
  | _, [], _, h, _, _, _ => absurd rfl h
  | [x], [y], _, _, _, _, h => by
    have : x.cps.toList = y.cps.toList := h
    rw [Str.ext' (Array.toList_inj.mp this)]
  | [x], y :: z :: r, _, _, h1, _, h => by
    rw [join_cps] at h
    have h : x.cps.toList = y.cps.toList ++ c :: _ := h
    exact absurd (by rw [h]; simp) (h1 x List.mem_cons_self)
  | x :: z :: r, [y], _, _, _, h2, h => by
    rw [join_cps] at h
    have h : _ = y.cps.toList := h
    exact absurd (by rw [← h]; simp) (h2 y List.mem_cons_self)
  | x :: x2 :: r, y :: y2 :: r', _, _, h1, h2, h => by
    rw [join_cps, join_cps] at h
    obtain ⟨e1, e2⟩ := cut_inj (h1 x List.mem_cons_self) (h2 y List.mem_cons_self) h
    rw [Str.ext' (Array.toList_inj.mp e1), join_inj c (by simp) (by simp) (fun p hp => h1 p (List.mem_cons_of_mem _ hp)) (fun p hp => h2 p (List.mem_cons_of_mem _ hp)) e2]
theorem split_ne (x y : Str) : Txt.split x y ≠ [] := by
  unfold Txt.split
  split
  · simp
  · split
    · simp
    · obtain ⟨p, r, e⟩ := StrLaws.partsFrom_ne x y.length 0 (Builtin.Str.occurrences x y 0 x.length (x.length + 1))
      rw [StrLaws.partsBetween_eq, e]
      simp
theorem split_join (c : Nat) {ps : List Str} (h : ps ≠ []) (hf : ∀ p ∈ ps, c ∉ p.cps.toList) : Txt.split (Txt.join ⟨#[c]⟩ ps) ⟨#[c]⟩ = ps := by
  refine join_inj c (split_ne _ _) h (StrLaws.split_free _ c) hf ?_
  rw [StrLaws.join_split]
  show (Builtin.Str.glued _ ps).cps.toList = _
  rw [StrLaws.glued_eq_join]
theorem join_app (sep : Str) : ∀ {xs ys : List Str}, xs ≠ [] → ys ≠ [] → Str.join sep (xs ++ ys) = Str.join sep xs ++ sep ++ Str.join sep ys
  | [], _, h, _ => absurd rfl h
  | [x], y :: ys, _, _ => rfl
  | [x], [], _, h => absurd rfl h
  | x :: x2 :: xs, ys, _, h => by
    show x ++ sep ++ Str.join sep (x2 :: xs ++ ys) = x ++ sep ++ Str.join sep (x2 :: xs) ++ sep ++ Str.join sep ys
    rw [join_app sep (by simp) h]
    simp only [Str.append_assoc]
theorem part_eq {a y b : Str} (hno : ∀ k, k < a.length → ¬ (((a ++ y ++ b).cps.toList.drop k).take y.length = y.cps.toList)) : Txt.partition (a ++ y ++ b) y = (a, y, b) := by
  have la : a.cps.toList.length = a.length := by simp [Str.length]
  have ly : y.cps.toList.length = y.length := by simp [Str.length]
  have lb : b.cps.toList.length = b.length := by simp [Str.length]
  have lx : (a ++ y ++ b).length = a.length + y.length + b.length := by rw [Str.length_append, Str.length_append]
  have ex : (a ++ y ++ b).cps.toList = a.cps.toList ++ (y.cps.toList ++ b.cps.toList) := by simp [Str.cps_append]
  have at1 : StrLaws.At (a ++ y ++ b) y (a ++ y ++ b).length a.length := by
    refine ⟨by omega, ?_⟩
    rw [StrLaws.subAt_eq, ex, beq_iff_eq, List.drop_left' la, List.take_left' ly]
  have e1 : Builtin.Str.strSub (a ++ y ++ b) 0 a.length = a := by
    refine Str.ext' (Array.toList_inj.mp ?_)
    rw [StrLaws.strSub_toList, ex, List.drop_zero, Nat.sub_zero, List.take_left' la]
  have e2 : Builtin.Str.strSub (a ++ y ++ b) (a.length + y.length) (a ++ y ++ b).length = b := by
    refine Str.ext' (Array.toList_inj.mp ?_)
    rw [StrLaws.strSub_toList, ex, ← List.append_assoc, List.drop_left' (by rw [List.length_append, la, ly]), lx]
    exact List.take_of_length_le (by rw [lb]; omega)
  unfold Txt.partition
  rcases StrLaws.occ_head (a ++ y ++ b) y 1 (Nat.le_refl 1) with ⟨h0, hn⟩ | ⟨i, r, h0, hi, hn⟩
  · exact absurd at1 (hn _)
  · have : i = a.length := by
      rcases Nat.lt_trichotomy i a.length with q | q | q
      · have h2 := hi.2
        rw [StrLaws.subAt_eq, beq_iff_eq] at h2
        exact absurd h2 (hno i q)
      · exact q
      · exact absurd at1 (hn _ q)
    subst this
    rw [h0]
    dsimp only
    rw [e1, e2]
/-! ### the texts of a stock -/
def spT : Str := ⟨#[32]⟩
def nlT : Str := ⟨#[10]⟩
def prT : Str := " price "
def stW (k i j : Nat) : List Str := if k < 7 then [nm k, numT i, numT j] else [nm k, numT i]
def noSP : List Nat → Bool
  | 32 :: 112 :: _ => false
  | _ :: l => noSP l
  | [] => true
def okW (ws : List Str) : Bool := ws.all fun p => !p.cps.toList.contains 32 && !p.cps.toList.contains 10
theorem stW_ok : ∀ k, k < 10 → ∀ i, i < 6 → ∀ j, j < 64 → (noSP (Txt.join spT (stW k i j)).cps.toList && (okW (stW k i j) && decide ((Txt.join spT (stW k i j)).length ≤ 20))) = true := by decide +kernel
theorem noSP_no : ∀ {l : List Nat}, noSP l = true → ∀ (r : List Nat) (k : Nat), k < l.length → ¬ ∃ t, (l ++ 32 :: r).drop k = 32 :: 112 :: t
  | [], _, r, k, hk, _ => by simp at hk
  | x :: l, h, r, 0, _, ⟨t, e⟩ => by
    simp only [List.cons_append, List.drop_zero, List.cons.injEq] at e
    obtain ⟨rfl, e⟩ := e
    cases l with
    | nil => simp at e
    | cons y l =>
      simp only [List.cons_append, List.cons.injEq] at e
      obtain ⟨rfl, _⟩ := e
      simp [noSP] at h
  | x :: l, h, r, k + 1, hk, ⟨t, e⟩ => by
    refine noSP_no (l := l) ?_ r k (by simpa using hk) ⟨t, by simpa using e⟩
    unfold noSP at h
    split at h
    · cases h
    · rename_i h2
      cases h2
      exact h
    · rename_i h2
      cases h2
end DL

namespace DL
open PySem PySem.Spec PyProof.Rows L2
theorem joinOk {sep : Str} {ss : List Str} {B : Nat} (hB : ∀ y ∈ ss, y.length ≤ B) (h : ss.length * B + ss.length * sep.length ≤ 16777216) : JoinOk sep ss = true := by
  unfold JoinOk
  have := StrLaws.joinFits hB h
  simpa using this
theorem join_len {sep : Str} {ss : List Str} {B : Nat} (hB : ∀ y ∈ ss, y.length ≤ B) : (Txt.join sep ss).length ≤ ss.length * B + ss.length * sep.length := by
  have h1 := StrLaws.join_length_le sep ss
  have h2 := StrLaws.sumLen_le ss hB
  show (Builtin.Str.glued sep ss).length ≤ _
  rw [StrLaws.glued_eq_join]
  omega
theorem numT_ok : ∀ n, n < 64 → ((numT n).length ≤ 2 ∧ 1 ≤ (numT n).length) ∧ ((numT n).cps.all (· < 128) = true ∧ (!(numT n).cps.toList.contains 32 && !(numT n).cps.toList.contains 10) = true) := by decide +kernel
def lnT (k i j pr : Nat) : Str := Txt.join spT (stW k i j ++ [("price" : Str), numT pr])
theorem stW_parts {k i j : Nat} (hk : k < 10) (hi : i < 6) (hj : j < 64) : noSP (Txt.join spT (stW k i j)).cps.toList = true ∧ okW (stW k i j) = true ∧ (Txt.join spT (stW k i j)).length ≤ 20 := by
  have h := stW_ok k hk i hi j hj
  simp only [Bool.and_eq_true, decide_eq_true_eq] at h
  exact ⟨h.1, h.2.1, h.2.2⟩
theorem stW_ne (k i j : Nat) : stW k i j ≠ [] := by unfold stW; split <;> simp
theorem stW_len (k i j : Nat) : 2 ≤ (stW k i j).length ∧ (stW k i j).length ≤ 3 := by unfold stW; split <;> simp
theorem okW_free {ws : List Str} (h : okW ws = true) : ∀ p ∈ ws, 32 ∉ p.cps.toList ∧ 10 ∉ p.cps.toList := fun p hp => by
  have := List.all_eq_true.mp h p hp
  simpa using this
theorem ln_eq (k i j pr : Nat) : lnT k i j pr = Txt.join spT (stW k i j) ++ prT ++ numT pr := by
  show Builtin.Str.glued _ _ = Builtin.Str.glued _ _ ++ _ ++ _
  rw [StrLaws.glued_eq_join, StrLaws.glued_eq_join, join_app spT (stW_ne k i j) (by simp)]
  show Str.join spT (stW k i j) ++ spT ++ (("price" : Str) ++ spT ++ numT pr) = _
  have e : prT = spT ++ ("price" : Str) ++ spT := by decide +kernel
  rw [e]
  simp only [Str.append_assoc]
theorem ln_part {k i j pr : Nat} (hk : k < 10) (hi : i < 6) (hj : j < 64) : Txt.partition (lnT k i j pr) prT = (Txt.join spT (stW k i j), prT, numT pr) := by
  rw [ln_eq]
  refine part_eq fun m hm e => ?_
  obtain ⟨h1, _, _⟩ := stW_parts hk hi hj
  have ep : prT.cps.toList = [32, 112, 114, 105, 99, 101, 32] := by decide +kernel
  have ex : (Txt.join spT (stW k i j) ++ prT ++ numT pr).cps.toList = (Txt.join spT (stW k i j)).cps.toList ++ 32 :: ([112, 114, 105, 99, 101, 32] ++ (numT pr).cps.toList) := by
    rw [Str.cps_append, Str.cps_append, Array.toList_append, Array.toList_append, ep]
    simp
  refine noSP_no h1 ([112, 114, 105, 99, 101, 32] ++ (numT pr).cps.toList) m (by simpa [Str.length] using hm) ?_
  rw [ex, ep] at e
  have l7 : prT.length = 7 := by decide +kernel
  rw [l7] at e
  generalize ((Txt.join spT (stW k i j)).cps.toList ++ 32 :: ([112, 114, 105, 99, 101, 32] ++ (numT pr).cps.toList)).drop m = l at e
  match l, e with
  | a :: b :: l, e =>
    simp only [List.take_succ_cons, List.cons.injEq] at e
    exact ⟨l, by rw [e.1, e.2.1]⟩
  | [a], e => simp at e
  | [], e => simp at e
theorem ln_words {k i j : Nat} (hk : k < 10) (hi : i < 6) (hj : j < 64) : Txt.split (Txt.join spT (stW k i j)) spT = stW k i j := by
  obtain ⟨_, h2, _⟩ := stW_parts hk hi hj
  exact split_join 32 (stW_ne k i j) fun p hp => (okW_free h2 p hp).1
theorem join_free {c d : Nat} (hcd : c ≠ d) : ∀ {ss : List Str}, (∀ p ∈ ss, c ∉ p.cps.toList) → c ∉ (Str.join ⟨#[d]⟩ ss).cps.toList
  | [], _ => by show c ∉ ([] : List Nat); simp
  | [x], h => h x List.mem_cons_self
  | x :: y :: r, h => by
    rw [join_cps]
    intro z
    rcases List.mem_append.mp z with z | z
    · exact h x List.mem_cons_self z
    · rcases List.mem_cons.mp z with z | z
      · exact hcd z
      · exact join_free hcd (fun p hp => h p (List.mem_cons_of_mem _ hp)) z
theorem ln_ok {k i j pr : Nat} (hk : k < 10) (hi : i < 6) (hj : j < 64) (hp : pr < 64) : (lnT k i j pr).length ≤ 40 ∧ 10 ∉ (lnT k i j pr).cps.toList := by
  obtain ⟨_, h2, h3⟩ := stW_parts hk hi hj
  obtain ⟨⟨n1, _⟩, _, n3⟩ := numT_ok pr hp
  refine ⟨?_, ?_⟩
  · rw [ln_eq, Str.length_append, Str.length_append]
    have l7 : prT.length = 7 := by decide +kernel
    omega
  · unfold lnT
    show 10 ∉ (Builtin.Str.glued _ _).cps.toList
    rw [StrLaws.glued_eq_join]
    refine join_free (by decide) fun p hpm => ?_
    rcases List.mem_append.mp hpm with z | z
    · exact (okW_free h2 p z).2
    · simp only [List.mem_cons, List.not_mem_nil, or_false] at z
      rcases z with rfl | rfl
      · decide +kernel
      · simp at n3
        simpa using n3.2
def szT (p : Int × Int) : Str := catS Str.empty [("bits " : Str), numT p.1.toNat, (" boxes " : Str), numT p.2.toNat]
theorem sz_ok : ∀ p ∈ sizes14, Txt.split (szT p) spT = [("bits" : Str), numT p.1.toNat, ("boxes" : Str), numT p.2.toNat] ∧ (szT p).length ≤ 40 ∧ (!(szT p).cps.toList.contains 10) = true ∧ (("bits " : Str) ++ numT p.1.toNat ++ (" boxes " : Str) ++ numT p.2.toNat) = szT p := by decide +kernel
def jnQ (q : SQ) : Int := if q.1 < 6 then q.2.2.1 else q.2.2.2
def lnS (s : SK) : Str := lnT s.1.1 s.1.2.1.toNat (jnQ s.1).toNat s.2.toNat
def txT (p : Int × Int) (L : List SK) : Str := Txt.join nlT (szT p :: L.map lnS)
theorem sq_small {p : Int × Int} {q : SQ} (h : SqOk p q) : q.1 < 10 ∧ q.2.1.toNat < 6 ∧ (jnQ q).toNat < 64 ∧ 0 ≤ jnQ q := by
  obtain ⟨h1, h2, h3, h4, h5⟩ := sz14 p h.sz
  have i0 := h.i0
  have j0 := h.j0
  have n0 := h.n0
  have m64 : ((2 ^ p.1.toNat : Nat) : Int) ≤ 64 := by
    have : 2 ^ p.1.toNat ≤ 2 ^ 6 := Nat.pow_le_pow_right (by decide) (by omega)
    omega
  refine ⟨h.k10, by omega, ?_, ?_⟩
  · unfold jnQ
    split <;> omega
  · unfold jnQ
    split <;> omega
end DL

namespace DL
open PySem PySem.Spec PyProof.Rows L2
section
variable {X : Cx} {sd : List Slot} {pos : Pos}
theorem pd_globS {x z : Str} {u : Value} (hg : Gl X x) (hm : X.mg x = some u) (ru : RelV (.str z) u) (hd : (x == ("__debug__" : Str)) = false := by decide) : PEd X sd (.Name x pos) (.val (.str z)) := .mk fun σ F H S =>
  (pe_glob hg hm ru hd).to ⟨F, S, Same.refl _, by simp only [ResOk, Rep]⟩
end
def figT : Str := "0123456789"
theorem fig_ok : ∀ c, c < 10 → (!(Builtin.Str.occurrences figT ⟨#[48 + c]⟩ 0 figT.length 1).isEmpty) = true := by decide +kernel
theorem numT_sgn : ∀ n, n < 64 → ((numT n).cps.toList.all fun c => decide (48 ≤ c) && decide (c < 58)) = true ∧ (∃ c, L2.atI (numT n).cps.toList 0 = some c ∧ (c = 48 ↔ n = 0)) := by
  intro n hn
  unfold numT
  by_cases h : n < 10
  · rw [if_pos h]
    refine ⟨by simp; omega, 48 + n, rfl, by omega⟩
  · rw [if_neg h]
    refine ⟨by simp; omega, 48 + n / 10, rfl, by omega⟩
theorem numT_0 {n : Nat} (hn : n < 64) : numT n = numT 0 ↔ n = 0 := by
  constructor
  · intro h
    obtain ⟨_, c, h1, h2⟩ := numT_sgn n hn
    obtain ⟨_, c', h3, h4⟩ := numT_sgn 0 (by decide)
    rw [h] at h1
    rw [h1] at h3
    cases h3
    exact h2.mp (h4.mpr rfl)
  · rintro rfl
    rfl
end DL

namespace DL
open PySem PySem.Spec PyProof.Rows L2
section
variable {X : Cx} {sd : List Slot} {e : Expr} {pos : Pos}
theorem pd_joinC {z : Str} {ss : List Str} {j} {p0 apos cpos : Pos} (hz : PEd X sd e (.val (.lst (ss.map D.str)))) (hok : JoinOk z ss = true)
    (hfew : ((backTo cpos (starEach [e] X.env)).all (fun x => !x.1) && (backToKw cpos (keywordEach [] X.env)).all (fun x => x.1.isSome)
      && decide ([e].length + ([] : List Keyword).length + (if ([] : List Keyword).isEmpty then 0 else 1) < 30)) = true := by rfl)
    (hline : (apos.endLine == cpos.line) = true := by rfl) (hs : starEach [e] X.env = (false, eval e X.env) :: starEach [] X.env := by rfl) (hplain : (backTo cpos (starEach [] X.env)).any (·.1) = false := by rfl) :
    PEd X sd (.Call (.Attribute (.Constant (.str z) j p0) "join" apos) [e] [] cpos) (.val (.str (Txt.join z ss))) :=
  pd_join pd_str hz hok hs (pe_bm PySem.F.plainAttrs_str PySem.F.slot_str_join PySem.F.type_str_join mt_join pe_w (pa_cons pe_w pa_nil hs) (by rfl) hfew hline hs hplain)
end
end DL

namespace DL
open PySem PySem.Spec PyProof.Rows L2
/-! ### what repr needs of a datum -/
mutual
def atB : D → Bool
  | .non => true
  | .bl _ => true
  | .int i => decide (0 ≤ i) && decide (i < 64)
  | .str x => decide ((reprText x).length ≤ 20)
  | .tup ds => atL ds
  | .lst ds => atL ds
  | .dic => false
  | .dki _ _ => false
  | .scr _ => false
def atL : List D → Bool
  | [] => true
  | d :: ds => atB d && atL ds
end
mutual
def wgt : D → Nat
  | .tup ds => wgtL ds + 5
  | .lst ds => wgtL ds + 5
  | _ => 20
def wgtL : List D → Nat
  | [] => 0
  | d :: ds => wgt d + 2 + wgtL ds
end
theorem log_sm {i : Int} (h0 : 0 ≤ i) (h : i < 1000) : i.natAbs.log2 < 1920 := by
  by_cases z : i.natAbs = 0
  · rw [z]; decide
  · exact (Nat.log2_lt z (k := 1920)).mpr (Nat.lt_of_lt_of_le (show i.natAbs < 2 ^ 10 by omega) (Nat.pow_le_pow_right (by decide) (by decide)))
mutual
theorem shown_ok : ∀ d : D, atB d = true → (pyD d).showable = true ∧ (pyD d).hasDict = false ∧ (pyD d).shown.length ≤ wgt d ∧ pl d = true ∧ (pyD d).depth ≤ dep d
  | .non, _ => by simp only [pyD]; exact ⟨rfl, rfl, by decide +kernel, rfl, Nat.le_refl _⟩
  | .bl b, _ => by
    simp only [pyD]
    refine ⟨rfl, rfl, ?_, rfl, Nat.le_refl _⟩
    cases b <;> decide +kernel
  | .int i, h => by
    simp only [atB, Bool.and_eq_true, decide_eq_true_eq] at h
    simp only [pyD]
    refine ⟨?_, rfl, ?_, rfl, Nat.le_refl _⟩
    · simp only [PyData.showable]
      exact decide_eq_true (log_sm h.1 (by omega))
    · simp only [PyData.shown]
      have e := numT_eq i.toNat (by omega)
      rw [Int.toNat_of_nonneg h.1] at e
      rw [e]
      have := (numT_ok i.toNat (by omega)).1.1
      show _ ≤ 20
      omega
  | .str x, h => by
    simp only [atB, decide_eq_true_eq] at h
    simp only [pyD]
    refine ⟨rfl, rfl, ?_, rfl, Nat.le_refl _⟩
    simp only [PyData.shown]
    exact h
  | .tup ds, h => by
    simp only [atB] at h
    obtain ⟨h1, h2, h3, h4, h5⟩ := shownL_ok ds h
    simp only [pyD, PyData.showable, PyData.hasDict, PyData.shown, wgt, pl, PyData.depth, dep]
    refine ⟨h1, h2, ?_, h4, by omega⟩
    have := tupleText_len_le (PyData.shownAll (pyL ds))
    omega
  | .lst ds, h => by
    simp only [atB] at h
    obtain ⟨h1, h2, h3, h4, h5⟩ := shownL_ok ds h
    simp only [pyD, PyData.showable, PyData.hasDict, PyData.shown, wgt, pl, PyData.depth, dep]
    refine ⟨h1, h2, ?_, h4, by omega⟩
    have := listText_len_le (PyData.shownAll (pyL ds))
    omega
  | .dic, h => by simp only [atB] at h; cases h
  | .dki _ _, h => by simp only [atB] at h; cases h
  | .scr _, h => by simp only [atB] at h; cases h
theorem shownL_ok : ∀ ds : List D, atL ds = true → PyData.showableAll (pyL ds) = true ∧ PyData.hasDictAll (pyL ds) = false ∧ ((PyData.shownAll (pyL ds)).map (·.length)).sum + 2 * (PyData.shownAll (pyL ds)).length ≤ wgtL ds ∧ plL ds = true ∧ PyData.depthAll (pyL ds) ≤ depL ds
  | [], _ => by simp [pyL, PyData.shownAll, PyData.showableAll, PyData.hasDictAll, PyData.depthAll, plL]
  | d :: ds, h => by
    simp only [atL, Bool.and_eq_true] at h
    obtain ⟨a1, a2, a3, a4, a5⟩ := shown_ok d h.1
    obtain ⟨b1, b2, b3, b4, b5⟩ := shownL_ok ds h.2
    simp only [pyL, PyData.shownAll, PyData.showableAll, PyData.hasDictAll, PyData.depthAll, wgtL, plL, depL, List.map_cons, List.sum_cons, List.length_cons, a1, a2, a4, b1, b2, b4]
    refine ⟨rfl, rfl, by omega, rfl, ?_⟩
    omega
end
section
variable {X : Cx} {sd : List Slot} {e : Expr} {pos : Pos} {ds : List D}
theorem pd_reprA {p : Pos} (hg : Gl X "repr") (hm : X.mg "repr" = none) (h : PEd X sd e (.val (.tup ds))) (ha : atB (.tup ds) = true) (hw : wgt (.tup ds) ≤ 100000) (hgd : X.A.guards = some []) (hu : X.A.units + (dep (.tup ds) + 1) < cLine)
    (hst : starEach [e] X.env = (false, eval e X.env) :: starEach [] X.env := by rfl) : PEd X sd (.Call (.Name "repr" p) [e] [] pos) (.val (.str (pyD (.tup ds)).shown)) := by
  obtain ⟨a1, a2, a3, a4, a5⟩ := shown_ok (.tup ds) ha
  exact pd_repr hg hm h (by simpa only [pl] using a4) a1 a2 hgd (by omega) (by rw [sizeLine_eq]; omega) hst
end
end DL

set_option maxHeartbeats 400000
namespace K11
open PySem PySem.Spec PyProof.Rows L2 DL
theorem lenS {α : Type} {us : List α} {n : Nat} (h : us.length = n + 1) : ∃ a r, us = a :: r ∧ r.length = n := by
  cases us with
  | nil => cases h
  | cons a r => exact ⟨a, r, rfl, Nat.succ.inj h⟩
theorem len1 {α : Type} {us : List α} (h : us.length = 1) : ∃ a, us = [a] := by
  obtain ⟨a, r, e0, h2⟩ := lenS h
  subst e0
  exact ⟨a, by rw [List.eq_nil_of_length_eq_zero h2]⟩
theorem len2 {α : Type} {us : List α} (h : us.length = 2) : ∃ a b, us = [a, b] := by
  obtain ⟨a, r, e0, h2⟩ := lenS h
  subst e0
  obtain ⟨b, rfl⟩ := len1 h2
  exact ⟨a, b, rfl⟩
theorem len3 {α : Type} {us : List α} (h : us.length = 3) : ∃ a b c, us = [a, b, c] := by
  obtain ⟨a, r, e0, h2⟩ := lenS h
  subst e0
  obtain ⟨b, c, rfl⟩ := len2 h2
  exact ⟨a, b, c, rfl⟩
theorem len4 {α : Type} {us : List α} (h : us.length = 4) : ∃ a b c d, us = [a, b, c, d] := by
  obtain ⟨a, r, e0, h2⟩ := lenS h
  subst e0
  obtain ⟨b, c, d, rfl⟩ := len3 h2
  exact ⟨a, b, c, d, rfl⟩
theorem len5 {α : Type} {us : List α} (h : us.length = 5) : ∃ a b c d e, us = [a, b, c, d, e] := by
  obtain ⟨a, r, e0, h2⟩ := lenS h
  subst e0
  obtain ⟨b, c, d, e, rfl⟩ := len4 h2
  exact ⟨a, b, c, d, e, rfl⟩
theorem len6 {α : Type} {us : List α} (h : us.length = 6) : ∃ a b c d e f, us = [a, b, c, d, e, f] := by
  obtain ⟨a, r, e0, h2⟩ := lenS h
  subst e0
  obtain ⟨b, c, d, e, f, rfl⟩ := len5 h2
  exact ⟨a, b, c, d, e, f, rfl⟩
def top (i : Nat) : Stmt := PySem.Challenge.pw_leastrow_k11_stocks_written_and_read.main.body.getD i (.Pass ⟨0, 0, 0, 0⟩)
abbrev sWhole : Stmt := top 5
abbrev sSize : Stmt := top 6
abbrev sCount : Stmt := top 7
abbrev sBox : Stmt := top 9
abbrev sWord : Stmt := top 8
abbrev sIsStep : Stmt := top 13
abbrev sDraw : Stmt := top 32
abbrev sDigits : Stmt := top 33
abbrev sSize14 : Stmt := top 34
abbrev sLStep : Stmt := top 35
abbrev sIPrice : Stmt := top 17
abbrev sIPStep : Stmt := top 18
abbrev sIStock : Stmt := top 19
abbrev sStk10 : Stmt := top 36
abbrev sShSize : Stmt := top 23
abbrev sShStep : Stmt := top 24
abbrev sShStock : Stmt := top 25
abbrev sRdNum : Stmt := top 26
abbrev sRdSize : Stmt := top 27
abbrev sRdStep : Stmt := top 28
abbrev sRdLines : Stmt := top 29
abbrev sRdStock : Stmt := top 30
abbrev sText : Stmt := top 37
abbrev sIsRight : Stmt := top 38
abbrev sLaw : Stmt := top 39
section
variable {P : Program} {w : World} {K : PySem.W.Frag} {mg : Str → Option Value} {base : Heap} {f : Addr} {fd : FuncData}
theorem u_of {u d n c : Nat} (h : u + n < c) (hd : d + 1 ≤ n) : u + d + 1 < c := by omega
theorem pl_sq (q : SQ) : pl (sqD q) = true := by
  show pl (stpD _ _ _ _) = true
  unfold stpD
  split
  · rfl
  · split <;> rfl
theorem dep_sq (q : SQ) : dep (sqD q) = 1 := by
  show dep (stpD _ _ _ _) = 1
  unfold stpD
  split
  · rfl
  · split <;> rfl
def fstD : D → D
  | .tup (x :: _) => x
  | _ => .non
def twoT : D → List Slot → List Slot
  | .tup [x, y], r => .val x :: .val y :: r
  | _, r => .un :: .un :: r
theorem sks_get {L : List SK} {t : Nat} {d : D} (h : (L.map skD)[t]? = some d) : t < L.length ∧ d = skD (L.getD t default) := by
  rw [List.getElem?_map] at h
  by_cases hl : t < L.length
  · refine ⟨hl, ?_⟩
    simp [hl] at h
    simp [List.getD, hl, h]
  · rw [List.getElem?_eq_none (by omega)] at h
    cases h
theorem pw_pos (n : Nat) : (0 : Int) < ((2 ^ n : Nat) : Int) := by
  have : 0 < 2 ^ n := Nat.pow_pos (by decide)
  generalize 2 ^ n = q at this ⊢
  omega
def noScr (d : D) : Prop := ∀ ns, d ≠ .scr ns
def CWhole : List D → R → Prop := fun ds r => ∃ d, ds = [d] ∧ noScr d ∧ r = .val (.bl (isI d))
theorem ok_whole (F : Fun K "is_whole" "is_whole" sWhole f fd) (zisinstance : mg "isinstance" = none) (zint : mg "int" = none) (zbool : mg "bool" = none) (hm : mg "is_whole" = some (.ref f)) : Callee P w K mg base "is_whole" 1 1 CWhole := by
  have nd : (["thing"] : List Str).Nodup := by decide +kernel
  refine def_ok (N := ["thing"]) (ps := ["thing"]) (k := 0) F ⟨rfl, rfl, rfl, nd, rfl, by decide +kernel, by decide +kernel⟩ hm (fun _ _ _ _ _ _ us hl => by (obtain ⟨_, rfl⟩ := len1 hl; exact rfl)) fun cdv A outer s H E hr ds r hl c => ?_
  obtain ⟨d, rfl, hd, rfl⟩ := c
  refine psd_one (psd_ret (pd_and (pd_isin rfl zisinstance rfl zint PyProof.Rows.boot_int (pd_var 0 rfl (pv 0)) hd (kit_int _ d)) fun _ => pd_one (pd_not (pd_isin rfl zisinstance rfl zbool PyProof.Rows.boot_bool (pd_var 0 rfl (pv 0)) hd (kit_bool _ d)))) trivial ?_)
  cases d <;> rfl
def smallI (d : D) : Prop := noScr d ∧ ∀ i, d = .int i → i.natAbs < 2 ^ 250
def okSz (d : D) : Prop := noScr d ∧ ∀ ds, d = .tup ds → ∀ x ∈ ds, smallI x
def isSz : D → Bool
  | .tup [.int a, .int b] => decide (1 ≤ a) && (decide (1 ≤ b) && decide (a * b ≤ 6))
  | _ => false
def CIsSize : List D → R → Prop := fun ds r => ∃ d, ds = [d] ∧ okSz d ∧ r = .val (.bl (isSz d))
theorem ok_size (F : Fun K "is_size" "is_size" sSize f fd) (zisinstance : mg "isinstance" = none) (ztuple : mg "tuple" = none) (zlen : mg "len" = none) (six : ∃ t, mg "MOST_BITS" = some (.int 6 t)) (hm : mg "is_size" = some (.ref f)) (GW : Callee P w K mg base "is_whole" 1 1 CWhole) : Callee P w K mg base "is_size" 2 1 CIsSize := by
  have nd : (["thing", "bits", "boxes"] : List Str).Nodup := by decide +kernel
  refine def_ok (N := ["thing", "bits", "boxes"]) (ps := ["thing"]) (k := 1) F ⟨rfl, rfl, rfl, nd, rfl, by decide +kernel, by decide +kernel⟩ hm (fun _ _ _ _ _ _ us hl => by (obtain ⟨_, rfl⟩ := len1 hl; exact rfl)) fun cdv A outer s H E hr ds r hl c => ?_
  obtain ⟨d, rfl, hd, rfl⟩ := c
  cases ht : isT d with
  | false =>
    refine psd_cons (psd_ifT (k := true) (PWd.pt (pwd_or (k := true) (j := true) (ptd_not (k := false) (ptd_val (ht ▸ pd_isin rfl zisinstance rfl ztuple PyProof.Rows.boot_tuple (pd_var 0 rfl (pv 0)) hd.1 (kit_tuple _ d)))) fun z => nomatch z)) rfl ?_)
    refine psd_one (psd_ret pd_bl trivial ?_)
    cases d <;> first | rfl | cases ht
  | true =>
    cases d with
    | tup es =>
      have tst : ∀ k : Bool, (!decide (((es.length : Nat) : Int) = 2)) = k → PTd (cxOf CX0 P w K mg base ["thing", "bits", "boxes"] "is_size" (defScope sSize) f cdv A outer s H E).nox [.val (.tup es), .un, .un] (match (defBody sSize).getD 0 (.Pass ⟨0, 0, 0, 0⟩) with | .If t _ _ _ => t | _ => .Constant .none 0 ⟨0, 0, 0, 0⟩) k := fun k e => by
        refine PWd.pt (pwd_or (k := false) (j := k) (ptd_not (k := true) (ptd_val (pd_isin rfl zisinstance rfl ztuple PyProof.Rows.boot_tuple (pd_var 0 rfl (pv 0)) hd.1 (kit_tuple _ _)))) fun _ => pwd_or1 ?_)
        exact e ▸ ptd_neI (pd_lenT rfl zlen (pd_var 0 rfl (pv 0))) pd_int
      by_cases hlen : es.length = 2
      · obtain ⟨x, y, rfl⟩ : ∃ x y, es = [x, y] := by
          match es, hlen with
          | [x, y], _ => exact ⟨x, y, rfl⟩
        obtain ⟨hx, hxb⟩ := hd.2 _ rfl x (by simp)
        obtain ⟨hy, hyb⟩ := hd.2 _ rfl y (by simp)
        refine psd_cons (psd_ifF (k := false) (tst false rfl) rfl (psd_nil ?_))
        refine psd_cons (psd_set 1 nd rfl (Or.inl rfl) (pd_ixT (n := 0) (pd_var 0 rfl (pv 0)) pd_int rfl fun _ _ => rfl) ?_)
        refine psd_cons (psd_set 2 nd rfl (Or.inl rfl) (pd_ixT (n := 1) (pd_var 0 rfl (pv 0)) pd_int rfl fun _ _ => rfl) ?_)
        have wh : ∀ {e : Expr} {p q : Pos} {sd : List Slot} {X : Cx} {d : D}, Callee X.prog X.w X.K X.mg X.base "is_whole" 1 1 CWhole → Room 1 X.A → Gl X "is_whole" → starEach [e] X.env = (false, eval e X.env) :: starEach [] X.env → PEd X sd e (.val d) → noScr d → PEd X sd (.Call (.Name "is_whole" p) [e] [] q) (.val (.bl (isI d))) := fun g h1 h2 h3 h4 h5 => pd_call (ds := [_]) g h1 h2 (pad_cons h4 pad_nil trivial h3) ⟨_, rfl, h5, rfl⟩ trivial rfl (he := h3)
        by_cases hxy : isI x = true ∧ isI y = true
        · obtain ⟨i, rfl⟩ : ∃ i, x = .int i := by cases x <;> first | exact ⟨_, rfl⟩ | (simp [isI] at hxy)
          obtain ⟨j, rfl⟩ : ∃ j, y = .int j := by cases y <;> first | exact ⟨_, rfl⟩ | (simp [isI] at hxy)
          refine psd_cons (psd_ifF (k := (!isI (.int i) || !isI (.int j))) (PWd.pt (pwd_or (ptd_not (ptd_val (wh GW hr rfl rfl (pd_var 1 rfl (pv 1)) hx))) fun _ => pwd_or1 (ptd_not (ptd_val (wh GW hr rfl rfl (pd_var 2 rfl (pv 2)) hy))))) rfl (psd_nil ?_))
          obtain ⟨t, h6⟩ := six
          refine psd_one (psd_ret (pd_and (pd_cI op_ge (pd_var 1 rfl (pv 1)) pd_int (nomark _)) fun _ => pd_and (pd_cI op_ge (pd_var 2 rfl (pv 2)) pd_int (nomark _)) fun _ => pd_one (pd_cI op_le (pd_iiC op_mulG (pd_var 1 rfl (pv 1)) (pd_var 2 rfl (pv 2)) (mul_small (hxb i rfl) (hyb j rfl))) (pd_globI (i := 6) rfl h6 ⟨t, rfl⟩) (nomark _))) trivial rfl)
        · have e2 : (!isI x || !isI y) = true := by
            cases e1 : isI x <;> cases e3 : isI y <;> simp_all
          have e3 : isSz (.tup [x, y]) = false := by
            cases x <;> first | (cases y <;> first | rfl | (simp [isI] at hxy)) | rfl
          refine psd_cons (psd_ifT (k := (!isI x || !isI y)) (PWd.pt (pwd_or (ptd_not (ptd_val (wh GW hr rfl rfl (pd_var 1 rfl (pv 1)) hx))) fun _ => pwd_or1 (ptd_not (ptd_val (wh GW hr rfl rfl (pd_var 2 rfl (pv 2)) hy))))) e2 ?_)
          refine psd_one (psd_ret pd_bl trivial ?_)
          show R.val _ = R.val _
          rw [e3]
      · refine psd_cons (psd_ifT (k := true) (tst true ?_) rfl ?_)
        · have : ¬ ((es.length : Nat) : Int) = 2 := by omega
          simp [this]
        · refine psd_one (psd_ret pd_bl trivial ?_)
          show R.val _ = R.val _
          have : isSz (.tup es) = false := by
            unfold isSz
            split
            · rename_i heq
              cases heq
              exact absurd rfl hlen
            · rfl
          rw [this]
    | _ => cases ht
def CCount : List D → R → Prop := fun ds r => ∃ p : Int × Int, ds = [sizD p] ∧ 0 ≤ p.1 ∧ p.1 ≤ 60 ∧ r = .val (.int (2 ^ p.1.toNat))
theorem ok_count (F : Fun K "word_count" "word_count" sCount f fd) (zrange : mg "range" = none) (hm : mg "word_count" = some (.ref f)) : Callee P w K mg base "word_count" 1 1 CCount := by
  have nd : (["size", "count", "bit"] : List Str).Nodup := by decide +kernel
  refine def_ok (N := ["size", "count", "bit"]) (ps := ["size"]) (k := 0) F ⟨rfl, rfl, rfl, nd, rfl, by decide +kernel, by decide +kernel⟩ hm (fun _ _ _ _ _ _ us hl => by (obtain ⟨_, rfl⟩ := len1 hl; exact rfl)) fun cdv A outer s H E hr ds r hl c => ?_
  obtain ⟨p, rfl, h0, h1, rfl⟩ := c
  have ep : p.1 = ((p.1.toNat : Nat) : Int) := by omega
  refine psd_cons (psd_set 1 nd rfl (Or.inl rfl) pd_int ?_)
  refine psd_cons (psd_for (ds := rangeD 0 p.1.toNat) (fun k => [.val (sizD p), .val (.int (2 ^ k)), .un]) (fun k => [.val (sizD p), .val (.int (2 ^ k)), .val (.int (0 + (k : Int)))]) (pid_range (n := p.1.toNat) rfl zrange (PEd.cast (pd_ixT (n := 0) (d := .int p.1) (pd_var 0 rfl (pv 0)) pd_int rfl fun _ _ => rfl) (by rw [← ep])) (by omega)) ⟨.inr rfl, .inr rfl, .inr rfl, trivial⟩ (fun i d hd => ?_) (fun i d hd => ?_) ?_)
  · obtain ⟨_, rfl⟩ := rangeD_get hd
    exact pgd_name 2 (pg_name (i := 2) nd rfl (Or.inl rfl))
  · refine psd_one (psd_set 1 nd rfl (Or.inl rfl) (pd_iiC op_mulG (pd_var 1 rfl (pv 1)) pd_int (mul64 (by decide) (by decide))) ?_)
    exact ⟨.inr rfl, .inr rfl, .inl rfl, trivial⟩
  · refine psd_one (psd_ret (pd_var 1 rfl (pv 1)) trivial ?_)
    rw [rangeD_len]
def boxB (m : Int) : D → Bool
  | .int i => decide (0 ≤ i) && decide (i < m)
  | _ => false
def CBox : List D → R → Prop := fun ds r => ∃ p d, noScr d ∧ ds = [sizD p, d] ∧ r = .val (.bl (boxB p.2 d))
theorem ok_box (F : Fun K "is_box" "is_box" sBox f fd) (hm : mg "is_box" = some (.ref f)) (GW : Callee P w K mg base "is_whole" 1 1 CWhole) : Callee P w K mg base "is_box" 2 2 CBox := by
  have nd : (["size", "thing"] : List Str).Nodup := by decide +kernel
  refine def_ok (N := ["size", "thing"]) (ps := ["size", "thing"]) (k := 1) F ⟨rfl, rfl, rfl, nd, rfl, by decide +kernel, by decide +kernel⟩ hm (fun _ _ _ _ _ _ us hl => by (obtain ⟨_, _, rfl⟩ := len2 hl; exact rfl)) fun cdv A outer s H E hr ds r hl c => ?_
  obtain ⟨p, d, hd, rfl, rfl⟩ := c
  refine psd_one (psd_ret (pd_and (j := boxB p.2 d) (pd_call (ds := [d]) GW hr rfl (pad_cons (pd_var 1 rfl (pv 1)) pad_nil) ⟨d, rfl, hd, rfl⟩ trivial rfl) fun h => ?_) trivial ?_)
  · obtain ⟨i, rfl⟩ : ∃ i, d = .int i := by cases d <;> first | exact ⟨_, rfl⟩ | (simp [isI] at h)
    exact pd_one (pd_chainI op_le op_lt pd_int (pd_var 1 rfl (pv 1)) (pd_ixT (n := 1) (pd_var 0 rfl (pv 0)) pd_int rfl fun _ _ => rfl))
  · cases d <;> rfl
def CWord : List D → R → Prop := fun ds r => ∃ (p : Int × Int) (d : D), noScr d ∧ p ∈ sizes14 ∧ ds = [sizD p, d] ∧ r = .val (.bl (boxB ((2 ^ p.1.toNat : Nat) : Int) d))
theorem ok_word (F : Fun K "is_word" "is_word" sWord f fd) (hm : mg "is_word" = some (.ref f)) (GW : Callee P w K mg base "is_whole" 1 1 CWhole) (GC : Callee P w K mg base "word_count" 1 1 CCount) : Callee P w K mg base "is_word" 2 2 CWord := by
  have nd : (["size", "thing"] : List Str).Nodup := by decide +kernel
  refine def_ok (N := ["size", "thing"]) (ps := ["size", "thing"]) (k := 1) F ⟨rfl, rfl, rfl, nd, rfl, by decide +kernel, by decide +kernel⟩ hm (fun _ _ _ _ _ _ us hl => by (obtain ⟨_, _, rfl⟩ := len2 hl; exact rfl)) fun cdv A outer s H E hr ds r hl c => ?_
  obtain ⟨p, d, hd, hp, rfl, rfl⟩ := c
  obtain ⟨h1, h2, h3, h4, h5⟩ := sz14 p hp
  have ec : (2 : Int) ^ p.1.toNat = ((2 ^ p.1.toNat : Nat) : Int) := by push_cast; rfl
  refine psd_one (psd_ret (pd_and (j := boxB ((2 ^ p.1.toNat : Nat) : Int) d) (pd_call (ds := [d]) GW hr rfl (pad_cons (pd_var 1 rfl (pv 1)) pad_nil) ⟨d, rfl, hd, rfl⟩ trivial rfl) fun h => ?_) trivial ?_)
  · obtain ⟨i, rfl⟩ : ∃ i, d = .int i := by cases d <;> first | exact ⟨_, rfl⟩ | (simp [isI] at h)
    exact pd_one (pd_chainI op_le op_lt pd_int (pd_var 1 rfl (pv 1)) (PEd.cast (pd_call (ds := [sizD p]) GC hr rfl (pad_cons (pd_var 0 rfl (pv 0)) pad_nil) ⟨p, rfl, by omega, by omega, rfl⟩ trivial rfl) (by rw [ec])))
  · cases d <;> rfl
def okStp (d : D) : Prop := noScr d ∧ ∀ x y rest, d = .tup (x :: y :: rest) → pl x = true ∧ noScr y ∧ ∀ z ∈ rest, noScr z
def selfN : List Str := ["not", "up", "down"]
def anoN : List Str := ["and", "or", "xor", "add", "take", "copy"]
def stpTail (p : Int × Int) (x : D) : List D → Bool
  | [z] => if deq x (.str "put") then boxB ((2 ^ p.1.toNat : Nat) : Int) z else (inD anoN x && boxB p.2 z)
  | _ => false
def isStp (p : Int × Int) : D → Bool
  | .tup (x :: y :: rest) => boxB p.2 y && (if inD selfN x then rest.isEmpty else stpTail p x rest)
  | _ => false
def CStep : List D → R → Prop := fun ds r => ∃ (p : Int × Int) (d : D), p ∈ sizes14 ∧ okStp d ∧ ds = [sizD p, d] ∧ r = .val (.bl (isStp p d))
theorem ok_isstep (F : Fun K "is_step" "is_step" sIsStep f fd) (zisinstance : mg "isinstance" = none) (ztuple : mg "tuple" = none) (zlen : mg "len" = none) (byself : ∃ ad, mg "BY_ITSELF" = some (.ref ad) ∧ ∀ H : Hp, SqT K H ad (selfN.map V.str)) (byano : ∃ ad, mg "BY_ANOTHER" = some (.ref ad) ∧ ∀ H : Hp, SqT K H ad (anoN.map V.str)) (hm : mg "is_step" = some (.ref f)) (GB : Callee P w K mg base "is_box" 2 2 CBox) (GW : Callee P w K mg base "is_word" 2 2 CWord) : Callee P w K mg base "is_step" 3 2 CStep := by
  have nd : (["size", "thing"] : List Str).Nodup := by decide +kernel
  refine def_ok (N := ["size", "thing"]) (ps := ["size", "thing"]) (k := 2) F ⟨rfl, rfl, rfl, nd, rfl, by decide +kernel, by decide +kernel⟩ hm (fun _ _ _ _ _ _ us hl => by (obtain ⟨_, _, rfl⟩ := len2 hl; exact rfl)) fun cdv A outer s H E hr ds r hl c => ?_
  obtain ⟨p, d, hp, hd, rfl, rfl⟩ := c
  have hu : (A.deeper (envOfC "is_step" (defScope sIsStep) s.heap.objs.size f cdv)).units + 1 < cLine := by have := hr.un; omega
  obtain ⟨as, hS, qS⟩ := byself
  obtain ⟨aa, hA, qA⟩ := byano
  cases ht : isT d with
  | false =>
    refine psd_cons (psd_ifT (k := true) (PWd.pt (pwd_or (k := true) (j := true) (ptd_not (k := false) (ptd_val (ht ▸ pd_isin rfl zisinstance rfl ztuple PyProof.Rows.boot_tuple (pd_var 1 rfl (pv 1)) hd.1 (kit_tuple _ d)))) fun z => nomatch z)) rfl ?_)
    refine psd_one (psd_ret pd_bl trivial ?_)
    cases d <;> first | rfl | cases ht
  | true =>
    cases d with
    | tup es =>
      refine psd_cons (psd_if (k := (false || decide (((es.length : Nat) : Int) < 2))) (PWd.pt (pwd_or (k := false) (ptd_not (k := true) (ptd_val (pd_isin rfl zisinstance rfl ztuple PyProof.Rows.boot_tuple (pd_var 1 rfl (pv 1)) hd.1 (kit_tuple _ _)))) fun _ => pwd_or1 (ptd_cI op_lt (pd_lenT rfl zlen (pd_var 1 rfl (pv 1))) pd_int (nomark _)))) (fun h => ?_) fun h => psd_nil ?_)
      · have h' : es.length < 2 := by
          have : ((es.length : Nat) : Int) < 2 := by simpa using h
          omega
        refine psd_one (psd_ret pd_bl trivial ?_)
        match es, h' with
        | [], _ => rfl
        | [x], _ => rfl
      have h' : ¬ es.length < 2 := by
        have : ¬ ((es.length : Nat) : Int) < 2 := by simpa using h
        omega
      obtain ⟨x, y, rest, rfl⟩ : ∃ x y rest, es = x :: y :: rest := by
        match es, h' with
        | x :: y :: rest, _ => exact ⟨x, y, rest, rfl⟩
        | [], h => simp at h
        | [x], h => simp at h
      obtain ⟨px, ny, nz⟩ := hd.2 x y rest rfl
      refine psd_cons (psd_if (ptd_not (ptd_val (pd_call (ds := [sizD p, y]) (r := .val (.bl (boxB p.2 y))) GB hr rfl (pad_cons (pd_var 0 rfl (pv 0)) (pad_cons (pd_ixT (n := 1) (pd_var 1 rfl (pv 1)) pd_int rfl fun _ _ => rfl) pad_nil)) ⟨p, y, ny, rfl, rfl⟩ trivial rfl))) (fun h2 => ?_) fun h2 => psd_nil ?_)
      · have h2' : boxB p.2 y = false := by
          have h2 : (!boxB p.2 y) = true := h2
          simpa using h2
        refine psd_one (psd_ret pd_bl trivial ?_)
        show R.val (.bl false) = R.val (.bl (boxB p.2 y && _))
        rw [h2']
        rfl
      have h2' : boxB p.2 y = true := by
        have h2 : (!boxB p.2 y) = false := h2
        simpa using h2
      refine psd_cons (psd_if (ptd_inMD rfl hS (fun H => qS H) hu (pd_ixT (n := 0) (d := x) (pd_var 1 rfl (pv 1)) pd_int rfl fun _ _ => rfl) px) (fun h3 => ?_) fun h3 => psd_nil ?_)
      · refine psd_one (psd_ret (pd_eqI (pd_lenT rfl zlen (pd_var 1 rfl (pv 1))) pd_int) trivial ?_)
        show R.val (.bl _) = R.val (.bl (boxB p.2 y && (if inD selfN x then rest.isEmpty else stpTail p x rest)))
        rw [h2', h3, if_pos rfl]
        cases rest with
        | nil => rfl
        | cons z zs =>
          have : ¬ (((x :: y :: z :: zs).length : Nat) : Int) = 2 := by simp only [List.length_cons]; omega
          simp [this]
          omega
      have goal : isStp p (.tup (x :: y :: rest)) = stpTail p x rest := by
        show (boxB p.2 y && (if inD selfN x then rest.isEmpty else stpTail p x rest)) = _
        rw [h2', h3]
        simp
      rw [goal]
      refine psd_cons (psd_if (ptd_neI (pd_lenT rfl zlen (pd_var 1 rfl (pv 1))) pd_int) (fun h4 => ?_) fun h4 => psd_nil ?_)
      · refine psd_one (psd_ret pd_bl trivial ?_)
        match rest with
        | [] => rfl
        | [z] => simp at h4
        | z :: z2 :: zs => rfl
      obtain ⟨z, rfl⟩ : ∃ z, rest = [z] := by
        match rest with
        | [] => simp at h4
        | [z] => exact ⟨z, rfl⟩
        | z :: z2 :: zs =>
          have h5 : (((x :: y :: z :: z2 :: zs).length : Nat) : Int) = 3 := by simpa using h4
          simp only [List.length_cons] at h5
          omega
      have nz' := nz z (by simp)
      have hp' : PTd (cxOf CX0 P w K mg base ["size", "thing"] "is_step" (defScope sIsStep) f cdv A outer s H E).nox [.val (sizD p), .val (.tup [x, y, z])] (match (defBody sIsStep).getD 4 (.Pass ⟨0, 0, 0, 0⟩) with | .If t _ _ _ => t | _ => .Constant .none 0 ⟨0, 0, 0, 0⟩) (deq x (.str "put")) := by
        cases x with
        | non => exact ptd_eqS (pd_ixT (n := 0) (pd_var 1 rfl (pv 1)) pd_int rfl fun _ _ => rfl) pd_str rfl rfl rfl rfl
        | bl q => exact ptd_eqS (pd_ixT (n := 0) (pd_var 1 rfl (pv 1)) pd_int rfl fun _ _ => rfl) pd_str rfl rfl rfl (by simp [deq])
        | int q => exact ptd_eqS (pd_ixT (n := 0) (pd_var 1 rfl (pv 1)) pd_int rfl fun _ _ => rfl) pd_str rfl rfl rfl (by simp [deq])
        | str q => exact ptd_eqS (pd_ixT (n := 0) (pd_var 1 rfl (pv 1)) pd_int rfl fun _ _ => rfl) pd_str rfl rfl rfl (by rw [Bool.eq_iff_iff]; simp [deq])
        | tup q => exact ptd_eqRS (.inr ⟨_, rfl⟩) hu (pd_ixT (n := 0) (pd_var 1 rfl (pv 1)) pd_int rfl fun _ _ => rfl) pd_str
        | lst q => exact ptd_eqRS (.inl ⟨_, rfl⟩) hu (pd_ixT (n := 0) (pd_var 1 rfl (pv 1)) pd_int rfl fun _ _ => rfl) pd_str
        | dic => simp [pl] at px
        | dki _ _ => simp [pl] at px
        | scr q => simp [pl] at px
      refine psd_cons (psd_if hp' (fun h5 => ?_) fun h5 => psd_nil ?_)
      · refine psd_one (psd_ret (pd_call (ds := [sizD p, z]) GW hr rfl (pad_cons (pd_var 0 rfl (pv 0)) (pad_cons (pd_ixT (n := 2) (pd_var 1 rfl (pv 1)) pd_int rfl fun _ _ => rfl) pad_nil)) ⟨p, z, nz', hp, rfl, rfl⟩ trivial rfl) trivial ?_)
        show R.val (.bl _) = R.val (.bl (if deq x (.str "put") then _ else _))
        rw [h5, if_pos rfl]
      · refine psd_one (psd_ret (pd_and (pd_inMD rfl hA (fun H => qA H) hu (pd_ixT (n := 0) (d := x) (pd_var 1 rfl (pv 1)) pd_int rfl fun _ _ => rfl) px) fun _ => pd_one (pd_call (ds := [sizD p, z]) (r := .val (.bl (boxB p.2 z))) GB hr rfl (pad_cons (pd_var 0 rfl (pv 0)) (pad_cons (pd_ixT (n := 2) (pd_var 1 rfl (pv 1)) pd_int rfl fun _ _ => rfl) pad_nil)) ⟨p, z, nz', rfl, rfl⟩ trivial rfl)) trivial ?_)
        show R.val (.bl _) = R.val (.bl (if deq x (.str "put") then _ else _))
        rw [h5, if_neg (by decide)]
    | _ => cases ht
theorem ok_draw (F : Fun K "_law_draw" "_law_draw" sDraw f fd) (zlen : mg "len" = none) (hm : mg "_law_draw" = some (.ref f)) : Callee P w K mg base "_law_draw" 1 2 CDraw := by
  have nd : (["_law_script", "_law_k", "_law_most", "_law_x"] : List Str).Nodup := by decide +kernel
  refine def_ok (N := ["_law_script", "_law_k", "_law_most", "_law_x"]) (ps := ["_law_script", "_law_k"]) (k := 0) F ⟨rfl, rfl, rfl, nd, rfl, by decide +kernel, by decide +kernel⟩ hm (fun _ _ _ _ _ _ us hl => by (obtain ⟨_, _, rfl⟩ := len2 hl; exact rfl)) fun cdv A outer s H E hr ds r hl c => ?_
  obtain ⟨ns, k, rfl, hk, rfl⟩ := c
  have kb : ((k : Nat) : Int).natAbs < 2 ^ 250 := Nat.lt_of_le_of_lt (by omega : ((k : Nat) : Int).natAbs ≤ 1000) (by decide)
  have kk : ((k : Nat) : Int) * k ≤ 1000000 := by
    have : k * k ≤ 1000 * 1000 := Nat.mul_le_mul hk hk
    have e : ((k * k : Nat) : Int) = (k : Int) * k := by push_cast; rfl
    omega
  have kk0 : 0 ≤ ((k : Nat) : Int) * k := Int.mul_nonneg (by omega) (by omega)
  have kkb : (((k : Nat) : Int) * k).natAbs < 2 ^ 250 := Nat.lt_of_le_of_lt (by omega : (((k : Nat) : Int) * k).natAbs ≤ 1000000) (by decide)
  have kkk : ((k : Nat) : Int) * k * k ≤ 1000000000 := by
    have h1 : ((k : Nat) : Int) * k * k ≤ 1000000 * k := Int.mul_le_mul_of_nonneg_right kk (by omega)
    omega
  have kkk0 : 0 ≤ ((k : Nat) : Int) * k * k := Int.mul_nonneg kk0 (by omega)
  refine psd_cons (psd_set 2 nd rfl (Or.inl rfl) (pd_iiC op_mulG pd_int (pd_iiC op_pow pd_int pd_int ⟨by decide, by decide, by decide⟩) (mul_small (by decide) (by decide +kernel))) ?_)
  refine psd_cons (psd_set 3 nd rfl (Or.inl rfl) (pd_ii op_add (pd_iiC op_mulG (pd_iiC op_mulG (pd_var 1 rfl (pv 1)) (pd_var 1 rfl (pv 1)) (mul_small kb kb)) (pd_var 1 rfl (pv 1)) (mul_small kkb kb)) pd_int) ?_)
  have fin : ∀ x : Int, x = drawX ns k → PSd (cxOf CX0 P w K mg base ["_law_script", "_law_k", "_law_most", "_law_x"] "_law_draw" (defScope sDraw) f cdv A outer s H E).nox [.val (.scr ns), .val (.int k), .val (.int most), .val (.int x)] ((defBody sDraw).drop 3) { nx := fun _ => R.val (.int (drawL ns k)) = .val .non, rt := fun r' => r' = R.val (.int (drawL ns k)) } := fun x hx => by
    refine psd_one (psd_ret (pd_iiC op_mod (pd_iiC op_mulG (pd_iiC op_mod (pd_var 3 rfl (pv 3)) (pd_var 2 rfl (pv 2)) (by decide +kernel)) (pd_iiC op_pow pd_int pd_int ⟨by decide, by decide, by decide⟩) (mul_small ?_ (by decide +kernel))) (pd_var 2 rfl (pv 2)) (by decide +kernel)) trivial ?_)
    · have h1 := Int.emod_nonneg x (show most ≠ 0 by decide +kernel)
      have h2 := Int.emod_lt_of_pos x (show 0 < most by decide +kernel)
      have h3 : most < 2 ^ 250 := by decide +kernel
      omega
    · subst hx
      rfl
  refine psd_cons (psd_if (ptd_cI op_lt (pd_var 1 rfl (pv 1)) (pd_lenS rfl zlen (pd_var 0 rfl (pv 0))) (nomark _)) (fun h => ?_) fun h => ?_)
  · have h' : k < ns.length := by simpa using h
    refine psd_one (psd_set 3 nd rfl (Or.inl rfl) (pd_ixS (z := ns.getD k 0) (pd_var 0 rfl (pv 0)) (pd_var 1 rfl (pv 1)) (by simp [h']) fun _ _ => rfl) ?_)
    exact fin _ (by unfold drawX; rw [if_pos h'])
  · have h' : ¬ k < ns.length := by simpa using h
    refine psd_one (psd_if (ptd_cI op_gt (pd_lenS rfl zlen (pd_var 0 rfl (pv 0))) pd_int (nomark _)) (fun h2 => ?_) fun h2 => ?_)
    · have h2' : ns.length > 0 := by simpa using h2
      have em : ((k : Nat) : Int) % ((ns.length : Nat) : Int) = ((k % ns.length : Nat) : Int) := by omega
      have lt : k % ns.length < ns.length := Nat.mod_lt _ h2'
      have hb1 := Int.emod_nonneg (ns.getD (k % ns.length) 0) (show (1000003 : Int) ≠ 0 by decide)
      have hb2 := Int.emod_lt_of_pos (ns.getD (k % ns.length) 0) (show (0 : Int) < 1000003 by decide)
      refine psd_one (psd_set 3 nd rfl (Or.inl rfl) (pd_iiC op_mulG (pd_ii op_add (pd_iiC op_mod (pd_ixSi (z := ns.getD (k % ns.length) 0) (pd_var 0 rfl (pv 0)) (pd_iiC op_mod (pd_var 1 rfl (pv 1)) (pd_lenS rfl zlen (pd_var 0 rfl (pv 0))) (by omega)) (by rw [em]; omega) (by rw [em, Int.toNat_natCast]; simp [lt]) fun _ _ => rfl) pd_int (by decide)) pd_int) (pd_var 3 rfl (pv 3)) (mul_small ?_ ?_)) ?_)
      · exact Nat.lt_of_le_of_lt (by omega : _ ≤ 2000000) (by decide)
      · exact Nat.lt_of_le_of_lt (by omega : _ ≤ 2000000000) (by decide)
      · exact fin _ (by unfold drawX; rw [if_neg h', if_pos h2'])
    · have h2' : ¬ ns.length > 0 := by simpa using h2
      refine psd_nil ?_
      exact fin _ (by unfold drawX; rw [if_neg h', if_neg h2'])
theorem ok_digits (F : Fun K "_law_digits" "_law_digits" sDigits f fd) (hm : mg "_law_digits" = some (.ref f)) : Callee P w K mg base "_law_digits" 1 2 CDigits := by
  have nd : (["_law_x", "_law_sizes", "_law_found", "_law_size_here"] : List Str).Nodup := by decide +kernel
  refine def_ok (N := ["_law_x", "_law_sizes", "_law_found", "_law_size_here"]) (ps := ["_law_x", "_law_sizes"]) (k := 0) F ⟨rfl, rfl, rfl, nd, rfl, by decide +kernel, by decide +kernel⟩ hm (fun _ _ _ _ _ _ us hl => by (obtain ⟨_, _, rfl⟩ := len2 hl; exact rfl)) fun cdv A outer s H E hr ds r hl c => ?_
  obtain ⟨x, ns, rfl, hp, hn, rfl⟩ := c
  refine psd_cons (psd_setO 2 nd rfl (Or.inl rfl) (pd_lst (ds := []) pad_nil (Nat.zero_le _)) fun l => ?_)
  refine psd_cons (psd_for (ds := ns.map D.int) (fun k => [.val (.int (divL x (ns.take k))), .val (.lst (ns.map D.int)), .own l ((digL x (ns.take k)).map D.int), .un]) (fun k => [.val (.int (divL x (ns.take k))), .val (.lst (ns.map D.int)), .own l ((digL x (ns.take k)).map D.int), .val (.int (ns.getD k 0))])
    (pid_list (pd_var 1 rfl (pv 1))) ⟨.inr rfl, .inr rfl, .inr rfl, .inr rfl, trivial⟩ (fun k d hd => ?_) (fun k d hd => ?_) ?_)
  · obtain ⟨hk, rfl⟩ := ints_get hd
    exact pgd_name 3 (pg_name (i := 3) nd rfl (Or.inl rfl))
  · obtain ⟨hk, rfl⟩ := ints_get hd
    have hm : ns.getD k 0 ∈ ns := by simp [List.getD, hk]
    obtain ⟨h1, h2⟩ := hp _ hm
    have et : ns.take (k + 1) = ns.take k ++ [ns.getD k 0] := by
      rw [List.take_add_one]
      simp [List.getD, hk]
    refine psd_cons (psd_append 2 rfl (pv 2) (pd_iiC op_mod (pd_var 0 rfl (pv 0)) (pd_var 3 rfl (pv 3)) h1) ?_ ?_)
    · rw [List.length_map, digL_len, List.length_take]
      omega
    · refine psd_one (psd_set 0 nd rfl (Or.inl rfl) (pd_iiC op_fdivG (pd_var 0 rfl (pv 0)) (pd_var 3 rfl (pv 3)) ⟨h1, h2⟩) ?_)
      refine ⟨.inr ?_, .inr rfl, .inr ?_, .inl rfl, trivial⟩
      · rw [et, divL_snoc]
      · rw [et, digL_snoc, List.map_append]
        rfl
  · refine psd_one (psd_retO 2 rfl (pv 2) ?_)
    show R.own _ = R.own _
    rw [List.length_map, List.take_length]
theorem ok_size14 (F : Fun K "_law_size" "_law_size" sSize14 f fd) (zlen : mg "len" = none) (hm : mg "_law_size" = some (.ref f)) : Callee P w K mg base "_law_size" 1 1 CSize := by
  have nd : (["_law_number", "_law_sizes"] : List Str).Nodup := by decide +kernel
  refine def_ok (N := ["_law_number", "_law_sizes"]) (ps := ["_law_number"]) (k := 0) F ⟨rfl, rfl, rfl, nd, rfl, by decide +kernel, by decide +kernel⟩ hm (fun _ _ _ _ _ _ us hl => by (obtain ⟨_, rfl⟩ := len1 hl; exact rfl)) fun cdv A outer s H E hr ds r hl c => ?_
  obtain ⟨z, rfl, rfl⟩ := c
  refine psd_cons (psd_setO (ds := [sizD (2, 2), sizD (1, 1), sizD (1, 2), sizD (2, 1), sizD (1, 3), sizD (3, 1), sizD (2, 3), sizD (3, 2), sizD (1, 4), sizD (4, 1)]) 1 nd rfl (Or.inl rfl) (pd_lst (ds := [sizD (2, 2), sizD (1, 1), sizD (1, 2), sizD (2, 1), sizD (1, 3), sizD (3, 1), sizD (2, 3), sizD (3, 2), sizD (1, 4), sizD (4, 1)]) ?_ (Nat.le_of_ble_eq_true rfl)) fun l => ?_)
  · repeat' (first | exact pad_nil | refine pad_cons (pd_two rfl rfl) ?_)
  refine psd_cons (psd_setO (ds := [sizD (2, 2), sizD (1, 1), sizD (1, 2), sizD (2, 1), sizD (1, 3), sizD (3, 1), sizD (2, 3), sizD (3, 2), sizD (1, 4), sizD (4, 1)] ++ [sizD (1, 5), sizD (5, 1), sizD (1, 6), sizD (6, 1)]) 1 nd rfl (Or.inl rfl) (pd_catL (pd_varB 1 rfl (pv 1)) (pd_lst (ds := [sizD (1, 5), sizD (5, 1), sizD (1, 6), sizD (6, 1)]) ?_ (Nat.le_of_ble_eq_true rfl)).val.bor (Nat.le_of_ble_eq_true rfl)) fun l2 => ?_)
  · repeat' (first | exact pad_nil | refine pad_cons (pd_two rfl rfl) ?_)
  have h0 := Int.emod_nonneg z (show (14 : Int) ≠ 0 by decide)
  have h1 := Int.emod_lt_of_pos z (show (0 : Int) < 14 by decide)
  refine psd_one (psd_ret (pd_ixLi (i := z % 14) (d := sizD (size14 z)) (pd_varB 1 rfl (pv 1)) (pd_iiC (i := z) (j := 14) op_mod (pd_var 0 rfl (pv 0)) (PEd.cast (pd_lenL rfl zlen (pd_varB 1 rfl (pv 1))) rfl) (by decide)) h0 ?_ fun _ _ => rfl) trivial rfl)
  show (sizes14.map sizD)[(z % 14).toNat]? = _
  rw [List.getElem?_map]
  unfold size14
  have hlt : (z % 14).toNat < sizes14.length := by
    show _ < 14
    omega
  simp [List.getD, hlt]
theorem size14_mem (z : Int) : size14 z ∈ sizes14 := by
  have h0 := Int.emod_nonneg z (show (14 : Int) ≠ 0 by decide)
  have h1 := Int.emod_lt_of_pos z (show (0 : Int) < 14 by decide)
  have hlt : (z % 14).toNat < sizes14.length := by
    show _ < 14
    omega
  exact getD_mem hlt
def kOf (x : Int) : Nat := (x % 10).toNat
def iOf (p : Int × Int) (x : Int) : Int := x / 10 % 60 % p.2
def jOf (p : Int × Int) (x : Int) : Int := x / 10 / 60 % 60 % p.2
def nOf (p : Int × Int) (x : Int) : Int := x / 10 / 60 / 60 % 64 % ((2 ^ p.1.toNat : Nat) : Int)
def stpOf (p : Int × Int) (x : Int) : D := stpD (kOf x) (iOf p x) (jOf p x) (nOf p x)
def CLStep : List D → R → Prop := fun ds r => ∃ x p, p ∈ sizes14 ∧ ds = [.int x, sizD p] ∧ r = .val (stpOf p x)
theorem ok_lstep (F : Fun K "_law_step" "_law_step" sLStep f fd) (hm : mg "_law_step" = some (.ref f)) (GG : Callee P w K mg base "_law_digits" 1 2 CDigits) : Callee P w K mg base "_law_step" 2 2 CLStep := by
  have nd : (["_law_x", "_law_size_here", "_law_kind", "_law_i", "_law_j", "_law_n", "_law_words"] : List Str).Nodup := by decide +kernel
  refine def_ok (N := ["_law_x", "_law_size_here", "_law_kind", "_law_i", "_law_j", "_law_n", "_law_words"]) (ps := ["_law_x", "_law_size_here"]) (k := 1) F ⟨rfl, rfl, rfl, nd, rfl, by decide +kernel, by decide +kernel⟩ hm (fun _ _ _ _ _ _ us hl => by (obtain ⟨_, _, rfl⟩ := len2 hl; exact rfl)) fun cdv A outer s H E hr ds r hl c => ?_
  obtain ⟨x, p, hp, rfl, rfl⟩ := c
  obtain ⟨h1, h2, h3, h4, h5⟩ := sz14 p hp
  have hm0 := pw_pos p.1.toNat
  have p20 : (0 : Int) < p.2 := by omega
  have d0 := Int.emod_nonneg x (show (10 : Int) ≠ 0 by decide)
  have d1 := Int.emod_lt_of_pos x (show (0 : Int) < 10 by decide)
  refine psd_cons (psd_asg (d := .lst ((digL x [10, 60, 60, 64]).map D.int)) (PEd.val (pd_call (ds := [.int x, .lst ([10, 60, 60, 64].map D.int)]) GG hr rfl (pad_cons (pd_var 0 rfl (pv 0)) (pad_cons (PEd.val (pd_lst (ds := [.int 10, .int 60, .int 60, .int 64]) (pad_cons pd_int (pad_cons pd_int (pad_cons pd_int (pad_cons pd_int pad_nil)))) (Nat.le_of_ble_eq_true rfl))) pad_nil)) ⟨_, [10, 60, 60, 64], rfl, by decide, by decide, rfl⟩ trivial rfl))
    (pgd_lst (js := [2, 3, 4, 5]) rfl (pgs_cons (pg_name (i := 2) nd rfl (Or.inl rfl)) (pgs_cons (pg_name (i := 3) nd rfl (Or.inl rfl)) (pgs_cons (pg_name (i := 4) nd rfl (Or.inl rfl)) (pgs_cons (pg_name (i := 5) nd rfl (Or.inl rfl)) pgs_nil)))) rfl rfl) ?_)
  refine psd_cons (psd_setO (ds := stepNames.map D.str) 6 nd rfl (Or.inl rfl) (pd_lst (ds := [.str "and", .str "or", .str "xor", .str "add", .str "take", .str "copy", .str "put", .str "not", .str "up", .str "down"]) ?_ (Nat.le_of_ble_eq_true rfl)) fun l => ?_)
  · repeat' (first | exact pad_nil | refine pad_cons pd_str ?_)
  have wk : (stepNames.map D.str)[(x % 10).toNat]? = some (.str (nm (kOf x))) := by
    rw [List.getElem?_map]
    have : (x % 10).toNat < stepNames.length := by
      show _ < 10
      omega
    unfold nm kOf
    simp [List.getD, this]
  refine psd_cons (psd_if (ptd_cI op_lt (pd_var 2 rfl (pv 2)) pd_int (nomark _)) (fun h => ?_) fun h => psd_nil ?_)
  · have h' : x % 10 < 6 := by simpa using h
    have es : stpOf p x = .tup [.str (nm (kOf x)), .int (iOf p x), .int (jOf p x)] := by
      unfold stpOf stpD
      rw [if_pos (show kOf x < 6 by unfold kOf; omega)]
    rw [es]
    exact psd_one (psd_ret (pd_tup (ds := [.str (nm (kOf x)), .int (iOf p x), .int (jOf p x)]) (pad_cons (pd_ixLi (i := x % 10) (pd_varB 6 rfl (pv 6)) (pd_var 2 rfl (pv 2)) d0 wk fun _ _ => rfl) (pad_cons (pd_iiC op_mod (pd_var 3 rfl (pv 3)) (pd_ixT (n := 1) (d := .int p.2) (pd_var 1 rfl (pv 1)) pd_int rfl fun _ _ => rfl) p20) (pad_cons (pd_iiC op_mod (pd_var 4 rfl (pv 4)) (pd_ixT (n := 1) (d := .int p.2) (pd_var 1 rfl (pv 1)) pd_int rfl fun _ _ => rfl) p20) pad_nil))) (Nat.le_of_ble_eq_true rfl)) trivial rfl)
  have h' : ¬ x % 10 < 6 := by simpa using h
  refine psd_cons (psd_if (ptd_eqI (pd_var 2 rfl (pv 2)) pd_int) (fun h2 => ?_) fun h2 => psd_nil ?_)
  · have h2' : x % 10 = 6 := by simpa using h2
    have es : stpOf p x = .tup [.str (nm (kOf x)), .int (iOf p x), .int (nOf p x)] := by
      unfold stpOf stpD
      rw [if_neg (show ¬ kOf x < 6 by unfold kOf; omega), if_pos (show kOf x = 6 by unfold kOf; omega)]
    rw [es]
    refine psd_one (psd_ret (pd_tup (ds := [.str (nm (kOf x)), .int (iOf p x), .int (nOf p x)]) (pad_cons (pd_ixLi (i := x % 10) (pd_varB 6 rfl (pv 6)) (pd_var 2 rfl (pv 2)) d0 wk fun _ _ => rfl) (pad_cons (pd_iiC op_mod (pd_var 3 rfl (pv 3)) (pd_ixT (n := 1) (d := .int p.2) (pd_var 1 rfl (pv 1)) pd_int rfl fun _ _ => rfl) p20) (pad_cons (pd_iiC op_mod (pd_var 5 rfl (pv 5)) (pd_ixLi (i := p.1) (d := .int ((2 ^ p.1.toNat : Nat) : Int)) (PEd.bor (PEd.val (pd_lst (ds := [.int 1, .int 2, .int 4, .int 8, .int 16, .int 32, .int 64]) ?_ (Nat.le_of_ble_eq_true rfl)))) (pd_ixT (n := 0) (pd_var 1 rfl (pv 1)) pd_int rfl fun _ _ => rfl) (by omega) (pow_tab _ (by omega)) fun _ _ => rfl) hm0) pad_nil))) (Nat.le_of_ble_eq_true rfl)) trivial rfl)
    repeat' (first | exact pad_nil | refine pad_cons pd_int ?_)
  have h2' : ¬ x % 10 = 6 := by simpa using h2
  have es : stpOf p x = .tup [.str (nm (kOf x)), .int (iOf p x)] := by
    unfold stpOf stpD
    rw [if_neg (show ¬ kOf x < 6 by unfold kOf; omega), if_neg (show ¬ kOf x = 6 by unfold kOf; omega)]
  rw [es]
  exact psd_one (psd_ret (pd_tup (ds := [.str (nm (kOf x)), .int (iOf p x)]) (pad_cons (pd_ixLi (i := x % 10) (pd_varB 6 rfl (pv 6)) (pd_var 2 rfl (pv 2)) d0 wk fun _ _ => rfl) (pad_cons (pd_iiC op_mod (pd_var 3 rfl (pv 3)) (pd_ixT (n := 1) (d := .int p.2) (pd_var 1 rfl (pv 1)) pd_int rfl fun _ _ => rfl) p20) pad_nil)) (Nat.le_of_ble_eq_true rfl)) trivial rfl)
def prB : D → Bool
  | .int i => decide (1 ≤ i) && decide (i ≤ 9)
  | _ => false
def CIPrice : List D → R → Prop := fun ds r => ∃ d, ds = [d] ∧ noScr d ∧ r = .val (.bl (prB d))
theorem ok_iprice (F : Fun K "is_price" "is_price" sIPrice f fd) (nine : ∃ t, mg "HIGHEST_PRICE" = some (.int 9 t)) (hm : mg "is_price" = some (.ref f)) (GW : Callee P w K mg base "is_whole" 1 1 CWhole) : Callee P w K mg base "is_price" 2 1 CIPrice := by
  have nd : (["thing"] : List Str).Nodup := by decide +kernel
  refine def_ok (N := ["thing"]) (ps := ["thing"]) (k := 1) F ⟨rfl, rfl, rfl, nd, rfl, by decide +kernel, by decide +kernel⟩ hm (fun _ _ _ _ _ _ us hl => by (obtain ⟨_, rfl⟩ := len1 hl; exact rfl)) fun cdv A outer s H E hr ds r hl c => ?_
  obtain ⟨d, rfl, hd, rfl⟩ := c
  obtain ⟨t, h9⟩ := nine
  refine psd_one (psd_ret (pd_and (j := prB d) (pd_call (ds := [d]) GW hr rfl (pad_cons (pd_var 0 rfl (pv 0)) pad_nil) ⟨d, rfl, hd, rfl⟩ trivial rfl) fun h => ?_) trivial ?_)
  · obtain ⟨i, rfl⟩ : ∃ i, d = .int i := by cases d <;> first | exact ⟨_, rfl⟩ | (simp [isI] at h)
    exact pd_one (pd_chainI op_le op_le pd_int (pd_var 0 rfl (pv 0)) (pd_globI (i := 9) rfl h9 ⟨t, rfl⟩))
  · cases d <;> rfl
def okPS (d : D) : Prop := noScr d ∧ ∀ x y, d = .tup [x, y] → okStp x ∧ noScr y
def isPS (p : Int × Int) : D → Bool
  | .tup [x, y] => isStp p x && prB y
  | _ => false
def CIPS : List D → R → Prop := fun ds r => ∃ (p : Int × Int) (d : D), p ∈ sizes14 ∧ okPS d ∧ ds = [sizD p, d] ∧ r = .val (.bl (isPS p d))
theorem ok_ipstep (F : Fun K "is_priced_step" "is_priced_step" sIPStep f fd) (zisinstance : mg "isinstance" = none) (ztuple : mg "tuple" = none) (zlen : mg "len" = none) (hm : mg "is_priced_step" = some (.ref f)) (GS : Callee P w K mg base "is_step" 3 2 CStep) (GP : Callee P w K mg base "is_price" 2 1 CIPrice) : Callee P w K mg base "is_priced_step" 4 2 CIPS := by
  have nd : (["size", "thing"] : List Str).Nodup := by decide +kernel
  refine def_ok (N := ["size", "thing"]) (ps := ["size", "thing"]) (k := 3) F ⟨rfl, rfl, rfl, nd, rfl, by decide +kernel, by decide +kernel⟩ hm (fun _ _ _ _ _ _ us hl => by (obtain ⟨_, _, rfl⟩ := len2 hl; exact rfl)) fun cdv A outer s H E hr ds r hl c => ?_
  obtain ⟨p, d, hp, hd, rfl, rfl⟩ := c
  have hr2 := hr.mono (show 2 ≤ 3 by decide)
  cases ht : isT d with
  | false =>
    refine psd_cons (psd_ifT (k := true) (PWd.pt (pwd_or (k := true) (j := true) (ptd_not (k := false) (ptd_val (ht ▸ pd_isin rfl zisinstance rfl ztuple PyProof.Rows.boot_tuple (pd_var 1 rfl (pv 1)) hd.1 (kit_tuple _ d)))) fun z => nomatch z)) rfl ?_)
    refine psd_one (psd_ret pd_bl trivial ?_)
    cases d <;> first | rfl | cases ht
  | true =>
    cases d with
    | tup es =>
      have tst : ∀ k : Bool, (!decide (((es.length : Nat) : Int) = 2)) = k → PTd (cxOf CX0 P w K mg base ["size", "thing"] "is_priced_step" (defScope sIPStep) f cdv A outer s H E).nox [.val (sizD p), .val (.tup es)] (match (defBody sIPStep).getD 0 (.Pass ⟨0, 0, 0, 0⟩) with | .If t _ _ _ => t | _ => .Constant .none 0 ⟨0, 0, 0, 0⟩) k := fun k e => by
        refine PWd.pt (pwd_or (k := false) (j := k) (ptd_not (k := true) (ptd_val (pd_isin rfl zisinstance rfl ztuple PyProof.Rows.boot_tuple (pd_var 1 rfl (pv 1)) hd.1 (kit_tuple _ _)))) fun _ => pwd_or1 ?_)
        exact e ▸ ptd_neI (pd_lenT rfl zlen (pd_var 1 rfl (pv 1))) pd_int
      by_cases hlen : es.length = 2
      · obtain ⟨x, y, rfl⟩ : ∃ x y, es = [x, y] := by
          match es, hlen with
          | [x, y], _ => exact ⟨x, y, rfl⟩
        obtain ⟨hx, hy⟩ := hd.2 x y rfl
        refine psd_cons (psd_ifF (k := false) (tst false rfl) rfl (psd_nil ?_))
        exact psd_one (psd_ret (pd_and (k := isStp p x) (j := prB y) (pd_call (ds := [sizD p, x]) GS hr rfl (pad_cons (pd_var 0 rfl (pv 0)) (pad_cons (pd_ixT (n := 0) (pd_var 1 rfl (pv 1)) pd_int rfl fun _ _ => rfl) pad_nil)) ⟨p, x, hp, hx, rfl, rfl⟩ trivial rfl) fun _ => pd_one (pd_call (ds := [y]) GP hr2 rfl (pad_cons (pd_ixT (n := 1) (pd_var 1 rfl (pv 1)) pd_int rfl fun _ _ => rfl) pad_nil) ⟨y, rfl, hy, rfl⟩ trivial rfl)) trivial rfl)
      · refine psd_cons (psd_ifT (k := true) (tst true ?_) rfl ?_)
        · have : ¬ ((es.length : Nat) : Int) = 2 := by omega
          simp [this]
        · refine psd_one (psd_ret pd_bl trivial ?_)
          show R.val _ = R.val _
          have : isPS p (.tup es) = false := by
            unfold isPS
            split
            · rename_i heq
              cases heq
              exact absurd rfl hlen
            · rfl
          rw [this]
    | _ => cases ht
def okSt (d : D) : Prop := noScr d ∧ ∀ es, d = .lst es → es.length ≤ 900 ∧ ∀ e ∈ es, okPS e
def keyD : D → Key
  | .int i => .inl i
  | .str s => .inr s
  | _ => .inl 0
def keysD : D → List Key
  | .tup ds => ds.map keyD
  | _ => []
def stpK (d : D) : List Key := keysD (fstD d)
def isSt (p : Int × Int) : D → Bool
  | .lst es => (decide (1 ≤ es.length) && decide (es.length ≤ 8)) && (es.all (isPS p) && decide ((es.map stpK).Nodup))
  | _ => false
theorem deq_str {x : D} {n : Str} (h : deq x (.str n) = true) : x = .str n := by
  cases x <;> simp [deq] at h
  rw [h]
theorem deq_str2 {x : D} {n : Str} (h : deq (.str n) x = true) : x = .str n := by
  cases x <;> simp [deq] at h
  rw [h]
theorem inD_str {x : D} {ns : List Str} (h : inD ns x = true) : ∃ n ∈ ns, x = .str n := by
  unfold inD at h
  obtain ⟨n, hn, h⟩ := List.any_eq_true.mp h
  exact ⟨n, hn, deq_str2 h⟩
theorem boxB_int {m : Int} {d : D} (h : boxB m d = true) : ∃ i, d = .int i := by
  cases d <;> first | exact ⟨_, rfl⟩ | simp [boxB] at h
theorem stp_key {p : Int × Int} {x : D} (h : isStp p x = true) : x = .tup ((keysD x).map kD) := by
  unfold isStp at h
  split at h
  · rename_i x y rest
    simp only [Bool.and_eq_true] at h
    obtain ⟨h1, h2⟩ := h
    obtain ⟨i, rfl⟩ := boxB_int h1
    split at h2
    · rename_i hs
      obtain ⟨n, _, rfl⟩ := inD_str hs
      have : rest = [] := by simpa using h2
      subst this
      rfl
    · unfold stpTail at h2
      split at h2
      · rename_i z
        split at h2
        · rename_i hp
          obtain ⟨j, rfl⟩ := boxB_int h2
          rw [deq_str hp]
          rfl
        · simp only [Bool.and_eq_true] at h2
          obtain ⟨n, _, rfl⟩ := inD_str h2.1
          obtain ⟨j, rfl⟩ := boxB_int h2.2
          rfl
      · cases h2
  · cases h
theorem ps_split {p : Int × Int} {d : D} (h : isPS p d = true) : ∃ x y, d = .tup [x, y] ∧ isStp p x = true := by
  unfold isPS at h
  split at h
  · simp only [Bool.and_eq_true] at h
    exact ⟨_, _, rfl, h.1⟩
  · cases h
theorem ps_fst {p : Int × Int} {d : D} (h : isPS p d = true) : fstD d = .tup ((stpK d).map kD) := by
  obtain ⟨x, y, rfl, hx⟩ := ps_split h
  exact stp_key hx
theorem dedup_ex : ∀ ks : List (List Key), ∃ T : List (List Key), T.Nodup ∧ (∀ k, k ∈ T ↔ k ∈ ks) ∧ T.length ≤ ks.length ∧ (T.length = ks.length ↔ ks.Nodup)
  | [] => ⟨[], List.nodup_nil, fun k => Iff.rfl, Nat.le_refl _, ⟨fun _ => List.nodup_nil, fun _ => rfl⟩⟩
  | a :: ks => by
    obtain ⟨T, h1, h2, h3, h4⟩ := dedup_ex ks
    by_cases ha : a ∈ ks
    · refine ⟨T, h1, fun k => ?_, by simp; omega, ⟨fun z => ?_, fun z => ?_⟩⟩
      · rw [h2, List.mem_cons]
        exact ⟨.inr, fun z => z.elim (fun q => q ▸ ha) id⟩
      · simp at z
        omega
      · exact absurd ha (List.nodup_cons.mp z).1
    · refine ⟨a :: T, List.nodup_cons.mpr ⟨fun z => ha ((h2 a).mp z), h1⟩, fun k => ?_, by simp; omega, ⟨fun z => ?_, fun z => ?_⟩⟩
      · rw [List.mem_cons, List.mem_cons, h2]
      · have z : T.length = ks.length := by simpa using z
        exact List.nodup_cons.mpr ⟨ha, h4.mp z⟩
      · have := h4.mpr (List.nodup_cons.mp z).2
        simp [this]
theorem dedup_len {ks T T' : List (List Key)} (h1 : T.Nodup) (h2 : ∀ k, k ∈ T ↔ k ∈ ks) (h3 : T'.Nodup) (h4 : ∀ k, k ∈ T' ↔ k ∈ ks) : T'.length = T.length := by
  have := (List.perm_ext_iff_of_nodup h3 h1).mpr fun k => (h4 k).trans (h2 k).symm
  exact this.length_eq
def CISt : List D → R → Prop := fun ds r => ∃ (p : Int × Int) (d : D), p ∈ sizes14 ∧ okSt d ∧ ds = [sizD p, d] ∧ r = .val (.bl (isSt p d))
theorem ok_istock (F : Fun K "is_stock" "is_stock" sIStock f fd) (zisinstance : mg "isinstance" = none) (zlist : mg "list" = none) (zlen : mg "len" = none) (zall : mg "all" = none) (zset : mg "set" = none) (most : ∃ t, mg "MOST_STEPS" = some (.int 8 t)) (hm : mg "is_stock" = some (.ref f)) (GP : Callee P w K mg base "is_priced_step" 4 2 CIPS) : Callee P w K mg base "is_stock" 5 2 CISt := by
  have nd : (["size", "thing"] : List Str).Nodup := by decide +kernel
  have nd2 : (["part", "size"] : List Str).Nodup := by decide +kernel
  have nd3 : (["part"] : List Str).Nodup := by decide +kernel
  refine def_ok (N := ["size", "thing"]) (ps := ["size", "thing"]) (k := 4) F ⟨rfl, rfl, rfl, nd, rfl, by decide +kernel, by decide +kernel⟩ hm (fun _ _ _ _ _ _ us hl => by (obtain ⟨_, _, rfl⟩ := len2 hl; exact rfl)) fun cdv A outer s H E hr ds r hl c => ?_
  obtain ⟨p, d, hp, hd, rfl, rfl⟩ := c
  have hu : (A.deeper (envOfC "is_stock" (defScope sIStock) s.heap.objs.size f cdv)).units + 10 < cLine := by have := hr.un; omega
  obtain ⟨t8, h8⟩ := most
  cases ht : isL d with
  | false =>
    refine psd_cons (psd_ifT (k := true) (PWd.pt (pwd_or (k := true) (j := true) (ptd_not (k := false) (ptd_val (ht ▸ pd_isin rfl zisinstance rfl zlist PyProof.Rows.boot_list (pd_var 1 rfl (pv 1)) hd.1 (kit_list _ d)))) fun z => nomatch z)) rfl ?_)
    refine psd_one (psd_ret pd_bl trivial ?_)
    cases d <;> first | rfl | cases ht
  | true =>
    cases d with
    | lst es =>
      obtain ⟨l9, oks⟩ := hd.2 es rfl
      refine psd_cons (psd_if (k := (false || !(decide ((1 : Int) ≤ ((es.length : Nat) : Int)) && decide (((es.length : Nat) : Int) ≤ 8)))) (PWd.pt (pwd_or (k := false) (ptd_not (k := true) (ptd_val (pd_isin rfl zisinstance rfl zlist PyProof.Rows.boot_list (pd_var 1 rfl (pv 1)) hd.1 (kit_list _ _)))) fun _ => pwd_or1 (ptd_not (ptd_chainI op_le op_le pd_int (pd_lenL rfl zlen (PEd.bor (pd_var 1 rfl (pv 1)))) (pd_globI (i := 8) rfl h8 ⟨t8, rfl⟩))))) (fun h => ?_) fun h => psd_nil ?_)
      · refine psd_one (psd_ret pd_bl trivial ?_)
        have h' : ¬ (1 ≤ es.length ∧ es.length ≤ 8) := by
          simp at h
          omega
        show R.val (.bl false) = R.val (.bl ((decide (1 ≤ es.length) && decide (es.length ≤ 8)) && _))
        rw [show (decide (1 ≤ es.length) && decide (es.length ≤ 8)) = false by simpa using h']
        rfl
      have h' : 1 ≤ es.length ∧ es.length ≤ 8 := by
        simp at h
        omega
      have e1 : isSt p (.lst es) = (es.all (isPS p) && decide ((es.map stpK).Nodup)) := by
        show ((decide (1 ≤ es.length) && decide (es.length ≤ 8)) && _) = _
        rw [decide_eq_true h'.1, decide_eq_true h'.2]
        rfl
      rw [e1]
      refine psd_cons (psd_if (k := !(es.all (isPS p))) (ptd_not (ptd_val (PEd.cast (pd_allL (bs := es.map (isPS p)) rfl zall (PEd.bor (PEd.val (PEd.cast (pd_comp (ds := es) (N := ["part", "size"]) (M := ["size", "thing"]) (cap := [none, some 0]) (sc := defScope sIStock) (Tb := fun d => [.val d, .val (sizD p)]) (fun _ => true) (fun d => .bl (isPS p d)) (pid_list (pd_var 1 rfl (pv 1))) (by omega) rfl (by decide +kernel) rfl (by decide +kernel) rfl (fun cl C fp s H d _ => pgd_name 0 (pg_name (i := 0) nd2 rfl (Or.inl rfl))) (fun d _ => ⟨.inl rfl, .inr rfl, trivial⟩) (fun cl C fp s H d hd => .inl ⟨rfl, rfl⟩) fun cl C fp s H d hd _ => ?_) ?_)))) ?_))) (fun h2 => ?_) fun h2 => psd_nil ?_)
      · exact pd_call (ds := [sizD p, d]) GP hr rfl (pad_cons (pd_var 1 rfl (pv 1)) (pad_cons (pd_var 0 rfl (pv 0)) pad_nil)) ⟨p, d, hp, oks d hd, rfl, rfl⟩ trivial rfl
      · rw [List.filter_eq_self.mpr (fun _ _ => rfl), List.map_map]
        rfl
      · rw [List.all_map]
        rfl
      · refine psd_one (psd_ret pd_bl trivial ?_)
        rw [show es.all (isPS p) = false by simpa using h2]
        rfl
      have h2' : es.all (isPS p) = true := by simpa using h2
      rw [h2', Bool.true_and]
      have al : ∀ e ∈ es, isPS p e = true := List.all_eq_true.mp h2'
      obtain ⟨T, t1, t2, t3, t4⟩ := dedup_ex (es.map stpK)
      refine psd_one (psd_ret (PEd.cast (pd_eqI (pd_lenSet (ks := es.map stpK) (n := T.length) hu rfl zlen rfl zset (PEd.val (PEd.cast (pd_comp (ds := es) (N := ["part"]) (M := ["size", "thing"]) (cap := [none]) (sc := defScope sIStock) (Tb := fun d => [.val d]) (fun _ => true) fstD (pid_list (pd_var 1 rfl (pv 1))) (by omega) rfl (by decide +kernel) rfl (by decide +kernel) rfl (fun cl C fp s H d _ => pgd_name 0 (pg_name (i := 0) nd3 rfl (Or.inl rfl))) (fun d _ => ⟨.inl rfl, trivial⟩) (fun cl C fp s H d hd => .inl ⟨rfl, rfl⟩) fun cl C fp s H d hd _ => ?_) ?_)) (by rw [List.length_map]; omega) (fun T' n1 n2 => dedup_len t1 t2 n1 n2)) (pd_lenL rfl zlen (PEd.bor (pd_var 1 rfl (pv 1))))) ?_) trivial rfl)
      · obtain ⟨x, y, rfl, _⟩ := ps_split (al d hd)
        exact pd_ixT (n := 0) (pd_var 0 rfl (pv 0)) pd_int rfl fun _ _ => rfl
      · rw [List.filter_eq_self.mpr (fun _ _ => rfl), List.map_map]
        congr 1
        exact List.map_congr_left fun d hd => ps_fst (al d hd)
      · congr 2
        rw [List.length_map] at t4
        rw [Bool.eq_iff_iff, decide_eq_true_iff, decide_eq_true_iff, ← t4]
        exact ⟨fun z => by omega, fun z => by omega⟩
    | scr ns => exact absurd rfl (hd.1 ns)
    | _ => cases ht
def stE (p : Int × Int) (x : Int) : SQ := (kOf x, iOf p x, jOf p x, nOf p x)
theorem stE_ok {p : Int × Int} (hp : p ∈ sizes14) (x : Int) : SqOk p (stE p x) := by
  obtain ⟨h1, h2, h3, h4, h5⟩ := sz14 p hp
  have p20 : (0 : Int) < p.2 := by omega
  have m0 := pw0 p.1.toNat
  have d0 := Int.emod_nonneg x (show (10 : Int) ≠ 0 by decide)
  have d1 := Int.emod_lt_of_pos x (show (0 : Int) < 10 by decide)
  exact ⟨hp, by show (x % 10).toNat < 10; omega, ⟨Int.emod_nonneg _ (Int.ne_of_gt p20), Int.emod_lt_of_pos _ p20⟩, ⟨Int.emod_nonneg _ (Int.ne_of_gt p20), Int.emod_lt_of_pos _ p20⟩, ⟨Int.emod_nonneg _ (Int.ne_of_gt m0), Int.emod_lt_of_pos _ m0⟩⟩
def pcA (x : Int) : Int := 1 + x % 9
theorem pcA_ok (x : Int) : 1 ≤ pcA x ∧ pcA x ≤ 9 := by
  have h0 := Int.emod_nonneg x (show (9 : Int) ≠ 0 by decide)
  have h1 := Int.emod_lt_of_pos x (show (0 : Int) < 9 by decide)
  unfold pcA
  omega
def skN (p : Int × Int) (ns : List Int) (st : Nat) : Nat → List SK
  | 0 => []
  | t + 1 => if ((skN p ns st t).map skD |>.map fstD).any (fun z => deq z (sqD (stE p (drawL ns (st + 1 + t) / 9)))) then skN p ns st t else skN p ns st t ++ [(stE p (drawL ns (st + 1 + t) / 9), pcA (drawL ns (st + 1 + t)))]
def skT (ns : List Int) (st m : Nat) : Nat := 1 + (drawL ns st % (m : Int)).toNat
theorem skT_le (ns : List Int) (st : Nat) {m : Nat} (h : 0 < m) : 1 ≤ skT ns st m ∧ skT ns st m ≤ m := by
  have r0 := Int.emod_nonneg (drawL ns st) (show (m : Int) ≠ 0 by omega)
  have r1 := Int.emod_lt_of_pos (drawL ns st) (show (0 : Int) < (m : Int) by omega)
  unfold skT
  omega
theorem skN_ok {p : Int × Int} (hp : p ∈ sizes14) (ns : List Int) (st : Nat) : ∀ t, (skN p ns st t).length ≤ t ∧ (0 < t → 0 < (skN p ns st t).length) ∧ (∀ s ∈ skN p ns st t, SqOk p s.1 ∧ 1 ≤ s.2 ∧ s.2 ≤ 9) ∧ ((skN p ns st t).map fun s => sqD s.1).Pairwise (fun a b => deq a b = false)
  | 0 => ⟨Nat.le_refl _, fun h => by omega, (fun s hs => by cases hs), List.Pairwise.nil⟩
  | t + 1 => by
    obtain ⟨a, b, c, e⟩ := skN_ok hp ns st t
    unfold skN
    split
    · rename_i h
      refine ⟨by omega, fun _ => ?_, c, e⟩
      cases e : skN p ns st t with
      | nil =>
        rw [e] at h
        simp at h
      | cons _ _ => simp
    · rename_i h
      refine ⟨by rw [List.length_append]; simp; omega, fun _ => by rw [List.length_append]; simp, fun s hs => ?_, ?_⟩
      · rcases List.mem_append.mp hs with hs | hs
        · exact c s hs
        · rw [List.mem_singleton.mp hs]
          exact ⟨stE_ok hp _, pcA_ok _⟩
      · rw [List.map_append]
        refine List.pairwise_append.mpr ⟨e, List.pairwise_singleton _ _, fun x hx y hy => ?_⟩
        obtain ⟨s, hs, rfl⟩ := List.mem_map.mp hx
        have hy : y = sqD (stE p (drawL ns (st + 1 + t) / 9)) := by simpa using hy
        subst hy
        have h' : ((skN p ns st t).map skD |>.map fstD).any (fun z => deq z (sqD (stE p (drawL ns (st + 1 + t) / 9)))) = false := by simpa using h
        rw [List.any_eq_false] at h'
        have := h' (sqD s.1) (List.mem_map.mpr ⟨skD s, List.mem_map_of_mem hs, rfl⟩)
        simpa using this
def CStk10 : List D → R → Prop := fun ds r => ∃ ns p st m, p ∈ sizes14 ∧ st ≤ 100 ∧ 0 < m ∧ m ≤ 8 ∧ ds = [.scr ns, .int ((st : Nat) : Int), sizD p, .int ((m : Nat) : Int)] ∧ r = .own ((skN p ns st (skT ns st m)).map skD)
theorem ok_stock10 (F : Fun K "_law_stock" "_law_stock" sStk10 f fd) (zrange : mg "range" = none) (hm : mg "_law_stock" = some (.ref f)) (GD : Callee P w K mg base "_law_draw" 1 2 CDraw) (GT : Callee P w K mg base "_law_step" 2 2 CLStep) : Callee P w K mg base "_law_stock" 3 4 CStk10 := by
  have nd : (["_law_script", "_law_start", "_law_size_here", "_law_most", "_law_stock_here", "_law_k", "_law_x", "_law_step_here"] : List Str).Nodup := by decide +kernel
  refine def_ok (N := ["_law_script", "_law_start", "_law_size_here", "_law_most", "_law_stock_here", "_law_k", "_law_x", "_law_step_here"]) (ps := ["_law_script", "_law_start", "_law_size_here", "_law_most"]) (k := 2) F ⟨rfl, rfl, rfl, nd, rfl, by decide +kernel, by decide +kernel⟩ hm (fun _ _ _ _ _ _ us hl => by (obtain ⟨_, _, _, _, rfl⟩ := len4 hl; exact rfl)) fun cdv A outer s H E hr ds r hl c => ?_
  obtain ⟨ns, p, st, m, hp, hst, m0, m8, rfl, rfl⟩ := c
  have hr1 := hr.mono (show 1 ≤ 2 by decide)
  have hu : (A.deeper (envOfC "_law_stock" (defScope sStk10) s.heap.objs.size f cdv)).units + 4 < cLine := by have := hr.un; omega
  have hT := skT_le ns st m0
  refine psd_cons (psd_setO (ds := []) 4 nd rfl (Or.inl rfl) (pd_lst (ds := []) pad_nil (Nat.zero_le _)) fun l4 => ?_)
  have eT : 1 + drawL ns st % (m : Int) = ((skT ns st m : Nat) : Int) := by
    have r0 := Int.emod_nonneg (drawL ns st) (show (m : Int) ≠ 0 by omega)
    unfold skT
    omega
  refine psd_cons (psd_for (ds := rangeD 0 (skT ns st m)) (fun t => [.val (.scr ns), .val (.int ((st : Nat) : Int)), .val (sizD p), .val (.int ((m : Nat) : Int)), .own l4 ((skN p ns st t).map skD), .un, .un, .un]) (fun t => [.val (.scr ns), .val (.int ((st : Nat) : Int)), .val (sizD p), .val (.int ((m : Nat) : Int)), .own l4 ((skN p ns st t).map skD), .val (.int (0 + (t : Int))), .un, .un]) (pid_range (n := skT ns st m) rfl zrange (PEd.ic (pd_ii op_add pd_int (pd_iiC op_mod (pd_call (ds := [.scr ns, .int ((st : Nat) : Int)]) GD hr1 rfl (pad_cons (pd_var 0 rfl (pv 0)) (pad_cons (pd_var 1 rfl (pv 1)) pad_nil)) ⟨ns, st, rfl, by omega, rfl⟩ trivial rfl) (pd_var 3 rfl (pv 3)) (by omega))) eT) (by omega)) (Le.refl _) (fun t d hd => ?_) (fun t d hd => ?_) ?_)
  · obtain ⟨_, rfl⟩ := rangeD_get hd
    exact pgd_name 5 (pg_name (i := 5) nd rfl (Or.inl rfl))
  · obtain ⟨ht, rfl⟩ := rangeD_get hd
    rw [Int.zero_add]
    have ll : (skN p ns st t).length ≤ 8 := Nat.le_trans (skN_ok hp ns st t).1 (by omega)
    refine psd_cons (psd_set (d := .int (drawL ns (st + 1 + t))) 6 nd rfl (Or.inl rfl) (pd_call (ds := [.scr ns, .int ((st + 1 + t : Nat) : Int)]) GD hr1 rfl (pad_cons (pd_var 0 rfl (pv 0)) (pad_cons (PEd.ic (pd_ii op_add (pd_ii op_add (pd_var 1 rfl (pv 1)) pd_int) (pd_var 5 rfl (pv 5))) (by omega)) pad_nil)) ⟨ns, st + 1 + t, rfl, by omega, rfl⟩ trivial rfl) ?_)
    refine psd_cons (psd_set (d := sqD (stE p (drawL ns (st + 1 + t) / 9))) 7 nd rfl (Or.inl rfl) (pd_call (ds := [.int (drawL ns (st + 1 + t) / 9), sizD p]) GT hr rfl (pad_cons (pd_iiC op_fdivG (pd_var 6 rfl (pv 6)) pd_int ⟨by decide, by decide⟩) (pad_cons (pd_var 2 rfl (pv 2)) pad_nil)) ⟨_, p, hp, rfl, rfl⟩ trivial rfl) ?_)
    have eN : skN p ns st (t + 1) = if ((skN p ns st t).map skD |>.map fstD).any (fun z => deq z (sqD (stE p (drawL ns (st + 1 + t) / 9)))) then skN p ns st t else skN p ns st t ++ [(stE p (drawL ns (st + 1 + t) / 9), pcA (drawL ns (st + 1 + t)))] := rfl
    rw [eN]
    generalize skN p ns st t = L at *
    generalize drawL ns (st + 1 + t) = x
    generalize stE p (x / 9) = q
    have nd2 : (["_law_one", "_law_price"] : List Str).Nodup := by decide +kernel
    have plc : plL ((L.map skD).map fstD) = true ∧ depL ((L.map skD).map fstD) ≤ 1 := by
      rw [List.map_map]
      exact ⟨plL_map' (fun s : SK => fstD (skD s)) (fun s => pl_sq s.1) _, depL_map' (fun s : SK => fstD (skD s)) 1 (fun s => Nat.le_of_eq (dep_sq s.1)) _⟩
    have ef : ((L.map skD).filter fun _ => true).map fstD = (L.map skD).map fstD := by rw [List.filter_eq_self.mpr (fun _ _ => rfl)]
    refine psd_one (psd_if (k := !((L.map skD).map fstD).any fun z => deq z (sqD q)) (PTd.lend 4 rfl (oth_b rfl) (ptd_ninD (pd_var 7 rfl (pv 7)) (PEd.val (PEd.cast (pd_comp (ds := L.map skD) (N := ["_law_one", "_law_price"]) (M := ["_law_script", "_law_start", "_law_size_here", "_law_most", "_law_stock_here", "_law_k", "_law_x", "_law_step_here"]) (cap := [none, none]) (sc := defScope sStk10) (Tb := fun d => twoT d []) (fun _ => true) fstD (pid_list (pd_var 4 rfl (pv 4))) (by rw [List.length_map]; omega) rfl (by decide +kernel) rfl (by decide +kernel) rfl (fun cl C fp s H d hd => ?_) (fun d hd => ?_) (fun cl C fp s H d hd => .inl ⟨rfl, rfl⟩) fun cl C fp s H d hd _ => ?_) (by rw [ef]))) (pl_sq q) plc.1 (by have := plc.2; show (A.deeper (envOfC "_law_stock" (defScope sStk10) s.heap.objs.size f cdv)).units + 1 + _ < cLine; omega))) (fun h => ?_) fun h => ?_)
    · obtain ⟨s, _, rfl⟩ := List.mem_map.mp hd
      exact pgd_tup (js := [0, 1]) rfl (pgs_cons (pg_name (i := 0) nd2 rfl (Or.inl rfl)) (pgs_cons (pg_name (i := 1) nd2 rfl (Or.inl rfl)) pgs_nil)) rfl rfl
    · obtain ⟨s, _, rfl⟩ := List.mem_map.mp hd
      exact ⟨.inl rfl, .inl rfl, trivial⟩
    · obtain ⟨s, _, rfl⟩ := List.mem_map.mp hd
      exact (pd_var 0 rfl (pv 0))
    · have h' : ((L.map skD).map fstD).any (fun z => deq z (sqD q)) = false := by simpa using h
      rw [h']
      refine psd_one (psd_append (d := skD (q, pcA x)) 4 rfl (pv 4) (pd_tup (ds := [sqD q, .int (pcA x)]) (pad_cons (pd_var 7 rfl (pv 7)) (pad_cons (pd_ii op_add pd_int (pd_iiC op_mod (pd_var 6 rfl (pv 6)) pd_int (by decide))) pad_nil)) (Nat.le_of_ble_eq_true rfl)) (by rw [List.length_map]; omega) ?_)
      refine ⟨.inr rfl, .inr rfl, .inr rfl, .inr rfl, .inr ?_, .inl rfl, .inl rfl, .inl rfl, trivial⟩
      simp only [Bool.false_eq_true, if_false, List.map_append]
      rfl
    · have h' : ((L.map skD).map fstD).any (fun z => deq z (sqD q)) = true := by simpa using h
      rw [h']
      exact psd_nil ⟨.inr rfl, .inr rfl, .inr rfl, .inr rfl, .inr rfl, .inl rfl, .inl rfl, .inl rfl, trivial⟩
  · rw [rangeD_len]
    exact psd_one (psd_retO 4 rfl (pv 4) rfl)
theorem log_small {i : Int} (h0 : 0 ≤ i) (h : i < 1000) : i.natAbs.log2 < 1920 := by
  by_cases z : i.natAbs = 0
  · rw [z]; decide
  · have := (Nat.log2_lt z (k := 1920)).mpr (Nat.lt_of_lt_of_le (show i.natAbs < 2 ^ 10 by omega) (Nat.pow_le_pow_right (by decide) (by decide)))
    exact this
theorem int_txt {i : Int} (h0 : 0 ≤ i) (h : i < 64) : Str.ofString (toString i) = numT i.toNat := by
  have := numT_eq i.toNat (by omega)
  rw [Int.toNat_of_nonneg h0] at this
  exact this
def CShSize : List D → R → Prop := fun ds r => ∃ p, p ∈ sizes14 ∧ ds = [sizD p] ∧ r = .val (.str (szT p))
theorem ok_shsize (F : Fun K "show_size" "show_size" sShSize f fd) (hm : mg "show_size" = some (.ref f)) : Callee P w K mg base "show_size" 1 1 CShSize := by
  have nd : (["size", "bits", "boxes"] : List Str).Nodup := by decide +kernel
  refine def_ok (N := ["size", "bits", "boxes"]) (ps := ["size"]) (k := 0) F ⟨rfl, rfl, rfl, nd, rfl, by decide +kernel, by decide +kernel⟩ hm (fun _ _ _ _ _ _ us hl => by (obtain ⟨_, rfl⟩ := len1 hl; exact rfl)) fun cdv A outer s H E hr ds r hl c => ?_
  obtain ⟨p, hp, rfl, rfl⟩ := c
  obtain ⟨h1, h2, h3, h4, h5⟩ := sz14 p hp
  have l40 := (sz_ok p hp).2.1
  refine psd_cons (psd_set (d := .int p.1) 1 nd rfl (Or.inl rfl) (pd_ixT (n := 0) (pd_var 0 rfl (pv 0)) pd_int rfl fun _ _ => rfl) ?_)
  refine psd_cons (psd_set (d := .int p.2) 2 nd rfl (Or.inl rfl) (pd_ixT (n := 1) (pd_var 0 rfl (pv 0)) pd_int rfl fun _ _ => rfl) ?_)
  have e1 := int_txt (i := p.1) (by omega) (by omega)
  have e2 := int_txt (i := p.2) (by omega) (by omega)
  refine psd_one (psd_ret (pd_joined (zs := [("bits " : Str), numT p.1.toNat, (" boxes " : Str), numT p.2.toNat]) (pj_cons pd_str (pj_cons (PEd.cast (pd_fmtI (pd_var 1 rfl (pv 1)) (log_small (by omega) (by omega))) (by rw [e1])) (pj_cons pd_str (pj_cons (PEd.cast (pd_fmtI (pd_var 2 rfl (pv 2)) (log_small (by omega) (by omega))) (by rw [e2])) pj_nil)))) (Nat.le_trans l40 (by decide))) trivial rfl)
def stpE (k : Nat) (i j n : Int) : List D := if k < 6 then [.str (nm k), .int i, .int j] else if k = 6 then [.str (nm k), .int i, .int n] else [.str (nm k), .int i]
theorem stpD_E (k : Nat) (i j n : Int) : stpD k i j n = .tup (stpE k i j n) := by
  unfold stpD stpE
  split
  · rfl
  · split <;> rfl
def sqE (q : SQ) : List D := stpE q.1 q.2.1 q.2.2.1 q.2.2.2
theorem sqD_E (q : SQ) : sqD q = .tup (sqE q) := stpD_E _ _ _ _
theorem sqE_len (q : SQ) : 2 ≤ (sqE q).length ∧ (sqE q).length ≤ 3 := by
  unfold sqE stpE
  split
  · exact ⟨by simp, by simp⟩
  · split
    · exact ⟨by simp, by simp⟩
    · exact ⟨by simp, by simp⟩
def txtD : D → D
  | .int i => .str (Str.ofString (toString i))
  | .str x => .str x
  | _ => .non
theorem sqE_mem {p : Int × Int} {q : SQ} (h : SqOk p q) : ∀ d ∈ sqE q, (∃ x, d = .str x) ∨ ∃ i : Int, d = .int i ∧ 0 ≤ i ∧ i < 64 := fun d hd => by
  obtain ⟨h1, h2, h3, h4, h5⟩ := sz14 p h.sz
  have i0 := h.i0
  have j0 := h.j0
  have n0 := h.n0
  have m64 : ((2 ^ p.1.toNat : Nat) : Int) ≤ 64 := by
    have : 2 ^ p.1.toNat ≤ 2 ^ 6 := Nat.pow_le_pow_right (by decide) (by omega)
    omega
  unfold sqE stpE at hd
  split at hd
  · simp only [List.mem_cons, List.not_mem_nil, or_false] at hd
    rcases hd with rfl | rfl | rfl
    · exact .inl ⟨_, rfl⟩
    · exact .inr ⟨_, rfl, by omega, by omega⟩
    · exact .inr ⟨_, rfl, by omega, by omega⟩
  · split at hd
    · simp only [List.mem_cons, List.not_mem_nil, or_false] at hd
      rcases hd with rfl | rfl | rfl
      · exact .inl ⟨_, rfl⟩
      · exact .inr ⟨_, rfl, by omega, by omega⟩
      · exact .inr ⟨_, rfl, by omega, by omega⟩
    · simp only [List.mem_cons, List.not_mem_nil, or_false] at hd
      rcases hd with rfl | rfl
      · exact .inl ⟨_, rfl⟩
      · exact .inr ⟨_, rfl, by omega, by omega⟩
theorem sqE_txt {p : Int × Int} {q : SQ} (h : SqOk p q) : (sqE q).map txtD = (stW q.1 q.2.1.toNat (jnQ q).toNat).map D.str := by
  obtain ⟨s1, s2, s3, s4⟩ := sq_small h
  have i0 := h.i0
  obtain ⟨h1, h2, h3, h4, h5⟩ := sz14 p h.sz
  have ei := int_txt (i := q.2.1) (by omega) (by omega)
  have ej := int_txt (i := jnQ q) s4 (by omega)
  unfold sqE stpE stW
  by_cases q1 : q.1 < 6
  · have e : jnQ q = q.2.2.1 := by unfold jnQ; rw [if_pos q1]
    rw [if_pos q1, if_pos (by omega)]
    show [D.str _, D.str _, D.str _] = [D.str _, D.str _, D.str _]
    rw [ei, e] 
    rw [e] at ej
    rw [ej]
  · rw [if_neg q1]
    by_cases q2 : q.1 = 6
    · have e : jnQ q = q.2.2.2 := by unfold jnQ; rw [if_neg q1]
      rw [if_pos q2, if_pos (by omega)]
      show [D.str _, D.str _, D.str _] = [D.str _, D.str _, D.str _]
      rw [ei, e]
      rw [e] at ej
      rw [ej]
    · rw [if_neg q2, if_neg (by omega)]
      show [D.str _, D.str _] = [D.str _, D.str _]
      rw [ei]
def SkOk (p : Int × Int) (s : SK) : Prop := SqOk p s.1 ∧ 1 ≤ s.2 ∧ s.2 ≤ 9
theorem lnS_ok {p : Int × Int} {s : SK} (h : SkOk p s) : (lnS s).length ≤ 40 ∧ 10 ∉ (lnS s).cps.toList := by
  obtain ⟨s1, s2, s3, s4⟩ := sq_small h.1
  have := h.2.2
  exact ln_ok s1 s2 s3 (by omega)
theorem line_wb {p : Int × Int} {s : SK} (hs : SkOk p s) : ∀ y ∈ stW s.1.1 s.1.2.1.toNat (jnQ s.1).toNat ++ [("price" : Str), numT s.2.toNat], y.length ≤ 20 := fun y hy => by
  obtain ⟨s1, s2, s3, s4⟩ := sq_small hs.1
  have p1 := hs.2.1
  have p9 := hs.2.2
  rcases List.mem_append.mp hy with z | z
  · unfold stW at z
    have nk : ∀ k, k < 10 → (nm k).length ≤ 20 := by decide +kernel
    have t1 := (numT_ok s.1.2.1.toNat (by omega)).1.1
    have t2 := (numT_ok (jnQ s.1).toNat s3).1.1
    split at z
    · simp only [List.mem_cons, List.not_mem_nil, or_false] at z
      rcases z with rfl | rfl | rfl
      · exact nk _ s1
      · omega
      · omega
    · simp only [List.mem_cons, List.not_mem_nil, or_false] at z
      rcases z with rfl | rfl
      · exact nk _ s1
      · omega
  · simp only [List.mem_cons, List.not_mem_nil, or_false] at z
    rcases z with rfl | rfl
    · decide +kernel
    · have := (numT_ok s.2.toNat (by omega)).1.1
      omega
def CShStep : List D → R → Prop := fun ds r => ∃ p s, SkOk p s ∧ ds = [sqD s.1, .int s.2] ∧ r = .val (.str (lnS s))
theorem ok_shstep (F : Fun K "show_priced_step" "show_priced_step" sShStep f fd) (zstr : mg "str" = none) (hm : mg "show_priced_step" = some (.ref f)) : Callee P w K mg base "show_priced_step" 1 2 CShStep := by
  have nd : (["step", "price"] : List Str).Nodup := by decide +kernel
  have nd2 : (["part"] : List Str).Nodup := by decide +kernel
  refine def_ok (N := ["step", "price"]) (ps := ["step", "price"]) (k := 0) F ⟨rfl, rfl, rfl, nd, rfl, by decide +kernel, by decide +kernel⟩ hm (fun _ _ _ _ _ _ us hl => by (obtain ⟨_, _, rfl⟩ := len2 hl; exact rfl)) fun cdv A outer s H E hr ds r hl c => ?_
  obtain ⟨p, s, hs, rfl, rfl⟩ := c
  obtain ⟨s1, s2, s3, s4⟩ := sq_small hs.1
  have p1 := hs.2.1
  have p9 := hs.2.2
  have et := sqE_txt hs.1
  have em := sqE_mem hs.1
  have ep := int_txt (i := s.2) (by omega) (by omega)
  obtain ⟨l2, l3⟩ := sqE_len s.1
  obtain ⟨w2, w3⟩ := stW_len s.1.1 s.1.2.1.toNat (jnQ s.1).toNat
  rw [sqD_E]
  have wb := line_wb hs
  refine psd_one (psd_ret (pd_joinC (z := spT) (ss := stW s.1.1 s.1.2.1.toNat (jnQ s.1).toNat ++ [("price" : Str), numT s.2.toNat]) (PEd.val (PEd.cast (pd_catL (d1 := (sqE s.1).map txtD) (d2 := [.str ("price" : Str), .str (numT s.2.toNat)]) (PEd.bor (PEd.val (PEd.cast (pd_comp (ds := sqE s.1) (N := ["part"]) (M := ["step", "price"]) (cap := [none]) (sc := defScope sShStep) (Tb := fun d => [.val d]) (fun _ => true) txtD (pid_tup (pd_var 0 rfl (pv 0))) (by omega) rfl (by decide +kernel) rfl (by decide +kernel) rfl (fun cl C fp s H d _ => pgd_name 0 (pg_name (i := 0) nd2 rfl (Or.inl rfl))) (fun d _ => ⟨.inl rfl, trivial⟩) (fun cl C fp s H d hd => .inl ⟨rfl, rfl⟩) fun cl C fp s H d hd _ => ?_) ?_))) (PEd.bor (PEd.val (pd_lst (ds := [.str ("price" : Str), .str (numT s.2.toNat)]) (pad_cons pd_str (pad_cons (PEd.cast (pd_strI (by rfl) zstr (pd_var 1 rfl (pv 1)) (log_small (by omega) (by omega))) (by rw [ep])) pad_nil)) (Nat.le_of_ble_eq_true rfl)))) ?_) ?_)) (joinOk wb ?_)) trivial rfl)
  · rcases em d hd with ⟨x, rfl⟩ | ⟨i, rfl, i0, i1⟩
    · exact pd_strS (by rfl) zstr (pd_var 0 rfl (pv 0))
    · exact pd_strI (by rfl) zstr (pd_var 0 rfl (pv 0)) (log_small i0 (by omega))
  · rw [List.filter_eq_self.mpr (fun _ _ => rfl)]
  · rw [List.length_map]
    show _ + 2 ≤ 1000
    omega
  · rw [et, List.map_append]
    rfl
  · rw [List.length_append]
    have : spT.length = 1 := rfl
    rw [this]
    show (_ + 2) * 20 + (_ + 2) * 1 ≤ _
    omega
def txtS : D → Str
  | .int i => Str.ofString (toString i)
  | .str x => x
  | _ => Str.empty
def lnD : D → D
  | .tup [.tup es, .int pc] => .str (Txt.join spT (es.map txtS ++ [("price" : Str), numT pc.toNat]))
  | _ => .non
theorem lnD_sk {p : Int × Int} {s : SK} (h : SkOk p s) : lnD (skD s) = .str (lnS s) := by
  have et := sqE_txt h.1
  have em := sqE_mem h.1
  have e1 : (sqE s.1).map txtD = ((sqE s.1).map txtS).map D.str := by
    rw [List.map_map]
    refine List.map_congr_left fun d hd => ?_
    rcases em d hd with ⟨x, rfl⟩ | ⟨i, rfl, _, _⟩ <;> rfl
  rw [e1] at et
  have e2 : (sqE s.1).map txtS = stW s.1.1 s.1.2.1.toNat (jnQ s.1).toNat := by
    have : ∀ a b : List Str, a.map D.str = b.map D.str → a = b := fun a b h => (List.map_inj_right (fun x y z => by cases z; rfl)).mp h
    exact this _ _ et
  show lnD (.tup [sqD s.1, .int s.2]) = _
  rw [sqD_E]
  show D.str (Txt.join spT ((sqE s.1).map txtS ++ _)) = _
  rw [e2]
  rfl
def CShStock : List D → R → Prop := fun ds r => ∃ p L, p ∈ sizes14 ∧ L.length ≤ 8 ∧ (∀ s ∈ L, SkOk p s) ∧ ds = [sizD p, .lst (L.map skD)] ∧ r = .val (.str (txT p L))
theorem ok_shstock (F : Fun K "show_stock" "show_stock" sShStock f fd) (hm : mg "show_stock" = some (.ref f)) (GZ : Callee P w K mg base "show_size" 1 1 CShSize) (GS : Callee P w K mg base "show_priced_step" 1 2 CShStep) : Callee P w K mg base "show_stock" 2 2 CShStock := by
  have nd : (["size", "stock"] : List Str).Nodup := by decide +kernel
  have nd2 : (["step", "price"] : List Str).Nodup := by decide +kernel
  refine def_ok (N := ["size", "stock"]) (ps := ["size", "stock"]) (k := 1) F ⟨rfl, rfl, rfl, nd, rfl, by decide +kernel, by decide +kernel⟩ hm (fun _ _ _ _ _ _ us hl => by (obtain ⟨_, _, rfl⟩ := len2 hl; exact rfl)) fun cdv A outer s H E hr ds r hl c => ?_
  obtain ⟨p, L, hp, l8, hL, rfl, rfl⟩ := c
  have wb : ∀ y ∈ szT p :: L.map lnS, y.length ≤ 40 := fun y hy => by
    rcases List.mem_cons.mp hy with rfl | z
    · exact (sz_ok p hp).2.1
    · obtain ⟨s, hs, rfl⟩ := List.mem_map.mp z
      exact (lnS_ok (hL s hs)).1
  refine psd_one (psd_ret (pd_joinC (z := nlT) (ss := szT p :: L.map lnS) (PEd.val (PEd.cast (pd_catL (d1 := [.str (szT p)]) (d2 := (L.map lnS).map D.str) (PEd.bor (PEd.val (pd_lst (ds := [.str (szT p)]) (pad_cons (pd_call (ds := [sizD p]) GZ hr rfl (pad_cons (pd_var 0 rfl (pv 0)) pad_nil) ⟨p, hp, rfl, rfl⟩ trivial rfl) pad_nil) (Nat.le_of_ble_eq_true rfl)))) (PEd.bor (PEd.val (PEd.cast (pd_comp (ds := L.map skD) (N := ["step", "price"]) (M := ["size", "stock"]) (cap := [none, none]) (sc := defScope sShStock) (Tb := fun d => twoT d []) (fun _ => true) lnD (pid_list (pd_var 1 rfl (pv 1))) (by rw [List.length_map]; omega) rfl (by decide +kernel) rfl (by decide +kernel) rfl (fun cl C fp s H d hd => ?_) (fun d hd => ?_) (fun cl C fp s H d hd => .inl ⟨rfl, rfl⟩) fun cl C fp s H d hd _ => ?_) ?_))) ?_) ?_)) (joinOk wb ?_)) trivial rfl)
  · obtain ⟨s, _, rfl⟩ := List.mem_map.mp hd
    exact pgd_tup (js := [0, 1]) rfl (pgs_cons (pg_name (i := 0) nd2 rfl (Or.inl rfl)) (pgs_cons (pg_name (i := 1) nd2 rfl (Or.inl rfl)) pgs_nil)) rfl rfl
  · obtain ⟨s, _, rfl⟩ := List.mem_map.mp hd
    exact ⟨.inl rfl, .inl rfl, trivial⟩
  · obtain ⟨s', hs', rfl⟩ := List.mem_map.mp hd
    rw [lnD_sk (hL s' hs')]
    exact pd_call (ds := [sqD s'.1, .int s'.2]) GS hr rfl (pad_cons (pd_var 0 rfl (pv 0)) (pad_cons (pd_var 1 rfl (pv 1)) pad_nil)) ⟨p, s', hL s' hs', rfl, rfl⟩ trivial rfl
  · rw [List.filter_eq_self.mpr (fun _ _ => rfl), List.map_map, List.map_map]
    congr 1
    exact List.map_congr_left fun s hs => lnD_sk (hL s hs)
  · rw [List.length_map, List.length_map]
    show 1 + _ ≤ 1000
    omega
  · rfl
  · rw [List.length_cons, List.length_map]
    have : nlT.length = 1 := rfl
    rw [this]
    omega
def CRdNum : List D → R → Prop := fun ds r => ∃ n, n < 64 ∧ ds = [.str (numT n)] ∧ r = .val (.int ((n : Nat) : Int))
theorem ok_rdnum (F : Fun K "read_number" "read_number" sRdNum f fd) (zlen : mg "len" = none) (zall : mg "all" = none) (zint : mg "int" = none) (figs : ∃ t, mg "FIGURES" = some (.str figT t)) (mfig : ∃ t, mg "MOST_FIGURES" = some (.int 2 t)) (hm : mg "read_number" = some (.ref f)) : Callee P w K mg base "read_number" 1 1 CRdNum := by
  have nd : (["word"] : List Str).Nodup := by decide +kernel
  have nd2 : (["sign"] : List Str).Nodup := by decide +kernel
  refine def_ok (N := ["word"]) (ps := ["word"]) (k := 0) F ⟨rfl, rfl, rfl, nd, rfl, by decide +kernel, by decide +kernel⟩ hm (fun _ _ _ _ _ _ us hl => by (obtain ⟨_, rfl⟩ := len1 hl; exact rfl)) fun cdv A outer s H E hr ds r hl c => ?_
  obtain ⟨n, hn, rfl, rfl⟩ := c
  obtain ⟨tf, hf⟩ := figs
  obtain ⟨tm, hmf⟩ := mfig
  obtain ⟨⟨l2, l1⟩, asc, _⟩ := numT_ok n hn
  obtain ⟨sg, c0, hc0, hz⟩ := numT_sgn n hn
  have n0 := numT_0 hn
  have l9 : (numT n).length ≤ 100000 := by omega
  refine psd_cons (psd_ifF (k := false) (PTd.cast (ptd_not (ptd_chainI op_le op_le pd_int (pd_lenX rfl zlen (pd_var 0 rfl (pv 0)) l9) (pd_globI (i := 2) rfl hmf ⟨tm, rfl⟩))) ?_) rfl (psd_nil ?_))
  · rw [decide_eq_true (show (1 : Int) ≤ (((numT n).length : Nat) : Int) by omega), decide_eq_true (show (((numT n).length : Nat) : Int) ≤ 2 by omega)]
    rfl
  refine psd_cons (psd_ifF (k := false) (PTd.cast (ptd_not (ptd_val (pd_allL (bs := (numT n).cps.toList.map fun _ => true) rfl zall (PEd.bor (PEd.val (PEd.cast (pd_comp (ds := sgnD (numT n)) (N := ["sign"]) (M := ["word"]) (cap := [none]) (sc := defScope sRdNum) (Tb := fun d => [.val d]) (fun _ => true) (fun _ => .bl true) (pid_str (pd_var 0 rfl (pv 0)) asc) (by unfold sgnD; rw [List.length_map, Array.length_toList]; exact Nat.le_trans l2 (by decide)) rfl (by decide +kernel) rfl (by decide +kernel) rfl (fun cl C fp s H d _ => pgd_name 0 (pg_name (i := 0) nd2 rfl (Or.inl rfl))) (fun d _ => ⟨.inl rfl, trivial⟩) (fun cl C fp s H d hd => .inl ⟨rfl, rfl⟩) fun cl C fp s H d hd _ => ?_) ?_)))))) ?_) rfl (psd_nil ?_))
  · obtain ⟨c, hc, rfl⟩ := List.mem_map.mp hd
    have h58 := List.all_eq_true.mp sg c hc
    simp only [Bool.and_eq_true, decide_eq_true_eq] at h58
    have fo := fig_ok (c - 48) (by omega)
    rw [show 48 + (c - 48) = c by omega] at fo
    exact PEd.cast (pd_inS (pd_var 0 rfl (pv 0)) (pd_globS (z := figT) rfl hf ⟨tf, rfl⟩)) (by rw [fo])
  · rw [List.filter_eq_self.mpr (fun _ _ => rfl)]
    unfold sgnD
    rw [List.map_map, List.map_map]
    rfl
  · have : ((numT n).cps.toList.map fun _ => true).all id = true := List.all_eq_true.mpr fun b hb => by
      obtain ⟨_, _, rfl⟩ := List.mem_map.mp hb
      rfl
    rw [this]
    rfl
  refine psd_cons (psd_ifF (k := false) (PWd.pt (PWd.cast (pwd_and (k := decide (n = 0)) (j := !decide (n = 0)) (ptd_eqS (pd_ixX (pd_var 0 rfl (pv 0)) pd_int l9 hc0 fun _ _ => rfl) pd_str rfl rfl rfl ?_) fun _ => pwd_and1 (ptd_neS (pd_var 0 rfl (pv 0)) pd_str rfl rfl rfl ?_)) ?_)) rfl (psd_nil ?_))
  · rw [decide_eq_decide]
    constructor
    · intro h
      have : c0 = 48 := by
        have e : (⟨#[c0]⟩ : Str) = ("0" : Str) := by cases h; rfl
        have e2 : (("0" : Str)).cps = #[48] := by decide +kernel
        rw [← e] at e2
        simpa using e2
      exact hz.mp this
    · intro h
      have : c0 = 48 := hz.mpr h
      subst this
      rfl
  · have : decide (V.str (numT n) = V.str ("0" : Str)) = decide (n = 0) := by
      rw [decide_eq_decide]
      have e : ("0" : Str) = numT 0 := by decide +kernel
      rw [e]
      constructor
      · intro h
        exact n0.mp (V.str.inj h)
      · intro h
        rw [h]
    rw [this]
  · cases decide (n = 0) <;> rfl
  exact psd_one (psd_ret (pd_intT rfl zint (pd_var 0 rfl (pv 0)) hn) trivial rfl)
def CRdSize : List D → R → Prop := fun ds r => ∃ p, p ∈ sizes14 ∧ ds = [.str (szT p)] ∧ r = .val (sizD p)
theorem ok_rdsize (F : Fun K "read_size" "read_size" sRdSize f fd) (zlen : mg "len" = none) (hm : mg "read_size" = some (.ref f)) (GN : Callee P w K mg base "read_number" 1 1 CRdNum) : Callee P w K mg base "read_size" 2 1 CRdSize := by
  have nd : (["line", "words"] : List Str).Nodup := by decide +kernel
  refine def_ok (N := ["line", "words"]) (ps := ["line"]) (k := 1) F ⟨rfl, rfl, rfl, nd, rfl, by decide +kernel, by decide +kernel⟩ hm (fun _ _ _ _ _ _ us hl => by (obtain ⟨_, rfl⟩ := len1 hl; exact rfl)) fun cdv A outer s H E hr ds r hl c => ?_
  obtain ⟨p, hp, rfl, rfl⟩ := c
  obtain ⟨h1, h2, h3, h4, h5⟩ := sz14 p hp
  obtain ⟨z1, z2, _, _⟩ := sz_ok p hp
  refine psd_cons (psd_set (d := .lst [.str ("bits" : Str), .str (numT p.1.toNat), .str ("boxes" : Str), .str (numT p.2.toNat)]) 1 nd rfl (Or.inl rfl) (PEd.val (PEd.cast (pd_split (y := spT) (pd_var 0 rfl (pv 0)) pd_str (by decide) (Nat.le_trans z2 (by decide)) (by rw [z1]; exact Nat.le_of_ble_eq_true rfl)) (by rw [z1]; rfl))) ?_)
  refine psd_cons (psd_ifF (k := false) (PWd.pt (pwd_or (k := false) (j := false) (PTd.cast (ptd_neI (pd_lenL rfl zlen (PEd.bor (pd_var 1 rfl (pv 1)))) pd_int) rfl) fun _ => pwd_or (k := false) (j := false) (ptd_neS (d1 := .str ("bits" : Str)) (pd_ixL (n := 0) (PEd.bor (pd_var 1 rfl (pv 1))) pd_int rfl fun _ _ => rfl) pd_str rfl rfl rfl (by simp)) fun _ => pwd_or1 (ptd_neS (d1 := .str ("boxes" : Str)) (pd_ixL (n := 2) (PEd.bor (pd_var 1 rfl (pv 1))) pd_int rfl fun _ _ => rfl) pd_str rfl rfl rfl (by simp)))) rfl (psd_nil ?_))
  refine psd_one (psd_ret (PEd.cast (pd_tup (ds := [.int ((p.1.toNat : Nat) : Int), .int ((p.2.toNat : Nat) : Int)]) (pad_cons (pd_call (ds := [.str (numT p.1.toNat)]) GN hr rfl (pad_cons (pd_ixL (n := 1) (PEd.bor (pd_var 1 rfl (pv 1))) pd_int rfl fun _ _ => rfl) pad_nil) ⟨p.1.toNat, by omega, rfl, rfl⟩ trivial rfl) (pad_cons (pd_call (ds := [.str (numT p.2.toNat)]) GN hr rfl (pad_cons (pd_ixL (n := 3) (PEd.bor (pd_var 1 rfl (pv 1))) pd_int rfl fun _ _ => rfl) pad_nil) ⟨p.2.toNat, by omega, rfl, rfl⟩ trivial rfl) pad_nil)) (Nat.le_of_ble_eq_true rfl)) ?_) trivial rfl)
  rw [Int.toNat_of_nonneg (by omega), Int.toNat_of_nonneg (by omega)]
  rfl
def unT (x : Str) : Int := match x.cps.toList with
  | [a] => (a : Int) - 48
  | [a, b] => ((a : Int) - 48) * 10 + ((b : Int) - 48)
  | _ => 0
theorem unT_num {n : Nat} (hn : n < 64) : unT (numT n) = (n : Int) := by
  unfold numT
  by_cases h : n < 10
  · rw [if_pos h]
    show ((48 + n : Nat) : Int) - 48 = _
    omega
  · rw [if_neg h]
    show (((48 + n / 10 : Nat) : Int) - 48) * 10 + (((48 + n % 10 : Nat) : Int) - 48) = _
    omega
def rdD : D → D
  | .str x => .int (unT x)
  | _ => .non
theorem stW_tail {k i j : Nat} (hi : i < 64) (hj : j < 64) : ∀ d ∈ ((stW k i j).drop 1).map D.str, ∃ n, n < 64 ∧ d = .str (numT n) := fun d hd => by
  obtain ⟨x, hx, rfl⟩ := List.mem_map.mp hd
  unfold stW at hx
  split at hx
  · simp only [List.drop_succ_cons, List.drop_zero, List.mem_cons, List.not_mem_nil, or_false] at hx
    rcases hx with rfl | rfl
    · exact ⟨i, hi, rfl⟩
    · exact ⟨j, hj, rfl⟩
  · simp only [List.drop_succ_cons, List.drop_zero, List.mem_cons, List.not_mem_nil, or_false] at hx
    subst hx
    exact ⟨i, hi, rfl⟩
theorem sqE_read {p : Int × Int} {q : SQ} (h : SqOk p q) : .str (nm q.1) :: (((stW q.1 q.2.1.toNat (jnQ q).toNat).drop 1).map D.str).map rdD = sqE q := by
  obtain ⟨s1, s2, s3, s4⟩ := sq_small h
  have i0 := h.i0
  have ei : unT (numT q.2.1.toNat) = q.2.1 := by rw [unT_num (by omega)]; omega
  have ej : unT (numT (jnQ q).toNat) = jnQ q := by rw [unT_num s3]; omega
  unfold sqE stpE stW
  by_cases q1 : q.1 < 6
  · have e : jnQ q = q.2.2.1 := by unfold jnQ; rw [if_pos q1]
    rw [if_pos q1, if_pos (by omega)]
    show [D.str _, D.int _, D.int _] = _
    rw [ei, ej, e]
  · rw [if_neg q1]
    by_cases q2 : q.1 = 6
    · have e : jnQ q = q.2.2.2 := by unfold jnQ; rw [if_neg q1]
      rw [if_pos q2, if_pos (by omega)]
      show [D.str _, D.int _, D.int _] = _
      rw [ei, ej, e]
    · rw [if_neg q2, if_neg (by omega)]
      show [D.str _, D.int _] = _
      rw [ei]
theorem stW_0 (k i j : Nat) : ((stW k i j).map D.str)[0]? = some (.str (nm k)) := by unfold stW; split <;> rfl
def CRdStep : List D → R → Prop := fun ds r => ∃ p s, SkOk p s ∧ ds = [.str (lnS s)] ∧ r = .val (skD s)
theorem ok_rdstep (F : Fun K "read_priced_step" "read_priced_step" sRdStep f fd) (ztuple : mg "tuple" = none) (hm : mg "read_priced_step" = some (.ref f)) (GN : Callee P w K mg base "read_number" 1 1 CRdNum) : Callee P w K mg base "read_priced_step" 2 1 CRdStep := by
  have nd : (["line", "parts", "words", "step"] : List Str).Nodup := by decide +kernel
  have nd2 : (["word"] : List Str).Nodup := by decide +kernel
  refine def_ok (N := ["line", "parts", "words", "step"]) (ps := ["line"]) (k := 1) F ⟨rfl, rfl, rfl, nd, rfl, by decide +kernel, by decide +kernel⟩ hm (fun _ _ _ _ _ _ us hl => by (obtain ⟨_, rfl⟩ := len1 hl; exact rfl)) fun cdv A outer s H E hr ds r hl c => ?_
  obtain ⟨p, s, hs, rfl, rfl⟩ := c
  obtain ⟨s1, s2, s3, s4⟩ := sq_small hs.1
  have p1 := hs.2.1
  have p9 := hs.2.2
  obtain ⟨ll, _⟩ := lnS_ok hs
  have ep : Txt.partition (lnS s) prT = (Txt.join spT (stW s.1.1 s.1.2.1.toNat (jnQ s.1).toNat), prT, numT s.2.toNat) := ln_part s1 s2 s3
  have ew := ln_words s1 s2 s3
  obtain ⟨_, _, l20⟩ := stW_parts s1 s2 s3
  obtain ⟨w2, w3⟩ := stW_len s.1.1 s.1.2.1.toNat (jnQ s.1).toNat
  have w0 := stW_0 s.1.1 s.1.2.1.toNat (jnQ s.1).toNat
  have tl := stW_tail (k := s.1.1) (i := s.1.2.1.toNat) (j := (jnQ s.1).toNat) (by omega) s3
  have er := sqE_read hs.1
  generalize stW s.1.1 s.1.2.1.toNat (jnQ s.1).toNat = W at *
  refine psd_cons (psd_set (d := .tup [.str (Txt.join spT W), .str prT, .str (numT s.2.toNat)]) 1 nd rfl (Or.inl rfl) (PEd.cast (pd_part (y := prT) (pd_var 0 rfl (pv 0)) pd_str (by decide +kernel) (Nat.le_trans ll (by decide))) (by rw [ep])) ?_)
  refine psd_cons (psd_set (d := .lst (W.map D.str)) 2 nd rfl (Or.inl rfl) (PEd.val (PEd.cast (pd_split (y := spT) (pd_ixT (n := 0) (pd_var 1 rfl (pv 1)) pd_int rfl fun _ _ => rfl) pd_str (by decide) (Nat.le_trans l20 (by decide)) (by rw [ew]; omega)) (by rw [ew]))) ?_)
  refine psd_cons (psd_set (d := .tup (.str (nm s.1.1) :: ((W.drop 1).map D.str).map rdD)) 3 nd rfl (Or.inl rfl) (pd_catT (d1 := [.str (nm s.1.1)]) (d2 := ((W.drop 1).map D.str).map rdD) (pd_tup (ds := [.str (nm s.1.1)]) (pad_cons (pd_ixL (n := 0) (PEd.bor (pd_var 2 rfl (pv 2))) pd_int w0 fun _ _ => rfl) pad_nil) (Nat.le_of_ble_eq_true rfl)) (pd_tupleL (by rfl) ztuple (PEd.bor (PEd.val (PEd.cast (pd_comp (ds := (W.drop 1).map D.str) (N := ["word"]) (M := ["line", "parts", "words", "step"]) (cap := [none]) (sc := defScope sRdStep) (Tb := fun d => [.val d]) (fun _ => true) rdD (pid_list (PEd.val (PEd.cast (pd_dropL (k := 1) (PEd.bor (pd_var 2 rfl (pv 2))) pd_int) (by rw [List.map_drop])))) (by rw [List.length_map, List.length_drop]; omega) rfl (by decide +kernel) rfl (by decide +kernel) rfl (fun cl C fp s H d _ => pgd_name 0 (pg_name (i := 0) nd2 rfl (Or.inl rfl))) (fun d _ => ⟨.inl rfl, trivial⟩) (fun cl C fp s H d hd => .inl ⟨rfl, rfl⟩) fun cl C fp s H d hd _ => ?_) ?_)))) ?_) ?_)
  · obtain ⟨n, hn, rfl⟩ := tl d hd
    exact PEd.cast (pd_call (ds := [.str (numT n)]) GN hr rfl (pad_cons (pd_var 0 rfl (pv 0)) pad_nil) ⟨n, hn, rfl, rfl⟩ trivial rfl) (by show R.val (.int _) = R.val (.int _); rw [unT_num hn])
  · rw [List.filter_eq_self.mpr (fun _ _ => rfl)]
  · rw [List.length_map, List.length_map, List.length_drop]
    show 1 + _ ≤ 1000
    omega
  rw [er, ← sqD_E]
  refine psd_one (psd_ret (PEd.cast (pd_tup (ds := [sqD s.1, .int ((s.2.toNat : Nat) : Int)]) (pad_cons (pd_var 3 rfl (pv 3)) (pad_cons (pd_call (ds := [.str (numT s.2.toNat)]) GN hr rfl (pad_cons (pd_ixT (n := 2) (pd_var 1 rfl (pv 1)) pd_int rfl fun _ _ => rfl) pad_nil) ⟨s.2.toNat, by omega, rfl, rfl⟩ trivial rfl) pad_nil)) (Nat.le_of_ble_eq_true rfl)) ?_) trivial rfl)
  rw [Int.toNat_of_nonneg (by omega)]
  rfl
def noScrB : D → Bool
  | .scr _ => false
  | _ => true
theorem noScr_b {d : D} (h : noScrB d = true) : noScr d := fun ns e => by
  subst e
  cases h
def okB : D → Bool
  | .tup (x :: y :: l) => pl x && (y :: l).all noScrB
  | .scr _ => false
  | _ => true
theorem okStp_b {d : D} (h : okB d = true) : okStp d := by
  refine ⟨fun ns e => ?_, fun x y rest e => ?_⟩
  · subst e
    have h : false = true := h
    cases h
  subst e
  have h' : (pl x && (y :: rest).all noScrB) = true := h
  rw [Bool.and_eq_true, List.all_eq_true] at h'
  exact ⟨h'.1, noScr_b (h'.2 y List.mem_cons_self), fun z hz => noScr_b (h'.2 z (List.mem_cons_of_mem _ hz))⟩
theorem nm_inS : ∀ k, k < 10 → inD selfN (.str (nm k)) = decide (7 ≤ k) := by decide +kernel
theorem nm_inA : ∀ k, k < 10 → inD anoN (.str (nm k)) = decide (k < 6) := by decide +kernel
theorem nm_eqP : ∀ k, k < 10 → deq (.str (nm k)) (.str "put") = decide (k = 6) := by decide +kernel
theorem stp_good {p : Int × Int} {k : Nat} {i j n : Int} (k10 : k < 10) (hi : 0 ≤ i ∧ i < p.2) (hj : 0 ≤ j ∧ j < p.2) (hn : 0 ≤ n ∧ n < ((2 ^ p.1.toNat : Nat) : Int)) : isStp p (stpD k i j n) = true := by
  have bi : boxB p.2 (.int i) = true := by simp [boxB, hi]
  have bj : boxB p.2 (.int j) = true := by simp [boxB, hj]
  have bn : boxB ((2 ^ p.1.toNat : Nat) : Int) (.int n) = true := by
    show (decide (0 ≤ n) && decide (n < ((2 ^ p.1.toNat : Nat) : Int))) = true
    rw [decide_eq_true hn.1, decide_eq_true hn.2]
    rfl
  rw [stpD_E]
  unfold stpE
  by_cases q1 : k < 6
  · rw [if_pos q1]
    show (boxB p.2 (.int i) && (if inD selfN (.str (nm k)) then false else if deq (.str (nm k)) (.str "put") then boxB _ (.int j) else (inD anoN (.str (nm k)) && boxB p.2 (.int j)))) = true
    rw [bi, bj, nm_inS k k10, nm_inA k k10, nm_eqP k k10, decide_eq_false (by omega), decide_eq_false (by omega), decide_eq_true q1]
    rfl
  · rw [if_neg q1]
    by_cases q2 : k = 6
    · rw [if_pos q2]
      show (boxB p.2 (.int i) && (if inD selfN (.str (nm k)) then false else if deq (.str (nm k)) (.str "put") then boxB _ (.int n) else (inD anoN (.str (nm k)) && boxB p.2 (.int n)))) = true
      rw [bi, bn, nm_inS k k10, nm_eqP k k10, decide_eq_false (by omega), decide_eq_true q2]
      rfl
    · rw [if_neg q2]
      show (boxB p.2 (.int i) && (if inD selfN (.str (nm k)) then true else false)) = true
      rw [bi, nm_inS k k10, decide_eq_true (by omega)]
      rfl
theorem ok_good (k : Nat) (i j n : Int) : okB (stpD k i j n) = true := by
  unfold stpD
  split
  · rfl
  · split <;> rfl
def okPSB : D → Bool
  | .tup [x, y] => okB x && noScrB y
  | d => noScrB d
theorem okPS_b {d : D} (h : okPSB d = true) : okPS d := by
  refine ⟨fun ns e => ?_, fun x y e => ?_⟩
  · subst e
    cases h
  · subst e
    have h : (okB x && noScrB y) = true := h
    rw [Bool.and_eq_true] at h
    exact ⟨okStp_b h.1, noScr_b h.2⟩
theorem ps_good {p : Int × Int} {s : SK} (h : SqOk p s.1) (h1 : 1 ≤ s.2) (h9 : s.2 ≤ 9) : isPS p (skD s) = true := by
  show (isStp p (stpD _ _ _ _) && (decide (1 ≤ s.2) && decide (s.2 ≤ 9))) = true
  rw [stp_good h.k10 h.i0 h.j0 h.n0, decide_eq_true h1, decide_eq_true h9]
  rfl
theorem okps_sk (s : SK) : okPSB (skD s) = true := by
  show (okB (stpD _ _ _ _) && true) = true
  rw [ok_good]
  rfl
structure Stk (p : Int × Int) (L : List SK) : Prop where
  l0 : 0 < L.length
  l8 : L.length ≤ 8
  ok : ∀ s ∈ L, SqOk p s.1 ∧ 1 ≤ s.2 ∧ s.2 ≤ 9
  ap : (L.map fun s => sqD s.1).Pairwise (fun a b => deq a b = false)
theorem stk_of {p : Int × Int} (hp : p ∈ sizes14) (ns : List Int) (st : Nat) : Stk p (skN p ns st (skT ns st 8)) := by
  obtain ⟨a, b, c, e⟩ := skN_ok hp ns st (skT ns st 8)
  have t := skT_le ns st (m := 8) (by decide)
  exact ⟨b (by omega), by omega, c, e⟩
theorem key_sk {p : Int × Int} {s : SK} (h : SqOk p s.1) : sqD s.1 = .tup ((stpK (skD s)).map kD) := stp_key (p := p) (stp_good h.k10 h.i0 h.j0 h.n0)
theorem stk_nd {p : Int × Int} {L : List SK} (S : Stk p L) : ((L.map skD).map stpK).Nodup := by
  rw [List.map_map, List.nodup_iff_pairwise_ne, List.pairwise_map]
  refine List.Pairwise.imp_of_mem ?_ (List.pairwise_map.mp S.ap)
  intro a b ha hb hab hc
  have e : sqD a.1 = sqD b.1 := by
    rw [key_sk (S.ok a ha).1, key_sk (S.ok b hb).1]
    have hc : stpK (skD a) = stpK (skD b) := hc
    rw [hc]
  rw [e, deq_refl _ (pl_sq b.1)] at hab
  cases hab
theorem st_good {p : Int × Int} {L : List SK} (S : Stk p L) : isSt p (.lst (L.map skD)) = true := by
  show ((decide (1 ≤ (L.map skD).length) && decide ((L.map skD).length ≤ 8)) && ((L.map skD).all (isPS p) && decide (((L.map skD).map stpK).Nodup))) = true
  rw [decide_eq_true (stk_nd S), List.length_map, decide_eq_true (show 1 ≤ L.length from S.l0), decide_eq_true S.l8]
  have : (L.map skD).all (isPS p) = true := List.all_eq_true.mpr fun d hd => by
    obtain ⟨s, hs, rfl⟩ := List.mem_map.mp hd
    obtain ⟨a, b, c⟩ := S.ok s hs
    exact ps_good a b c
  rw [this]
  rfl
theorem okSt_l {es : List D} (hl : es.length ≤ 900) (h : es.all okPSB = true) : okSt (.lst es) := ⟨(fun ns e => by cases e), fun es' e => by
  cases e
  exact ⟨hl, fun d hd => okPS_b (List.all_eq_true.mp h d hd)⟩⟩
theorem ok_sks (L : List SK) : (L.map skD).all okPSB = true := List.all_eq_true.mpr fun d hd => by
  obtain ⟨s, hs, rfl⟩ := List.mem_map.mp hd
  exact okps_sk s
theorem stk_take {p : Int × Int} {L : List SK} (S : Stk p L) {t : Nat} (h0 : 0 < t) : Stk p (L.take t) := by
  refine ⟨?_, ?_, fun s hs => S.ok s (List.mem_of_mem_take hs), ?_⟩
  · have := S.l0
    rw [List.length_take]
    omega
  · have := S.l8
    rw [List.length_take]
    omega
  · rw [List.map_take]
    exact S.ap.sublist (List.take_sublist _ _)
theorem sz_isz : ∀ p ∈ sizes14, isSz (sizD p) = true ∧ p.1.natAbs < 100 ∧ p.2.natAbs < 100 := by decide +kernel
theorem sz_oksz {p : Int × Int} (hp : p ∈ sizes14) : okSz (sizD p) := by
  obtain ⟨_, h1, h2⟩ := sz_isz p hp
  refine ⟨(fun ns e => by cases e), fun ds e x hx => ?_⟩
  have e : ds = [.int p.1, .int p.2] := by cases e; rfl
  subst e
  have b : (100 : Nat) ≤ 2 ^ 250 := by decide
  simp only [List.mem_cons, List.not_mem_nil, or_false] at hx
  rcases hx with rfl | rfl
  · exact ⟨(fun ns e => by cases e), fun i e => by cases e; exact Nat.lt_of_lt_of_le h1 b⟩
  · exact ⟨(fun ns e => by cases e), fun i e => by cases e; exact Nat.lt_of_lt_of_le h2 b⟩
def CRdLines : List D → R → Prop := fun ds r => ∃ p L, p ∈ sizes14 ∧ Stk p L ∧ ds = [.lst ((szT p :: L.map lnS).map D.str)] ∧ r = .pr (sizD p) (L.map skD)
theorem ok_rdlines (F : Fun K "read_lines" "read_lines" sRdLines f fd) (zlen : mg "len" = none) (hm : mg "read_lines" = some (.ref f)) (GZ : Callee P w K mg base "read_size" 2 1 CRdSize) (GI : Callee P w K mg base "is_size" 2 1 CIsSize) (GS : Callee P w K mg base "read_priced_step" 2 1 CRdStep) (GK : Callee P w K mg base "is_stock" 5 2 CISt) : Callee P w K mg base "read_lines" 6 1 CRdLines := by
  have nd : (["lines", "size", "stock", "line"] : List Str).Nodup := by decide +kernel
  refine def_ok (N := ["lines", "size", "stock", "line"]) (ps := ["lines"]) (k := 5) F ⟨rfl, rfl, rfl, nd, rfl, by decide +kernel, by decide +kernel⟩ hm (fun _ _ _ _ _ _ us hl => by (obtain ⟨_, rfl⟩ := len1 hl; exact rfl)) fun cdv A outer s H E hr ds r hl c => ?_
  obtain ⟨p, L, hp, S, rfl, rfl⟩ := c
  have hr2 := hr.mono (show 2 ≤ 5 by decide)
  have l0 := S.l0
  have l8 := S.l8
  have isz := (sz_isz p hp).1
  refine psd_cons (psd_set (d := sizD p) 1 nd rfl (Or.inl rfl) (pd_call (ds := [.str (szT p)]) GZ hr2 rfl (pad_cons (pd_ixL (n := 0) (PEd.bor (pd_var 0 rfl (pv 0))) pd_int rfl fun _ _ => rfl) pad_nil) ⟨p, hp, rfl, rfl⟩ trivial rfl) ?_)
  refine psd_cons (psd_ifF (k := false) (PTd.cast (ptd_not (ptd_val (pd_call (ds := [sizD p]) (r := .val (.bl (isSz (sizD p)))) GI hr2 rfl (pad_cons (pd_var 1 rfl (pv 1)) pad_nil) ⟨_, rfl, sz_oksz hp, rfl⟩ trivial rfl))) (by rw [isz]; rfl)) rfl (psd_nil ?_))
  refine psd_cons (psd_ifF (k := false) (PTd.cast (ptd_eqI (pd_lenL rfl zlen (PEd.bor (pd_var 0 rfl (pv 0)))) pd_int) ?_) rfl (psd_nil ?_))
  · rw [List.length_map, List.length_cons, List.length_map]
    exact decide_eq_false (by omega)
  refine psd_cons (psd_setO (ds := []) 2 nd rfl (Or.inl rfl) (pd_lst (ds := []) pad_nil (Nat.zero_le _)) fun l2 => ?_)
  refine psd_cons (psd_for (ds := (L.map lnS).map D.str) (fun t => [.val (.lst ((szT p :: L.map lnS).map D.str)), .val (sizD p), .own l2 ((L.take t).map skD), .un]) (fun t => [.val (.lst ((szT p :: L.map lnS).map D.str)), .val (sizD p), .own l2 ((L.take t).map skD), .val (.str (lnS (L.getD t default)))]) (pid_list (PEd.val (PEd.cast (pd_dropL (k := 1) (PEd.bor (pd_var 0 rfl (pv 0))) pd_int) rfl))) (Le.refl _) (fun t d hd => ?_) (fun t d hd => ?_) ?_)
  · rw [List.map_map, List.getElem?_map] at hd
    have ht : t < L.length := by
      refine Nat.lt_of_not_le fun z => ?_
      rw [List.getElem?_eq_none z] at hd
      cases hd
    have : d = .str (lnS (L.getD t default)) := by
      rw [List.getElem?_eq_getElem ht] at hd
      simp [List.getD, ht]
      exact (Option.some.inj hd).symm
    subst this
    exact pgd_name 3 (pg_name (i := 3) nd rfl (Or.inl rfl))
  · rw [List.map_map, List.getElem?_map] at hd
    have ht : t < L.length := by
      refine Nat.lt_of_not_le fun z => ?_
      rw [List.getElem?_eq_none z] at hd
      cases hd
    have hq : L.getD t default ∈ L := by simp [List.getD, ht]
    have et : (L.take (t + 1)).map skD = (L.take t).map skD ++ [skD (L.getD t default)] := by
      rw [List.take_add_one, List.map_append]
      simp [List.getD, ht]
    generalize L.getD t default = q at *
    have St := stk_take S (Nat.succ_pos t)
    have good := st_good St
    have gok : okSt (.lst ((L.take (t + 1)).map skD)) := okSt_l (by rw [List.length_map, List.length_take]; omega) (ok_sks _)
    refine psd_cons (psd_append (d := skD q) 2 rfl (pv 2) (pd_call (ds := [.str (lnS q)]) GS hr2 rfl (pad_cons (pd_var 3 rfl (pv 3)) pad_nil) ⟨p, q, S.ok q hq, rfl, rfl⟩ trivial rfl) (by rw [List.length_map, List.length_take]; omega) ?_)
    refine psd_le (sd' := [.val (.lst ((szT p :: L.map lnS).map D.str)), .val (sizD p), .own l2 ((L.take (t + 1)).map skD), .val (.str (lnS q))]) ⟨.inr rfl, .inr rfl, .inr (by rw [et]), .inr rfl, trivial⟩ ?_
    refine psd_one (psd_ifF (k := false) (PTd.lend 2 rfl (oth_b rfl) (PTd.cast (ptd_not (ptd_val (pd_call (ds := [sizD p, .lst ((L.take (t + 1)).map skD)]) (r := .val (.bl (isSt p (.lst ((L.take (t + 1)).map skD))))) GK hr rfl (pad_cons (pd_var 1 rfl (pv 1)) (pad_cons (pd_var 2 rfl (pv 2)) pad_nil)) ⟨p, _, hp, gok, rfl, rfl⟩ trivial rfl))) (by rw [good]; rfl))) rfl (psd_nil ?_))
    exact ⟨.inr rfl, .inr rfl, .inr rfl, .inl rfl, trivial⟩
  · rw [List.length_map, List.length_map, List.take_length]
    exact psd_one (psd_retP 2 rfl (pv 2) (pd_var 1 rfl (pv 1)) rfl)
theorem tx_split {p : Int × Int} (hp : p ∈ sizes14) {L : List SK} (S : Stk p L) : Txt.split (txT p L) nlT = szT p :: L.map lnS := by
  refine split_join 10 (by simp) fun q hq => ?_
  rcases List.mem_cons.mp hq with rfl | z
  · have := (sz_ok p hp).2.2.1
    simpa using this
  · obtain ⟨s, hs, rfl⟩ := List.mem_map.mp z
    exact (lnS_ok (S.ok s hs)).2
theorem tx_len {p : Int × Int} (hp : p ∈ sizes14) {L : List SK} (S : Stk p L) : (txT p L).length ≤ 1000 := by
  have wb : ∀ y ∈ szT p :: L.map lnS, y.length ≤ 40 := fun y hy => by
    rcases List.mem_cons.mp hy with rfl | z
    · exact (sz_ok p hp).2.1
    · obtain ⟨s, hs, rfl⟩ := List.mem_map.mp z
      exact (lnS_ok (S.ok s hs)).1
  have h := join_len (sep := nlT) wb
  rw [List.length_cons, List.length_map] at h
  have : nlT.length = 1 := rfl
  rw [this] at h
  have := S.l8
  show (Txt.join nlT _).length ≤ _
  omega
def CRdStock : List D → R → Prop := fun ds r => ∃ p L, p ∈ sizes14 ∧ Stk p L ∧ ds = [.str (txT p L)] ∧ r = .pr (sizD p) (L.map skD)
theorem ok_rdstock (F : Fun K "read_stock" "read_stock" sRdStock f fd) (hm : mg "read_stock" = some (.ref f)) (GL : Callee P w K mg base "read_lines" 6 1 CRdLines) : Callee P w K mg base "read_stock" 7 1 CRdStock := by
  have nd : (["text"] : List Str).Nodup := by decide +kernel
  refine def_ok (N := ["text"]) (ps := ["text"]) (k := 6) F ⟨rfl, rfl, rfl, nd, rfl, by decide +kernel, by decide +kernel⟩ hm (fun _ _ _ _ _ _ us hl => by (obtain ⟨_, rfl⟩ := len1 hl; exact rfl)) fun cdv A outer s H E hr ds r hl c => ?_
  obtain ⟨p, L, hp, S, rfl, rfl⟩ := c
  have e := tx_split hp S
  have l := tx_len hp S
  have l8 := S.l8
  exact psd_one (psd_ret (pd_call (ds := [.lst ((szT p :: L.map lnS).map D.str)]) GL hr rfl (pad_cons (PEd.val (PEd.cast (pd_split (y := nlT) (pd_var 0 rfl (pv 0)) pd_str (by decide) (Nat.le_trans l (by decide)) (by rw [e, List.length_cons, List.length_map]; omega)) (by rw [e]))) pad_nil) ⟨p, L, hp, S, rfl, rfl⟩ trivial rfl) trivial rfl)
def CText : List D → R → Prop := fun ds r => ∃ p L, p ∈ sizes14 ∧ Stk p L ∧ ds = [sizD p, .lst (L.map skD)] ∧ r = .val (.str (txT p L))
theorem ok_text (F : Fun K "_law_text" "_law_text" sText f fd) (zstr : mg "str" = none) (hm : mg "_law_text" = some (.ref f)) : Callee P w K mg base "_law_text" 1 2 CText := by
  have nd : (["_law_size_here", "_law_stock_here", "_law_lines", "_law_step_here", "_law_price"] : List Str).Nodup := by decide +kernel
  have nd2 : (["_law_part"] : List Str).Nodup := by decide +kernel
  refine def_ok (N := ["_law_size_here", "_law_stock_here", "_law_lines", "_law_step_here", "_law_price"]) (ps := ["_law_size_here", "_law_stock_here"]) (k := 0) F ⟨rfl, rfl, rfl, nd, rfl, by decide +kernel, by decide +kernel⟩ hm (fun _ _ _ _ _ _ us hl => by (obtain ⟨_, _, rfl⟩ := len2 hl; exact rfl)) fun cdv A outer s H E hr ds r hl c => ?_
  obtain ⟨p, L, hp, S, rfl, rfl⟩ := c
  obtain ⟨h1, h2, h3, h4, h5⟩ := sz14 p hp
  have l8 := S.l8
  obtain ⟨_, z40, _, ze⟩ := sz_ok p hp
  have e1 := int_txt (i := p.1) (by omega) (by omega)
  have e2 := int_txt (i := p.2) (by omega) (by omega)
  have n1 := (numT_ok p.1.toNat (by omega)).1.1
  have n2 := (numT_ok p.2.toNat (by omega)).1.1
  have b5 : (("bits " : Str)).length = 5 := by decide +kernel
  have b7 : ((" boxes " : Str)).length = 7 := by decide +kernel
  refine psd_cons (psd_setO (ds := [.str (szT p)]) 2 nd rfl (Or.inl rfl) (pd_lst (ds := [.str (szT p)]) (pad_cons (PEd.cast (pd_addS (x := ("bits " : Str) ++ numT p.1.toNat ++ (" boxes " : Str)) (y := numT p.2.toNat) (pd_addS (x := ("bits " : Str) ++ numT p.1.toNat) (y := (" boxes " : Str)) (pd_addS (x := ("bits " : Str)) (y := numT p.1.toNat) pd_str (PEd.cast (pd_strI (by rfl) zstr (pd_ixT (n := 0) (d := .int p.1) (pd_var 0 rfl (pv 0)) pd_int rfl fun _ _ => rfl) (log_small (by omega) (by omega))) (by rw [e1])) (by omega)) pd_str (by rw [Str.length_append]; omega)) (PEd.cast (pd_strI (by rfl) zstr (pd_ixT (n := 1) (d := .int p.2) (pd_var 0 rfl (pv 0)) pd_int rfl fun _ _ => rfl) (log_small (by omega) (by omega))) (by rw [e2])) (by rw [Str.length_append, Str.length_append]; omega)) (by rw [ze])) pad_nil) (Nat.le_of_ble_eq_true rfl)) fun l2 => ?_)
  refine psd_cons (psd_for (ds := L.map skD) (fun t => [.val (sizD p), .val (.lst (L.map skD)), .own l2 ((szT p :: (L.take t).map lnS).map D.str), .un, .un]) (fun t => [.val (sizD p), .val (.lst (L.map skD)), .own l2 ((szT p :: (L.take t).map lnS).map D.str), .val (sqD (L.getD t default).1), .val (.int (L.getD t default).2)]) (pid_list (pd_var 1 rfl (pv 1))) (Le.refl _) (fun t d hd => ?_) (fun t d hd => ?_) ?_)
  · obtain ⟨ht, rfl⟩ := sks_get hd
    exact pgd_tup (js := [3, 4]) rfl (pgs_cons (pg_name (i := 3) nd rfl (Or.inl rfl)) (pgs_cons (pg_name (i := 4) nd rfl (Or.inl rfl)) pgs_nil)) rfl rfl
  · obtain ⟨ht, rfl⟩ := sks_get hd
    have hq : L.getD t default ∈ L := by simp [List.getD, ht]
    have et : (szT p :: (L.take (t + 1)).map lnS).map D.str = (szT p :: (L.take t).map lnS).map D.str ++ [.str (lnS (L.getD t default))] := by
      rw [List.take_add_one, List.map_append]
      simp [List.getD, ht]
    rw [et]
    generalize L.getD t default = s at *
    have hs : SkOk p s := S.ok s hq
    obtain ⟨s1, s2, s3, s4⟩ := sq_small hs.1
    have p1 := hs.2.1
    have p9 := hs.2.2
    have ett := sqE_txt hs.1
    have em := sqE_mem hs.1
    have ep := int_txt (i := s.2) (by omega) (by omega)
    obtain ⟨l2', l3⟩ := sqE_len s.1
    obtain ⟨w2, w3⟩ := stW_len s.1.1 s.1.2.1.toNat (jnQ s.1).toNat
    have wb := line_wb hs
    rw [sqD_E]
    refine psd_one (psd_append (d := .str (lnS s)) 2 rfl (pv 2) (pd_joinC (z := spT) (ss := stW s.1.1 s.1.2.1.toNat (jnQ s.1).toNat ++ [("price" : Str), numT s.2.toNat]) (PEd.val (PEd.cast (pd_catL (d1 := (sqE s.1).map txtD) (d2 := [.str ("price" : Str), .str (numT s.2.toNat)]) (PEd.bor (PEd.val (PEd.cast (pd_comp (ds := sqE s.1) (N := ["_law_part"]) (M := ["_law_size_here", "_law_stock_here", "_law_lines", "_law_step_here", "_law_price"]) (cap := [none]) (sc := defScope sText) (Tb := fun d => [.val d]) (fun _ => true) txtD (pid_tup (pd_var 3 rfl (pv 3))) (by omega) rfl (by decide +kernel) rfl (by decide +kernel) rfl (fun cl C fp s H d _ => pgd_name 0 (pg_name (i := 0) nd2 rfl (Or.inl rfl))) (fun d _ => ⟨.inl rfl, trivial⟩) (fun cl C fp s H d hd => .inl ⟨rfl, rfl⟩) fun cl C fp s H d hd _ => ?_) ?_))) (PEd.bor (PEd.val (pd_lst (ds := [.str ("price" : Str), .str (numT s.2.toNat)]) (pad_cons pd_str (pad_cons (PEd.cast (pd_strI (by rfl) zstr (pd_var 4 rfl (pv 4)) (log_small (by omega) (by omega))) (by rw [ep])) pad_nil)) (Nat.le_of_ble_eq_true rfl)))) ?_) ?_)) (joinOk wb ?_)) ?_ ?_)
    · rcases em d hd with ⟨x, rfl⟩ | ⟨i, rfl, i0, i1⟩
      · exact pd_strS (by rfl) zstr (pd_var 0 rfl (pv 0))
      · exact pd_strI (by rfl) zstr (pd_var 0 rfl (pv 0)) (log_small i0 (by omega))
    · rw [List.filter_eq_self.mpr (fun _ _ => rfl)]
    · rw [List.length_map]
      show _ + 2 ≤ 1000
      omega
    · rw [ett, List.map_append]
      rfl
    · rw [List.length_append]
      have : spT.length = 1 := rfl
      rw [this]
      show (_ + 2) * 20 + (_ + 2) * 1 ≤ _
      omega
    · rw [List.length_map, List.length_cons, List.length_map, List.length_take]
      omega
    · exact ⟨.inr rfl, .inr rfl, .inr rfl, .inl rfl, .inl rfl, trivial⟩
  · rw [List.length_map, List.take_length]
    have wb : ∀ y ∈ szT p :: L.map lnS, y.length ≤ 40 := fun y hy => by
      rcases List.mem_cons.mp hy with rfl | z
      · exact z40
      · obtain ⟨s, hs, rfl⟩ := List.mem_map.mp z
        exact (lnS_ok (S.ok s hs)).1
    refine psd_frz 2 rfl ?_
    refine psd_one (psd_ret (pd_joinC (z := nlT) (ss := szT p :: L.map lnS) (pd_var 2 rfl (pv 2)) (joinOk wb ?_)) trivial rfl)
    rw [List.length_cons, List.length_map]
    have : nlT.length = 1 := rfl
    rw [this]
    omega
theorem nm_repr : ∀ k, k < 10 → (reprText (nm k)).length ≤ 20 := by decide +kernel
theorem at_sk {p : Int × Int} {s : SK} (h : SkOk p s) : atB (skD s) = true ∧ wgt (skD s) ≤ 200 ∧ dep (skD s) ≤ 2 := by
  obtain ⟨s1, s2, s3, s4⟩ := sq_small h.1
  have em := sqE_mem h.1
  obtain ⟨l2, l3⟩ := sqE_len s.1
  have p1 := h.2.1
  have p9 := h.2.2
  have hk := nm_repr s.1.1 s1
  have mem : ∀ {es : List D}, (∀ d ∈ es, (∃ x, d = .str x ∧ (reprText x).length ≤ 20) ∨ ∃ i : Int, d = .int i ∧ 0 ≤ i ∧ i < 64) → atL es = true ∧ wgtL es = 22 * es.length ∧ depL es = 0 := fun {es} => by
    induction es with
    | nil => intro _; exact ⟨by simp only [atL], by simp only [wgtL]; rfl, by simp only [depL]⟩
    | cons d es ih =>
      intro hh
      obtain ⟨a, b, c⟩ := ih fun x hx => hh x (List.mem_cons_of_mem _ hx)
      simp only [atL, wgtL, depL, List.length_cons, Bool.and_eq_true]
      rcases hh d List.mem_cons_self with ⟨x, rfl, hx⟩ | ⟨i, rfl, i0, i1⟩
      · exact ⟨⟨by simp only [atB]; exact decide_eq_true hx, a⟩, by simp only [wgt]; omega, by simp only [dep]; omega⟩
      · exact ⟨⟨by simp only [atB]; rw [decide_eq_true i0, decide_eq_true i1]; rfl, a⟩, by simp only [wgt]; omega, by simp only [dep]; omega⟩
  have sxs : ∀ d ∈ sqE s.1, ∀ x, d = .str x → (reprText x).length ≤ 20 := fun d hd x e => by
    subst e
    unfold sqE stpE at hd
    have key : x = nm s.1.1 := by
      split at hd
      · simpa using hd
      · split at hd
        · simpa using hd
        · simpa using hd
    rw [key]
    exact hk
  obtain ⟨a, b, c⟩ := mem (es := sqE s.1) fun d hd => by
    rcases em d hd with ⟨x, rfl⟩ | z
    · exact .inl ⟨x, rfl, sxs _ hd x rfl⟩
    · exact .inr z
  show atB (.tup [sqD s.1, .int s.2]) = true ∧ wgt (.tup [sqD s.1, .int s.2]) ≤ 200 ∧ dep (.tup [sqD s.1, .int s.2]) ≤ 2
  rw [sqD_E]
  simp only [atB, atL, wgt, wgtL, dep, depL, a, b, c]
  refine ⟨?_, by omega, by omega⟩
  rw [decide_eq_true (show 0 ≤ s.2 by omega), decide_eq_true (show s.2 < 64 by omega)]
  rfl
theorem at_sks {p : Int × Int} : ∀ {L : List SK}, (∀ s ∈ L, SkOk p s) → atL (L.map skD) = true ∧ wgtL (L.map skD) ≤ 202 * L.length ∧ depL (L.map skD) ≤ 2
  | [], _ => ⟨by simp only [List.map_nil, atL], by simp only [List.map_nil, wgtL]; omega, by simp only [List.map_nil, depL]; omega⟩
  | s :: L, h => by
    obtain ⟨a, b, c⟩ := at_sk (h s List.mem_cons_self)
    obtain ⟨a', b', c'⟩ := at_sks (L := L) fun x hx => h x (List.mem_cons_of_mem _ hx)
    simp only [List.map_cons, atL, wgtL, depL, List.length_cons, a, a']
    exact ⟨rfl, by omega, by omega⟩
theorem at_pair {p : Int × Int} (hp : p ∈ sizes14) {L : List SK} (S : Stk p L) : atB (.tup [sizD p, .lst (L.map skD)]) = true ∧ wgt (.tup [sizD p, .lst (L.map skD)]) ≤ 100000 ∧ dep (.tup [sizD p, .lst (L.map skD)]) ≤ 4 := by
  obtain ⟨h1, h2, h3, h4, h5⟩ := sz14 p hp
  obtain ⟨a, b, c⟩ := at_sks S.ok
  have l8 := S.l8
  show atB (.tup [.tup [.int p.1, .int p.2], .lst (L.map skD)]) = true ∧ wgt (.tup [.tup [.int p.1, .int p.2], .lst (L.map skD)]) ≤ 100000 ∧ dep (.tup [.tup [.int p.1, .int p.2], .lst (L.map skD)]) ≤ 4
  simp only [atB, atL, wgt, wgtL, dep, depL, a]
  refine ⟨?_, by omega, by omega⟩
  rw [decide_eq_true (show 0 ≤ p.1 by omega), decide_eq_true (show p.1 < 64 by omega), decide_eq_true (show 0 ≤ p.2 by omega), decide_eq_true (show p.2 < 64 by omega)]
  rfl
def CIsR11 : List D → R → Prop := fun ds r => ∃ p L, p ∈ sizes14 ∧ Stk p L ∧ ds = [.tup [sizD p, .lst (L.map skD)], sizD p, .lst (L.map skD)] ∧ r = .val (.bl true)
theorem ok_isright (F : Fun K "_law_is_right" "_law_is_right" sIsRight f fd) (zisinstance : mg "isinstance" = none) (ztuple : mg "tuple" = none) (zlen : mg "len" = none) (zlist : mg "list" = none) (zrepr : mg "repr" = none) (hm : mg "_law_is_right" = some (.ref f)) : Callee P w K mg base "_law_is_right" 1 3 CIsR11 := by
  have nd : (["_law_found", "_law_size_here", "_law_stock_here"] : List Str).Nodup := by decide +kernel
  refine def_ok (N := ["_law_found", "_law_size_here", "_law_stock_here"]) (ps := ["_law_found", "_law_size_here", "_law_stock_here"]) (k := 0) F ⟨rfl, rfl, rfl, nd, rfl, by decide +kernel, by decide +kernel⟩ hm (fun _ _ _ _ _ _ us hl => by (obtain ⟨_, _, _, rfl⟩ := len3 hl; exact rfl)) fun cdv A outer s H E hr ds r hl c => ?_
  obtain ⟨p, L, hp, S, rfl, rfl⟩ := c
  have hu : (A.deeper (envOfC "_law_is_right" (defScope sIsRight) s.heap.objs.size f cdv)).units + 6 < cLine := by have := hr.un; omega
  have hgd : (A.deeper (envOfC "_law_is_right" (defScope sIsRight) s.heap.objs.size f cdv)).guards = some [] := hr.gd
  obtain ⟨a1, a2, a3⟩ := at_pair hp S
  have psz : pl (sizD p) = true := rfl
  have dsz : dep (sizD p) = 1 := rfl
  obtain ⟨k1, k2, k3⟩ := at_sks S.ok
  have plk : plL (L.map skD) = true := (shownL_ok _ k1).2.2.2.1
  refine psd_cons (psd_ifF (k := false) (PWd.pt (pwd_or (k := false) (j := false) (ptd_not (k := true) (ptd_val (PEd.cast (pd_isin rfl zisinstance rfl ztuple PyProof.Rows.boot_tuple (pd_var 0 rfl (pv 0)) (fun _ => by simp) (kit_tuple _ _)) rfl))) fun _ => pwd_or (k := false) (j := false) (PTd.cast (ptd_neI (pd_lenT rfl zlen (pd_var 0 rfl (pv 0))) pd_int) rfl) fun _ => pwd_or (k := false) (j := false) (ptd_not (k := true) (ptd_val (PEd.cast (pd_isin rfl zisinstance rfl ztuple PyProof.Rows.boot_tuple (pd_ixT (n := 0) (d := sizD p) (pd_var 0 rfl (pv 0)) pd_int rfl fun _ _ => rfl) (fun _ e => by cases e) (kit_tuple _ _)) rfl))) fun _ => pwd_or1 (PTd.cast (ptd_neD (ra := .val (sizD p)) (rb := .val (sizD p)) (pd_ixT (n := 0) (d := sizD p) (pd_var 0 rfl (pv 0)) pd_int rfl fun _ _ => rfl) (pd_var 1 rfl (pv 1)) trivial trivial (.inl ⟨rfl, rfl⟩) psz psz (u_of hu (by show dep (sizD p) + 1 ≤ 6; rw [dsz]; decide))) (by show (!deq (sizD p) (sizD p)) = false; rw [deq_refl _ psz]; rfl)))) rfl (psd_nil ?_))
  refine psd_one (psd_ret (PEd.cast (pd_and (k := true) (j := true) (PEd.cast (pd_isin rfl zisinstance rfl zlist PyProof.Rows.boot_list (pd_ixT (n := 1) (d := .lst (L.map skD)) (pd_var 0 rfl (pv 0)) pd_int rfl fun _ _ => rfl) (fun _ e => by cases e) (kit_list _ _)) rfl) fun _ => pd_and (k := true) (j := true) (PEd.cast (pd_eqD (ra := .val (.lst (L.map skD))) (rb := .val (.lst (L.map skD))) (pd_ixT (n := 1) (d := .lst (L.map skD)) (pd_var 0 rfl (pv 0)) pd_int rfl fun _ _ => rfl) (pd_var 2 rfl (pv 2)) trivial trivial (.inr ⟨rfl, rfl⟩) plk plk (u_of hu (by show depL _ + 1 + 1 ≤ 6; omega))) (by show R.val (.bl (deq (.lst (L.map skD)) (.lst (L.map skD)))) = _; rw [deq_refl (.lst (L.map skD)) plk])) fun _ => pd_one (pd_eqS (k := true) (pd_reprA (by rfl) zrepr (pd_var 0 rfl (pv 0)) a1 a2 hgd (by show (A.deeper (envOfC "_law_is_right" (defScope sIsRight) s.heap.objs.size f cdv)).units + _ < cLine; omega)) (pd_reprA (by rfl) zrepr (pd_tup (ds := [sizD p, .lst (L.map skD)]) (pad_cons (pd_var 1 rfl (pv 1)) (pad_cons (pd_var 2 rfl (pv 2)) pad_nil)) (Nat.le_of_ble_eq_true rfl)) a1 a2 hgd (by show (A.deeper (envOfC "_law_is_right" (defScope sIsRight) s.heap.objs.size f cdv)).units + _ < cLine; omega)) rfl rfl rfl (by simp))) rfl) trivial rfl)
theorem ok_law (F : Fun K "law" "law" sLaw f fd) (zlist : mg "list" = none) (zisinstance : mg "isinstance" = none) (zstr : mg "str" = none) (GD : Callee P w K mg base "_law_draw" 1 2 CDraw) (GZ : Callee P w K mg base "_law_size" 1 1 CSize) (GK : Callee P w K mg base "_law_stock" 3 4 CStk10) (GT : Callee P w K mg base "_law_text" 1 2 CText) (GS : Callee P w K mg base "show_stock" 2 2 CShStock) (GR : Callee P w K mg base "read_stock" 7 1 CRdStock) (GI : Callee P w K mg base "_law_is_right" 1 3 CIsR11) : FnOk P w K mg base CX0 8 f fd ["_law_script"] (spC K 1 CLaw) := by
  have nd : (["_law_script", "_law_size_here", "_law_stock_here", "_law_handed", "_law_text_here", "_law_found", "_law_told"] : List Str).Nodup := by decide +kernel
  refine def_fn (N := ["_law_script", "_law_size_here", "_law_stock_here", "_law_handed", "_law_text_here", "_law_found", "_law_told"]) (ps := ["_law_script"]) (k := 7) F ⟨rfl, rfl, rfl, nd, rfl, by decide +kernel, by decide +kernel⟩ fun cdv A outer s H E hr ds r hl c => ?_
  obtain ⟨ns, rfl, hns, rfl⟩ := c
  have hr1 := hr.mono (show 1 ≤ 7 by decide)
  have hr2 := hr.mono (show 2 ≤ 7 by decide)
  have hr3 := hr.mono (show 3 ≤ 7 by decide)
  have hu : (A.deeper (envOfC "law" (defScope sLaw) s.heap.objs.size f cdv)).units + 6 < cLine := by have := hr.un; omega
  have hp : size14 (drawL ns 0) ∈ sizes14 := size14_mem _
  refine psd_cons (psd_set (d := sizD (size14 (drawL ns 0))) 1 nd rfl (Or.inl rfl) (pd_call (ds := [.int (drawL ns 0)]) GZ hr1 rfl (pad_cons (pd_call (ds := [.scr ns, .int ((0 : Nat) : Int)]) GD hr1 rfl (pad_cons (pd_var 0 rfl (pv 0)) (pad_cons pd_int pad_nil)) ⟨ns, 0, rfl, by decide, rfl⟩ trivial rfl) pad_nil) ⟨_, rfl, rfl⟩ trivial rfl) ?_)
  generalize size14 (drawL ns 0) = p at hp
  have S := stk_of hp ns 1
  refine psd_cons (psd_set (d := .lst ((skN p ns 1 (skT ns 1 8)).map skD)) 2 nd rfl (Or.inl rfl) (PEd.val (pd_call (ds := [.scr ns, .int ((1 : Nat) : Int), sizD p, .int ((8 : Nat) : Int)]) GK hr3 rfl (pad_cons (pd_var 0 rfl (pv 0)) (pad_cons pd_int (pad_cons (pd_var 1 rfl (pv 1)) (pad_cons pd_int pad_nil)))) ⟨ns, p, 1, 8, hp, by decide, by decide, by decide, rfl, rfl⟩ trivial rfl)) ?_)
  generalize skN p ns 1 (skT ns 1 8) = L at S
  obtain ⟨k1, k2, k3⟩ := at_sks S.ok
  have plk : plL (L.map skD) = true := (shownL_ok _ k1).2.2.2.1
  refine psd_cons (psd_set (d := .lst (L.map skD)) 3 nd rfl (Or.inl rfl) (PEd.val (pd_listL (by rfl) zlist (PEd.bor (pd_var 2 rfl (pv 2))))) ?_)
  refine psd_cons (psd_set (d := .str (txT p L)) 4 nd rfl (Or.inl rfl) (pd_call (ds := [sizD p, .lst (L.map skD)]) GT hr1 rfl (pad_cons (pd_var 1 rfl (pv 1)) (pad_cons (pd_var 2 rfl (pv 2)) pad_nil)) ⟨p, L, hp, S, rfl, rfl⟩ trivial rfl) ?_)
  refine psd_cons (psd_set (d := .str (txT p L)) 5 nd rfl (Or.inl rfl) (pd_call (ds := [sizD p, .lst (L.map skD)]) GS hr2 rfl (pad_cons (pd_var 1 rfl (pv 1)) (pad_cons (pd_var 3 rfl (pv 3)) pad_nil)) ⟨p, L, hp, S.l8, S.ok, rfl, rfl⟩ trivial rfl) ?_)
  refine psd_le (sd' := [.val (.scr ns), .val (sizD p), .val (.lst (L.map skD)), .val (.lst (L.map skD)), .val (.str (txT p L)), .val (.str (txT p L)), .un]) (Le.refl _) ?_
  refine psd_cons (psd_ifF (k := false) (PWd.pt (pwd_or (k := false) (j := false) (ptd_not (k := true) (ptd_val (pd_isin rfl zisinstance rfl zstr PyProof.Rows.boot_str (pd_var 5 rfl (pv 5)) (fun _ => by simp) (kit_str1 _ _)))) fun _ => pwd_or (k := false) (j := false) (ptd_neS (pd_var 5 rfl (pv 5)) (pd_var 4 rfl (pv 4)) rfl rfl rfl (by simp)) fun _ => pwd_or1 (PTd.cast (ptd_neD (ra := .val (.lst (L.map skD))) (rb := .val (.lst (L.map skD))) (pd_var 3 rfl (pv 3)) (pd_var 2 rfl (pv 2)) trivial trivial (.inr ⟨rfl, rfl⟩) plk plk (u_of hu (by show depL _ + 1 + 1 ≤ 6; omega))) (by show (!deq (.lst (L.map skD)) (.lst (L.map skD))) = false; rw [deq_refl (.lst (L.map skD)) plk]; rfl)))) rfl (psd_nil ?_))
  refine psd_cons (psd_setP (d := sizD p) (ls := L.map skD) 6 nd rfl (Or.inl rfl) (pd_call (ds := [.str (txT p L)]) GR hr rfl (pad_cons (pd_var 4 rfl (pv 4)) pad_nil) ⟨p, L, hp, S, rfl, rfl⟩ trivial rfl) fun F0 t0 l0 y0 hb0 hl0 ht0 => ?_)
  refine psd_le (sd' := [.gh (.scr ns) (gV K F0 (.scr ns)), .gh (sizD p) (gV K F0 (sizD p)), .gh (.lst (L.map skD)) (gV K F0 (.lst (L.map skD))), .gh (.lst (L.map skD)) (gV K F0 (.lst (L.map skD))), .gh (.str (txT p L)) (gV K F0 (.str (txT p L))), .gh (.str (txT p L)) (gV K F0 (.str (txT p L))), .gh (.tup [sizD p, .lst (L.map skD)]) (fun v F => v = .ref t0 ∧ Same F0 F)]) (Le.refl _) ?_
  refine psd_cons (psd_ifF (k := false) (ptd_not (k := true) (ptd_val (pd_call (ds := [.tup [sizD p, .lst (L.map skD)], sizD p, .lst (L.map skD)]) (r := .val (.bl true)) GI hr1 rfl (pad_cons (pd_varG 6 rfl (pv 6)) (pad_cons (pd_varG 1 rfl (pv 1)) (pad_cons (pd_varG 2 rfl (pv 2)) pad_nil))) ⟨p, L, hp, S, rfl, rfl⟩ trivial rfl))) rfl (psd_nil ?_))
  refine psd_clP (d := sizD p) (ls := L.map skD) (sd2 := [.val (.scr ns), .val (sizD p), .val (.lst (L.map skD)), .val (.lst (L.map skD)), .val (.str (txT p L)), .val (.str (txT p L)), .un]) 6 hb0 hl0 ht0 rfl (pv 6) ⟨.inr ⟨_, rfl, rfl⟩, .inr ⟨_, rfl, rfl⟩, .inr ⟨_, rfl, rfl⟩, .inr ⟨_, rfl, rfl⟩, .inr ⟨_, rfl, rfl⟩, .inr ⟨_, rfl, rfl⟩, .inl rfl, trivial⟩ ?_
  exact psd_one (psd_ret (PEd.cast (pd_and (k := true) (j := true) (pd_call (ds := [.tup [sizD p, .lst (L.map skD)], sizD p, .lst (L.map skD)]) (r := .val (.bl true)) GI hr1 rfl (pad_cons (PEd.valP (pd_call (ds := [.str (txT p L)]) GR hr rfl (pad_cons (pd_var 4 rfl (pv 4)) pad_nil) ⟨p, L, hp, S, rfl, rfl⟩ trivial rfl)) (pad_cons (pd_var 1 rfl (pv 1)) (pad_cons (pd_var 2 rfl (pv 2)) pad_nil))) ⟨p, L, hp, S, rfl, rfl⟩ trivial rfl) fun _ => pd_one (pd_eqS (k := true) (pd_call (ds := [sizD p, .lst (L.map skD)]) GS hr2 rfl (pad_cons (pd_var 1 rfl (pv 1)) (pad_cons (pd_var 3 rfl (pv 3)) pad_nil)) ⟨p, L, hp, S.l8, S.ok, rfl, rfl⟩ trivial rfl) (pd_var 4 rfl (pv 4)) rfl rfl rfl (by simp))) rfl) trivial rfl)
end
theorem all_mk {P : Program} {w : World} {K : PySem.W.Frag} {h : Heap} {mg : Str → Option Value} {fa : Addr} (X : K.In h) (G : h.Ns mainGlobals mg) (hfa : mg "law" = some (.ref fa))
    {odW anW : Option Addr} {slW : Array (Option Value)} {ocW kVW dcW pmW cdW ctW : Value} {fW : Addr} {odIz anIz : Option Addr} {slIz : Array (Option Value)} {ocIz kVIz dcIz pmIz cdIz ctIz : Value} {fIz : Addr} {odC anC : Option Addr} {slC : Array (Option Value)} {ocC kVC dcC pmC cdC ctC : Value} {fC : Addr} {odX anX : Option Addr} {slX : Array (Option Value)} {ocX kVX dcX pmX cdX ctX : Value} {fX : Addr} {odY anY : Option Addr} {slY : Array (Option Value)} {ocY kVY dcY pmY cdY ctY : Value} {fY : Addr} {odI anI : Option Addr} {slI : Array (Option Value)} {ocI kVI dcI pmI cdI ctI : Value} {fI : Addr} {odD anD : Option Addr} {slD : Array (Option Value)} {ocD kVD dcD pmD cdD ctD : Value} {fD : Addr} {odG anG : Option Addr} {slG : Array (Option Value)} {ocG kVG dcG pmG cdG ctG : Value} {fG : Addr} {odZ anZ : Option Addr} {slZ : Array (Option Value)} {ocZ kVZ dcZ pmZ cdZ ctZ : Value} {fZ : Addr} {odT anT : Option Addr} {slT : Array (Option Value)} {ocT kVT dcT pmT cdT ctT : Value} {fT : Addr} {odIp anIp : Option Addr} {slIp : Array (Option Value)} {ocIp kVIp dcIp pmIp cdIp ctIp : Value} {fIp : Addr} {odIq anIq : Option Addr} {slIq : Array (Option Value)} {ocIq kVIq dcIq pmIq cdIq ctIq : Value} {fIq : Addr} {odIs anIs : Option Addr} {slIs : Array (Option Value)} {ocIs kVIs dcIs pmIs cdIs ctIs : Value} {fIs : Addr} {odK anK : Option Addr} {slK : Array (Option Value)} {ocK kVK dcK pmK cdK ctK : Value} {fK : Addr} {odSz anSz : Option Addr} {slSz : Array (Option Value)} {ocSz kVSz dcSz pmSz cdSz ctSz : Value} {fSz : Addr} {odSs anSs : Option Addr} {slSs : Array (Option Value)} {ocSs kVSs dcSs pmSs cdSs ctSs : Value} {fSs : Addr} {odSk anSk : Option Addr} {slSk : Array (Option Value)} {ocSk kVSk dcSk pmSk cdSk ctSk : Value} {fSk : Addr} {odRn anRn : Option Addr} {slRn : Array (Option Value)} {ocRn kVRn dcRn pmRn cdRn ctRn : Value} {fRn : Addr} {odRz anRz : Option Addr} {slRz : Array (Option Value)} {ocRz kVRz dcRz pmRz cdRz ctRz : Value} {fRz : Addr} {odRs anRs : Option Addr} {slRs : Array (Option Value)} {ocRs kVRs dcRs pmRs cdRs ctRs : Value} {fRs : Addr} {odRl anRl : Option Addr} {slRl : Array (Option Value)} {ocRl kVRl dcRl pmRl cdRl ctRl : Value} {fRl : Addr} {odRk anRk : Option Addr} {slRk : Array (Option Value)} {ocRk kVRk dcRk pmRk cdRk ctRk : Value} {fRk : Addr} {odTx anTx : Option Addr} {slTx : Array (Option Value)} {ocTx kVTx dcTx pmTx cdTx ctTx : Value} {fTx : Addr} {odRi anRi : Option Addr} {slRi : Array (Option Value)} {ocRi kVRi dcRi pmRi cdRi ctRi : Value} {fRi : Addr} {odL anL : Option Addr} {slL : Array (Option Value)} {ocL kVL dcL pmL cdL ctL : Value} {fL : Addr} {fbyself : Addr} {dbyself : Option Addr} {byselft0 byselft1 byselft2 : Tok} {nbyself : Nat} {sbyself : Array (Option Value)} {fbyano : Addr} {dbyano : Option Addr} {byanot0 byanot1 byanot2 byanot3 byanot4 byanot5 : Tok} {nbyano : Nat} {sbyano : Array (Option Value)} {tnine : Tok} {tmost : Tok} {tsix : Tok} {tmfig : Tok} {tfigs : Tok}
    (aW : PySem.W.nsIn K mainGlobals "is_whole" = some (some (.ref fW))) (lW : K.lookup fW = some ⟨ocW, odW, .func (PySem.W.fnOf "is_whole" "is_whole" (defArgs sWhole) (defBody sWhole) (defScope sWhole) .none kVW dcW pmW anW cdW ctW), slW⟩) (cW : PySem.W.codeIn K cdW "is_whole" = true) (kW : PySem.W.keepIn K (.ref fW) = true) (aIz : PySem.W.nsIn K mainGlobals "is_size" = some (some (.ref fIz))) (lIz : K.lookup fIz = some ⟨ocIz, odIz, .func (PySem.W.fnOf "is_size" "is_size" (defArgs sSize) (defBody sSize) (defScope sSize) .none kVIz dcIz pmIz anIz cdIz ctIz), slIz⟩) (cIz : PySem.W.codeIn K cdIz "is_size" = true) (kIz : PySem.W.keepIn K (.ref fIz) = true) (aC : PySem.W.nsIn K mainGlobals "word_count" = some (some (.ref fC))) (lC : K.lookup fC = some ⟨ocC, odC, .func (PySem.W.fnOf "word_count" "word_count" (defArgs sCount) (defBody sCount) (defScope sCount) .none kVC dcC pmC anC cdC ctC), slC⟩) (cC : PySem.W.codeIn K cdC "word_count" = true) (kC : PySem.W.keepIn K (.ref fC) = true) (aX : PySem.W.nsIn K mainGlobals "is_box" = some (some (.ref fX))) (lX : K.lookup fX = some ⟨ocX, odX, .func (PySem.W.fnOf "is_box" "is_box" (defArgs sBox) (defBody sBox) (defScope sBox) .none kVX dcX pmX anX cdX ctX), slX⟩) (cX : PySem.W.codeIn K cdX "is_box" = true) (kX : PySem.W.keepIn K (.ref fX) = true) (aY : PySem.W.nsIn K mainGlobals "is_word" = some (some (.ref fY))) (lY : K.lookup fY = some ⟨ocY, odY, .func (PySem.W.fnOf "is_word" "is_word" (defArgs sWord) (defBody sWord) (defScope sWord) .none kVY dcY pmY anY cdY ctY), slY⟩) (cY : PySem.W.codeIn K cdY "is_word" = true) (kY : PySem.W.keepIn K (.ref fY) = true) (aI : PySem.W.nsIn K mainGlobals "is_step" = some (some (.ref fI))) (lI : K.lookup fI = some ⟨ocI, odI, .func (PySem.W.fnOf "is_step" "is_step" (defArgs sIsStep) (defBody sIsStep) (defScope sIsStep) .none kVI dcI pmI anI cdI ctI), slI⟩) (cI : PySem.W.codeIn K cdI "is_step" = true) (kI : PySem.W.keepIn K (.ref fI) = true) (aD : PySem.W.nsIn K mainGlobals "_law_draw" = some (some (.ref fD))) (lD : K.lookup fD = some ⟨ocD, odD, .func (PySem.W.fnOf "_law_draw" "_law_draw" (defArgs sDraw) (defBody sDraw) (defScope sDraw) .none kVD dcD pmD anD cdD ctD), slD⟩) (cD : PySem.W.codeIn K cdD "_law_draw" = true) (kD : PySem.W.keepIn K (.ref fD) = true) (aG : PySem.W.nsIn K mainGlobals "_law_digits" = some (some (.ref fG))) (lG : K.lookup fG = some ⟨ocG, odG, .func (PySem.W.fnOf "_law_digits" "_law_digits" (defArgs sDigits) (defBody sDigits) (defScope sDigits) .none kVG dcG pmG anG cdG ctG), slG⟩) (cG : PySem.W.codeIn K cdG "_law_digits" = true) (kG : PySem.W.keepIn K (.ref fG) = true) (aZ : PySem.W.nsIn K mainGlobals "_law_size" = some (some (.ref fZ))) (lZ : K.lookup fZ = some ⟨ocZ, odZ, .func (PySem.W.fnOf "_law_size" "_law_size" (defArgs sSize14) (defBody sSize14) (defScope sSize14) .none kVZ dcZ pmZ anZ cdZ ctZ), slZ⟩) (cZ : PySem.W.codeIn K cdZ "_law_size" = true) (kZ : PySem.W.keepIn K (.ref fZ) = true) (aT : PySem.W.nsIn K mainGlobals "_law_step" = some (some (.ref fT))) (lT : K.lookup fT = some ⟨ocT, odT, .func (PySem.W.fnOf "_law_step" "_law_step" (defArgs sLStep) (defBody sLStep) (defScope sLStep) .none kVT dcT pmT anT cdT ctT), slT⟩) (cT : PySem.W.codeIn K cdT "_law_step" = true) (kT : PySem.W.keepIn K (.ref fT) = true) (aIp : PySem.W.nsIn K mainGlobals "is_price" = some (some (.ref fIp))) (lIp : K.lookup fIp = some ⟨ocIp, odIp, .func (PySem.W.fnOf "is_price" "is_price" (defArgs sIPrice) (defBody sIPrice) (defScope sIPrice) .none kVIp dcIp pmIp anIp cdIp ctIp), slIp⟩) (cIp : PySem.W.codeIn K cdIp "is_price" = true) (kIp : PySem.W.keepIn K (.ref fIp) = true) (aIq : PySem.W.nsIn K mainGlobals "is_priced_step" = some (some (.ref fIq))) (lIq : K.lookup fIq = some ⟨ocIq, odIq, .func (PySem.W.fnOf "is_priced_step" "is_priced_step" (defArgs sIPStep) (defBody sIPStep) (defScope sIPStep) .none kVIq dcIq pmIq anIq cdIq ctIq), slIq⟩) (cIq : PySem.W.codeIn K cdIq "is_priced_step" = true) (kIq : PySem.W.keepIn K (.ref fIq) = true) (aIs : PySem.W.nsIn K mainGlobals "is_stock" = some (some (.ref fIs))) (lIs : K.lookup fIs = some ⟨ocIs, odIs, .func (PySem.W.fnOf "is_stock" "is_stock" (defArgs sIStock) (defBody sIStock) (defScope sIStock) .none kVIs dcIs pmIs anIs cdIs ctIs), slIs⟩) (cIs : PySem.W.codeIn K cdIs "is_stock" = true) (kIs : PySem.W.keepIn K (.ref fIs) = true) (aK : PySem.W.nsIn K mainGlobals "_law_stock" = some (some (.ref fK))) (lK : K.lookup fK = some ⟨ocK, odK, .func (PySem.W.fnOf "_law_stock" "_law_stock" (defArgs sStk10) (defBody sStk10) (defScope sStk10) .none kVK dcK pmK anK cdK ctK), slK⟩) (cK : PySem.W.codeIn K cdK "_law_stock" = true) (kK : PySem.W.keepIn K (.ref fK) = true) (aSz : PySem.W.nsIn K mainGlobals "show_size" = some (some (.ref fSz))) (lSz : K.lookup fSz = some ⟨ocSz, odSz, .func (PySem.W.fnOf "show_size" "show_size" (defArgs sShSize) (defBody sShSize) (defScope sShSize) .none kVSz dcSz pmSz anSz cdSz ctSz), slSz⟩) (cSz : PySem.W.codeIn K cdSz "show_size" = true) (kSz : PySem.W.keepIn K (.ref fSz) = true) (aSs : PySem.W.nsIn K mainGlobals "show_priced_step" = some (some (.ref fSs))) (lSs : K.lookup fSs = some ⟨ocSs, odSs, .func (PySem.W.fnOf "show_priced_step" "show_priced_step" (defArgs sShStep) (defBody sShStep) (defScope sShStep) .none kVSs dcSs pmSs anSs cdSs ctSs), slSs⟩) (cSs : PySem.W.codeIn K cdSs "show_priced_step" = true) (kSs : PySem.W.keepIn K (.ref fSs) = true) (aSk : PySem.W.nsIn K mainGlobals "show_stock" = some (some (.ref fSk))) (lSk : K.lookup fSk = some ⟨ocSk, odSk, .func (PySem.W.fnOf "show_stock" "show_stock" (defArgs sShStock) (defBody sShStock) (defScope sShStock) .none kVSk dcSk pmSk anSk cdSk ctSk), slSk⟩) (cSk : PySem.W.codeIn K cdSk "show_stock" = true) (kSk : PySem.W.keepIn K (.ref fSk) = true) (aRn : PySem.W.nsIn K mainGlobals "read_number" = some (some (.ref fRn))) (lRn : K.lookup fRn = some ⟨ocRn, odRn, .func (PySem.W.fnOf "read_number" "read_number" (defArgs sRdNum) (defBody sRdNum) (defScope sRdNum) .none kVRn dcRn pmRn anRn cdRn ctRn), slRn⟩) (cRn : PySem.W.codeIn K cdRn "read_number" = true) (kRn : PySem.W.keepIn K (.ref fRn) = true) (aRz : PySem.W.nsIn K mainGlobals "read_size" = some (some (.ref fRz))) (lRz : K.lookup fRz = some ⟨ocRz, odRz, .func (PySem.W.fnOf "read_size" "read_size" (defArgs sRdSize) (defBody sRdSize) (defScope sRdSize) .none kVRz dcRz pmRz anRz cdRz ctRz), slRz⟩) (cRz : PySem.W.codeIn K cdRz "read_size" = true) (kRz : PySem.W.keepIn K (.ref fRz) = true) (aRs : PySem.W.nsIn K mainGlobals "read_priced_step" = some (some (.ref fRs))) (lRs : K.lookup fRs = some ⟨ocRs, odRs, .func (PySem.W.fnOf "read_priced_step" "read_priced_step" (defArgs sRdStep) (defBody sRdStep) (defScope sRdStep) .none kVRs dcRs pmRs anRs cdRs ctRs), slRs⟩) (cRs : PySem.W.codeIn K cdRs "read_priced_step" = true) (kRs : PySem.W.keepIn K (.ref fRs) = true) (aRl : PySem.W.nsIn K mainGlobals "read_lines" = some (some (.ref fRl))) (lRl : K.lookup fRl = some ⟨ocRl, odRl, .func (PySem.W.fnOf "read_lines" "read_lines" (defArgs sRdLines) (defBody sRdLines) (defScope sRdLines) .none kVRl dcRl pmRl anRl cdRl ctRl), slRl⟩) (cRl : PySem.W.codeIn K cdRl "read_lines" = true) (kRl : PySem.W.keepIn K (.ref fRl) = true) (aRk : PySem.W.nsIn K mainGlobals "read_stock" = some (some (.ref fRk))) (lRk : K.lookup fRk = some ⟨ocRk, odRk, .func (PySem.W.fnOf "read_stock" "read_stock" (defArgs sRdStock) (defBody sRdStock) (defScope sRdStock) .none kVRk dcRk pmRk anRk cdRk ctRk), slRk⟩) (cRk : PySem.W.codeIn K cdRk "read_stock" = true) (kRk : PySem.W.keepIn K (.ref fRk) = true) (aTx : PySem.W.nsIn K mainGlobals "_law_text" = some (some (.ref fTx))) (lTx : K.lookup fTx = some ⟨ocTx, odTx, .func (PySem.W.fnOf "_law_text" "_law_text" (defArgs sText) (defBody sText) (defScope sText) .none kVTx dcTx pmTx anTx cdTx ctTx), slTx⟩) (cTx : PySem.W.codeIn K cdTx "_law_text" = true) (kTx : PySem.W.keepIn K (.ref fTx) = true) (aRi : PySem.W.nsIn K mainGlobals "_law_is_right" = some (some (.ref fRi))) (lRi : K.lookup fRi = some ⟨ocRi, odRi, .func (PySem.W.fnOf "_law_is_right" "_law_is_right" (defArgs sIsRight) (defBody sIsRight) (defScope sIsRight) .none kVRi dcRi pmRi anRi cdRi ctRi), slRi⟩) (cRi : PySem.W.codeIn K cdRi "_law_is_right" = true) (kRi : PySem.W.keepIn K (.ref fRi) = true) (aL : PySem.W.nsIn K mainGlobals "law" = some (some (.ref fL))) (lL : K.lookup fL = some ⟨ocL, odL, .func (PySem.W.fnOf "law" "law" (defArgs sLaw) (defBody sLaw) (defScope sLaw) .none kVL dcL pmL anL cdL ctL), slL⟩) (cL : PySem.W.codeIn K cdL "law" = true) (kL : PySem.W.keepIn K (.ref fL) = true) (nisinstance : PySem.W.nsIn K mainGlobals "isinstance" = some none) (nint : PySem.W.nsIn K mainGlobals "int" = some none) (nbool : PySem.W.nsIn K mainGlobals "bool" = some none) (ntuple : PySem.W.nsIn K mainGlobals "tuple" = some none) (nlen : PySem.W.nsIn K mainGlobals "len" = some none) (nrange : PySem.W.nsIn K mainGlobals "range" = some none) (nlist : PySem.W.nsIn K mainGlobals "list" = some none) (nall : PySem.W.nsIn K mainGlobals "all" = some none) (nset : PySem.W.nsIn K mainGlobals "set" = some none) (nstr : PySem.W.nsIn K mainGlobals "str" = some none) (nrepr : PySem.W.nsIn K mainGlobals "repr" = some none) (abyself : PySem.W.nsIn K mainGlobals "BY_ITSELF" = some (some (.ref fbyself))) (lbyself : K.lookup fbyself = some ⟨.type "tuple", dbyself, .seq #[.str "not" byselft0, .str "up" byselft1, .str "down" byselft2] nbyself, sbyself⟩) (abyano : PySem.W.nsIn K mainGlobals "BY_ANOTHER" = some (some (.ref fbyano))) (lbyano : K.lookup fbyano = some ⟨.type "tuple", dbyano, .seq #[.str "and" byanot0, .str "or" byanot1, .str "xor" byanot2, .str "add" byanot3, .str "take" byanot4, .str "copy" byanot5] nbyano, sbyano⟩) (anine : PySem.W.nsIn K mainGlobals "HIGHEST_PRICE" = some (some (.int 9 tnine))) (amost : PySem.W.nsIn K mainGlobals "MOST_STEPS" = some (some (.int 8 tmost))) (asix : PySem.W.nsIn K mainGlobals "MOST_BITS" = some (some (.int 6 tsix))) (amfig : PySem.W.nsIn K mainGlobals "MOST_FIGURES" = some (some (.int 2 tmfig))) (afigs : PySem.W.nsIn K mainGlobals "FIGURES" = some (some (.str "0123456789" tfigs))) :
    ∃ fd : FuncData, (∀ (s : Shared) (v : Value), BindsTo s fd ⟨[v], []⟩ [("_law_script", v)]) ∧ ∀ base : Heap, K.In base → base.Ns mainGlobals mg → FnOk P w K mg base CX0 8 fa fd ["_law_script"] (spC K 1 CLaw) := by
  have e := hfa.symm.trans (PySem.W.mg_of X G aL)
  cases e
  have zisinstance := PySem.W.mg_none_of X G nisinstance
  have zint := PySem.W.mg_none_of X G nint
  have zbool := PySem.W.mg_none_of X G nbool
  have ztuple := PySem.W.mg_none_of X G ntuple
  have zlen := PySem.W.mg_none_of X G nlen
  have zrange := PySem.W.mg_none_of X G nrange
  have zlist := PySem.W.mg_none_of X G nlist
  have zall := PySem.W.mg_none_of X G nall
  have zset := PySem.W.mg_none_of X G nset
  have zstr := PySem.W.mg_none_of X G nstr
  have zrepr := PySem.W.mg_none_of X G nrepr
  have byself : ∃ ad, mg "BY_ITSELF" = some (.ref ad) ∧ ∀ H : Hp, SqT K H ad (selfN.map V.str) := ⟨_, PySem.W.mg_of X G abyself, fun H => .inr ⟨_, _, _, lbyself, rfl, rfl, Nat.le_of_ble_eq_true rfl, (show Vals (selfN.map V.str) (#[Value.str "not" byselft0, Value.str "up" byselft1, Value.str "down" byselft2] : Array Value).toList from .cons ⟨_, rfl⟩ (.cons ⟨_, rfl⟩ (.cons ⟨_, rfl⟩ (.nil))))⟩⟩
  have byano : ∃ ad, mg "BY_ANOTHER" = some (.ref ad) ∧ ∀ H : Hp, SqT K H ad (anoN.map V.str) := ⟨_, PySem.W.mg_of X G abyano, fun H => .inr ⟨_, _, _, lbyano, rfl, rfl, Nat.le_of_ble_eq_true rfl, (show Vals (anoN.map V.str) (#[Value.str "and" byanot0, Value.str "or" byanot1, Value.str "xor" byanot2, Value.str "add" byanot3, Value.str "take" byanot4, Value.str "copy" byanot5] : Array Value).toList from .cons ⟨_, rfl⟩ (.cons ⟨_, rfl⟩ (.cons ⟨_, rfl⟩ (.cons ⟨_, rfl⟩ (.cons ⟨_, rfl⟩ (.cons ⟨_, rfl⟩ (.nil)))))))⟩⟩
  have nine : ∃ t, mg "HIGHEST_PRICE" = some (.int 9 t) := ⟨_, PySem.W.mg_of X G anine⟩
  have most : ∃ t, mg "MOST_STEPS" = some (.int 8 t) := ⟨_, PySem.W.mg_of X G amost⟩
  have six : ∃ t, mg "MOST_BITS" = some (.int 6 t) := ⟨_, PySem.W.mg_of X G asix⟩
  have mfig : ∃ t, mg "MOST_FIGURES" = some (.int 2 t) := ⟨_, PySem.W.mg_of X G amfig⟩
  have figs : ∃ t, mg "FIGURES" = some (.str figT t) := ⟨_, PySem.W.mg_of X G afigs⟩
  have FW := fun_mk (st := sWhole) lW cW kW
  have mW := PySem.W.mg_of X G aW
  have FIz := fun_mk (st := sSize) lIz cIz kIz
  have mIz := PySem.W.mg_of X G aIz
  have FC := fun_mk (st := sCount) lC cC kC
  have mC := PySem.W.mg_of X G aC
  have FX := fun_mk (st := sBox) lX cX kX
  have mX := PySem.W.mg_of X G aX
  have FY := fun_mk (st := sWord) lY cY kY
  have mY := PySem.W.mg_of X G aY
  have FI := fun_mk (st := sIsStep) lI cI kI
  have mI := PySem.W.mg_of X G aI
  have FD := fun_mk (st := sDraw) lD cD kD
  have mD := PySem.W.mg_of X G aD
  have FG := fun_mk (st := sDigits) lG cG kG
  have mG := PySem.W.mg_of X G aG
  have FZ := fun_mk (st := sSize14) lZ cZ kZ
  have mZ := PySem.W.mg_of X G aZ
  have FT := fun_mk (st := sLStep) lT cT kT
  have mT := PySem.W.mg_of X G aT
  have FIp := fun_mk (st := sIPrice) lIp cIp kIp
  have mIp := PySem.W.mg_of X G aIp
  have FIq := fun_mk (st := sIPStep) lIq cIq kIq
  have mIq := PySem.W.mg_of X G aIq
  have FIs := fun_mk (st := sIStock) lIs cIs kIs
  have mIs := PySem.W.mg_of X G aIs
  have FK := fun_mk (st := sStk10) lK cK kK
  have mK := PySem.W.mg_of X G aK
  have FSz := fun_mk (st := sShSize) lSz cSz kSz
  have mSz := PySem.W.mg_of X G aSz
  have FSs := fun_mk (st := sShStep) lSs cSs kSs
  have mSs := PySem.W.mg_of X G aSs
  have FSk := fun_mk (st := sShStock) lSk cSk kSk
  have mSk := PySem.W.mg_of X G aSk
  have FRn := fun_mk (st := sRdNum) lRn cRn kRn
  have mRn := PySem.W.mg_of X G aRn
  have FRz := fun_mk (st := sRdSize) lRz cRz kRz
  have mRz := PySem.W.mg_of X G aRz
  have FRs := fun_mk (st := sRdStep) lRs cRs kRs
  have mRs := PySem.W.mg_of X G aRs
  have FRl := fun_mk (st := sRdLines) lRl cRl kRl
  have mRl := PySem.W.mg_of X G aRl
  have FRk := fun_mk (st := sRdStock) lRk cRk kRk
  have mRk := PySem.W.mg_of X G aRk
  have FTx := fun_mk (st := sText) lTx cTx kTx
  have mTx := PySem.W.mg_of X G aTx
  have FRi := fun_mk (st := sIsRight) lRi cRi kRi
  have mRi := PySem.W.mg_of X G aRi
  have FL := fun_mk (st := sLaw) lL cL kL
  refine ⟨PySem.W.fnOf "law" "law" (defArgs sLaw) (defBody sLaw) (defScope sLaw) .none kVL dcL pmL anL cdL ctL, fun s v => .of_eq rfl, fun base _ _ => ?_⟩
  have GW := ok_whole (P := P) (w := w) (base := base) FW zisinstance zint zbool mW 
  have GIz := ok_size (P := P) (w := w) (base := base) FIz zisinstance ztuple zlen six mIz GW
  have GC := ok_count (P := P) (w := w) (base := base) FC zrange mC 
  have GX := ok_box (P := P) (w := w) (base := base) FX  mX GW
  have GY := ok_word (P := P) (w := w) (base := base) FY  mY GW GC
  have GI := ok_isstep (P := P) (w := w) (base := base) FI zisinstance ztuple zlen byself byano mI GX GY
  have GD := ok_draw (P := P) (w := w) (base := base) FD zlen mD 
  have GG := ok_digits (P := P) (w := w) (base := base) FG  mG 
  have GZ := ok_size14 (P := P) (w := w) (base := base) FZ zlen mZ 
  have GT := ok_lstep (P := P) (w := w) (base := base) FT  mT GG
  have GIp := ok_iprice (P := P) (w := w) (base := base) FIp nine mIp GW
  have GIq := ok_ipstep (P := P) (w := w) (base := base) FIq zisinstance ztuple zlen mIq GI GIp
  have GIs := ok_istock (P := P) (w := w) (base := base) FIs zisinstance zlist zlen zall zset most mIs GIq
  have GK := ok_stock10 (P := P) (w := w) (base := base) FK zrange mK GD GT
  have GSz := ok_shsize (P := P) (w := w) (base := base) FSz  mSz 
  have GSs := ok_shstep (P := P) (w := w) (base := base) FSs zstr mSs 
  have GSk := ok_shstock (P := P) (w := w) (base := base) FSk  mSk GSz GSs
  have GRn := ok_rdnum (P := P) (w := w) (base := base) FRn zlen zall zint figs mfig mRn 
  have GRz := ok_rdsize (P := P) (w := w) (base := base) FRz zlen mRz GRn
  have GRs := ok_rdstep (P := P) (w := w) (base := base) FRs ztuple mRs GRn
  have GRl := ok_rdlines (P := P) (w := w) (base := base) FRl zlen mRl GRz GIz GRs GIs
  have GRk := ok_rdstock (P := P) (w := w) (base := base) FRk  mRk GRl
  have GTx := ok_text (P := P) (w := w) (base := base) FTx zstr mTx 
  have GRi := ok_isright (P := P) (w := w) (base := base) FRi zisinstance ztuple zlen zlist zrepr mRi 
  exact ok_law FL zlist zisinstance zstr GD GZ GK GTx GSk GRk GRi
end K11
open PySem PySem.W PyProof.Rows
set_option maxRecDepth 100000 in
set_option maxHeartbeats 0 in
theorem PySem.Challenge.cw_leastrow_k11_stocks_written_and_read_holds : PySem.Challenge.rw_leastrow_k11_stocks_written_and_read.Holds := by
  w_on; o_law; k_head; (case hw => w_witness2)
  k_fill
  refine DL.walkD (l := PySem.Challenge.rw_leastrow_k11_stocks_written_and_read) (k := 8) (x := "_law_script") rfl rfl ⟨rfl, by decide, by decide, rfl⟩ (fun w h Y => PySem.W.kIn_of Y) ?F
  case F =>
    intro w mg fa h KX G hmg
    refine' K11.all_mk KX G hmg ?aW ?lW ?cW ?kW ?aIz ?lIz ?cIz ?kIz ?aC ?lC ?cC ?kC ?aX ?lX ?cX ?kX ?aY ?lY ?cY ?kY ?aI ?lI ?cI ?kI ?aD ?lD ?cD ?kD ?aG ?lG ?cG ?kG ?aZ ?lZ ?cZ ?kZ ?aT ?lT ?cT ?kT ?aIp ?lIp ?cIp ?kIp ?aIq ?lIq ?cIq ?kIq ?aIs ?lIs ?cIs ?kIs ?aK ?lK ?cK ?kK ?aSz ?lSz ?cSz ?kSz ?aSs ?lSs ?cSs ?kSs ?aSk ?lSk ?cSk ?kSk ?aRn ?lRn ?cRn ?kRn ?aRz ?lRz ?cRz ?kRz ?aRs ?lRs ?cRs ?kRs ?aRl ?lRl ?cRl ?kRl ?aRk ?lRk ?cRk ?kRk ?aTx ?lTx ?cTx ?kTx ?aRi ?lRi ?cRi ?kRi ?aL ?lL ?cL ?kL ?nisinstance ?nint ?nbool ?ntuple ?nlen ?nrange ?nlist ?nall ?nset ?nstr ?nrepr ?abyself ?lbyself ?abyano ?lbyano ?anine ?amost ?asix ?amfig ?afigs
    (case aW => k_is); (case lW => k_is); (case cW => k_is); (case kW => k_is); (case aIz => k_is); (case lIz => k_is); (case cIz => k_is); (case kIz => k_is); (case aC => k_is); (case lC => k_is); (case cC => k_is); (case kC => k_is); (case aX => k_is); (case lX => k_is); (case cX => k_is); (case kX => k_is); (case aY => k_is); (case lY => k_is); (case cY => k_is); (case kY => k_is); (case aI => k_is); (case lI => k_is); (case cI => k_is); (case kI => k_is); (case aD => k_is); (case lD => k_is); (case cD => k_is); (case kD => k_is); (case aG => k_is); (case lG => k_is); (case cG => k_is); (case kG => k_is); (case aZ => k_is); (case lZ => k_is); (case cZ => k_is); (case kZ => k_is); (case aT => k_is); (case lT => k_is); (case cT => k_is); (case kT => k_is); (case aIp => k_is); (case lIp => k_is); (case cIp => k_is); (case kIp => k_is); (case aIq => k_is); (case lIq => k_is); (case cIq => k_is); (case kIq => k_is); (case aIs => k_is); (case lIs => k_is); (case cIs => k_is); (case kIs => k_is); (case aK => k_is); (case lK => k_is); (case cK => k_is); (case kK => k_is); (case aSz => k_is); (case lSz => k_is); (case cSz => k_is); (case kSz => k_is); (case aSs => k_is); (case lSs => k_is); (case cSs => k_is); (case kSs => k_is); (case aSk => k_is); (case lSk => k_is); (case cSk => k_is); (case kSk => k_is); (case aRn => k_is); (case lRn => k_is); (case cRn => k_is); (case kRn => k_is); (case aRz => k_is); (case lRz => k_is); (case cRz => k_is); (case kRz => k_is); (case aRs => k_is); (case lRs => k_is); (case cRs => k_is); (case kRs => k_is); (case aRl => k_is); (case lRl => k_is); (case cRl => k_is); (case kRl => k_is); (case aRk => k_is); (case lRk => k_is); (case cRk => k_is); (case kRk => k_is); (case aTx => k_is); (case lTx => k_is); (case cTx => k_is); (case kTx => k_is); (case aRi => k_is); (case lRi => k_is); (case cRi => k_is); (case kRi => k_is); (case aL => k_is); (case lL => k_is); (case cL => k_is); (case kL => k_is); (case nisinstance => k_is); (case nint => k_is); (case nbool => k_is); (case ntuple => k_is); (case nlen => k_is); (case nrange => k_is); (case nlist => k_is); (case nall => k_is); (case nset => k_is); (case nstr => k_is); (case nrepr => k_is); (case abyself => k_is); (case lbyself => k_is); (case abyano => k_is); (case lbyano => k_is); (case anine => k_is); (case amost => k_is); (case asix => k_is); (case amfig => k_is); (case afigs => k_is)
