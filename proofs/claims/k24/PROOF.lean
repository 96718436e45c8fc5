import PyProof.Rows.All
import Wide.All
import OpenK.AllK
import Wide.FinOn
import Lean
import PyProof.EqAt
import PyProof.EqKinds
import PyProof.TupleCall
import PySem.Challenge.RW_freshsheet_k24_shapes_told
set_option Elab.async false
set_option linter.all false
set_option maxRecDepth 100000
set_option maxHeartbeats 4000000
set_option Elab.async false
set_option linter.all false
set_option maxRecDepth 100000
/-! THE HAND LAYER, for ints, bools, texts, own classes, LISTS and tuples (index, slices, in, append, pop ..), calls, loops. Paste it whole ahead of your own text; what your proof does not reach may be deleted. -/
namespace L2
open PySem PySem.Spec PyProof.Rows

/-- a key: an int or a str -/
abbrev Key := Sum Int Str
def keyIs : Key → Value → Bool
  | .inl k, v => Value.isInt k v
  | .inr x, v => Value.isStrOf x v
def keyH (w : World) : Key → Int
  | .inl k => hashInt k
  | .inr x => hashStr w x
theorem keyIs_shape : ∀ {k : Key} {v : Value}, keyIs k v = true → (∃ i t, k = Sum.inl i ∧ v = Value.int i t) ∨ (∃ x t, k = Sum.inr x ∧ v = Value.str x t)
  | .inl i, v, h => by
    obtain ⟨t, e⟩ := Value.isInt_shape (k := i) (v := v) h
    exact .inl ⟨i, t, rfl, e⟩
  | .inr x, v, h => by
    obtain ⟨t, e⟩ := Value.isStrOf_shape (x := x) (v := v) h
    exact .inr ⟨x, t, rfl, e⟩
theorem keyIs_int (i : Int) (t : Tok) : keyIs (.inl i) (.int i t) = true := by simp [keyIs, Value.isInt]
theorem keyIs_str (x : Str) (t : Tok) : keyIs (.inr x) (.str x t) = true := by simp [keyIs, Value.isStrOf]
theorem key_ll (a b : Int) : decide ((Sum.inl a : Key) = Sum.inl b) = (a == b) := by
  by_cases e : a = b
  · subst e; simp
  · have h : ¬ (Sum.inl a : Key) = Sum.inl b := fun q => e (Sum.inl.inj q)
    rw [decide_eq_false h]
    exact (beq_eq_false_iff_ne.mpr e).symm
theorem key_rr (a b : Str) : decide ((Sum.inr a : Key) = Sum.inr b) = decide (a = b) := by
  by_cases e : a = b
  · subst e; simp
  · have h : ¬ (Sum.inr a : Key) = Sum.inr b := fun q => e (Sum.inr.inj q)
    rw [decide_eq_false h, decide_eq_false e]
theorem key_lr (a : Int) (b : Str) : decide ((Sum.inl a : Key) = Sum.inr b) = false := decide_eq_false (fun q => nomatch q)
theorem key_rl (a : Str) (b : Int) : decide ((Sum.inr a : Key) = Sum.inl b) = false := decide_eq_false (fun q => nomatch q)

def mixKind (prog : Program) (w : World) : PySem.KeyKind prog w Key where
  is := keyIs
  hash := keyH w
  inj := fun v a b ha hb => by
    rcases keyIs_shape ha with ⟨i, t, rfl, rfl⟩ | ⟨x, t, rfl, rfl⟩
    · rcases keyIs_shape hb with ⟨j, u, rfl, e⟩ | ⟨y, u, rfl, e⟩
      · injection e with e1 _; rw [e1]
      · exact nomatch e
    · rcases keyIs_shape hb with ⟨j, u, rfl, e⟩ | ⟨y, u, rfl, e⟩
      · exact nomatch e
      · injection e with e1 _; rw [e1]
  byValue := fun k v h => by
    rcases keyIs_shape h with ⟨i, t, rfl, rfl⟩ | ⟨x, t, rfl, rfl⟩ <;> rfl
  pyHash := fun hv h => by
    rcases keyIs_shape hv with ⟨i, t, rfl, rfl⟩ | ⟨x, t, rfl, rfl⟩
    · exact wpAny_pyHash_int h
    · exact wpAny_pyHash_str h
  eqBool := fun hu hv h => by
    rcases keyIs_shape hu with ⟨i, t, rfl, rfl⟩ | ⟨x, t, rfl, rfl⟩
    · rcases keyIs_shape hv with ⟨j, u, rfl, rfl⟩ | ⟨y, u, rfl, rfl⟩
      · rw [key_ll] at h; exact wpAny_eqBool_int h
      · rw [key_lr] at h; exact SeqAt.EqAt.int_str i t y u _ _ _ _ h
    · rcases keyIs_shape hv with ⟨j, u, rfl, rfl⟩ | ⟨y, u, rfl, rfl⟩
      · rw [key_rl] at h; exact SeqAt.EqAt.str_int x t j u _ _ _ _ h
      · rw [key_rr] at h; exact wpAny_eqBool_str h
  «strs» := fun k x t v h => by
    rcases keyIs_shape h with ⟨i, u, rfl, e⟩ | ⟨y, u, rfl, e⟩
    · exact nomatch e
    · injection e with e1 _
      subst e1
      cases v <;> rfl

theorem mixKind_int (prog : Program) (w : World) (i : Int) (t : Tok) : (mixKind prog w).is (.inl i) (.int i t) = true := keyIs_int i t
theorem mixKind_str (prog : Program) (w : World) (x : Str) (t : Tok) : (mixKind prog w).is (.inr x) (.str x t) = true := keyIs_str x t
end L2

namespace L2
open PySem PySem.Spec PyProof.Rows

/-- a value, without the heap -/
inductive V where
  | non | bl (b : Bool) | int (i : Int) | str (x : Str) | byt (b : Array UInt8) | flt (b : UInt64) | ref (a : Addr) | ty (n : String)
  deriving DecidableEq

def RelV : V → Value → Prop
  | .non, u => u = Value.none
  | .bl b, u => u = Value.bool b
  | .int i, u => ∃ t, u = Value.int i t
  | .str x, u => ∃ t, u = Value.str x t
  | .byt b, u => ∃ t, u = Value.bytes b t
  | .flt b, u => ∃ t, u = Value.float b t
  | .ref a, u => u = Value.ref a
  | .ty n, u => u = Value.type n

abbrev Vals : List V → List Value → Prop := Paired RelV
theorem Vals.length {xs : List V} {us : List Value} (r : Vals xs us) : xs.length = us.length := Paired.length r
theorem Vals.get : ∀ {xs : List V} {us : List Value} {i : Nat} {x : V}, Vals xs us → xs[i]? = some x → ∃ u, us[i]? = some u ∧ RelV x u
  | _, _, _, _, .nil, e => by simp at e
  | _, _, 0, _, .cons r _, e => by simp at e; subst e; exact ⟨_, rfl, r⟩
  | _, _, i + 1, x, .cons _ t, e => by
    obtain ⟨u, h1, h2⟩ := Vals.get (i := i) (x := x) t (by simpa using e)
    exact ⟨u, by simpa using h1, h2⟩
theorem Vals.set {x : V} {u : Value} (r : RelV x u) : ∀ {xs : List V} {us : List Value} (i : Nat), Vals xs us → Vals (xs.set i x) (us.set i u)
  | _, _, _, .nil => .nil
  | _, _, 0, .cons _ t => .cons r t
  | _, _, i + 1, .cons q t => .cons q (Vals.set r i t)
theorem Vals.append : ∀ {xs ys : List V} {us ws : List Value}, Vals xs us → Vals ys ws → Vals (xs ++ ys) (us ++ ws)
  | _, _, _, _, .nil, s => s
  | _, _, _, _, .cons r t, s => .cons r (Vals.append t s)
theorem Vals.take : ∀ {xs : List V} {us : List Value} (n : Nat), Vals xs us → Vals (xs.take n) (us.take n)
  | _, _, 0, _ => .nil
  | _, _, _ + 1, .nil => .nil
  | _, _, n + 1, .cons r t => .cons r (Vals.take n t)
theorem Vals.drop : ∀ {xs : List V} {us : List Value} (n : Nat), Vals xs us → Vals (xs.drop n) (us.drop n)
  | _, _, 0, r => r
  | _, _, _ + 1, .nil => .nil
  | _, _, n + 1, .cons _ t => Vals.drop n t
def RelO : Option V → Option Value → Prop
  | some v, some u => RelV v u
  | none, none => True
  | _, _ => False
def KV {κ : Type} : List (κ × V) → List (κ × Value) → Prop := Paired fun (p : κ × V) (q : κ × Value) => p.1 = q.1 ∧ RelV p.2 q.2

/-- a key of a dict (00_mix): an int or a text -/
def kV : Key → V
  | .inl i => .int i
  | .inr x => .str x

/-- what stands at a tracked address -/
inductive HO where
  /-- a list -/
  | lst (xs : List V)
  /-- a tuple (never changes) -/
  | tup (xs : List V)
  /-- a dict whose keys are ints and texts; one whose keys are tuples of ints and texts (the empty one is both) -/
  | dK (kvs : List (Key × V)) | dT (kvs : List (List Key × V))
  /-- a set of ints: its members, its size -/
  | set (S : Int → Bool) (n : Nat)
  /-- an instance of the class at C, its dict at dx, its attributes -/
  | ins (C dx : Addr) (fs : List (Str × V))
  /-- the dict of the instance at x -/
  | own (x : Addr)
  /-- the dict of an exception -/
  | xd (fs : List (Str × V))
  /-- a bound method, f of x -/
  | met (f x : Addr)
  /-- a range object lo, lo + 1, .. below hi -/
  | rng (lo hi : Int)
  /-- a thing that is known to the object (the script; a dict while a loop walks it): read, never written while it is so -/
  | frz (o : Obj) (u : HO)
  /-- a code object's table -/
  | tbl (ps : Array Value)
  /-- any other thing, by what is true of its one object (a def of one's own: SetO a S n := HO.ext fun h => ..) -/
  | ext (φ : Heap → Prop)

abbrev Hp := Addr → Option HO
def upd (H : Hp) (a : Addr) (o : HO) : Hp := fun b => if b = a then some o else H b
theorem upd_same {H : Hp} {a : Addr} {o : HO} : upd H a o a = some o := by unfold upd; rw [if_pos rfl]
theorem upd_ne {H : Hp} {a b : Addr} {o : HO} (h : b ≠ a) : upd H a o b = H b := by unfold upd; rw [if_neg h]
theorem upd_upd {H : Hp} {a : Addr} {o u : HO} : upd (upd H a o) a u = upd H a u := by
  funext b; unfold upd; split <;> rfl
/-- two objects of different content stand apart -/
theorem ne_of {H : Hp} {a b : Addr} {o u : HO} (h : H a = some o) (h' : H b = some u) (d : o ≠ u) : a ≠ b := by
  intro e; subst e; rw [h] at h'; exact d (Option.some.inj h')
theorem ne_of_none {H : Hp} {a b : Addr} {o : HO} (h : H a = some o) (h' : H b = none) : a ≠ b := by
  intro e; subst e; rw [h] at h'; cases h'

section
variable (P : Program) (w : World)
def ObjOk (H : Hp) (h : Heap) (a : Addr) : HO → Prop
  | .lst xs => xs.length ≤ sizeLine ∧ ∃ (its : List Value) (n : Nat), Vals xs its ∧ h.get? a = some { cls := .type "list", data := .seq its.toArray n }
  | .tup xs => xs.length ≤ sizeLine ∧ ∃ its : List Value, Vals xs its ∧ IsTup h a its.toArray
  | .dK kvs => kvs.length ≤ sizeLine ∧ (a == sysModules) = false ∧ ∃ vs, KV kvs vs ∧ h.DictOf (mixKind P w) a vs
  | .dT kvs => kvs.length ≤ sizeLine ∧ (a == sysModules) = false ∧ ∃ xs : List (List Key × Addr × Value),
      Paired (fun (p : List Key × V) (q : List Key × Addr × Value) => p.1 = q.1 ∧ H q.2.1 = some (.tup (p.1.map kV)) ∧ RelV p.2 q.2.2) kvs xs ∧
      ∃ o es ep, h.get? a = some o ∧ o.ExactDict ∧ o.data = .dict es ep ∧ es.toList = xs.map (entryOfKey (tupleKind (mixKind P w))) ∧ (xs.map (·.1)).Nodup
  | .set S n => h.SetOf (intKind P w) a S n
  | .ins C dx fs => H dx = some (.own a) ∧ fs.length ≤ 1000 ∧ dx ≠ a ∧ h.get? a = some (PySem.W.instObj C dx) ∧
      ∃ mA, h.Ns1 dx mA ∧ (∀ f, RelO (fs.lookup f) (mA f)) ∧ PySem.Within mA (fs.map (·.1))
  | .own _ => ∃ o, h.get? a = some o
  | .xd fs => ∃ mA, h.Ns1 a mA ∧ ∀ f, RelO (fs.lookup f) (mA f)
  | .rng lo hi => ∃ t u v, h.get? a = some { cls := .type "range", data := .fields #[.int lo t, .int hi u, .int 1 v] }
  | .frz o u => h.get? a = some o ∧ ObjOk H h a u
  | .tbl ps => h.get? a = some { cls := .none, data := .fields ps }
  | .met f x => h.get? a = some (PySem.W.methodObj (.ref f) (.ref x))
  | .ext φ => φ h ∧ (∃ o, h.get? a = some o) ∧ ∀ h1 h2 : Heap, φ h1 → (∀ o, h1.get? a = some o → h2.get? a = some o) → φ h2
/-- the abstract heap is held -/
def HOk (H : Hp) (h : Heap) : Prop := ∀ a o, H a = some o → ObjOk P w H h a o
end

section
variable {P : Program} {w : World} {H H' : Hp} {h h' : Heap} {a : Addr} {o : HO}
theorem ObjOk.lt (x : ObjOk P w H h a o) : a < h.objs.size := by
  cases o with
  | lst xs => obtain ⟨_, _, _, _, e⟩ := x; exact Heap.lt_size e
  | tup xs => obtain ⟨_, _, _, p⟩ := x; exact p.lt
  | dK kvs => obtain ⟨_, _, _, _, o, _, _, e, _⟩ := x; exact Heap.lt_size e
  | dT kvs => obtain ⟨_, _, _, _, o, _, _, e, _⟩ := x; exact Heap.lt_size e
  | set S n => obtain ⟨o, _, _, _, e, _⟩ := x; exact Heap.lt_size e
  | ins C dx fs => obtain ⟨_, _, _, e, _⟩ := x; exact Heap.lt_size e
  | own y => obtain ⟨_, e⟩ := x; exact Heap.lt_size e
  | xd fs => obtain ⟨_, ⟨_, _, _, e, _⟩, _⟩ := x; exact Heap.lt_size e
  | rng lo hi => obtain ⟨_, _, _, e⟩ := x; exact Heap.lt_size e
  | frz ob u => obtain ⟨e, _⟩ := x; exact Heap.lt_size e
  | tbl ps => exact Heap.lt_size (show h.get? a = some _ from x)
  | met f y => exact Heap.lt_size (show h.get? a = some _ from x)
  | ext φ => obtain ⟨_, ⟨_, e⟩, _⟩ := x; exact Heap.lt_size e
theorem Paired.mapP {α β : Type} {F G : α → β → Prop} : ∀ {l₁ : List α} {l₂ : List β}, Paired F l₁ l₂ → (∀ a b, F a b → G a b) → Paired G l₁ l₂
  | _, _, .nil, _ => .nil
  | _, _, .cons r t, f => .cons (f _ _ r) (Paired.mapP t f)
theorem Paired.imp' {α β : Type} {F G : α → β → Prop} (f : ∀ a b, F a b → G a b) {l₁ : List α} {l₂ : List β} (r : Paired F l₁ l₂) : Paired G l₁ l₂ := Paired.mapP r f
/-- what an object's description leans on: its own object, its own dict, the tuples -/
theorem ObjOk.stay (x : ObjOk P w H h a o) (k : ∀ b u, (b = a ∨ H b = some (.own a)) → h.get? b = some u → h'.get? b = some u)
    (ho : ∀ b, H b = some (.own a) → H' b = some (.own a)) (ht : ∀ b xs, H b = some (.tup xs) → H' b = some (.tup xs)) : ObjOk P w H' h' a o := by
  induction o with
  | lst xs => obtain ⟨z, its, n, r, e⟩ := x; exact ⟨z, its, n, r, k _ _ (.inl rfl) e⟩
  | tup xs => obtain ⟨z, its, r, ob, e, c⟩ := x; exact ⟨z, its, r, ob, k _ _ (.inl rfl) e, c⟩
  | dK kvs => obtain ⟨z, y, vs, r, ob, es, ep, e, c⟩ := x; exact ⟨z, y, vs, r, ob, es, ep, k _ _ (.inl rfl) e, c⟩
  | dT kvs =>
    obtain ⟨z, y, xs, r, ob, es, ep, e, c⟩ := x
    exact ⟨z, y, xs, Paired.mapP r fun p q z => ⟨z.1, ht _ _ z.2.1, z.2.2⟩, ob, es, ep, k _ _ (.inl rfl) e, c⟩
  | set S n => obtain ⟨ob, es, ep, t, e, c⟩ := x; exact ⟨ob, es, ep, t, k _ _ (.inl rfl) e, c⟩
  | ins C dx fs =>
    obtain ⟨d, z, ne, e, mA, ⟨od, es, ep, e2, c⟩, r⟩ := x
    exact ⟨ho _ d, z, ne, k _ _ (.inl rfl) e, mA, ⟨od, es, ep, k _ _ (.inr d) e2, c⟩, r⟩
  | own y => obtain ⟨ob, e⟩ := x; exact ⟨ob, k _ _ (.inl rfl) e⟩
  | xd fs => obtain ⟨mA, ⟨od, es, ep, e, c⟩, r⟩ := x; exact ⟨mA, ⟨od, es, ep, k _ _ (.inl rfl) e, c⟩, r⟩
  | rng lo hi => obtain ⟨t, u, v, e⟩ := x; exact ⟨t, u, v, k _ _ (.inl rfl) e⟩
  | frz ob u ih => obtain ⟨e, q⟩ := x; exact ⟨k _ _ (.inl rfl) e, ih q⟩
  | tbl ps =>
    have e : h.get? a = some { cls := .none, data := .fields ps } := x
    show h'.get? a = some { cls := .none, data := .fields ps }
    exact k a _ (.inl rfl) e
  | met f y =>
    have e : h.get? a = some (PySem.W.methodObj (.ref f) (.ref y)) := x
    show h'.get? a = some (PySem.W.methodObj (.ref f) (.ref y))
    exact k a _ (.inl rfl) e
  | ext φ => obtain ⟨p, ⟨o, e⟩, st⟩ := x; exact ⟨st _ _ p fun o q => k _ _ (.inl rfl) q, ⟨o, k _ _ (.inl rfl) e⟩, st⟩
theorem HOk.lt (x : HOk P w H h) (e : H a = some o) : a < h.objs.size := (x a o e).lt
theorem HOk.fresh (x : HOk P w H h) (e : h.objs.size ≤ a) : H a = none := by
  cases q : H a with
  | none => rfl
  | some u => exact absurd (Nat.lt_of_lt_of_le (x.lt q) e) (Nat.lt_irrefl _)
/-- every object of the heap is kept -/
theorem HOk.kept (x : HOk P w H h) (k : ∀ b u, h.get? b = some u → h'.get? b = some u) : HOk P w H h' := fun a o e =>
  (x a o e).stay (fun b u _ q => k b u q) (fun _ q => q) fun _ _ q => q
/-- a new object is laid and tracked -/
theorem HOk.laid (x : HOk P w H h) (k : ∀ b u, h.get? b = some u → h'.get? b = some u) (hp : h.objs.size ≤ a) (new : ObjOk P w (upd H a o) h' a o) : HOk P w (upd H a o) h' := fun b u e => by
  have hn := x.fresh hp
  by_cases hb : b = a
  · subst hb; rw [upd_same] at e; cases e; exact new
  · rw [upd_ne hb] at e
    exact (x b u e).stay (fun c v _ q => k c v q) (fun c q => by rw [upd_ne (ne_of_none q hn)]; exact q) fun c xs q => by rw [upd_ne (ne_of_none q hn)]; exact q
end

/-- what may be read as u: it is u, or a known u -/
def Rd (H : Hp) (a : Addr) (u : HO) : Prop := H a = some u ∨ ∃ o, H a = some (.frz o u)
theorem Rd.of {H : Hp} {a : Addr} {u : HO} (h : H a = some u) : Rd H a u := .inl h
theorem Rd.ok {P : Program} {w : World} {H : Hp} {h : Heap} {a : Addr} {u : HO} (r : Rd H a u) (x : HOk P w H h) : ObjOk P w H h a u := by
  rcases r with r | ⟨o, r⟩
  · exact x a u r
  · obtain ⟨_, q⟩ := x a _ r
    exact q
/-- what may be written -/
def Mut : Option HO → Prop
  | some (.lst _) => True
  | some (.dK _) => True
  | some (.dT _) => True
  | some (.set _ _) => True
  | some (.ins _ _ _) => True
  | some (.ext _) => True
  | _ => False
section
variable {P : Program} {w : World} {H : Hp} {h h' : Heap} {x e : Addr} {o' : HO}
/-- the object at e is changed: x itself, or the dict of the instance x -/
theorem HOk.write (ok : HOk P w H h) (mu : Mut (H x)) (he : e = x ∨ H e = some (.own x)) (k : ∀ b u, b ≠ e → h.get? b = some u → h'.get? b = some u) (heo : ∃ u, h'.get? e = some u)
    (new : ObjOk P w (upd H x o') h' x o') : HOk P w (upd H x o') h' := fun b u q => by
  have nown : ∀ c y, H c = some (.own y) → c ≠ x := fun c y r z => by subst z; rw [r] at mu; exact mu
  have ntup : ∀ c xs, H c = some (.tup xs) → c ≠ x := fun c xs r z => by subst z; rw [r] at mu; exact mu
  by_cases hb : b = x
  · subst hb; rw [upd_same] at q; cases q; exact new
  · rw [upd_ne hb] at q
    by_cases hbe : b = e
    · have q' : H b = some (.own x) := by
        rcases he with z | z
        · exact absurd (hbe.trans z) hb
        · rw [hbe]; exact z
      rw [q] at q'; cases q'
      obtain ⟨v, hv⟩ := heo
      exact ⟨v, by rw [hbe]; exact hv⟩
    · refine (ok b u q).stay (fun c v hc r => k c v ?_ r) (fun c r => by rw [upd_ne (nown c b r)]; exact r) fun c xs r => by rw [upd_ne (ntup c xs r)]; exact r
      rcases hc with rfl | hc
      · exact hbe
      · rintro rfl
        rcases he with z | z
        · exact nown c b hc z
        · rw [hc] at z; cases z; exact hb rfl
end

/-! ### kept unless tracked; of the frames at fs (the callers') the slots may change (an exception that passes writes there); of the records at ex (iterators) nothing is said -/
structure Un (fs ex : List Addr) (H H' : Hp) (h h' : Heap) : Prop where
  keep : ∀ b o, h.get? b = some o → H b = none → b ∉ fs → b ∉ ex → h'.get? b = some o
  slot : ∀ b o, h.get? b = some o → H b = none → b ∈ fs → b ∉ ex → ∃ sl, h'.get? b = some { o with slots := sl }
  free : ∀ b o, h.get? b = some o → H b = none → b ∉ ex → H' b = none
  there : ∀ b o, h.get? b = some o → b ∉ ex → ∃ o', h'.get? b = some o'
  tups : ∀ b xs, H b = some (.tup xs) → H' b = some (.tup xs)
  frzs : ∀ b o u, H b = some (.frz o u) → H' b = some (.frz o u)
  tbls : ∀ b ps, H b = some (.tbl ps) → ∃ more, H' b = some (.tbl (ps ++ more))
section
variable {fs fs' ex ex' : List Addr} {H H1 H2 : Hp} {h h1 h2 h' : Heap} {a x e : Addr} {o : HO}
theorem Un.any (u : Un fs ex H H1 h h1) {b : Addr} {ob : Obj} (q : h.get? b = some ob) (n : H b = none) (hx : b ∉ ex) : ∃ sl, h1.get? b = some { ob with slots := sl } := by
  by_cases hb : b ∈ fs
  · exact u.slot b ob q n hb hx
  · exact ⟨ob.slots, u.keep b ob q n hb hx⟩
theorem Un.trans (a : Un fs ex H H1 h h1) (b : Un fs ex H1 H2 h1 h2) : Un fs ex H H2 h h2 where
  keep := fun c ob q n hc hx => b.keep c ob (a.keep c ob q n hc hx) (a.free c ob q n hx) hc hx
  slot := fun c ob q n hc hx => by
    obtain ⟨sl, e1⟩ := a.slot c ob q n hc hx
    obtain ⟨sl', e2⟩ := b.slot c _ e1 (a.free c ob q n hx) hc hx
    exact ⟨sl', e2⟩
  free := fun c ob q n hx => by
    obtain ⟨o', e1⟩ := a.there c ob q hx
    exact b.free c o' e1 (a.free c ob q n hx) hx
  there := fun c ob q hx => by
    obtain ⟨o', e1⟩ := a.there c ob q hx
    exact b.there c o' e1 hx
  tups := fun c xs q => b.tups c xs (a.tups c xs q)
  frzs := fun c ob xs q => b.frzs c ob xs (a.frzs c ob xs q)
  tbls := fun c ps q => by
    obtain ⟨m1, e1⟩ := a.tbls c ps q
    obtain ⟨m2, e2⟩ := b.tbls c _ e1
    exact ⟨m1 ++ m2, by rw [e2, Array.append_assoc]⟩
theorem Un.kept (k : ∀ b u, h.get? b = some u → h'.get? b = some u) : Un fs ex H H h h' :=
  ⟨fun b ob q _ _ _ => k b ob q, fun b ob q _ _ _ => ⟨ob.slots, k b ob q⟩, fun _ _ _ n _ => n, fun b ob q _ => ⟨ob, k b ob q⟩, fun _ _ q => q, fun _ _ _ q => q, fun _ ps q => ⟨#[], by rw [q]; simp⟩⟩
theorem Un.refl : Un fs ex H H h h := Un.kept fun _ _ q => q
theorem Un.laid (k : ∀ b u, h.get? b = some u → h'.get? b = some u) (hp : h.objs.size ≤ a) (hn : H a = none) : Un fs ex H (upd H a o) h h' where
  keep := fun b u q _ _ _ => k b u q
  slot := fun b u q _ _ _ => ⟨u.slots, k b u q⟩
  free := fun b u q n _ => by rw [upd_ne (Nat.ne_of_lt (Nat.lt_of_lt_of_le (Heap.lt_size q) hp))]; exact n
  there := fun b u q _ => ⟨u, k b u q⟩
  tups := fun b xs q => by rw [upd_ne (ne_of_none q hn)]; exact q
  frzs := fun b u xs q => by rw [upd_ne (ne_of_none q hn)]; exact q
  tbls := fun b ps q => ⟨#[], by rw [upd_ne (ne_of_none q hn), q]; simp⟩
theorem Un.write (mu : Mut (H x)) (he : e = x ∨ H e = some (.own x)) (k : ∀ b u, b ≠ e → h.get? b = some u → h'.get? b = some u) (heo : ∃ u, h'.get? e = some u) : Un fs ex H (upd H x o) h h' := by
  have hx : ∀ b, H b = none → b ≠ x := fun b n z => by subst z; rw [n] at mu; exact mu
  have hb : ∀ b, H b = none → b ≠ e := fun b n z => by
    subst z
    rcases he with r | r
    · exact hx b n r
    · rw [n] at r; cases r
  have hm : ∀ b u, H b = some u → ¬ Mut (some u) → b ≠ x := fun b u q nm z => by subst z; rw [q] at mu; exact nm mu
  refine ⟨fun b u q n _ _ => k b u (hb b n) q, fun b u q n _ _ => ⟨u.slots, k b u (hb b n) q⟩, fun b u q n _ => by rw [upd_ne (hx b n)]; exact n, fun b u q _ => ?_,
    fun b xs q => by rw [upd_ne (hm b _ q fun z => z)]; exact q, fun b u xs q => by rw [upd_ne (hm b _ q fun z => z)]; exact q, fun b ps q => ⟨#[], by rw [upd_ne (hm b _ q fun z => z), q]; simp⟩⟩
  by_cases hbe : b = e
  · subst hbe; exact heo
  · exact ⟨u, k b u hbe q⟩
theorem Un.mono (u : Un fs ex H H1 h h1) (hs : ∀ b ∈ fs, b ∈ fs') (hx : ∀ b ∈ ex, b ∈ ex') : Un fs' ex' H H1 h h1 :=
  ⟨fun b ob q n hb he => u.keep b ob q n (fun z => hb (hs b z)) fun z => he (hx b z), fun _ _ q n _ he => u.any q n fun z => he (hx _ z), fun b ob q n he => u.free b ob q n fun z => he (hx b z), fun b ob q he => u.there b ob q fun z => he (hx b z), u.tups, u.frzs, u.tbls⟩
end

/-! ### the heap without what is tracked -/
def trk (h : Heap) (H : Hp) : List Addr := (List.range h.objs.size).filter fun a => (H a).isSome
def hidT (h : Heap) (H : Hp) : Heap := PySem.W.hideAll h (trk h H)
theorem hidT_size (h : Heap) (H : Hp) : (hidT h H).objs.size = h.objs.size := PySem.W.hideAll_size _ _
theorem hidT_get {h : Heap} {H : Hp} {b : Addr} {o : Obj} (e : h.get? b = some o) (n : H b = none) : (hidT h H).get? b = some o :=
  PySem.W.hideAll_get _ e fun hm => by
    have q : (H b).isSome = true := (List.mem_filter.mp hm).2
    rw [n] at q; simp at q
theorem of_hidT {h : Heap} {H : Hp} {b : Addr} {o : Obj} (e : (hidT h H).get? b = some o) : h.get? b = some o ∧ H b = none := by
  have e' : h.get? b = some o := PySem.W.of_hideAll (trk h H) e
  refine ⟨e', ?_⟩
  cases q : H b with
  | none => rfl
  | some x =>
    have hm : b ∈ trk h H := List.mem_filter.mpr ⟨List.mem_range.mpr (Heap.lt_size e'), by simp [q]⟩
    have z : (hidT h H).get? b = none := PySem.W.hideAll_none (trk h H) hm
    rw [z] at e; cases e

/-! ### OpenK's ledger, filled with every new object but one -/
def allNews (g h : Heap) (L : Addr) : List (Addr × Obj) := (List.range h.objs.size).filterMap fun a => if a = L ∨ (g.get? a).isSome = true then none else (h.get? a).map fun o => (a, o)
def rest (g h : Heap) (L d : Addr) : List (Addr × Obj) := (allNews g h L).filter fun p => decide (p.1 ≠ d)
end L2

namespace L2
open PySem PySem.Spec PyProof.Rows

/-- the module's facts, over the base: the heap at the law's entry without what is tracked there -/
structure Mod (K : PySem.W.Frag) (mg : Str → Option Value) (base : Heap) : Prop where
  kin : K.In base
  glob : base.Ns mainGlobals mg
  blt : ∃ mb, base.Ns builtinsNs mb ∧ ∀ x : Str, x ≠ "__name__" → mb x = bootBuiltins x
  nolimit : base.NoLimit

/-- the context: a def's body (or a comprehension's block) running. base: fixed through the whole law; s₀, H₀: the entry; outer: the frames whose slots others may change (a def's callers); stack: all frames that run;
   ex: iterators that were made ahead of the entry and are walked here (a comprehension's); fn: the names whose cells were made at the entry (a def: all; a comprehension's block: its own); calm: not within an except suite; pn: pins that every state bears; xe: what is wanted of an exception that leaves the code -/
structure Cx where
  prog : Program
  w : World
  K : PySem.W.Frag
  mg : Str → Option Value
  base : Heap
  A : Around
  N : List Str
  s₀ : Shared
  H₀ : Hp
  env : Env
  outer : List Env
  stack : List Env
  ex : List Addr
  fn : Str → Bool
  calm : Bool
  pn : List (Addr × Obj)
  xe : Value → Shared → Prop
/-- the callers' frames -/
def frs (l : List Env) : List Addr := l.filterMap (·.frame)
abbrev Cx.fs (X : Cx) : List Addr := frs X.outer

def Vis (sc : Scope) (x : Str) : Prop := sc.names.lookup x = some .local ∨ sc.names.lookup x = some .cell ∨ sc.names.lookup x = some .free
def Loc (sc : Scope) (x : Str) : Prop := sc.names.lookup x = some .local ∨ sc.names.lookup x = some .cell
def Look (env : Env) (h : Heap) (m : Str → Option Value) (x : Str) (u : Value) : Prop :=
  (env.kindOf x = some .local ∧ m x = some u) ∨ ((env.kindOf x = some .cell ∨ env.kindOf x = some .free) ∧ ∃ c, env.cells.lookup x = some c ∧ h.IsCell c (some u))

structure Cx.Ok (X : Cx) : Prop where
  mod : Mod X.K X.mg X.base
  kind : X.env.scope.kind = .function
  glob : X.env.globals = mainGlobals
  blt : X.env.builtins = builtinsNs
  above : X.s₀.heap.objs.size ≤ X.env.locals
  inj : ∀ x y c, X.env.cells.lookup x = some c → X.env.cells.lookup y = some c → x = y
  has : ∀ x, (X.env.kindOf x = some .cell ∨ X.env.kindOf x = some .free) → ∃ c, X.env.cells.lookup x = some c
  cab : ∀ x c, X.fn x = true → X.env.cells.lookup x = some c → X.s₀.heap.objs.size ≤ c
  hd : X.calm = true → X.A.handled = none
  frames : X.A.frames = some X.stack
  stk : X.stack = X.outer ∨ (X.stack = X.env :: X.outer ∧ X.env.frame = some X.env.locals)
  exf : ∀ b ∈ X.ex, b ≠ X.env.locals ∧ ∀ x c, X.env.cells.lookup x = some c → c ≠ b
  bs : ∀ b o, X.base.get? b = some o → X.s₀.heap.get? b = some o ∧ X.H₀ b = none
  bsz : X.base.objs.size ≤ X.s₀.heap.objs.size
  noex : ∀ b o, X.base.get? b = some o → b ∉ X.ex
  exfs : ∀ b ∈ X.ex, b ∉ X.fs
  funs : X.s₀.heap.FunFrames X.base X.outer
  frf : ∀ b ∈ X.fs, X.H₀ b = none

structure Inv (X : Cx) (pins : List (Addr × Obj)) (σ : List (Option V)) (H : Hp) (s : Shared) : Prop where
  ok : X.Ok
  os : s.os = X.s₀.os
  bare : AllBare s.gens
  base : Un X.fs X.ex X.H₀ H X.s₀.heap s.heap
  loc : ∃ m, s.heap.Ns X.env.locals m ∧ ∀ (i : Nat) (x : Str) (v : V), X.N[i]? = some x → σ[i]? = some (some v) → Vis X.env.scope x → ∃ u, RelV v u ∧ Look X.env s.heap m x u
  cell : ∀ x c, X.env.cells.lookup x = some c → ∃ v, s.heap.IsCell c v
  free : H X.env.locals = none
  freeC : ∀ x c, X.env.cells.lookup x = some c → H c = none
  pin : ∀ p ∈ X.pn ++ pins, s.heap.get? p.1 = some p.2 ∧ H p.1 = none ∧ p.1 ≠ X.env.locals ∧ p.1 ∉ X.fs ∧ ∀ v, p.2.data ≠ .cell v
  hok : HOk X.prog X.w H s.heap
  len : σ.length = X.N.length

section
variable {X : Cx} {pins : List (Addr × Obj)} {σ : List (Option V)} {H H' : Hp} {s : Shared} {h' : Heap}

theorem Cx.Ok.nofr (ok : X.Ok) {b : Addr} {o : Obj} (e : X.base.get? b = some o) : b ∉ X.fs := fun hb => by
  have := (ok.funs.mem hb).1
  rw [e] at this; cases this
theorem Inv.bs (I : Inv X pins σ H s) : ∀ b o, X.base.get? b = some o → s.heap.get? b = some o ∧ H b = none := fun b o e =>
  ⟨I.base.keep b o (I.ok.bs b o e).1 (I.ok.bs b o e).2 (I.ok.nofr e) (I.ok.noex b o e), I.base.free b o (I.ok.bs b o e).1 (I.ok.bs b o e).2 (I.ok.noex b o e)⟩
theorem Inv.bk (I : Inv X pins σ H s) : ∀ b o, X.base.get? b = some o → s.heap.get? b = some o := fun b o e => (I.bs b o e).1
theorem Inv.mod (I : Inv X pins σ H s) : Mod X.K X.mg X.base := I.ok.mod
theorem Inv.kIn (I : Inv X pins σ H s) : X.K.In s.heap := I.ok.mod.kin.keeps I.bk
theorem Inv.nolimit (I : Inv X pins σ H s) : s.heap.NoLimit := I.ok.mod.nolimit.keeps I.bk
/-- the frame over the base: for OpenK's rules (K.In X.base is I.mod.kin) -/
theorem Inv.fr (I : Inv X pins σ H s) : ∃ m, Fr X.base X.env.locals s.heap m :=
  let ⟨m, hn, _⟩ := I.loc
  ⟨m, hn, I.bk, Nat.le_trans I.ok.bsz I.ok.above⟩
theorem Inv.lt (I : Inv X pins σ H s) : X.env.locals < s.heap.objs.size := let ⟨_, hn, _⟩ := I.loc; hn.lt
theorem Inv.sz (I : Inv X pins σ H s) : X.s₀.heap.objs.size ≤ s.heap.objs.size := Nat.le_trans I.ok.above (Nat.le_of_lt I.lt)
theorem Inv.nofs (I : Inv X pins σ H s) {a : Addr} (h : s.heap.objs.size ≤ a) : a ∉ X.fs := fun hb => by
  obtain ⟨_, o, ho, _⟩ := I.ok.funs.mem hb
  exact absurd (Nat.lt_of_lt_of_le (Heap.lt_size ho) (Nat.le_trans I.sz h)) (Nat.lt_irrefl _)
theorem Inv.cne (I : Inv X pins σ H s) : ∀ x c, X.env.cells.lookup x = some c → c ≠ X.env.locals := fun x c e z => by
  obtain ⟨v, o, ho, hd⟩ := I.cell x c e
  obtain ⟨m, ⟨o', es, ep, ho', hd', _⟩, _⟩ := I.loc
  rw [z, ho'] at ho; cases ho; rw [hd'] at hd; cases hd
theorem Inv.funs (I : Inv X pins σ H s) : s.heap.FunFrames X.base X.outer := by
  have all : ∀ (l : List Env), (∀ b ∈ frs l, b ∈ X.fs) → X.s₀.heap.FunFrames X.base l → s.heap.FunFrames X.base l := by
    intro l
    induction l with
    | nil => intro _ _; trivial
    | cons env r ih =>
      intro hs hl
      obtain ⟨hk, ⟨L, o, hf, hn, ho, hd⟩, hr⟩ := hl
      have hL : L ∈ X.fs := hs L (by unfold frs; rw [List.filterMap_cons, hf]; exact List.mem_cons_self)
      obtain ⟨sl, e⟩ := I.base.slot L o ho (I.ok.frf L hL) hL fun z => I.ok.exfs L z hL
      exact ⟨hk, ⟨L, _, hf, hn, e, hd⟩, ih (fun b hb => hs b (by unfold frs; rw [List.filterMap_cons, hf]; exact List.mem_cons_of_mem _ hb)) hr⟩
  exact all X.outer (fun _ hb => hb) I.ok.funs

/-- the frames that run, for a call -/
theorem Inv.stack (I : Inv X pins σ H s) : s.heap.FunFrames X.base X.stack := by
  rcases I.ok.stk with e | ⟨e, hf⟩
  · rw [e]; exact I.funs
  · rw [e]
    obtain ⟨m, hn, _⟩ := I.loc
    refine .cons (by rw [I.ok.kind]; decide) hf hn ?_ I.funs
    exact Heap.get?_none_of_le (Nat.le_trans I.ok.bsz I.ok.above)
theorem Inv.stkSub (I : Inv X pins σ H s) : ∀ b ∈ frs X.stack, b ∈ X.env.locals :: X.fs := fun b hb => by
  rcases I.ok.stk with e | ⟨e, hf⟩
  · rw [e] at hb; exact List.mem_cons_of_mem _ hb
  · rw [e] at hb
    unfold frs at hb
    rw [List.filterMap_cons, hf] at hb
    exact hb
theorem Inv.stkFree (I : Inv X pins σ H s) : ∀ b ∈ frs X.stack, H b = none := fun b hb => by
  rcases List.mem_cons.mp (I.stkSub b hb) with e | hb
  · rw [e]; exact I.free
  · obtain ⟨_, o, ho, _⟩ := I.ok.funs.mem hb
    exact I.base.free b o ho (I.ok.frf b hb) fun z => I.ok.exfs b z hb

/-- THE STEP: the untracked objects but the frame and the records at ch are kept (the callers' frames up to slots), the frame's map is kept, the new abstract heap is held -/
theorem Inv.step {g' : Array GenState} {t' : Nat} {d' : Drawn} {ch : List Addr} (I : Inv X pins σ H s)
    (hch : ∀ b ∈ ch, (b ∈ X.ex ∨ X.s₀.heap.objs.size ≤ b) ∧ b ≠ X.env.locals ∧ (∀ x c, X.env.cells.lookup x = some c → c ≠ b) ∧ ∀ p ∈ X.pn ++ pins, p.1 ≠ b)
    (keep : ∀ b o, b ≠ X.env.locals → b ∉ X.fs → b ∉ ch → s.heap.get? b = some o → H b = none → h'.get? b = some o)
    (slot : ∀ b o, b ≠ X.env.locals → b ∈ X.fs → b ∉ ch → s.heap.get? b = some o → H b = none → ∃ sl, h'.get? b = some { o with slots := sl }) (free : ∀ b o, b ∉ ch → s.heap.get? b = some o → H b = none → H' b = none)
    (there : ∀ b o, b ∉ ch → s.heap.get? b = some o → ∃ o', h'.get? b = some o')
    (tups : ∀ b xs, H b = some (.tup xs) → H' b = some (.tup xs)) (frzs : ∀ b o u, H b = some (.frz o u) → H' b = some (.frz o u)) (tbls : ∀ b ps, H b = some (.tbl ps) → ∃ more, H' b = some (.tbl (ps ++ more)))
    (ns : ∀ m, s.heap.Ns X.env.locals m → h'.Ns X.env.locals m) (hok : HOk X.prog X.w H' h') (hg : AllBare g') :
    Inv X pins σ H' { s with heap := h', gens := g', drawn := d', toks := t' } := by
  have neL : ∀ b o, X.s₀.heap.get? b = some o → b ≠ X.env.locals := fun b o e => Nat.ne_of_lt (Nat.lt_of_lt_of_le (Heap.lt_size e) I.ok.above)
  have neC : ∀ b o, X.s₀.heap.get? b = some o → b ∉ X.ex → b ∉ ch := fun b o e hx hb => by
    rcases (hch b hb).1 with z | z
    · exact hx z
    · exact absurd (Nat.lt_of_lt_of_le (Heap.lt_size e) z) (Nat.lt_irrefl _)
  have cellK : ∀ x c, X.env.cells.lookup x = some c → ∀ v, s.heap.IsCell c v → h'.IsCell c v := fun x c e v ⟨o, ho, hd⟩ => by
    have nch : c ∉ ch := fun z => (hch c z).2.2.1 x c e rfl
    by_cases hc : c ∈ X.fs
    · obtain ⟨sl, q⟩ := slot c o (I.cne x c e) hc nch ho (I.freeC x c e)
      exact ⟨_, q, hd⟩
    · exact ⟨o, keep c o (I.cne x c e) hc nch ho (I.freeC x c e), hd⟩
  refine ⟨I.ok, I.os, hg, ⟨fun b o e n hb hx => ?_, fun b o e n hb hx => ?_, fun b o e n hx => ?_, fun b o e hx => ?_, fun b xs e => tups b xs (I.base.tups b xs e), fun b o xs e => frzs b o xs (I.base.frzs b o xs e), fun b ps e => ?_⟩, ?_, fun x c e => ?_, ?_, fun x c e => ?_, fun p hp => ?_, hok, I.len⟩
  · exact keep b o (neL b o e) hb (neC b o e hx) (I.base.keep b o e n hb hx) (I.base.free b o e n hx)
  · obtain ⟨sl, e1⟩ := I.base.slot b o e n hb hx
    obtain ⟨sl', e2⟩ := slot b _ (neL b o e) hb (neC b o e hx) e1 (I.base.free b o e n hx)
    exact ⟨sl', e2⟩
  · obtain ⟨o', e1⟩ := I.base.there b o e hx
    exact free b o' (neC b o e hx) e1 (I.base.free b o e n hx)
  · obtain ⟨o', e1⟩ := I.base.there b o e hx
    exact there b o' (neC b o e hx) e1
  · obtain ⟨m1, e1⟩ := I.base.tbls b ps e
    obtain ⟨m2, e2⟩ := tbls b _ e1
    exact ⟨m1 ++ m2, by rw [e2, Array.append_assoc]⟩
  · obtain ⟨m, hn, hl⟩ := I.loc
    refine ⟨m, ns m hn, fun i x v e1 e2 e3 => ?_⟩
    obtain ⟨u, r, l⟩ := hl i x v e1 e2 e3
    refine ⟨u, r, ?_⟩
    rcases l with l | ⟨k, c, e, z⟩
    · exact .inl l
    · exact .inr ⟨k, c, e, cellK x c e _ z⟩
  · obtain ⟨v, z⟩ := I.cell x c e
    exact ⟨v, cellK x c e v z⟩
  · obtain ⟨m, ⟨o, _, _, ho, _⟩, _⟩ := I.loc
    exact free _ o (fun z => (hch _ z).2.1 rfl) ho I.free
  · obtain ⟨v, o, ho, hd⟩ := I.cell x c e
    exact free c o (fun z => (hch c z).2.2.1 x c e rfl) ho (I.freeC x c e)
  · obtain ⟨e, n, ne, nf, d⟩ := I.pin p hp
    have nch : p.1 ∉ ch := fun z => (hch p.1 z).2.2.2 p hp rfl
    exact ⟨keep p.1 p.2 ne nf nch e n, free p.1 p.2 nch e n, ne, nf, d⟩
/-- .. where the frame's own object is kept too -/
theorem Inv.un {t' : Nat} (I : Inv X pins σ H s) (u : Un X.fs [] H H' s.heap h') (hok : HOk X.prog X.w H' h') : Inv X pins σ H' { s with heap := h', toks := t' } := by
  obtain ⟨m, ⟨o, es, ep, ho, r⟩, _⟩ := id I.loc
  obtain ⟨sl, hL⟩ := u.any ho I.free (by simp)
  exact I.step (g' := s.gens) (d' := s.drawn) (ch := []) (fun _ z => nomatch z) (fun b o _ hb _ e n => u.keep b o e n hb (by simp)) (fun b o _ hb _ e n => u.slot b o e n hb (by simp)) (fun b o _ e n => u.free b o e n (by simp)) (fun b o _ e => u.there b o e (by simp)) u.tups u.frzs u.tbls (fun m' hm => by
    obtain ⟨o', es', ep', ho', r'⟩ := hm
    rw [ho] at ho'; cases ho'
    exact ⟨_, es', ep', hL, r'⟩) hok I.bare
/-- behind a call (or a comprehension's block): the slots of this frame may have changed too, the records at ch may have turned -/
theorem Inv.call {g' : Array GenState} {t' : Nat} {d' : Drawn} {ch : List Addr} (I : Inv X pins σ H s) (u : Un (frs X.stack) ch H H' s.heap h') (hok : HOk X.prog X.w H' h') (hg : AllBare g')
    (hch : ∀ b ∈ ch, (b ∈ X.ex ∨ X.s₀.heap.objs.size ≤ b) ∧ b ≠ X.env.locals ∧ (∀ x c, X.env.cells.lookup x = some c → c ≠ b) ∧ ∀ p ∈ X.pn ++ pins, p.1 ≠ b) :
    Inv X pins σ H' { s with heap := h', gens := g', drawn := d', toks := t' } := by
  obtain ⟨m, ⟨o, es, ep, ho, r⟩, _⟩ := id I.loc
  obtain ⟨sl, hL⟩ := u.any ho I.free fun z => (hch _ z).2.1 rfl
  exact I.step (ch := ch) hch (fun b o hL hb hc e n => u.keep b o e n (fun z => (List.mem_cons.mp (I.stkSub b z)).elim hL hb) hc) (fun b o _ _ hc e n => u.any e n hc) (fun b o hc e n => u.free b o e n hc) (fun b o hc e => u.there b o e hc) u.tups u.frzs u.tbls (fun m' hm => by
    obtain ⟨o', es', ep', ho', r'⟩ := hm
    rw [ho] at ho'; cases ho'
    exact ⟨_, es', ep', hL, r'⟩) hok hg
/-- an untracked record of ours (an iterator) has turned -/
theorem Inv.turned {t' : Nat} {it : Addr} (I : Inv X pins σ H s) (k : ∀ b o, b ≠ it → s.heap.get? b = some o → h'.get? b = some o) (hn : H it = none) (hL : it ≠ X.env.locals)
    (h1 : it ∈ X.ex ∨ X.s₀.heap.objs.size ≤ it) (h2 : ∀ x c, X.env.cells.lookup x = some c → c ≠ it) (h3 : ∀ p ∈ X.pn ++ pins, p.1 ≠ it) : Inv X pins σ H { s with heap := h', toks := t' } := by
  have nit : ∀ b u, H b = some u → b ≠ it := fun b u e z => by rw [z, hn] at e; cases e
  refine I.step (g' := s.gens) (d' := s.drawn) (ch := [it]) (fun b hb => ?_) (fun b o _ _ hc e _ => k b o (fun z => hc (by simp [z])) e) (fun b o _ _ hc e _ => ⟨o.slots, k b o (fun z => hc (by simp [z])) e⟩) (fun _ _ _ _ n => n)
    (fun b o hc e => ⟨o, k b o (fun z => hc (by simp [z])) e⟩) (fun _ _ e => e) (fun _ _ _ e => e) (fun b ps e => ⟨#[], by rw [e]; simp⟩) (fun m hm => ?_) (fun b u e => ?_) I.bare
  · have e : b = it := by simpa using hb
    subst e
    exact ⟨h1, hL, h2, h3⟩
  · obtain ⟨o, es, ep, ho, r⟩ := hm
    exact ⟨o, es, ep, k _ o (Ne.symm hL) ho, r⟩
  · refine (I.hok b u e).stay (fun c v hc q => k c v ?_ q) (fun _ q => q) fun _ _ q => q
    rcases hc with z | z
    · rw [z]; exact nit b u e
    · exact nit c _ z
theorem Inv.tok (I : Inv X pins σ H s) (t : Nat) : Inv X pins σ H { s with toks := t } := I.un (h' := s.heap) (t' := t) Un.refl I.hok
/-- all objects kept -/
theorem Inv.kept {t' : Nat} (I : Inv X pins σ H s) (k : ∀ b u, s.heap.get? b = some u → h'.get? b = some u) : Inv X pins σ H { s with heap := h', toks := t' } := I.un (Un.kept k) (I.hok.kept k)
/-- a new object laid and tracked -/
theorem Inv.laid {a : Addr} {o : HO} {t' : Nat} (I : Inv X pins σ H s) (k : ∀ b u, s.heap.get? b = some u → h'.get? b = some u) (hp : s.heap.objs.size ≤ a) (new : ObjOk X.prog X.w (upd H a o) h' a o) :
    Inv X pins σ (upd H a o) { s with heap := h', toks := t' } := I.un (Un.laid k hp (I.hok.fresh hp)) (I.hok.laid k hp new)
/-- an object written -/
theorem Inv.write {x e : Addr} {o : HO} {t' : Nat} (I : Inv X pins σ H s) (mu : Mut (H x)) (he : e = x ∨ H e = some (.own x)) (k : ∀ b u, b ≠ e → s.heap.get? b = some u → h'.get? b = some u) (heo : ∃ u, h'.get? e = some u)
    (new : ObjOk X.prog X.w (upd H x o) h' x o) : Inv X pins σ (upd H x o) { s with heap := h', toks := t' } := I.un (Un.write mu he k heo) (I.hok.write mu he k heo new)
theorem Inv.pins_of {pins' : List (Addr × Obj)} (I : Inv X pins σ H s) (h : ∀ p ∈ pins', s.heap.get? p.1 = some p.2 ∧ H p.1 = none ∧ p.1 ≠ X.env.locals ∧ p.1 ∉ X.fs ∧ ∀ v, p.2.data ≠ .cell v) : Inv X pins' σ H s :=
  ⟨I.ok, I.os, I.bare, I.base, I.loc, I.cell, I.free, I.freeC, fun p hp => (List.mem_append.mp hp).elim (fun z => I.pin p (List.mem_append_left _ z)) (h p), I.hok, I.len⟩

theorem nodup_ix {N : List Str} (hN : N.Nodup) {i j : Nat} {x : Str} (a : N[i]? = some x) (b : N[j]? = some x) : i = j := by
  obtain ⟨h1, e1⟩ := List.getElem?_eq_some_iff.mp a
  obtain ⟨h2, e2⟩ := List.getElem?_eq_some_iff.mp b
  exact (List.getElem_inj hN).mp (e1.trans e2.symm)

/-- a name is stored; what changed -/
theorem store_ok2 {M : Model} {A : Around} {E : Value → Shared → Prop} {i : Nat} {x : Str} {v : V} {u : Value} {Q : Unit → Shared → Prop} (I : Inv X pins σ H s) (hN : X.N.Nodup) (hi : X.N[i]? = some x) (hx : Loc X.env.scope x) (r : RelV v u)
    (h : ∀ s', Inv X pins (σ.set i (some v)) H s' → (∃ a, Heap.SameBut a s.heap s'.heap ∧ (a = X.env.locals ∨ X.env.cells.lookup x = some a)) → Q () s') (hf : X.fn x = true ∨ X.env.scope.names.lookup x = some .local := by first | exact .inl rfl | exact .inr rfl | assumption) : wpAny M A (storeName X.env x u) Q E s := by
  obtain ⟨m, hn, hl⟩ := id I.loc
  have hcls : (X.env.scope.kind == .class || (X.env.scope.kind == .module && X.env.locals != X.env.globals)) = false := by rw [I.ok.kind]; rfl
  have hiσ : i < σ.length := by rw [I.len]; exact (List.getElem?_eq_some_iff.mp hi).1
  have cne := I.cne
  have tracked : ∀ {a : Addr} {h' : Heap}, (∃ o, s.heap.get? a = some o ∧ H a = none) → Heap.SameBut a s.heap h' → HOk X.prog X.w H h' := fun {a h'} ha hs b ob e => by
    obtain ⟨_, _, hfree⟩ := ha
    refine (I.hok b ob e).stay (fun c w' hc q => (hs.2 c ?_).trans q) (fun _ q => q) fun _ _ q => q
    rintro rfl
    rcases hc with rfl | hc
    · rw [hfree] at e; cases e
    · rw [hfree] at hc; cases hc
  rcases hx with hk | hk
  · refine wpAny_storeName_local hk hn (fun h' hn' hs => ?_) hcls
    obtain ⟨oL, _, _, hoL, _⟩ := id hn
    refine h _ ⟨I.ok, I.os, I.bare, ⟨fun b o e n hb hx => ?_, fun b o e n hb hx => ?_, I.base.free, fun b o e hx => ?_, I.base.tups, I.base.frzs, I.base.tbls⟩, ⟨_, hn', fun j y v' e1 e2 e3 => ?_⟩, fun y c e => ?_, I.free, I.freeC, fun p hp => ?_, tracked ⟨oL, hoL, I.free⟩ hs, by simpa using I.len⟩ ⟨_, hs, .inl rfl⟩
    · exact (hs.2 b (Nat.ne_of_lt (Nat.lt_of_lt_of_le (Heap.lt_size e) I.ok.above))).trans (I.base.keep b o e n hb hx)
    · obtain ⟨sl, e1⟩ := I.base.slot b o e n hb hx
      exact ⟨sl, (hs.2 b (Nat.ne_of_lt (Nat.lt_of_lt_of_le (Heap.lt_size e) I.ok.above))).trans e1⟩
    · obtain ⟨o', e1⟩ := I.base.there b o e hx
      exact ⟨o', (hs.2 b (Nat.ne_of_lt (Nat.lt_of_lt_of_le (Heap.lt_size e) I.ok.above))).trans e1⟩
    · by_cases hj : j = i
      · subst hj
        rw [hi] at e1; cases e1
        rw [List.getElem?_set_self hiσ] at e2
        cases e2
        exact ⟨u, r, .inl ⟨hk, by simp⟩⟩
      · rw [List.getElem?_set_ne (Ne.symm hj)] at e2
        obtain ⟨u', r', q⟩ := hl j y v' e1 e2 e3
        refine ⟨u', r', ?_⟩
        rcases q with ⟨k, e⟩ | ⟨k, c, e, z⟩
        · refine .inl ⟨k, ?_⟩
          have : y ≠ x := fun e => hj (nodup_ix hN e1 (e ▸ hi))
          simp [this, e]
        · exact .inr ⟨k, c, e, z.sameBut hs (cne y c e)⟩
    · obtain ⟨w', z⟩ := I.cell y c e
      exact ⟨w', z.sameBut hs (cne y c e)⟩
    · obtain ⟨e, n, ne, nf, d⟩ := I.pin p hp
      exact ⟨(hs.2 p.1 ne).trans e, n, ne, nf, d⟩
  · have hfn : X.fn x = true := by
      rcases hf with z | z
      · exact z
      · rw [z] at hk; cases hk
    obtain ⟨c, hc⟩ := I.ok.has x (.inl hk)
    obtain ⟨w', z⟩ := I.cell x c hc
    refine wpAny_storeName_cell I.ok.kind hk hc z (fun h' hc' hs => ?_)
    obtain ⟨oc, hoc, hocd⟩ := id z
    refine h { s with heap := h' } ⟨I.ok, I.os, I.bare, ⟨fun b o e n hb hx => ?_, fun b o e n hb hx => ?_, I.base.free, fun b o e hx => ?_, I.base.tups, I.base.frzs, I.base.tbls⟩, ⟨m, hn.sameBut hs (Ne.symm (cne x c hc)), fun j y v' e1 e2 e3 => ?_⟩, fun y c' e => ?_, I.free, I.freeC, fun p hp => ?_, tracked ⟨oc, hoc, I.freeC x c hc⟩ hs, by simpa using I.len⟩ ⟨c, hs, .inr hc⟩
    · exact (hs.2 b (Nat.ne_of_lt (Nat.lt_of_lt_of_le (Heap.lt_size e) (I.ok.cab x c hfn hc)))).trans (I.base.keep b o e n hb hx)
    · obtain ⟨sl, e1⟩ := I.base.slot b o e n hb hx
      exact ⟨sl, (hs.2 b (Nat.ne_of_lt (Nat.lt_of_lt_of_le (Heap.lt_size e) (I.ok.cab x c hfn hc)))).trans e1⟩
    · obtain ⟨o', e1⟩ := I.base.there b o e hx
      exact ⟨o', (hs.2 b (Nat.ne_of_lt (Nat.lt_of_lt_of_le (Heap.lt_size e) (I.ok.cab x c hfn hc)))).trans e1⟩
    · by_cases hj : j = i
      · subst hj
        rw [hi] at e1; cases e1
        rw [List.getElem?_set_self hiσ] at e2
        cases e2
        exact ⟨u, r, .inr ⟨.inl hk, c, hc, hc'⟩⟩
      · rw [List.getElem?_set_ne (Ne.symm hj)] at e2
        obtain ⟨u', r', q⟩ := hl j y v' e1 e2 e3
        refine ⟨u', r', ?_⟩
        rcases q with q | ⟨k, c', e, z'⟩
        · exact .inl q
        · refine .inr ⟨k, c', e, z'.sameBut hs ?_⟩
          rintro rfl
          exact hj (nodup_ix hN e1 (I.ok.inj _ _ _ e hc ▸ hi))
    · by_cases hcc : c' = c
      · subst hcc; exact ⟨_, hc'⟩
      · obtain ⟨w2, z2⟩ := I.cell y c' e
        exact ⟨w2, z2.sameBut hs hcc⟩
    · obtain ⟨e, n, ne, nf, d⟩ := I.pin p hp
      refine ⟨(hs.2 p.1 ?_).trans e, n, ne, nf, d⟩
      intro q
      rw [q, hoc] at e
      have q' : oc = p.2 := Option.some.inj e
      exact d w' (by rw [← q']; exact hocd)
theorem store_ok {M : Model} {A : Around} {E : Value → Shared → Prop} {i : Nat} {x : Str} {v : V} {u : Value} {Q : Unit → Shared → Prop} (I : Inv X pins σ H s) (hN : X.N.Nodup) (hi : X.N[i]? = some x) (hx : Loc X.env.scope x) (r : RelV v u)
    (h : ∀ s', Inv X pins (σ.set i (some v)) H s' → Q () s') (hf : X.fn x = true ∨ X.env.scope.names.lookup x = some .local := by first | exact .inl rfl | exact .inr rfl | assumption) : wpAny M A (storeName X.env x u) Q E s :=
  store_ok2 I hN hi hx r (fun s' I' _ => h s' I') hf
/-- behind a call or a block, the state as it is -/
theorem Inv.call' {s' : Shared} {ch : List Addr} (I : Inv X pins σ H s) (ho : s'.os = s.os) (u : Un (frs X.stack) ch H H' s.heap s'.heap) (hok : HOk X.prog X.w H' s'.heap) (hg : AllBare s'.gens)
    (hch : ∀ b ∈ ch, (b ∈ X.ex ∨ X.s₀.heap.objs.size ≤ b) ∧ b ≠ X.env.locals ∧ (∀ x c, X.env.cells.lookup x = some c → c ≠ b) ∧ ∀ p ∈ X.pn ++ pins, p.1 ≠ b) : Inv X pins σ H' s' := by
  obtain ⟨h', g', d', t', o'⟩ := s'
  have e : o' = s.os := ho
  subst e
  exact I.call (g' := g') (t' := t') (d' := d') u hok hg hch
end

/-! ### the judgements -/
/-- an exception: its class, its own dict's address (where it has one), the abstract heap behind it -/
abbrev XK := Value → Option Addr → Hp → Prop
abbrev St := List (Option V)
abbrev VK := V → Hp → Prop
/-- an expression's reading; a test's; an argument list's -/
abbrev TE := St → Hp → VK → Prop
abbrev TT := St → Hp → (Bool → Hp → Prop) → Prop
abbrev TA := St → Hp → (List V → Hp → Prop) → Prop
/-- what is wanted behind a statement -/
structure Ends where
  nx : St → Hp → Prop
  rt : VK
  bk : St → Hp → Prop := fun _ _ => False
  ct : St → Hp → Prop := fun _ _ => False
abbrev TS := Ends → St → Hp → Prop

def EP (X : Cx) (pins : List (Addr × Obj)) (σ : St) (Q : VK) (u : Value) (s' : Shared) : Prop := ∃ v H', Inv X pins σ H' s' ∧ RelV v u ∧ Q v H'
def TP (X : Cx) (pins : List (Addr × Obj)) (σ : St) (Q : Bool → Hp → Prop) (b : Bool) (s' : Shared) : Prop := ∃ H', Inv X pins σ H' s' ∧ Q b H'
def AP (X : Cx) (pins : List (Addr × Obj)) (σ : St) (Q : List V → Hp → Prop) (us : List Value) (s' : Shared) : Prop := ∃ vs H', Inv X pins σ H' s' ∧ Vals vs us ∧ Q vs H'
def SP (X : Cx) (pins : List (Addr × Obj)) (D : Ends) (f : Flow) (s' : Shared) : Prop :=
  match f with
  | .next => ∃ σ' H', Inv X pins σ' H' s' ∧ D.nx σ' H'
  | .brk => ∃ σ' H', Inv X pins σ' H' s' ∧ D.bk σ' H'
  | .cont => ∃ σ' H', Inv X pins σ' H' s' ∧ D.ct σ' H'
  | .ret u => ∃ v σ' H', Inv X pins σ' H' s' ∧ RelV v u ∧ D.rt v H'

def PE (X : Cx) (e : Expr) (t : TE) : Prop :=
  ∀ (pins : List (Addr × Obj)) (s : Shared) (σ : St) (H : Hp) (Q : VK), Inv X pins σ H s → t σ H Q → wpAny (model X.prog X.w) X.A (eval e X.env) (EP X pins σ Q) X.xe s
def PT (X : Cx) (e : Expr) (t : TT) : Prop :=
  ∀ (pins : List (Addr × Obj)) (s : Shared) (σ : St) (H : Hp) (Q : Bool → Hp → Prop), Inv X pins σ H s → t σ H Q → wpAny (model X.prog X.w) X.A (isTrue e X.env (eval e X.env)) (TP X pins σ Q) X.xe s
/-- a test whatever its 'whole' is (and, or) -/
def PW (X : Cx) (e : Expr) (t : TT) : Prop :=
  ∀ (whole : Sem Value) (pins : List (Addr × Obj)) (s : Shared) (σ : St) (H : Hp) (Q : Bool → Hp → Prop), Inv X pins σ H s → t σ H Q → wpAny (model X.prog X.w) X.A (isTrue e X.env whole) (TP X pins σ Q) X.xe s
theorem PW.pt {X : Cx} {e : Expr} {t : TT} (h : PW X e t) : PT X e t := h _
/-- an argument list (no star), from the left -/
def PA (X : Cx) (es : List Expr) (t : TA) : Prop :=
  ∀ (pos : Pos) (pins : List (Addr × Obj)) (s : Shared) (σ : St) (H : Hp) (Q : List V → Hp → Prop), Inv X pins σ H s → t σ H Q → wpAny (model X.prog X.w) X.A (spliced (backTo pos (starEach es X.env))) (AP X pins σ Q) X.xe s
def PS (X : Cx) (st : Stmt) (t : TS) : Prop :=
  ∀ (pins : List (Addr × Obj)) (s : Shared) (σ : St) (H : Hp) (D : Ends), Inv X pins σ H s → t D σ H → wpAny (model X.prog X.w) X.A (exec st X.env) (SP X pins D) X.xe s
def PSs (X : Cx) (st : List Stmt) (t : TS) : Prop :=
  ∀ (pins : List (Addr × Obj)) (s : Shared) (σ : St) (H : Hp) (D : Ends), Inv X pins σ H s → t D σ H → wpAny (model X.prog X.w) X.A (execs st X.env) (SP X pins D) X.xe s
/-- weaken the end -/
theorem thn {α : Type} {t : Sem α} {Q Q' : α → Shared → Prop} {M : Model} {A : Around} {E : Value → Shared → Prop} {s : Shared} (h : wpAny M A t Q E s) (hQ : ∀ a s, Q a s → Q' a s) : wpAny M A t Q' E s := wpAny_mono h hQ fun _ _ x => x
end L2

namespace L2
open PySem PySem.Spec PyProof.Rows
section
variable {X : Cx}

/-! ### names and constants -/
def tVar (i : Nat) : TE := fun σ H Q => ∃ v, σ[i]? = some (some v) ∧ Q v H
def tC (v : V) : TE := fun _ H Q => Q v H
theorem pe_var {i : Nat} {x : Str} {pos : Pos} (hN : X.N[i]? = some x) (hv : Vis X.env.scope x) (hd : (x == ("__debug__" : Str)) = false := by decide) (hcd : (x == ("__classdict__" : Str)) = false := by decide) : PE X (.Name x pos) (tVar i) := by
  intro pins s σ H Q I h
  obtain ⟨v, e, h⟩ := h
  obtain ⟨m, hn, hl⟩ := I.loc
  obtain ⟨u, r, l⟩ := hl i x v hN e hv
  have fin : EP X pins σ Q u s := ⟨v, H, I, r, h⟩
  rcases l with ⟨hk, hm⟩ | ⟨hk, c, hc, hcell⟩
  · exact wpAny_Name (wpAny_loadName_local I.ok.kind hk hn hm fin) hd
  · rcases hk with hk | hk
    · exact wpAny_Name (wpAny_loadName_cell I.ok.kind hk hc hcell fin) hd
    · exact wpAny_Name (wpAny_loadName_free I.ok.kind hk hc hcell fin hcd) hd
theorem pe_int {i j pos} : PE X (.Constant (.int i) j pos) (tC (.int i)) := fun _ _ _ H _ I h => wpAny_Constant_int ⟨.int i, H, I.tok _, ⟨_, rfl⟩, h⟩
theorem pe_bl {b j pos} : PE X (.Constant (.bool b) j pos) (tC (.bl b)) := fun _ _ _ H _ I h => Constant_bool ⟨.bl b, H, I, rfl, h⟩
theorem pe_non {j pos} : PE X (.Constant .none j pos) (tC .non) := fun _ _ _ H _ I h => Constant_none ⟨.non, H, I, rfl, h⟩
theorem pe_str {x j pos} : PE X (.Constant (.str x) j pos) (tC (.str x)) := fun _ _ _ H _ I h => Calls.Constant_str ⟨.str x, H, I.tok _, ⟨_, rfl⟩, h⟩

/-- a global name of the def -/
def Gl (X : Cx) (x : Str) : Prop := X.env.kindOf x = some .globalImplicit
theorem ld_glob {E : Value → Shared → Prop} {pins : List (Addr × Obj)} {s : Shared} {σ : St} {H : Hp} {x : Str} {u : Value} {pos : Pos} {Q : Value → Shared → Prop} (I : Inv X pins σ H s) (hg : Gl X x) (hm : X.mg x = some u) (h : Q u s)
    (hd : (x == ("__debug__" : Str)) = false := by decide) : wpAny (model X.prog X.w) X.A (eval (.Name x pos) X.env) Q E s :=
  Calls.Name_function_global I.ok.kind hg (Calls.loadGlobal_global (by rw [I.ok.glob]; exact I.mod.glob.keeps I.bk) hm h) hd
theorem ld_blt {E : Value → Shared → Prop} {pins : List (Addr × Obj)} {s : Shared} {σ : St} {H : Hp} {x : Str} {u : Value} {pos : Pos} {Q : Value → Shared → Prop} (I : Inv X pins σ H s) (hg : Gl X x) (hm : X.mg x = none) (hv : bootBuiltins x = some u) (h : Q u s)
    (hn : x ≠ "__name__" := by decide) (hd : (x == ("__debug__" : Str)) = false := by decide) : wpAny (model X.prog X.w) X.A (eval (.Name x pos) X.env) Q E s := by
  obtain ⟨mb, h1, h2⟩ := I.mod.blt
  exact Calls.Name_function_global I.ok.kind hg (Calls.loadGlobal_builtin (by rw [I.ok.glob]; exact I.mod.glob.keeps I.bk) hm (by rw [I.ok.blt]; exact h1.keeps I.bk) ((h2 x hn).trans hv) h) hd
/-- a module's constant, a class, a function, as a value -/
theorem pe_glob {x : Str} {v : V} {u : Value} {pos : Pos} (hg : Gl X x) (hm : X.mg x = some u) (r : RelV v u) (hd : (x == ("__debug__" : Str)) = false := by decide) : PE X (.Name x pos) (tC v) :=
  fun _ _ _ H _ I h => ld_glob I hg hm ⟨v, H, I, r, h⟩ hd
theorem pe_bltn {x : Str} {v : V} {u : Value} {pos : Pos} (hg : Gl X x) (hm : X.mg x = none) (hv : bootBuiltins x = some u) (r : RelV v u) (hn : x ≠ "__name__" := by decide) (hd : (x == ("__debug__" : Str)) = false := by decide) : PE X (.Name x pos) (tC v) :=
  fun _ _ _ H _ I h => ld_blt I hg hm hv ⟨v, H, I, r, h⟩ hn hd

/-! ### arithmetic -/
/-- two ints -/
def t2I (ta tb : TE) (k : Int → Int → Hp → Prop) : St → Hp → Prop := fun σ H => ta σ H fun x H1 => tb σ H1 fun y H2 => ∃ i j, x = .int i ∧ y = .int j ∧ k i j H2
def tAdd (ta tb : TE) : TE := fun σ H Q => t2I ta tb (fun i j H2 => Q (.int (i + j)) H2) σ H
def tSub (ta tb : TE) : TE := fun σ H Q => t2I ta tb (fun i j H2 => Q (.int (i - j)) H2) σ H
/-- the left factor below 2^64 -/
def tMul (ta tb : TE) : TE := fun σ H Q => t2I ta tb (fun i j H2 => (-(2 ^ 64) < i ∧ i < 2 ^ 64) ∧ Q (.int (i * j)) H2) σ H
variable {a b : Expr} {ta tb : TE} {pos : Pos}
/-! ### comparisons -/
def PC (X : Cx) (op : CmpOp) (a b : Expr) (t : TE) : Prop :=
  ∀ (pins : List (Addr × Obj)) (s : Shared) (σ : St) (H : Hp) (Q : VK), Inv X pins σ H s → t σ H Q →
    wpAny (model X.prog X.w) X.A (eval a X.env) (fun v s₁ => wpAny (model X.prog X.w) X.A (eval b X.env) (fun u s₂ => wpAny (model X.prog X.w) X.A (compareOp op v u) (EP X pins σ Q) X.xe s₂) X.xe s₁) X.xe s
def tCmp (p : Int → Int → Bool) (ta tb : TE) : TE := fun σ H Q => t2I ta tb (fun i j H2 => Q (.bl (p i j)) H2) σ H
abbrev tLt : TE → TE → TE := tCmp fun i j => decide (i < j)
abbrev tLe : TE → TE → TE := tCmp fun i j => decide (i ≤ j)
abbrev tGt : TE → TE → TE := tCmp fun i j => decide (j < i)
abbrev tGe : TE → TE → TE := tCmp fun i j => decide (j ≤ i)
abbrev tEqI : TE → TE → TE := tCmp fun i j => decide (i = j)
abbrev tNeI : TE → TE → TE := tCmp fun i j => !decide (i = j)
/-- is None -/
def tIsN (ta : TE) : TE := fun σ H Q => ta σ H fun x H1 => Q (.bl (decide (x = .non))) H1
def tNotN (ta : TE) : TE := fun σ H Q => ta σ H fun x H1 => Q (.bl (!decide (x = .non))) H1
/-- a comparison as a value, as a test -/
def tB (t : TE) : TT := fun σ H Q => t σ H fun x H1 => ∃ c, x = .bl c ∧ Q c H1
/-- an expression whose value is a bool, as a test -/
theorem pt_val {e : Expr} {t : TE} (h : PE X e t) (he : ∀ whole, isTrue e X.env whole = (do let v ← whole; standAt e.pos; holding [v] (truthy v)) := by intro _; rfl) : PT X e (tB t) := by
  intro pins s σ H Q I hw
  refine isTrue_plain (thn (h pins s σ H _ I hw) fun v s1 ⟨x, H1, I1, r1, q1⟩ => ?_) (he _)
  obtain ⟨d, rfl, q⟩ := q1
  cases r1
  exact wpAny_truthy_bool ⟨H1, I1, q⟩

/-! ### and, or, not -/
variable {tA tB' : TT} {rest : List Expr}
def tAnd (t u : TT) : TT := fun σ H Q => t σ H fun c H1 => if c = true then u σ H1 Q else Q false H1
def tOr (t u : TT) : TT := fun σ H Q => t σ H fun c H1 => if c = true then Q true H1 else u σ H1 Q
def tNot (t : TT) : TT := fun σ H Q => t σ H fun c H1 => Q (!c) H1
theorem pw_and1 (ha : PT X a tA) : PW X (.BoolOp .And [a] pos) tA := by
  intro wh pins s σ H Q I h
  refine isTrue_and (thn (ha pins s σ H Q I h) fun c s1 e => ?_)
  cases c with
  | true => exact isTrue_and_nil e
  | false => exact e
theorem pw_or1 (ha : PT X a tA) : PW X (.BoolOp .Or [a] pos) tA := by
  intro wh pins s σ H Q I h
  refine isTrue_or (thn (ha pins s σ H Q I h) fun c s1 e => ?_)
  cases c with
  | false => exact isTrue_or_nil e
  | true => exact e
theorem pw_and (ha : PT X a tA) (hb : PW X (.BoolOp .And (b :: rest) pos) tB') : PW X (.BoolOp .And (a :: b :: rest) pos) (tAnd tA tB') := by
  intro wh pins s σ H Q I h
  refine isTrue_and (thn (ha pins s σ H _ I h) fun c s1 ⟨H1, I1, q1⟩ => ?_)
  cases c with
  | true => exact hb wh pins s1 σ H1 Q I1 q1
  | false => exact ⟨H1, I1, q1⟩
theorem pw_or (ha : PT X a tA) (hb : PW X (.BoolOp .Or (b :: rest) pos) tB') : PW X (.BoolOp .Or (a :: b :: rest) pos) (tOr tA tB') := by
  intro wh pins s σ H Q I h
  refine isTrue_or (thn (ha pins s σ H _ I h) fun c s1 ⟨H1, I1, q1⟩ => ?_)
  cases c with
  | true => exact ⟨H1, I1, q1⟩
  | false => exact hb wh pins s1 σ H1 Q I1 q1
theorem pt_not (ha : PT X a tA) : PT X (.UnaryOp .Not a pos) (tNot tA) := by
  intro pins s σ H Q I h
  exact isTrue_not (ha pins s σ H (fun c H1 => Q (!c) H1) I h)
/-- .. as values (bools) -/
def tAndV (ta tb : TE) : TE := fun σ H Q => ta σ H fun x H1 => ∃ c, x = .bl c ∧ if c = true then tb σ H1 Q else Q (.bl false) H1
def tOrV (ta tb : TE) : TE := fun σ H Q => ta σ H fun x H1 => ∃ c, x = .bl c ∧ if c = true then Q (.bl true) H1 else tb σ H1 Q
def tNotV (ta : TE) : TE := fun σ H Q => ta σ H fun x H1 => ∃ c, x = .bl c ∧ Q (.bl (!c)) H1
theorem pe_one {op} {t : TE} (h : PE X a t) : PE X (.BoolOp op [a] pos) t := fun pins s σ H Q I hw => BoolOp_one (h pins s σ H Q I hw)
theorem pe_and (ha : PE X a ta) (hb : PE X (.BoolOp .And (b :: rest) pos) tb) : PE X (.BoolOp .And (a :: b :: rest) pos) (tAndV ta tb) := by
  intro pins s σ H Q I h
  refine BoolOp_and (thn (ha pins s σ H _ I h) fun v s1 ⟨x, H1, I1, r1, q1⟩ => ?_)
  obtain ⟨c, rfl, q1⟩ := q1
  cases r1
  refine wpAny_truthy_bool ?_
  cases c with
  | true => exact hb pins s1 σ H1 Q I1 q1
  | false => exact ⟨.bl false, H1, I1, rfl, q1⟩
theorem pe_not (ha : PE X a ta) : PE X (.UnaryOp .Not a pos) (tNotV ta) := by
  intro pins s σ H Q I h
  refine UnaryOp_ (thn (ha pins s σ H _ I h) fun v s1 ⟨x, H1, I1, r1, q1⟩ => ?_)
  obtain ⟨c, rfl, q1⟩ := q1
  cases r1
  exact not_of (wpAny_truthy_bool ⟨.bl (!c), H1, I1, rfl, q1⟩)
/-- a if t else b -/
def tIf (t : TT) (ta tb : TE) : TE := fun σ H Q => t σ H fun c H1 => if c = true then ta σ H1 Q else tb σ H1 Q
theorem pe_ifExp {c : Expr} (hc : PT X c tA) (ha : PE X a ta) (hb : PE X b tb) : PE X (.IfExp c a b pos) (tIf tA ta tb) := by
  intro pins s σ H Q I h
  refine wpAny_IfExp (thn (hc pins s σ H _ I h) fun d s1 ⟨H1, I1, q1⟩ => ?_)
  cases d with
  | true => exact ha pins s1 σ H1 Q I1 q1
  | false => exact hb pins s1 σ H1 Q I1 q1
end
end L2

namespace L2
open PySem PySem.Spec PyProof.Rows

/-! ### a list, a tuple that is read: tracked, frozen, or an object of the module -/
def SqL (K : PySem.W.Frag) (H : Hp) (a : Addr) (xs : List V) : Prop :=
  Rd H a (.lst xs) ∨
    ∃ (o : Obj) (its : Array Value) (n : Nat), K.lookup a = some o ∧ o.cls = .type "list" ∧ o.dict = none ∧ o.data = .seq its n ∧ its.size ≤ sizeLine ∧ Vals xs its.toList
def SqT (K : PySem.W.Frag) (H : Hp) (a : Addr) (xs : List V) : Prop :=
  Rd H a (.tup xs) ∨
    ∃ (o : Obj) (its : Array Value) (n : Nat), K.lookup a = some o ∧ o.cls = .type "tuple" ∧ o.data = .seq its n ∧ its.size ≤ sizeLine ∧ Vals xs its.toList
def absV : Value → Option V
  | .none => some .non
  | .bool b => some (.bl b)
  | .int i _ => some (.int i)
  | .str x _ => some (.str x)
  | .bytes b _ => some (.byt b)
  | .float b _ => some (.flt b)
  | .ref a => some (.ref a)
  | .type n => some (.ty n)
  | _ => none
theorem RelV.abs {x : V} {u : Value} (r : RelV x u) : absV u = some x := by
  cases x with
  | non => cases r; rfl
  | bl _ => cases r; rfl
  | int _ => obtain ⟨t, rfl⟩ := r; rfl
  | str _ => obtain ⟨t, rfl⟩ := r; rfl
  | byt _ => obtain ⟨t, rfl⟩ := r; rfl
  | flt _ => obtain ⟨t, rfl⟩ := r; rfl
  | ref _ => cases r; rfl
  | ty _ => cases r; rfl
theorem RelV.inj {x y : V} {u : Value} (r : RelV x u) (q : RelV y u) : x = y := Option.some.inj (r.abs.symm.trans q.abs)
theorem Vals.inj : ∀ {xs ys : List V} {us : List Value}, Vals xs us → Vals ys us → xs = ys
  | _, _, _, .nil, .nil => rfl
  | _, _, _, .cons r t, .cons r' t' => by rw [r.inj r', Vals.inj t t']
section
variable {X : Cx} {pins : List (Addr × Obj)} {σ : St} {H : Hp} {s : Shared} {a : Addr} {xs ys : List V}
theorem SqL.of {K : PySem.W.Frag} (h : H a = some (.lst xs)) : SqL K H a xs := .inl (.inl h)
theorem SqT.of {K : PySem.W.Frag} (h : H a = some (.tup xs)) : SqT K H a xs := .inl (.inl h)
theorem Inv.list (I : Inv X pins σ H s) (h : SqL X.K H a xs) : ∃ its : List Value, Vals xs its ∧ PlainL s.heap a its.toArray ∧ xs.length ≤ sizeLine := by
  rcases h with h | ⟨o, its, n, hk, hc, hd, hs, hz, r⟩
  · obtain ⟨z, its, n, r, e⟩ := h.ok I.hok
    exact ⟨its, r, ⟨_, n, e, rfl, rfl, rfl⟩, z⟩
  · refine ⟨its.toList, r, ⟨o, n, I.kIn a o hk, hc, hd, by simpa using hs⟩, ?_⟩
    have e := r.length
    simp only [Array.length_toList] at e
    omega
theorem Inv.tuple (I : Inv X pins σ H s) (h : SqT X.K H a xs) : ∃ its : List Value, Vals xs its ∧ IsTup s.heap a its.toArray ∧ xs.length ≤ sizeLine := by
  rcases h with h | ⟨o, its, n, hk, hc, hs, hz, r⟩
  · obtain ⟨z, its, r, p⟩ := h.ok I.hok
    exact ⟨its, r, p, z⟩
  · refine ⟨its.toList, r, ⟨o, I.kIn a o hk, hc, n, by simpa using hs⟩, ?_⟩
    have e := r.length
    simp only [Array.length_toList] at e
    omega
theorem Inv.list_inj (I : Inv X pins σ H s) (h : SqL X.K H a xs) (h' : SqL X.K H a ys) : xs = ys := by
  obtain ⟨its, r, ⟨o, n, e, _, _, d⟩, _⟩ := I.list h
  obtain ⟨its', r', ⟨o', n', e', _, _, d'⟩, _⟩ := I.list h'
  rw [e] at e'; cases e'
  rw [d] at d'
  injection d' with d1 _
  have : its = its' := by simpa using congrArg Array.toList d1
  subst this
  exact r.inj r'
theorem Inv.tuple_inj (I : Inv X pins σ H s) (h : SqT X.K H a xs) (h' : SqT X.K H a ys) : xs = ys := by
  obtain ⟨its, r, ⟨o, e, _, n, d⟩, _⟩ := I.tuple h
  obtain ⟨its', r', ⟨o', e', _, n', d'⟩, _⟩ := I.tuple h'
  rw [e] at e'; cases e'
  rw [d] at d'
  injection d' with d1 _
  have : its = its' := by simpa using congrArg Array.toList d1
  subst this
  exact r.inj r'
end

/-! ### another wish about exceptions -/
abbrev Cx.wish (X : Cx) (E : Value → Shared → Prop) : Cx := { X with xe := E }
/-- no exception leaves -/
abbrev Cx.nox (X : Cx) : Cx := X.wish fun _ _ => False
theorem Cx.Ok.wish {X : Cx} (ok : X.Ok) (E : Value → Shared → Prop) : (X.wish E).Ok :=
  ⟨ok.mod, ok.kind, ok.glob, ok.blt, ok.above, ok.inj, ok.has, ok.cab, ok.hd, ok.frames, ok.stk, ok.exf, ok.bs, ok.bsz, ok.noex, ok.exfs, ok.funs, ok.frf⟩
theorem Cx.Ok.unwish {X : Cx} {E : Value → Shared → Prop} (ok : (X.wish E).Ok) : X.Ok :=
  ⟨ok.mod, ok.kind, ok.glob, ok.blt, ok.above, ok.inj, ok.has, ok.cab, ok.hd, ok.frames, ok.stk, ok.exf, ok.bs, ok.bsz, ok.noex, ok.exfs, ok.funs, ok.frf⟩
section
variable {X : Cx} {pins : List (Addr × Obj)} {σ : St} {H : Hp} {s : Shared} {E : Value → Shared → Prop}
theorem Inv.wish (I : Inv X pins σ H s) (E : Value → Shared → Prop) : Inv (X.wish E) pins σ H s := ⟨I.ok.wish E, I.os, I.bare, I.base, I.loc, I.cell, I.free, I.freeC, I.pin, I.hok, I.len⟩
theorem Inv.unwish (I : Inv (X.wish E) pins σ H s) : Inv X pins σ H s := ⟨I.ok.unwish, I.os, I.bare, I.base, I.loc, I.cell, I.free, I.freeC, I.pin, I.hok, I.len⟩
theorem SP.unwish {D : Ends} {f : Flow} {s' : Shared} (h : SP (X.wish E) pins D f s') : SP X pins D f s' := by
  cases f with
  | next => obtain ⟨σ', H', I, q⟩ := h; exact ⟨σ', H', I.unwish, q⟩
  | brk => obtain ⟨σ', H', I, q⟩ := h; exact ⟨σ', H', I.unwish, q⟩
  | cont => obtain ⟨σ', H', I, q⟩ := h; exact ⟨σ', H', I.unwish, q⟩
  | ret u => obtain ⟨v, σ', H', I, r, q⟩ := h; exact ⟨v, σ', H', I.unwish, r, q⟩
theorem PE.nox {e : Expr} {t : TE} (h : PE X.nox e t) : PE X e t := fun pins s σ H Q I hw =>
  wpAny_mono (h pins s σ H Q (I.wish _) hw) (fun _ _ ⟨v, H', I', r, q⟩ => ⟨v, H', I'.unwish, r, q⟩) fun _ _ z => False.elim z
theorem PT.nox {e : Expr} {t : TT} (h : PT X.nox e t) : PT X e t := fun pins s σ H Q I hw =>
  wpAny_mono (h pins s σ H Q (I.wish _) hw) (fun _ _ ⟨H', I', q⟩ => ⟨H', I'.unwish, q⟩) fun _ _ z => False.elim z
theorem PSs.nox {st : List Stmt} {t : TS} (h : PSs X.nox st t) : PSs X st t := fun pins s σ H D I hw =>
  wpAny_mono (h pins s σ H D (I.wish _) hw) (fun _ _ q => q.unwish) fun _ _ z => False.elim z
end

/-! ### blocks and small statements -/
section
variable {X : Cx} {st : Stmt} {rest : List Stmt} {t u : TS} {e : Expr} {te : TE} {pos : Pos}
def tNext : TS := fun D σ H => D.nx σ H
def tSeq (t u : TS) : TS := fun D σ H => t { D with nx := u D } σ H
theorem pss_nil : PSs X [] tNext := fun _ _ σ H _ I h => wpAny_execs_nil ⟨σ, H, I, h⟩
theorem pss_cons (h1 : PS X st t) (h2 : PSs X rest u) : PSs X (st :: rest) (tSeq t u) := by
  intro pins s σ H D I h
  refine wpAny_execs_cons (thn (h1 pins s σ H { D with nx := u D } I h) fun f s1 q => ?_)
  cases f with
  | next =>
    obtain ⟨σ', H', I', q⟩ := q
    exact h2 pins s1 σ' H' D I' q
  | ret v => exact q
  | brk => exact q
  | cont => exact q
theorem pss_one (h1 : PS X st t) : PSs X [st] t := by
  intro pins s σ H D I h
  refine wpAny_execs_cons (thn (h1 pins s σ H D I h) fun f s1 q => ?_)
  cases f with
  | next => exact wpAny_execs_nil q
  | ret v => exact q
  | brk => exact q
  | cont => exact q
def tBreak : TS := fun D σ H => D.bk σ H
def tCont : TS := fun D σ H => D.ct σ H
/-- in a def's body nothing is shown -/
theorem Inv.quiet {pins : List (Addr × Obj)} {σ : St} {H : Hp} {s : Shared} (I : Inv X pins σ H s) : interactive X.env = false := by simp [interactive, I.ok.kind]
/-- an expression whose value is dropped -/
def tDrop (te : TE) : TS := fun D σ H => te σ H fun _ H1 => D.nx σ H1
theorem ps_expr (he : PE X e te) (hs : swapsWith e none pos.line X.env = pure false := by rfl) : PS X (.Expr e pos) (tDrop te) := by
  intro pins s σ H D I h
  exact wpAny_Expr_any (thn (he pins s σ H _ I h) fun v s1 ⟨x, H1, I1, r1, q1⟩ => ⟨σ, H1, I1, q1⟩) I.quiet hs
def tRet (te : TE) : TS := fun D σ H => te σ H D.rt
theorem ps_ret (he : PE X e te) : PS X (.Return (some e) pos) (tRet te) := by
  intro pins s σ H D I h
  exact wpAny_Return_some (thn (he pins s σ H _ I h) fun v s1 ⟨x, H1, I1, r1, q1⟩ => ⟨x, σ, H1, I1, r1, q1⟩)
def tRetN : TS := fun D _ H => D.rt .non H
def tIfS (c : TT) (t u : TS) : TS := fun D σ H => c σ H fun b H1 => if b = true then t D σ H1 else u D σ H1
theorem ps_if {c : Expr} {a b : List Stmt} {tc : TT} (hc : PT X c tc) (ha : PSs X a t) (hb : PSs X b u) : PS X (.If c a b pos) (tIfS tc t u) := by
  intro pins s σ H D I h
  refine wpAny_If (thn (hc pins s σ H _ I h) fun d s1 ⟨H1, I1, q1⟩ => ?_)
  cases d with
  | true => exact ha pins s1 σ H1 D I1 q1
  | false => exact hb pins s1 σ H1 D I1 q1
/-- code that the proof never comes to -/
def tNever : TS := fun _ _ _ => False
theorem ps_never : PS X st tNever := fun _ _ _ _ _ _ h => h.elim
end

/-! ### targets -/
abbrev TG := V → St → Hp → (St → Hp → Prop) → Prop
abbrev TGs := List V → St → Hp → (St → Hp → Prop) → Prop
def PG (X : Cx) (target : Expr) (t : TG) : Prop :=
  ∀ (pins : List (Addr × Obj)) (s : Shared) (σ : St) (H : Hp) (v : V) (u : Value) (Q : St → Hp → Prop), Inv X pins σ H s → RelV v u → t v σ H Q →
    wpAny (model X.prog X.w) X.A (assign target X.env u) (fun _ s' => ∃ σ' H', Inv X pins σ' H' s' ∧ Q σ' H') X.xe s
/-- several targets, one after another -/
def PGs (X : Cx) (ts : List Expr) (t : TGs) : Prop :=
  ∀ (pins : List (Addr × Obj)) (s : Shared) (σ : St) (H : Hp) (vs : List V) (us : List Value) (Q : St → Hp → Prop), Inv X pins σ H s → Vals vs us → t vs σ H Q →
    wpAny (model X.prog X.w) X.A (assignInOrder ((assignEach ts X.env).map (·.2)) us) (fun _ s' => ∃ σ' H', Inv X pins σ' H' s' ∧ Q σ' H') X.xe s
/-- o[i] = v, by values -/
abbrev TSet := V → V → V → Hp → (Hp → Prop) → Prop
def PSet (X : Cx) (t : TSet) : Prop :=
  ∀ (pins : List (Addr × Obj)) (s : Shared) (σ : St) (H : Hp) (o i v : V) (ov iv u : Value) (Q : Hp → Prop), Inv X pins σ H s → RelV o ov → RelV i iv → RelV v u → t o i v H Q →
    wpAny (model X.prog X.w) X.A (setItem ov iv u) (fun _ s' => ∃ H', Inv X pins σ H' s' ∧ Q H') X.xe s
/-- a op= b, by values -/
abbrev TIp := V → V → Hp → VK → Prop
def PIp (X : Cx) (op : Operator) (t : TIp) : Prop :=
  ∀ (pins : List (Addr × Obj)) (s : Shared) (σ : St) (H : Hp) (x y : V) (v u : Value) (Q : VK), Inv X pins σ H s → RelV x v → RelV y u → t x y H Q →
    wpAny (model X.prog X.w) X.A (inplaceOp op v u) (EP X pins σ Q) X.xe s
section
variable {X : Cx} {pos : Pos}
def gName (i : Nat) : TG := fun v σ H Q => Q (σ.set i (some v)) H
theorem pg_name {i : Nat} {x : Str} (hN : X.N.Nodup) (hi : X.N[i]? = some x) (hx : Loc X.env.scope x) (hf : X.fn x = true ∨ X.env.scope.names.lookup x = some .local := by first | exact .inl rfl | exact .inr rfl | assumption) : PG X (.Name x pos) (gName i) := by
  intro pins s σ H v u Q I r h
  exact wpAny_assign_Name (store_ok I hN hi hx r (fun s' I' => ⟨_, H, I', h⟩) hf)
def gNil : TGs := fun vs σ H Q => vs = [] ∧ Q σ H
def gCons (t : TG) (u : TGs) : TGs := fun vs σ H Q => ∃ v r, vs = v :: r ∧ t v σ H fun σ' H' => u r σ' H' Q
theorem pgs_nil : PGs X [] gNil := by
  intro pins s σ H vs us Q I r h
  obtain ⟨e, h⟩ := h
  subst e
  cases r
  exact assignInOrder_nil ⟨σ, H, I, h⟩
theorem pgs_cons {e : Expr} {es : List Expr} {t : TG} {u : TGs} (h1 : PG X e t) (h2 : PGs X es u)
    (hs : (assignEach (e :: es) X.env).map (·.2) = assign e X.env :: (assignEach es X.env).map (·.2) := by rfl) : PGs X (e :: es) (gCons t u) := by
  intro pins s σ H vs us Q I r h
  obtain ⟨v, vr, e1, h⟩ := h
  subst e1
  cases r with
  | cons r rr =>
    rw [hs]
    refine assignInOrder_cons (thn (h1 pins s σ H _ _ _ I r h) fun _ s1 ⟨σ1, H1, I1, q1⟩ => ?_)
    exact h2 pins s1 σ1 H1 _ _ Q I1 rr q1
/-- (a, b, ..) = a tuple of that length -/
def gTup (K : PySem.W.Frag) (n : Nat) (t : TGs) : TG := fun v σ H Q => ∃ a xs, v = .ref a ∧ SqT K H a xs ∧ xs.length = n ∧ t xs σ H Q
theorem pg_tup {es : List Expr} {k : Nat} {t : TGs} {n : Nat} (hc : X.calm = true) (h : PGs X es t)
    (hn : (assignEach es X.env).length = n := by rfl) (hst : (assignEach es X.env).findIdx? (·.1) = none := by rfl) : PG X (.Tuple es k pos) (gTup X.K n t) := by
  intro pins s σ H v u Q I r hw
  obtain ⟨a, xs, e1, hq, hl, hw⟩ := hw
  subst e1
  cases r
  obtain ⟨its, rv, ht, hz⟩ := I.tuple hq
  refine assign_Tuple_tuple (I.ok.hd hc) ht (by simp [hn, ← hl, rv.length]) hst fun h' hx => ?_
  have I1 : Inv X pins σ H { s with heap := h' } := I.kept (t' := s.toks) fun b o e => hx b o (Nat.ne_of_lt (Heap.lt_size e)) e
  exact h pins _ σ H xs _ Q I1 (by simpa using rv) hw
/-- o[i] = .. -/
def gSub (to ti : TE) (t : TSet) : TG := fun v σ H Q => to σ H fun o H1 => ti σ H1 fun i H2 => t o i v H2 fun H3 => Q σ H3
theorem pg_sub {o i : Expr} {to ti : TE} {t : TSet} (ho : PE X o to) (hi : PE X i ti) (hs : PSet X t)
    (ha : ∀ v, assign (.Subscript o i pos) X.env v = (do
      let ov ← holding [v] (eval o X.env)
      let iv ← holding [v, ov] (eval i X.env)
      standAt pos
      holding [v, ov, iv] (setItem ov iv v)
      release [v, ov, iv] []) := by intro _; rfl) : PG X (.Subscript o i pos) (gSub to ti t) := by
  intro pins s σ H v u Q I r h
  rw [ha]
  refine wpAny_bind (wpAny_holding (thn (ho pins s σ H _ I h) fun ov s1 ⟨x, H1, I1, r1, q1⟩ => ?_))
  refine wpAny_bind (wpAny_holding (thn (hi pins s1 σ H1 _ I1 q1) fun iv s2 ⟨y, H2, I2, r2, q2⟩ => ?_))
  refine wpAny_bind (wpAny_standAt (wpAny_bind (wpAny_holding (thn (hs pins s2 σ H2 x y v ov iv u _ I2 r1 r2 r q2) fun _ s3 ⟨H3, I3, q3⟩ => ?_))))
  exact wpAny_release ⟨σ, H3, I3, q3⟩
/-- target = value -/
def tAsg (te : TE) (g : TG) : TS := fun D σ H => te σ H fun x H1 => g x σ H1 D.nx
theorem ps_asg {tg e : Expr} {te : TE} {g : TG} (he : PE X e te) (hg : PG X tg g) (hs : swapsWithSole [tg] e pos.line X.env = pure false := by rfl) (hw : swappedStores [tg] e X.env = pure none := by rfl)
    (h1 : (assignEach [tg] X.env).map (·.2) = [assign tg X.env] := by rfl) : PS X (.Assign [tg] e pos) (tAsg te g) := by
  intro pins s σ H D I h
  refine wpAny_Assign_stores (thn (he pins s σ H _ I h) fun v s1 ⟨x, H1, I1, r1, q1⟩ => ?_) hs hw
  rw [h1]
  exact thn (hg pins s1 σ H1 x v _ I1 r1 q1) fun _ s2 q => q
/-- name = value -/
theorem ps_set {i : Nat} {x : Str} {e : Expr} {te : TE} {pos' : Pos} (hN : X.N.Nodup) (hi : X.N[i]? = some x) (hx : Loc X.env.scope x) (he : PE X e te) (hs : swapsWith e (some (.Name x pos')) pos.line X.env = pure false := by rfl) (hf : X.fn x = true ∨ X.env.scope.names.lookup x = some .local := by first | exact .inl rfl | exact .inr rfl | assumption) :
    PS X (.Assign [.Name x pos'] e pos) (tAsg te (gName i)) := by
  intro pins s σ H D I h
  refine wpAny_Assign_Name (thn (he pins s σ H _ I h) fun v s1 ⟨y, H1, I1, r1, q1⟩ => ?_) hs
  exact store_ok I1 hN hi hx r1 (fun s2 I2 => ⟨_, H1, I2, q1⟩) hf
/-- a, b = x, y with plain local names: stored from the right; the pair itself is not tracked (the opening rows as in PyProof/Rows/TupAssign.lean:23) -/
def tPar (i j : Nat) (ta : TA) : TS := fun D σ H => ta σ H fun vs H1 => ∃ v w, vs = [v, w] ∧ D.nx ((σ.set i (some v)).set j (some w)) H1
/-- name op= e -/
def tAug (i : Nat) (te : TE) (ti : TIp) : TS := fun D σ H => ∃ x, σ[i]? = some (some x) ∧ te σ H fun y H1 => ti x y H1 fun z H2 => D.nx (σ.set i (some z)) H2
/-- o[i] op= e -/
def tAugS (to ti te : TE) (tget : V → V → Hp → VK → Prop) (tip : TIp) (tset : TSet) : TS := fun D σ H => to σ H fun o H1 => ti σ H1 fun i H2 => tget o i H2 fun x H3 => te σ H3 fun y H4 => tip x y H4 fun z H5 => tset o i z H5 fun H6 => D.nx σ H6
/-- o[i], by values -/
def PGet (X : Cx) (t : V → V → Hp → VK → Prop) : Prop :=
  ∀ (pins : List (Addr × Obj)) (s : Shared) (σ : St) (H : Hp) (o i : V) (ov iv : Value) (Q : VK), Inv X pins σ H s → RelV o ov → RelV i iv → t o i H Q →
    wpAny (model X.prog X.w) X.A (getItem ov iv) (EP X pins σ Q) X.xe s
/-- ints -/
def ipI (f : Int → Int → Int) : TIp := fun x y H Q => ∃ i j, x = .int i ∧ y = .int j ∧ Q (.int (f i j)) H
end

/-! ### while -/
section
variable {X : Cx} {pos : Pos}
/-- the invariant W with its measure -/
def tWhile (c : TT) (tb : TS) : TS := fun D σ H => ∃ W : Nat → St → Hp → Prop, (∃ m, W m σ H) ∧ ∀ m σ H, W m σ H →
  c σ H fun b H1 => if b = true then ∃ N : St → Hp → Prop, (∀ σ' H', N σ' H' → ∃ m', m' < m ∧ W m' σ' H') ∧ tb { D with nx := N, ct := N, bk := D.nx } σ H1 else D.nx σ H1
theorem ps_while {c : Expr} {body : List Stmt} {tc : TT} {tb : TS} (hp : PassesOwn (model X.prog X.w) X.A X.env X.xe) (hc : PT X c tc) (hb : PSs X body tb) : PS X (.While c body [] pos) (tWhile tc tb) := by
  intro pins s σ H D I h
  obtain ⟨W, ⟨m0, w0⟩, turn⟩ := h
  refine wpAny_While (codeAny_whileLoop (fun n s' => ∃ σ' H', Inv X pins σ' H' s' ∧ W n σ' H') ?_ m0 ⟨σ, H, I, w0⟩)
  rintro n s1 ⟨σ1, H1, I1, w1⟩
  refine wpAny_passesOwn hp (thn (hc pins s1 σ1 H1 _ I1 (turn n σ1 H1 w1)) fun b s2 ⟨H2, I2, q2⟩ => ?_)
  cases b with
  | true =>
    obtain ⟨N, hN, q2⟩ := q2
    rw [if_pos rfl]
    refine wpAny_passesOwn hp (thn (hb pins s2 σ1 H2 _ I2 q2) fun f s3 q3 => ?_)
    cases f with
    | next =>
      obtain ⟨σ3, H3, I3, n3⟩ := q3
      obtain ⟨m', hm, w3⟩ := hN σ3 H3 n3
      exact ⟨m', hm, σ3, H3, I3, w3⟩
    | cont =>
      obtain ⟨σ3, H3, I3, n3⟩ := q3
      obtain ⟨m', hm, w3⟩ := hN σ3 H3 n3
      exact ⟨m', hm, σ3, H3, I3, w3⟩
    | brk => exact q3
    | ret v => exact q3
  | false =>
    rw [if_neg Bool.false_ne_true]
    exact wpAny_execs_nil ⟨σ1, H2, I2, q2⟩
end

/-! ### what a loop or a comprehension walks -/
/-- at turn i: it yields x (the heap may grow), or it stops -/
structure It where
  go : Nat → Hp → Prop
  yld : Nat → Hp → V → Hp → Prop
  stop : Nat → Hp → Prop
/-- the iterator's own objects may turn: they are not the frame's, not pinned, younger than the entry (or a comprehension's own) -/
def FpOk (X : Cx) (pins : List (Addr × Obj)) (H : Hp) (b : Addr) : Prop :=
  H b = none ∧ b ≠ X.env.locals ∧ b ∉ X.fs ∧ (b ∈ X.ex ∨ X.s₀.heap.objs.size ≤ b) ∧ (∀ x c, X.env.cells.lookup x = some c → c ≠ b) ∧ ∀ p ∈ X.pn ++ pins, p.1 ≠ b
theorem Inv.fpOk {X : Cx} {pins : List (Addr × Obj)} {σ : St} {H H' : Hp} {s : Shared} {b : Addr} (I : Inv X pins σ H s) (hb : s.heap.objs.size ≤ b) (hn : H' b = none) : FpOk X pins H' b := by
  refine ⟨hn, Nat.ne_of_gt (Nat.lt_of_lt_of_le I.lt hb), I.nofs hb, .inr (Nat.le_trans I.sz hb), fun x c e z => ?_, fun p hp z => ?_⟩
  · obtain ⟨v, q⟩ := I.cell x c e
    exact absurd (Nat.lt_of_lt_of_le q.lt (by rw [z]; exact hb)) (Nat.lt_irrefl _)
  · exact absurd (Nat.lt_of_lt_of_le (Heap.lt_size (I.pin p hp).1) (by rw [z]; exact hb)) (Nat.lt_irrefl _)
structure Turn (P : Program) (w : World) (K : PySem.W.Frag) (tg : Expr) (J : It) (fp : List Addr) (it : Addr) (tn : Nat → Heap → Prop) : Prop where
  mem : it ∈ fp
  obj : ∀ i h, tn i h → ∀ b ∈ fp, ∃ o, h.get? b = some o ∧ ∀ v, o.data ≠ .cell v
  keep : ∀ i h h', tn i h → (∀ b ∈ fp, ∀ o, h.get? b = some o → h'.get? b = some o) → tn i h'
  item : ∀ (X : Cx), X.prog = P → X.w = w → X.K = K → X.calm = true → ∀ (i : Nat) (pins : List (Addr × Obj)) (s : Shared) (σ : St) (H : Hp) (E : Value → Shared → Prop), Inv X pins σ H s → (∀ b ∈ fp, FpOk X pins H b) → tn i s.heap → J.go i H →
    wpAny (model P w) X.A (pyNext (.ref it)) (fun r s1 => ∃ u, r = some u ∧
      wpAny (model P w) X.A (letOwnedTupleGo tg (.ref it) u) (fun _ s2 => ∃ x H', Inv X pins σ H' s2 ∧ RelV x u ∧ J.yld i H x H' ∧ tn (i + 1) s2.heap ∧ ∀ b ∈ fp, H' b = none) E s1) E s
  done : ∀ (X : Cx), X.prog = P → X.w = w → X.K = K → X.calm = true → ∀ (i : Nat) (pins : List (Addr × Obj)) (s : Shared) (σ : St) (H : Hp) (E : Value → Shared → Prop), Inv X pins σ H s → (∀ b ∈ fp, FpOk X pins H b) → tn i s.heap → J.stop i H →
    wpAny (model P w) X.A (pyNext (.ref it)) (fun r s1 => r = none ∧ Inv X pins σ H s1) E s
  self : ∀ (A : Around) (i : Nat) (s : Shared) (Q : Value → Shared → Prop) (E : Value → Shared → Prop), tn i s.heap → Q (.ref it) s → wpAny (model P w) A (pyIter (.ref it)) Q E s
abbrev TI := St → Hp → (It → Hp → Prop) → Prop
/-- an iterator has come -/
def PIE (X : Cx) (pins : List (Addr × Obj)) (σ : St) (tg : Expr) (R : It → Hp → Prop) (itv : Value) (s2 : Shared) : Prop :=
  ∃ (it : Addr) (fp : List Addr) (tn : Nat → Heap → Prop) (J : It) (H' : Hp), itv = .ref it ∧ Inv X pins σ H' s2 ∧ Turn X.prog X.w X.K tg J fp it tn ∧ tn 0 s2.heap ∧ (∀ b ∈ fp, FpOk X pins H' b) ∧ R J H'
def PI (X : Cx) (tg iter : Expr) (wi : TI) : Prop :=
  ∀ (pins : List (Addr × Obj)) (s : Shared) (σ : St) (H : Hp) (R : It → Hp → Prop), Inv X pins σ H s → wi σ H R →
    wpAny (model X.prog X.w) X.A (eval iter X.env) (fun v s1 => wpAny (model X.prog X.w) X.A (pyIter v) (PIE X pins σ tg R) X.xe s1) X.xe s

/-- the step ahead of the store is nothing for an iterator that keeps no tuple -/
theorem go_of {M : Model} {A : Around} {E : Value → Shared → Prop} {s : Shared} {tg : Expr} {it : Addr} {u : Value} {o : Obj} {n : String} {vs : Array Value} {Q : Unit → Shared → Prop} (ho : s.heap.get? it = some o) (hc : o.cls = .type n) (hd : o.data = .fields vs)
    (hn : ["enumerate", "zip", "dict_itemiterator", "dict_reverseitemiterator", "odict_iterator", "itertools.zip_longest", "itertools.pairwise"].contains n = false) (hQ : Q () s) : wpAny M A (letOwnedTupleGo tg (.ref it) u) Q E s := by
  unfold letOwnedTupleGo
  cases tg <;> first
    | exact wpAny_pure hQ
    | (cases u <;> first
        | exact wpAny_pure hQ
        | (refine wpAny_bind (wpAny_load ho ?_)
           rw [hc, hd]
           show wpAny M A (if (["enumerate", "zip", "dict_itemiterator", "dict_reverseitemiterator", "odict_iterator", "itertools.zip_longest", "itertools.pairwise"].contains n && vs[0]? == some (rawInt _)) = true then _ else _) Q E s
           rw [if_neg (by intro h; rw [hn, Bool.false_and] at h; cases h)]
           exact wpAny_pure hQ))

/-- the list at a, as it stands at each turn (a loop may append to it) -/
def Itl (K : PySem.W.Frag) (a : Addr) : It :=
  ⟨fun i H => ∃ xs x, SqL K H a xs ∧ xs[i]? = some x, fun i H x H' => H' = H ∧ ∀ xs, SqL K H a xs → xs[i]? = some x, fun i H => ∃ xs, SqL K H a xs ∧ xs.length ≤ i⟩
def Itt (K : PySem.W.Frag) (a : Addr) : It :=
  ⟨fun i H => ∃ xs x, SqT K H a xs ∧ xs[i]? = some x, fun i H x H' => H' = H ∧ ∀ xs, SqT K H a xs → xs[i]? = some x, fun i H => ∃ xs, SqT K H a xs ∧ xs.length ≤ i⟩
/-- lo, lo + 1, .. (n of them) -/
def Itr (lo : Int) (n : Nat) : It := ⟨fun i _ => i < n, fun i H x H' => H' = H ∧ x = .int (lo + i), fun i _ => n ≤ i⟩
theorem turn_list {P : Program} {w : World} {K : PySem.W.Frag} {tg : Expr} (a it : Addr) : Turn P w K tg (Itl K a) [it] it (fun i h => h.IsListIter it a i) where
  mem := by simp
  obj := fun i h st b hb => by
    have e : b = it := by simpa using hb
    subst e
    obtain ⟨o, e, c, d⟩ := st
    exact ⟨o, e, fun v z => by rw [d] at z; cases z⟩
  keep := fun i h h' st k => st.at fun o e => k it (by simp) o e
  item := by
    intro X hP hw hK hc i pins s σ H E I hf st hg
    subst hP hw hK
    obtain ⟨xs, x, hq, hx⟩ := hg
    obtain ⟨its, rv, p, hz⟩ := I.list hq
    obtain ⟨u, hu, ru⟩ := rv.get hx
    obtain ⟨f0, f1, f2, f3, f4, f5⟩ := hf it (by simp)
    refine wpAny_pyNext_list_item st p.isList (x := u) (by simpa using hu) fun h' st' sb => ?_
    have I1 : Inv X pins σ H { s with heap := h' } := I.turned (t' := s.toks) (fun b o hb e => (sb.2 b hb).trans e) f0 f1 f3 f4 f5
    obtain ⟨o, e, c, d⟩ := id st'
    exact ⟨u, rfl, go_of (s := { s with heap := h' }) e c d (by decide) ⟨x, H, I1, ru, ⟨rfl, fun ys hy => by rw [I.list_inj hy hq]; exact hx⟩, st', fun b hb => (hf b hb).1⟩⟩
  done := by
    intro X hP hw hK hc i pins s σ H E I hf st hg
    subst hP hw hK
    obtain ⟨xs, hq, hx⟩ := hg
    obtain ⟨its, rv, p, hz⟩ := I.list hq
    obtain ⟨f0, f1, f2, f3, f4, f5⟩ := hf it (by simp)
    have hl := rv.length
    exact wpAny_pyNext_list_end (I.ok.hd hc) st p.isList (by simp; omega) fun h' eb => ⟨rfl, I.turned (t' := s.toks) (fun b o hb e => eb b o hb e) f0 f1 f3 f4 f5⟩
  self := fun _ _ _ _ _ st h => wpAny_pyIter_listiter st h
theorem turn_tuple {P : Program} {w : World} {K : PySem.W.Frag} {tg : Expr} (a it : Addr) : Turn P w K tg (Itt K a) [it] it (fun i h => h.IsTupleIter it a i) where
  mem := by simp
  obj := fun i h st b hb => by
    have e : b = it := by simpa using hb
    subst e
    obtain ⟨o, e, c, d⟩ := st
    exact ⟨o, e, fun v z => by rw [d] at z; cases z⟩
  keep := fun i h h' st k => st.at fun o e => k it (by simp) o e
  item := by
    intro X hP hw hK hc i pins s σ H E I hf st hg
    subst hP hw hK
    obtain ⟨xs, x, hq, hx⟩ := hg
    obtain ⟨its, rv, p, hz⟩ := I.tuple hq
    obtain ⟨u, hu, ru⟩ := rv.get hx
    obtain ⟨f0, f1, f2, f3, f4, f5⟩ := hf it (by simp)
    refine wpAny_pyNext_tuple_item st (show s.heap.IsTuple a its.toArray from p) (x := u) (by simpa using hu) fun h' st' sb => ?_
    have I1 : Inv X pins σ H { s with heap := h' } := I.turned (t' := s.toks) (fun b o hb e => (sb.2 b hb).trans e) f0 f1 f3 f4 f5
    obtain ⟨o, e, c, d⟩ := id st'
    exact ⟨u, rfl, go_of (s := { s with heap := h' }) e c d (by decide) ⟨x, H, I1, ru, ⟨rfl, fun ys hy => by rw [I.tuple_inj hy hq]; exact hx⟩, st', fun b hb => (hf b hb).1⟩⟩
  done := by
    intro X hP hw hK hc i pins s σ H E I hf st hg
    subst hP hw hK
    obtain ⟨xs, hq, hx⟩ := hg
    obtain ⟨its, rv, p, hz⟩ := I.tuple hq
    obtain ⟨f0, f1, f2, f3, f4, f5⟩ := hf it (by simp)
    have hl := rv.length
    exact wpAny_pyNext_tuple_end (I.ok.hd hc) st (show s.heap.IsTuple a its.toArray from p) (by simp; omega) fun h' eb => ⟨rfl, I.turned (t' := s.toks) (fun b o hb e => eb b o hb e) f0 f1 f3 f4 f5⟩
  self := fun _ _ _ _ _ st h => wpAny_pyIter_tupleiter st h
theorem turn_range {P : Program} {w : World} {K : PySem.W.Frag} {tg : Expr} (it : Addr) (lo : Int) (n : Nat) : Turn P w K tg (Itr lo n) [it] it (fun i h => IsRangeIter h it (lo + (i : Nat) * 1) ((n : Int) - (i : Nat)) 1) where
  mem := by simp
  obj := fun i h st b hb => by
    have e : b = it := by simpa using hb
    subst e
    exact ⟨_, st, fun v z => by
      have z' : Data.fields _ = Data.cell v := z
      cases z'⟩
  keep := fun i h h' st k => k it (by simp) _ st
  item := by
    intro X hP hw hK hc i pins s σ H E I hf st hg
    subst hP hw hK
    obtain ⟨f0, f1, f2, f3, f4, f5⟩ := hf it (by simp)
    have W := Walks.range (prog := X.prog) (w := X.w) (I.ok.hd hc) it lo 1 n
    refine W.item i s _ _ hg st fun v h' tk hv st' kk => ?_
    obtain ⟨t, rfl⟩ := hv
    have I1 : Inv X pins σ H { s with heap := h', toks := tk } := I.turned (fun b o hb e => kk b o (by simpa using hb) e) f0 f1 f3 f4 f5
    refine ⟨_, rfl, go_of (s := { s with heap := h', toks := tk }) (n := "range_iterator") st' rfl rfl (by decide) ⟨.int (lo + i), H, I1, ⟨t, ?_⟩, ⟨rfl, rfl⟩, st', fun b hb => (hf b hb).1⟩⟩
    rw [Int.mul_one]
  done := by
    intro X hP hw hK hc i pins s σ H E I hf st hg
    subst hP hw hK
    obtain ⟨f0, f1, f2, f3, f4, f5⟩ := hf it (by simp)
    exact wpAny_pyNext_range_end (I.ok.hd hc) st (by have : n ≤ i := hg; omega) fun h' eb => ⟨rfl, I.turned (t' := s.toks) (fun b o hb e => eb b o hb e) f0 f1 f3 f4 f5⟩
  self := fun _ _ _ _ _ st h => wpAny_pyIter_rangeiter st h
end L2

namespace L2
open PySem PySem.Spec PyProof.Rows
section
variable {X : Cx} {tg : Expr}
def iList (K : PySem.W.Frag) (tl : TE) : TI := fun σ H R => tl σ H fun x H1 => ∃ a, x = .ref a ∧ (∃ xs, SqL K H1 a xs) ∧ R (Itl K a) H1
def iTup (K : PySem.W.Frag) (tl : TE) : TI := fun σ H R => tl σ H fun x H1 => ∃ a, x = .ref a ∧ (∃ xs, SqT K H1 a xs) ∧ R (Itt K a) H1
theorem pi_list {l : Expr} {tl : TE} (hl : PE X l tl) : PI X tg l (iList X.K tl) := by
  intro pins s σ H R I h
  refine thn (hl pins s σ H _ I h) fun v s1 ⟨x, H1, I1, r1, q1⟩ => ?_
  obtain ⟨a, e, ⟨xs, hq⟩, q⟩ := q1
  subst e
  cases r1
  obtain ⟨its, rv, p, hz⟩ := I1.list hq
  refine wpAny_pyIter_list p.isList ?_
  refine ⟨s1.heap.objs.size, [s1.heap.objs.size], _, _, H1, rfl, I1.kept (t' := s1.toks) fun b o e => Heap.get?_push_of_some _ e, turn_list a _, ⟨_, Heap.get?_push_size _ rfl, rfl, rfl⟩, fun b hb => ?_, q⟩
  have e : b = s1.heap.objs.size := by simpa using hb
  subst e
  exact I1.fpOk (Nat.le_refl _) (I1.hok.fresh (Nat.le_refl _))
theorem pi_tup {l : Expr} {tl : TE} (hl : PE X l tl) : PI X tg l (iTup X.K tl) := by
  intro pins s σ H R I h
  refine thn (hl pins s σ H _ I h) fun v s1 ⟨x, H1, I1, r1, q1⟩ => ?_
  obtain ⟨a, e, ⟨xs, hq⟩, q⟩ := q1
  subst e
  cases r1
  obtain ⟨its, rv, p, hz⟩ := I1.tuple hq
  refine wpAny_pyIter_tuple (show s1.heap.IsTuple a its.toArray from p) ?_
  refine ⟨s1.heap.objs.size, [s1.heap.objs.size], _, _, H1, rfl, I1.kept (t' := s1.toks) fun b o e => Heap.get?_push_of_some _ e, turn_tuple a _, ⟨_, Heap.get?_push_size _ rfl, rfl, rfl⟩, fun b hb => ?_, q⟩
  have e : b = s1.heap.objs.size := by simpa using hb
  subst e
  exact I1.fpOk (Nat.le_refl _) (I1.hok.fresh (Nat.le_refl _))
/-- a range object just made, walked -/
theorem range_it {pins : List (Addr × Obj)} {σ : St} {H : Hp} {s : Shared} {R : It → Hp → Prop} {E : Value → Shared → Prop} {lo hi : Int} {t u v : Tok} {tk : Nat} (I : Inv X pins σ H s) (h1 : -(2 ^ 62) ≤ lo) (h2 : lo < 2 ^ 62) (h3 : -(2 ^ 62) ≤ hi) (h4 : hi < 2 ^ 62)
    (q : R (Itr lo (hi - lo).toNat) H) : wpAny (model X.prog X.w) X.A (pyIter (.ref s.heap.objs.size)) (PIE X pins σ tg R) E { s with heap := s.heap.push { cls := .type "range", data := .fields #[.int lo t, .int hi u, .int 1 v] }, toks := tk } := by
  refine wpAny_pyIter_range (IsRange.new ..) (small_one h1 h2 h3 h4) ?_
  have I1 : Inv X pins σ H { s with heap := s.heap.push { cls := .type "range", data := .fields #[.int lo t, .int hi u, .int 1 v] }, toks := tk } := I.kept fun b o e => Heap.get?_push_of_some _ e
  refine ⟨(s.heap.push { cls := .type "range", data := .fields #[.int lo t, .int hi u, .int 1 v] }).objs.size, [(s.heap.push { cls := .type "range", data := .fields #[.int lo t, .int hi u, .int 1 v] }).objs.size], _, _, H, rfl,
    I1.kept (t' := tk) fun b o e => Heap.get?_push_of_some _ e, turn_range _ lo (hi - lo).toNat, ?_, fun b hb => ?_, q⟩
  · have e1 : lo + ((0 : Nat) : Int) * 1 = lo := by simp
    have e2 : (((hi - lo).toNat : Nat) : Int) - ((0 : Nat) : Int) = Builtin.Range.rangeSize lo hi 1 := by rw [rangeSize_one]; split <;> omega
    show IsRangeIter _ _ (lo + ((0 : Nat) : Int) * 1) ((((hi - lo).toNat : Nat) : Int) - ((0 : Nat) : Int)) 1
    rw [e1, e2]
    exact Heap.get?_push_size _ rfl
  · have e : b = (s.heap.push { cls := .type "range", data := .fields #[.int lo t, .int hi u, .int 1 v] }).objs.size := by simpa using hb
    subst e
    exact I1.fpOk (Nat.le_refl _) (I1.hok.fresh (Nat.le_refl _))
def iRng1 (ta : TA) : TI := fun σ H R => ta σ H fun vs H1 => ∃ j : Int, vs = [.int j] ∧ -(2 ^ 62) ≤ j ∧ j < 2 ^ 62 ∧ R (Itr 0 j.toNat) H1
def iRng2 (ta : TA) : TI := fun σ H R => ta σ H fun vs H1 => ∃ i j : Int, vs = [.int i, .int j] ∧ (-(2 ^ 62) ≤ i ∧ i < 2 ^ 62 ∧ -(2 ^ 62) ≤ j ∧ j < 2 ^ 62) ∧ R (Itr i (j - i).toNat) H1
theorem pi_range1 {a : Expr} {ta : TA} {p pos : Pos} (hg : Gl X "range") (hm : X.mg "range" = none) (ha : PA X [a] ta) (hs : starEach [a] X.env = [(false, eval a X.env)] := by rfl) : PI X tg (.Call (.Name "range" p) [a] [] pos) (iRng1 ta) := by
  intro pins s σ H R I h
  refine Call_ (ld_blt I hg hm boot_range (PyProof.Rows.callWith_type1 (thn (ha pos pins s σ H _ I h) fun us s1 ⟨vs, H1, I1, r1, q1⟩ => ?_) hs rfl))
  obtain ⟨j, e, q1, q2, q⟩ := q1
  subst e
  cases r1 with
  | cons r rr =>
    cases rr
    obtain ⟨t, rfl⟩ := r
    exact call_range_1 (range_it I1 (by omega) (by omega) q1 q2 (by simpa using q))
/-! ### for -/
/-- W: the invariant by the turn and a measure; N: what the body is to reach -/
def tFor (wi : TI) (g : TG) (tb : TS) : TS := fun D σ H => wi σ H fun J H1 => ∃ W : Nat → Nat → St → Hp → Prop, (∃ m, W 0 m σ H1) ∧ ∀ i m σ H, W i m σ H →
  (J.stop i H ∧ D.nx σ H) ∨ (J.go i H ∧ ∃ N : St → Hp → Prop, (∀ σ' H', N σ' H' → ∃ m', m' < m ∧ W (i + 1) m' σ' H') ∧ ∀ x H', J.yld i H x H' → g x σ H' fun σ2 H2 => tb { D with nx := N, ct := N, bk := D.nx } σ2 H2)
/-- the records at fp as they stand -/
def pinsAt (fp : List Addr) (h : Heap) : List (Addr × Obj) := fp.filterMap fun b => (h.get? b).map fun o => (b, o)
theorem mem_pinsAt {fp : List Addr} {h : Heap} {b : Addr} {o : Obj} (hb : b ∈ fp) (e : h.get? b = some o) : (b, o) ∈ pinsAt fp h := List.mem_filterMap.mpr ⟨b, hb, by rw [e]; rfl⟩
theorem of_pinsAt {fp : List Addr} {h : Heap} {p : Addr × Obj} (hp : p ∈ pinsAt fp h) : p.1 ∈ fp ∧ h.get? p.1 = some p.2 := by
  obtain ⟨b, hb, e⟩ := List.mem_filterMap.mp hp
  cases q : h.get? b with
  | none => rw [q] at e; cases e
  | some o =>
    rw [q] at e
    have e' : (b, o) = p := Option.some.inj e
    subst e'
    exact ⟨hb, q⟩
theorem Inv.pinned {pins : List (Addr × Obj)} {σ : St} {H : Hp} {s : Shared} {fp : List Addr} (I : Inv X pins σ H s) (hf : ∀ b ∈ fp, FpOk X pins H b) (ho : ∀ b ∈ fp, ∃ o, s.heap.get? b = some o ∧ ∀ v, o.data ≠ .cell v) : Inv X (pins ++ pinsAt fp s.heap) σ H s :=
  I.pins_of fun p hp => (List.mem_append.mp hp).elim (fun z => I.pin p (List.mem_append_right _ z)) fun z => by
    obtain ⟨hb, e⟩ := of_pinsAt z
    obtain ⟨f0, f1, f2, _⟩ := hf p.1 hb
    obtain ⟨o, e', d⟩ := ho p.1 hb
    rw [e] at e'; cases e'
    exact ⟨e, f0, f1, f2, d⟩
theorem Inv.unpinned {pins pl : List (Addr × Obj)} {σ : St} {H : Hp} {s : Shared} (I : Inv X (pins ++ pl) σ H s) : Inv X pins σ H s := I.pins_of fun p hp => I.pin p (List.mem_append_right _ (List.mem_append_left _ hp))
theorem ps_for {iter : Expr} {body : List Stmt} {wi : TI} {g : TG} {tb : TS} {pos : Pos} (hp : PassesOwn (model X.prog X.w) X.A X.env X.xe) (hc : X.calm = true) (hi : PI X tg iter wi) (hg : PG X tg g) (hb : PSs X body tb)
    (hs : ∀ x, foldedSetIterable iter X.env x = pure x := by intro _; rfl) : PS X (.For tg iter body [] pos) (tFor wi g tb) := by
  intro pins s σ H D I h
  refine wpAny_For (thn (hi pins s σ H _ I h) fun v s1 h1 => thn h1 fun itv s2 h2 => ?_) hs
  obtain ⟨it, fp, tn, J, H2, e, I2, T, st2, f2, W, ⟨m0, w0⟩, turn⟩ := h2
  subst e
  -- what stays true of the iterator's objects through the loop
  have stat : ∀ {H' : Hp}, (∀ b ∈ fp, H' b = none) → ∀ b ∈ fp, FpOk X pins H' b := fun hn b hb => ⟨hn b hb, (f2 b hb).2⟩
  refine codeAny_forLoop_any (fun n s' => ∃ i σ' H', Inv X pins σ' H' s' ∧ tn i s'.heap ∧ (∀ b ∈ fp, H' b = none) ∧ W i n σ' H') ?_ m0 ⟨0, σ, H2, I2, st2, fun b hb => (f2 b hb).1, w0⟩
  rintro n s3 ⟨i, σ3, H3, I3, st3, fr3, w3⟩
  rcases turn i n σ3 H3 w3 with ⟨stop, qn⟩ | ⟨go, N, hN, step⟩
  · refine wpAny_passesOwn hp (thn (T.done X rfl rfl rfl hc i pins s3 σ3 H3 X.xe I3 (stat fr3) st3 stop) fun r s4 ⟨hr, I4⟩ => ?_)
    subst hr
    exact wpAny_execs_nil ⟨σ3, H3, I4, qn⟩
  · refine wpAny_passesOwn hp (thn (T.item X rfl rfl rfl hc i pins s3 σ3 H3 X.xe I3 (stat fr3) st3 go) fun r s4 ⟨u, hr, h4⟩ => ?_)
    subst hr
    refine wpAny_passesOwn hp (thn h4 fun _ s5 ⟨x, H5, I5, r5, y5, st5, fr5⟩ => ?_)
    have I5' := I5.pinned (stat fr5) (T.obj _ _ st5)
    refine wpAny_passesOwn hp (thn (hg _ s5 σ3 H5 x u _ I5' r5 (step x H5 y5)) fun _ s6 ⟨σ6, H6, I6, q6⟩ => ?_)
    refine wpAny_passesOwn hp (thn (hb _ s6 σ6 H6 _ I6 q6) fun f s7 q7 => ?_)
    have again : ∀ {σ7 : St} {H7 : Hp}, Inv X (pins ++ pinsAt fp s5.heap) σ7 H7 s7 → N σ7 H7 → ∃ m, m < n ∧ ∃ i σ' H', Inv X pins σ' H' s7 ∧ tn i s7.heap ∧ (∀ b ∈ fp, H' b = none) ∧ W i m σ' H' := fun {σ7 H7} I7 n7 => by
      obtain ⟨m', hm, w7⟩ := hN σ7 H7 n7
      refine ⟨m', hm, i + 1, σ7, H7, I7.unpinned, T.keep _ _ _ st5 fun b hb o e => (I7.pin (b, o) (List.mem_append_right _ (List.mem_append_right _ (mem_pinsAt hb e)))).1, fun b hb => ?_, w7⟩
      obtain ⟨o, e, d⟩ := T.obj _ _ st5 b hb
      exact (I7.pin (b, o) (List.mem_append_right _ (List.mem_append_right _ (mem_pinsAt hb e)))).2.1
    cases f with
    | next => obtain ⟨σ7, H7, I7, n7⟩ := q7; exact again I7 n7
    | cont => obtain ⟨σ7, H7, I7, n7⟩ := q7; exact again I7 n7
    | brk => obtain ⟨σ7, H7, I7, q7⟩ := q7; exact ⟨σ7, H7, I7.unpinned, q7⟩
    | ret v => obtain ⟨x7, σ7, H7, I7, r7, q7⟩ := q7; exact ⟨x7, σ7, H7, I7.unpinned, r7, q7⟩
end

/-! ### the forms one uses -/
/-- over a list that the body leaves as it is -/
theorem for_list {K : PySem.W.Frag} {a : Addr} {xs : List V} {g : TG} {tb : TS} {D : Ends} {σ : St} {H : Hp} (Pv : Nat → St → Hp → Prop) (h0 : Pv 0 σ H) (hl : ∀ i σ H, i ≤ xs.length → Pv i σ H → SqL K H a xs)
    (hs : ∀ i x σ H, xs[i]? = some x → Pv i σ H → g x σ H fun σ2 H2 => tb { D with nx := Pv (i + 1), ct := Pv (i + 1), bk := D.nx } σ2 H2) (hd : ∀ σ H, Pv xs.length σ H → D.nx σ H) :
    ∃ W : Nat → Nat → St → Hp → Prop, (∃ m, W 0 m σ H) ∧ ∀ i m σ H, W i m σ H →
      ((Itl K a).stop i H ∧ D.nx σ H) ∨ ((Itl K a).go i H ∧ ∃ N : St → Hp → Prop, (∀ σ' H', N σ' H' → ∃ m', m' < m ∧ W (i + 1) m' σ' H') ∧ ∀ x H', (Itl K a).yld i H x H' → g x σ H' fun σ2 H2 => tb { D with nx := N, ct := N, bk := D.nx } σ2 H2) := by
  refine ⟨fun i m σ H => m = xs.length - i ∧ i ≤ xs.length ∧ Pv i σ H, ⟨xs.length, by simp, Nat.zero_le _, h0⟩, ?_⟩
  rintro i m σ H ⟨rfl, hi, p⟩
  have q := hl i σ H hi p
  by_cases hlt : i < xs.length
  · refine .inr ⟨⟨xs, xs[i], q, by simp [hlt]⟩, Pv (i + 1), fun σ' H' p' => ⟨xs.length - (i + 1), by omega, rfl, hlt, p'⟩, fun x H' y => ?_⟩
    obtain ⟨e, y⟩ := y
    subst e
    exact hs i x σ _ (y xs q) p
  · have e : i = xs.length := by omega
    subst e
    exact .inl ⟨⟨xs, q, Nat.le_refl _⟩, hd σ H p⟩
theorem for_range {lo : Int} {n : Nat} {g : TG} {tb : TS} {D : Ends} {σ : St} {H : Hp} (Pv : Nat → St → Hp → Prop) (h0 : Pv 0 σ H)
    (hs : ∀ i σ H, i < n → Pv i σ H → g (.int (lo + i)) σ H fun σ2 H2 => tb { D with nx := Pv (i + 1), ct := Pv (i + 1), bk := D.nx } σ2 H2) (hd : ∀ σ H, Pv n σ H → D.nx σ H) :
    ∃ W : Nat → Nat → St → Hp → Prop, (∃ m, W 0 m σ H) ∧ ∀ i m σ H, W i m σ H →
      ((Itr lo n).stop i H ∧ D.nx σ H) ∨ ((Itr lo n).go i H ∧ ∃ N : St → Hp → Prop, (∀ σ' H', N σ' H' → ∃ m', m' < m ∧ W (i + 1) m' σ' H') ∧ ∀ x H', (Itr lo n).yld i H x H' → g x σ H' fun σ2 H2 => tb { D with nx := N, ct := N, bk := D.nx } σ2 H2) := by
  refine ⟨fun i m σ H => m = n - i ∧ i ≤ n ∧ Pv i σ H, ⟨n, by simp, Nat.zero_le _, h0⟩, ?_⟩
  rintro i m σ H ⟨rfl, hi, p⟩
  by_cases hlt : i < n
  · refine .inr ⟨hlt, Pv (i + 1), fun σ' H' p' => ⟨n - (i + 1), by omega, rfl, hlt, p'⟩, fun x H' y => ?_⟩
    obtain ⟨e, y⟩ := y
    subst e y
    exact hs i σ _ hlt p
  · have e : i = n := by omega
    subst e
    exact .inl ⟨Nat.le_refl _, hd σ H p⟩
end L2

namespace L2
open PySem PySem.Spec PyProof.Rows

abbrev R2 := V → V → Hp → VK → Prop
/-- a two-place operation on values: f is binaryOp op, inplaceOp op or compareOp op -/
def OpR (X : Cx) (f : Value → Value → Sem Value) (r : R2) : Prop :=
  ∀ (pins : List (Addr × Obj)) (s : Shared) (σ : St) (H : Hp) (x y : V) (v u : Value) (Q : VK), Inv X pins σ H s → RelV x v → RelV y u → r x y H Q →
    wpAny (model X.prog X.w) X.A (f v u) (EP X pins σ Q) X.xe s
/-- a one-place operation -/
def UnR (X : Cx) (f : Value → Sem Value) (r : V → Hp → VK → Prop) : Prop :=
  ∀ (pins : List (Addr × Obj)) (s : Shared) (σ : St) (H : Hp) (x : V) (v : Value) (Q : VK), Inv X pins σ H s → RelV x v → r x H Q →
    wpAny (model X.prog X.w) X.A (f v) (EP X pins σ Q) X.xe s
/-- a call of a value that is known (a builtin, a type) with values -/
def CallR (X : Cx) (f : Value) (r : List V → Hp → VK → Prop) : Prop :=
  ∀ (pins : List (Addr × Obj)) (s : Shared) (σ : St) (H : Hp) (xs : List V) (us : List Value) (Q : VK), Inv X pins σ H s → Vals xs us → r xs H Q →
    wpAny (model X.prog X.w) X.A (call f us) (EP X pins σ Q) X.xe s
/-- a value's truth -/
def TruR (X : Cx) (r : V → Hp → (Bool → Hp → Prop) → Prop) : Prop :=
  ∀ (pins : List (Addr × Obj)) (s : Shared) (σ : St) (H : Hp) (x : V) (v : Value) (Q : Bool → Hp → Prop), Inv X pins σ H s → RelV x v → r x H Q →
    wpAny (model X.prog X.w) X.A (truthy v) (TP X pins σ Q) X.xe s

def tOp (r : R2) (ta tb : TE) : TE := fun σ H Q => ta σ H fun x H1 => tb σ H1 fun y H2 => r x y H2 Q
def tUn (r : V → Hp → VK → Prop) (ta : TE) : TE := fun σ H Q => ta σ H fun x H1 => r x H1 Q
/-- ints in, under C, and a value out -/
def rI (C : Int → Int → Prop) (g : Int → Int → V) : R2 := fun x y H Q => ∃ i j, x = .int i ∧ y = .int j ∧ C i j ∧ Q (g i j) H
def rI0 (g : Int → Int → V) : R2 := fun x y H Q => ∃ i j, x = .int i ∧ y = .int j ∧ Q (g i j) H
def rU (g : Int → V) : V → Hp → VK → Prop := fun x H Q => ∃ i, x = .int i ∧ Q (g i) H

section
variable {X : Cx} {a b c : Expr} {ta tb tc : TE} {pos : Pos}

theorem binT (ha : PE X a ta) (hb : PE X b tb) {pins : List (Addr × Obj)} {s : Shared} {σ : St} {H : Hp} {R : V → V → Hp → Prop} (I : Inv X pins σ H s)
    (h : ta σ H fun x H1 => tb σ H1 fun y H2 => R x y H2) {Q : Value → Shared → Prop} {f : Value → Value → Sem Value}
    (hf : ∀ v u s2 x y H2, Inv X pins σ H2 s2 → RelV x v → RelV y u → R x y H2 → wpAny (model X.prog X.w) X.A (f v u) Q X.xe s2) :
    wpAny (model X.prog X.w) X.A (eval a X.env) (fun v s₁ => wpAny (model X.prog X.w) X.A (eval b X.env) (fun u s₂ => wpAny (model X.prog X.w) X.A (f v u) Q X.xe s₂) X.xe s₁) X.xe s := by
  refine thn (ha pins s σ H _ I h) fun v s1 ⟨x, H1, I1, r1, q1⟩ => ?_
  refine thn (hb pins s1 σ H1 _ I1 q1) fun u s2 ⟨y, H2, I2, r2, q2⟩ => ?_
  exact hf v u s2 x y H2 I2 r1 r2 q2

theorem pe_op {op : Operator} {r : R2} (ho : OpR X (binaryOp op) r) (ha : PE X a ta) (hb : PE X b tb) : PE X (.BinOp a op b pos) (tOp r ta tb) := by
  intro pins s σ H Q I h
  exact wpAny_BinOp (binT ha hb I h fun v u s2 x y H2 I2 rx ry q => ho pins s2 σ H2 x y v u Q I2 rx ry q)
theorem pe_un {op : UnaryOp} {r : V → Hp → VK → Prop} (ho : UnR X (unaryOp op) r) (ha : PE X a ta) : PE X (.UnaryOp op a pos) (tUn r ta) := by
  intro pins s σ H Q I h
  exact UnaryOp_ (thn (ha pins s σ H _ I h) fun v s1 ⟨x, H1, I1, r1, q1⟩ => ho pins s1 σ H1 x v Q I1 r1 q1)
/-! ### ints -/
theorem opI {f : Value → Value → Sem Value} {C : Int → Int → Prop} {g : Int → Int → Int}
    (rule : ∀ (i j : Int) (t u : Tok) (s : Shared) (Q : Value → Shared → Prop) (E : Value → Shared → Prop), C i j → Q (.int (g i j) s.toks) { s with toks := s.toks + 1 } → wpAny (model X.prog X.w) X.A (f (.int i t) (.int j u)) Q E s) :
    OpR X f (rI C fun i j => .int (g i j)) := by
  intro pins s σ H x y v u Q I rx ry h
  obtain ⟨i, j, rfl, rfl, hc, q⟩ := h
  obtain ⟨t, rfl⟩ := rx
  obtain ⟨t', rfl⟩ := ry
  exact rule i j t t' s _ _ hc ⟨.int (g i j), H, I.tok _, ⟨_, rfl⟩, q⟩
theorem opI0 {f : Value → Value → Sem Value} {g : Int → Int → Int}
    (rule : ∀ (i j : Int) (t u : Tok) (s : Shared) (Q : Value → Shared → Prop) (E : Value → Shared → Prop), Q (.int (g i j) s.toks) { s with toks := s.toks + 1 } → wpAny (model X.prog X.w) X.A (f (.int i t) (.int j u)) Q E s) :
    OpR X f (rI0 fun i j => .int (g i j)) := by
  intro pins s σ H x y v u Q I rx ry h
  obtain ⟨i, j, rfl, rfl, q⟩ := h
  obtain ⟨t, rfl⟩ := rx
  obtain ⟨t', rfl⟩ := ry
  exact rule i j t t' s _ _ ⟨.int (g i j), H, I.tok _, ⟨_, rfl⟩, q⟩
theorem opB0 {f : Value → Value → Sem Value} {g : Int → Int → Bool}
    (rule : ∀ (i j : Int) (t u : Tok) (s : Shared) (Q : Value → Shared → Prop) (E : Value → Shared → Prop), Q (.bool (g i j)) s → wpAny (model X.prog X.w) X.A (f (.int i t) (.int j u)) Q E s) :
    OpR X f (rI0 fun i j => .bl (g i j)) := by
  intro pins s σ H x y v u Q I rx ry h
  obtain ⟨i, j, rfl, rfl, q⟩ := h
  obtain ⟨t, rfl⟩ := rx
  obtain ⟨t', rfl⟩ := ry
  exact rule i j t t' s _ _ ⟨.bl (g i j), H, I, rfl, q⟩

def CDiv (i j : Int) : Prop := 0 < j ∧ j < 1073741824
def CDivN (i j : Int) : Prop := j ≠ 0 ∧ j.natAbs < 1073741824
def CPow (i j : Int) : Prop := 0 ≤ j ∧ j ≤ 1000000 ∧ i.natAbs < 2 ^ 64
def CMul (i j : Int) : Prop := (-(2 ^ 64) < i ∧ i < 2 ^ 64) ∨ (-(2 ^ 64) < j ∧ j < 2 ^ 64)
theorem CMul.ok {i j : Int} (h : CMul i j) : IntMulOk i j := by
  rcases h with ⟨h1, h2⟩ | ⟨h1, h2⟩
  · exact .of_left (intBits_le_64 h1 h2)
  · exact .of_right (intBits_le_64 h1 h2)
theorem op_add : OpR X (binaryOp .Add) (rI0 fun i j => .int (i + j)) := opI0 fun _ _ _ _ _ _ _ q => add_int q
theorem op_sub : OpR X (binaryOp .Sub) (rI0 fun i j => .int (i - j)) := opI0 fun _ _ _ _ _ _ _ q => sub_int q
/-- // by a positive divisor -/
theorem op_fdiv : OpR X (binaryOp .FloorDiv) (rI CDiv fun i j => .int (i / j)) := opI fun i j _ _ _ _ _ hc q => by
  have h1 : (0 : Int) < j := hc.1
  have h2 : j < 1073741824 := hc.2
  exact floordiv_int (by omega) (by rw [Int.fdiv_eq_ediv_of_nonneg i (by omega)]; exact q) (.inl (PyProof.noPylong_small (by omega)))
/-- % by a positive divisor of any size -/
theorem op_mod : OpR X (binaryOp .Mod) (rI (fun _ j => 0 < j) fun i j => .int (i % j)) := opI fun i j _ _ _ _ _ hc q => by
  have h1 : (0 : Int) < j := hc
  exact mod_int' (by omega) (by rw [Int.fmod_eq_emod_of_nonneg i (by omega)]; exact q)
theorem unI {f : Value → Sem Value} {g : Int → Int}
    (rule : ∀ (i : Int) (t : Tok) (s : Shared) (Q : Value → Shared → Prop) (E : Value → Shared → Prop), Q (.int (g i) s.toks) { s with toks := s.toks + 1 } → wpAny (model X.prog X.w) X.A (f (.int i t)) Q E s) :
    UnR X f (rU fun i => .int (g i)) := by
  intro pins s σ H x v Q I rx h
  obtain ⟨i, rfl, q⟩ := h
  obtain ⟨t, rfl⟩ := rx
  exact rule i t s _ _ ⟨.int (g i), H, I.tok _, ⟨_, rfl⟩, q⟩
theorem un_neg : UnR X (unaryOp .USub) (rU fun i => .int (-i)) := unI fun _ _ _ _ _ q => neg_int q
/-! ### bools among ints: n += (a < b) -/
end

/-! ### comparisons -/
/-- the scalars that == tells apart as data does -/
def scal : V → V → Bool
  | .non, .non => true | .non, .int _ => true | .int _, .non => true | .non, .bl _ => true | .bl _, .non => true | .non, .str _ => true | .str _, .non => true
  | .int _, .int _ => true | .bl _, .bl _ => true | .str _, .str _ => true | .byt _, .byt _ => true
  | .int _, .str _ => true | .str _, .int _ => true | .bl _, .str _ => true | .str _, .bl _ => true
  | _, _ => false
def rEq : R2 := fun x y H Q => scal x y = true ∧ Q (.bl (decide (x = y))) H
def rNe : R2 := fun x y H Q => scal x y = true ∧ Q (.bl (!decide (x = y))) H

theorem dec_int {i j : Int} : decide (V.int i = V.int j) = (i == j) := by
  rw [Bool.eq_iff_iff]
  simp
theorem dec_bl {i j : Bool} : decide (V.bl i = V.bl j) = (i == j) := by
  rw [Bool.eq_iff_iff]
  simp
theorem dec_str {i j : Str} : decide (V.str i = V.str j) = (i == j) := by
  rw [Bool.eq_iff_iff]
  simp
theorem dec_byt {i j : Array UInt8} : decide (V.byt i = V.byt j) = (i.toList == j.toList) := by
  rw [Bool.eq_iff_iff]
  cases i
  cases j
  simp

section
variable {X : Cx} {a b c : Expr} {ta tb tc : TE} {pos : Pos}
theorem fin_bl {pins : List (Addr × Obj)} {σ : St} {H : Hp} {s : Shared} {Q : VK} {k k' : Bool} (I : Inv X pins σ H s) (q : Q (.bl k) H) (e : k = k') : EP X pins σ Q (.bool k') s := by
  subst e
  exact ⟨.bl k, H, I, rfl, q⟩
theorem op_eq : OpR X (compareOp .Eq) rEq := by
  intro pins s σ H x y v u Q I rx ry h
  obtain ⟨hs, q⟩ := h
  cases x with
  | non =>
    cases rx
    cases y with
    | non => cases ry; exact PySem.EqNone.eq_none_none (fin_bl I q (by simp))
    | bl j => cases ry; exact PySem.EqNone.eq_none_bool (fin_bl I q (by simp))
    | int j => obtain ⟨t', rfl⟩ := ry; exact PySem.EqNone.eq_none_int (fin_bl I q (by simp))
    | str j => obtain ⟨t', rfl⟩ := ry; exact PySem.EqNone.eq_none_str (fin_bl I q (by simp))
    | _ => exact absurd (show false = true from hs) Bool.false_ne_true
  | bl i =>
    cases rx
    cases y with
    | non => cases ry; exact PySem.EqNone.eq_bool_none (fin_bl I q (by simp))
    | bl j => cases ry; exact eq_bool (fin_bl I q dec_bl)
    | str j => obtain ⟨t', rfl⟩ := ry; exact PySem.EqMixed.eq_bool_str (fin_bl I q (by simp))
    | _ => exact absurd (show false = true from hs) Bool.false_ne_true
  | int i =>
    obtain ⟨t, rfl⟩ := rx
    cases y with
    | non => cases ry; exact PySem.EqNone.eq_int_none (fin_bl I q (by simp))
    | int j => obtain ⟨t', rfl⟩ := ry; exact eq_int (fin_bl I q dec_int)
    | str j => obtain ⟨t', rfl⟩ := ry; exact PySem.EqMixed.eq_int_str (fin_bl I q (by simp))
    | _ => exact absurd (show false = true from hs) Bool.false_ne_true
  | str i =>
    obtain ⟨t, rfl⟩ := rx
    cases y with
    | non => cases ry; exact PySem.EqNone.eq_str_none (fin_bl I q (by simp))
    | bl j => cases ry; exact PySem.EqMixed.eq_str_bool (fin_bl I q (by simp))
    | int j => obtain ⟨t', rfl⟩ := ry; exact PySem.EqMixed.eq_str_int (fin_bl I q (by simp))
    | str j => obtain ⟨t', rfl⟩ := ry; exact eq_str (fin_bl I q dec_str)
    | _ => exact absurd (show false = true from hs) Bool.false_ne_true
  | byt i =>
    obtain ⟨t, rfl⟩ := rx
    cases y with
    | byt j => obtain ⟨t', rfl⟩ := ry; exact PySem.W.eq_bytes (fin_bl I q dec_byt)
    | _ => exact absurd (show false = true from hs) Bool.false_ne_true
  | _ => cases y <;> exact absurd (show false = true from hs) Bool.false_ne_true
theorem op_lt : OpR X (compareOp .Lt) (rI0 fun i j => .bl (decide (i < j))) := opB0 fun _ _ _ _ _ _ _ q => lt_int q
theorem op_gt : OpR X (compareOp .Gt) (rI0 fun i j => .bl (decide (j < i))) := opB0 fun _ _ _ _ _ _ _ q => gt_int q
/-- is None, is not None: the right side a value none -/
theorem op_isN : OpR X (compareOp .Is) (fun x y H Q => y = .non ∧ Q (.bl (decide (x = .non))) H) := by
  intro pins s σ H x y v u Q I rx ry h
  obtain ⟨rfl, q⟩ := h
  cases ry
  refine is_none_gen (fin_bl I q ?_)
  cases x <;> first
    | (cases rx; rfl)
    | (obtain ⟨t, rfl⟩ := rx; rfl)
/-- is, is not of two objects that are tracked lists or instances -/
def isObj : HO → Bool
  | .lst _ => true
  | .ins _ _ _ => true
  | _ => false
/-- two rules for one operation: by cases -/
theorem OpR.or {f : Value → Value → Sem Value} {r r' : R2} (h : OpR X f r) (h' : OpR X f r') : OpR X f (fun x y H Q => r x y H Q ∨ r' x y H Q) := by
  intro pins s σ H x y v u Q I rx ry q
  rcases q with q | q
  · exact h pins s σ H x y v u Q I rx ry q
  · exact h' pins s σ H x y v u Q I rx ry q

theorem nomark (b : Expr) {op : CmpOp} (h : op ≠ .In := by decide) (h2 : op ≠ .NotIn := by decide) : behindInMarks op b = false := by
  have e1 : (op == CmpOp.In) = false := by cases op <;> first | rfl | exact absurd rfl h
  have e2 : (op == CmpOp.NotIn) = false := by cases op <;> first | rfl | exact absurd rfl h2
  cases b <;> simp [behindInMarks, e1, e2]
/-- a comparison as a value; hm: nomark b, or (for in, not in) by with_unfolding_all rfl -/
theorem pe_cmpR {op : CmpOp} {r : R2} (ho : OpR X (compareOp op) r) (ha : PE X a ta) (hb : PE X b tb) (hm : behindInMarks op b = false) : PE X (.Compare a [op] [b] pos) (tOp r ta tb) := by
  intro pins s σ H Q I h
  exact wpAny_Compare1 (binT ha hb I h fun v u s2 x y H2 I2 rx ry q => ho pins s2 σ H2 x y v u Q I2 rx ry q) hm
/-- a reading of a value as a test -/
def tTest (t : TE) : TT := fun σ H Q => t σ H fun x H' => ∃ k, x = .bl k ∧ Q k H'
theorem pt_cmpR {op : CmpOp} {r : R2} (ho : OpR X (compareOp op) r) (ha : PE X a ta) (hb : PE X b tb) (hm : behindInMarks op b = false) : PT X (.Compare a [op] [b] pos) (tTest (tOp r ta tb)) := by
  intro pins s σ H Q I h
  refine wpAny_isTrue_Compare1 (thn (ha pins s σ H _ I h) fun v s1 ⟨x, H1, I1, r1, q1⟩ => thn (hb pins s1 σ H1 _ I1 q1) fun u s2 ⟨y, H2, I2, r2, q2⟩ =>
    thn (ho pins s2 σ H2 x y v u _ I2 r1 r2 q2) fun c s3 ⟨z, H3, I3, r3, k, e, q3⟩ => ?_) hm
  subst e
  cases r3
  exact wpAny_truthy_bool ⟨H3, I3, q3⟩
/-- a op1 b op2 c -/
def tChain (r r' : R2) (ta tb tc : TE) : TE := fun σ H Q => ta σ H fun x H1 => tb σ H1 fun y H2 => r x y H2 fun z H3 => ∃ k, z = .bl k ∧
  (if k = true then tc σ H3 fun w' H4 => r' y w' H4 Q else Q (.bl false) H3)
theorem pt_chain {op op' : CmpOp} {r r' : R2} (ho : OpR X (compareOp op) r) (ho' : OpR X (compareOp op') r') (ha : PE X a ta) (hb : PE X b tb) (hc : PE X c tc)
    (hm : lastMarks [op, op'] [b, c] = false := by with_unfolding_all rfl) : PT X (.Compare a [op, op'] [b, c] pos) (tTest (tChain r r' ta tb tc)) := by
  intro pins s σ H Q I h
  refine isTrue_chain (thn (ha pins s σ H _ I h) fun v s1 ⟨x, H1, I1, r1, q1⟩ => test_link (thn (hb pins s1 σ H1 _ I1 q1) fun u s2 ⟨y, H2, I2, r2, q2⟩ =>
    thn (ho pins s2 σ H2 x y v u _ I2 r1 r2 q2) fun d s3 ⟨z, H3, I3, r3, k, e, q3⟩ => ?_)) hm
  subst e
  cases r3
  refine wpAny_truthy_bool ?_
  cases k with
  | false =>
    obtain ⟨k', e', q'⟩ := q3
    cases e'
    exact ite_ff ⟨H3, I3, q'⟩
  | true =>
    refine ite_tt (test_last (thn (hc pins s3 σ H3 _ I3 q3) fun w' s4 ⟨z', H4, I4, r4, q4⟩ => thn (ho' pins s4 σ H4 y z' u w' _ I4 r2 r4 q4) fun d' s5 ⟨z2, H5, I5, r5, k2, e2, q5⟩ => ?_))
    subst e2
    cases r5
    exact wpAny_truthy_bool ⟨H5, I5, q5⟩

/-! ### truth -/
/-- a value's truth by the abstract heap -/
def TruV (K : PySem.W.Frag) (x : V) (H : Hp) (k : Bool) : Prop :=
  match x with
  | .non => k = false
  | .bl b => k = b
  | .int i => k = (i != 0)
  | .str y => y.length ≤ sizeLine ∧ k = ((y.length : Int) != 0)
  | .byt y => y.size ≤ sizeLine ∧ k = ((y.size : Int) != 0)
  | .ref p => (∃ xs, SqL K H p xs ∧ k = !xs.isEmpty) ∨ (∃ xs, SqT K H p xs ∧ k = !xs.isEmpty) ∨ ∃ kvs, H p = some (.dK kvs) ∧ k = !kvs.isEmpty
  | _ => False
theorem line63 : (sizeLine : Nat) < 2 ^ 63 := by rw [sizeLine_eq]; decide
/-! ### strs and bytes -/
def PlainIxT (b : Expr) : Prop := ∀ o i, subscripted b false o i = operate [o, i] (getItem o i)
/-! ### scalar builtins, by CallR -/
theorem vals1 {x : V} {us : List Value} (r : Vals [x] us) : ∃ u, us = [u] ∧ RelV x u := by
  cases r with
  | cons r1 r2 => cases r2; exact ⟨_, rfl, r1⟩
theorem vals2 {x y : V} {us : List Value} (r : Vals [x, y] us) : ∃ u w', us = [u, w'] ∧ RelV x u ∧ RelV y w' := by
  cases r with
  | cons r1 r2 =>
    cases r2 with
    | cons r3 r4 => cases r4; exact ⟨_, _, rfl, r1, r3⟩
theorem call_min2 (hc : X.calm = true) : CallR X (.builtin "min") (fun xs H Q => ∃ i j, xs = [.int i, .int j] ∧ Q (.int (if j < i then j else i)) H) := by
  intro pins s σ H xs us Q I r h
  obtain ⟨i, j, rfl, q⟩ := h
  obtain ⟨u, w', rfl, ⟨t, rfl⟩, ⟨t', rfl⟩⟩ := vals2 r
  refine min_two_ints (I.ok.hd hc) fun h' tk k => ⟨_, H, I.kept k, ?_, q⟩
  by_cases hj : j < i
  · rw [if_pos hj, if_pos hj]; exact ⟨_, rfl⟩
  · rw [if_neg hj, if_neg hj]; exact ⟨_, rfl⟩
theorem call_int1 : CallR X (.type "int") (fun xs H Q => (∃ i, xs = [.int i] ∧ Q (.int i) H) ∨ ∃ k, xs = [.bl k] ∧ Q (.int (if k then 1 else 0)) H) := by
  intro pins s σ H xs us Q I r h
  rcases h with ⟨i, rfl, q⟩ | ⟨k, rfl, q⟩
  · obtain ⟨u, rfl, t, rfl⟩ := vals1 r
    exact call_int_int ⟨.int i, H, I, ⟨_, rfl⟩, q⟩
  · obtain ⟨u, rfl, r1⟩ := vals1 r
    cases r1
    exact call_int_bool ⟨.int (if k then 1 else 0), H, I.tok _, ⟨_, rfl⟩, q⟩
/-- len of a str, a bytes, a list, a tuple -/
def LenV (K : PySem.W.Frag) (x : V) (H : Hp) (n : Nat) : Prop :=
  match x with
  | .str y => y.length ≤ sizeLine ∧ n = y.length
  | .byt y => y.size ≤ sizeLine ∧ n = y.size
  | .ref p => (∃ xs, SqL K H p xs ∧ n = xs.length) ∨ ∃ xs, SqT K H p xs ∧ n = xs.length
  | _ => False
end
end L2

namespace L2
open PySem PySem.Spec PyProof.Rows

/-! ### an instance, its attributes a map -/
structure ObjM (h : Heap) (x dx C : Addr) (mA : Str → Option Value) : Prop where
  obj : h.get? x = some (PySem.W.instObj C dx)
  ns : h.Ns1 dx mA
  ne : dx ≠ x

theorem lookIn_ns {h : Heap} {dx : Addr} {mA : Str → Option Value} (n : h.Ns1 dx mA) : ∃ od, h.get? dx = some od ∧ ∀ name, PySem.W.lookIn name od = some (mA name) := by
  obtain ⟨o, es, ep, ho, hd, hk, _, hm⟩ := n
  refine ⟨o, ho, fun name => ?_⟩
  have e := hm name
  unfold nsFind findBy at e
  rw [← Array.find?_toList] at e
  unfold PySem.W.lookIn
  rw [hd]
  dsimp only
  split
  · rename_i y q
    rw [q] at e
    exact congrArg some e
  · rename_i q
    rw [q] at e
    have a : es.toList.any (·.refKey) = false := by
      rw [List.any_eq_false]
      intro y hy
      obtain ⟨z, t, hkey⟩ := hk y (Array.mem_toList_iff.mp hy)
      simp [DictEntry.refKey, hkey]
    have a' : ¬ es.toList.any (·.refKey) = true := by rw [a]; exact Bool.false_ne_true
    rw [if_neg a']
    exact congrArg some e

theorem ObjM.look {h : Heap} {x dx C : Addr} {mA : Str → Option Value} (I : ObjM h x dx C mA) : ∃ od, PySem.W.InstAt h x (PySem.W.instObj C dx) C (some od) ∧ ∀ name, PySem.W.lookIn name od = some (mA name) :=
  let ⟨od, ho, hl⟩ := lookIn_ns I.ns
  ⟨od, ⟨I.obj, rfl, rfl, ho⟩, hl⟩

section
variable {prog : Program} {w : World} {A : Around} {E : Value → Shared → Prop} {s : Shared} {K : PySem.W.Frag} {x dx C f : Addr} {mA : Str → Option Value} {name : Str} {v : Value}

end

/-! ### the attributes as a list of pairs -/
def putF (f : Str) (v : V) : List (Str × V) → List (Str × V)
  | [] => [(f, v)]
  | (g, x) :: r => if g = f then (g, v) :: r else (g, x) :: putF f v r
section
variable {P : Program} {w : World} {H H' : Hp} {h h' : Heap} {a C dx : Addr} {fs fs' : List (Str × V)}
theorem ins_get (hok : HOk P w H h) (e : H a = some (.ins C dx fs)) : ∃ mA, ObjM h a dx C mA ∧ (∀ f, RelO (fs.lookup f) (mA f)) ∧ PySem.Within mA (fs.map (·.1)) ∧ fs.length ≤ 1000 ∧ H dx = some (.own a) := by
  obtain ⟨d, z, ne, ob, mA, n, r, q⟩ := (show ObjOk P w H h a (.ins C dx fs) from hok a _ e)
  exact ⟨mA, ⟨ob, n, ne⟩, r, q, z, d⟩
end

/-! ### what of the text a class must have -/
structure Cls (K : PySem.W.Frag) (C : Addr) : Prop where
  pg : PySem.W.plainGet K C Str.empty = true
  hd : PySem.W.hasDictIn K C = true
  po : PySem.W.plainOver K C = true
  sa : PySem.W.findIn K (.ref C) "__setattr__" = some (some (.builtin "object.__setattr__"))
theorem Cls.get {K : PySem.W.Frag} {C : Addr} (c : Cls K C) (f : Str) : PySem.W.plainGet K C f = true := c.pg
/-- no class of it has the name -/
def NoAttr (K : PySem.W.Frag) (C : Addr) (f : Str) : Prop := PySem.W.findIn K (.ref C) f = some none
/-- a constant of the class -/
structure Con (K : PySem.W.Frag) (C : Addr) (f : Str) (v : V) (u : Value) : Prop where
  at_ : PySem.W.findIn K (.ref C) f = some (some u)
  rel : RelV v u
  get : PySem.W.specialIn K u "__get__" = some none
  cp : PySem.W.copiedNames.contains f = false
/-- a method: a plain def of the class or of one above it -/
structure Meth (K : PySem.W.Frag) (C : Addr) (m : Str) (f : Addr) : Prop where
  at_ : PySem.W.findIn K (.ref C) m = some (some (.ref f))
  fn : PySem.W.isFn K (.ref f) = true
  kp : PySem.W.keepIn K (.ref f) = true

section
variable {X : Cx} {pins : List (Addr × Obj)} {σ : St} {H : Hp} {s : Shared} {a C dx : Addr} {fs : List (Str × V)} {f : Str} {v : V} {A : Around} {E : Value → Shared → Prop}

end

/-! ### readings and rules -/
/-- e.f, an attribute of the instance -/
def tFld (K : PySem.W.Frag) (ta : TE) (f : Str) : TE := fun σ H Q => ta σ H fun x H1 => ∃ a C dx fs v, x = .ref a ∧ H1 a = some (.ins C dx fs) ∧ Cls K C ∧ NoAttr K C f ∧ fs.lookup f = some v ∧ Q v H1
/-- e.f, a constant of the class -/
def tCon (K : PySem.W.Frag) (ta : TE) (f : Str) : TE := fun σ H Q => ta σ H fun x H1 => ∃ a C dx fs v u, x = .ref a ∧ H1 a = some (.ins C dx fs) ∧ Cls K C ∧ Con K C f v u ∧ fs.lookup f = none ∧ Q v H1
/-- e.f = value -/
def sFld (K : PySem.W.Frag) (ta tv : TE) (f : Str) : TS := fun D σ H => tv σ H fun y H1 => ta σ H1 fun x H2 => ∃ a C dx fs, x = .ref a ∧ H2 a = some (.ins C dx fs) ∧ Cls K C ∧ NoAttr K C f ∧ fs.length < 1000 ∧
  D.nx σ (upd H2 a (.ins C dx (putF f y fs)))
/-- an augmented operator on two values -/
def InOp (X : Cx) (op : Operator) (rd : V → V → Hp → VK → Prop) : Prop :=
  ∀ (pins : List (Addr × Obj)) (s : Shared) (σ : St) (H : Hp) (x y : V) (u v : Value) (Q : VK), Inv X pins σ H s → RelV x u → RelV y v → rd x y H Q → wpAny (model X.prog X.w) X.A (inplaceOp op u v) (EP X pins σ Q) X.xe s
/-- e.f op= value -/
def sFldAug (K : PySem.W.Frag) (ta tv : TE) (rd : V → V → Hp → VK → Prop) (f : Str) : TS := fun D σ H => ta σ H fun x H1 => ∃ a C dx fs v, x = .ref a ∧ H1 a = some (.ins C dx fs) ∧ Cls K C ∧ NoAttr K C f ∧ fs.lookup f = some v ∧
  tv σ H1 fun y H2 => rd v y H2 fun z H3 => ∃ dx' fs', H3 a = some (.ins C dx' fs') ∧ fs'.length < 1000 ∧ D.nx σ (upd H3 a (.ins C dx' (putF f z fs')))

section
variable {X : Cx} {o e value : Expr} {f : Str} {pos pos' tpos : Pos} {ta tv : TE}
def rAdd : V → V → Hp → VK → Prop := fun x y H Q => ∃ i j, x = .int i ∧ y = .int j ∧ Q (.int (i + j)) H
def rSub : V → V → Hp → VK → Prop := fun x y H Q => ∃ i j, x = .int i ∧ y = .int j ∧ Q (.int (i - j)) H
end

/-! ### isinstance -/
section
variable {X : Cx} {pins : List (Addr × Obj)} {σ : St} {H : Hp} {s : Shared} {A : Around} {E : Value → Shared → Prop} {Q : Value → Shared → Prop} {c : Value} {b : Bool}
/-- the type of a value, as the fragment's deciders take it; for an instance its class -/
inductive TyOf (K : PySem.W.Frag) (H : Hp) : V → Value → Prop where
  | non : TyOf K H .non (.type "NoneType")
  | bl (x : Bool) : TyOf K H (.bl x) (.type "bool")
  | int (i : Int) : TyOf K H (.int i) (.type "int")
  | str (x : Str) : TyOf K H (.str x) (.type "str")
  | flt (x : UInt64) : TyOf K H (.flt x) (.type "float")
  | lst {a : Addr} {xs : List V} (e : H a = some (.lst xs)) : TyOf K H (.ref a) (.type "list")
  | frz {a : Addr} {o : Obj} {xs : List V} (e : H a = some (.frz o (.lst xs))) : TyOf K H (.ref a) (.type "list")
  | tup {a : Addr} {xs : List V} (e : H a = some (.tup xs)) : TyOf K H (.ref a) (.type "tuple")
  | dK {a : Addr} {kvs : List (Key × V)} (e : H a = some (.dK kvs)) : TyOf K H (.ref a) (.type "dict")
  | dT {a : Addr} {kvs : List (List Key × V)} (e : H a = some (.dT kvs)) : TyOf K H (.ref a) (.type "dict")
  | ins {a C dx : Addr} {fs : List (Str × V)} (e : H a = some (.ins C dx fs)) (cl : Cls K C) (ha : PySem.W.findIn K (.ref C) "__class__" = some (some (.builtin "object.__class__")))
      (hn : PySem.W.specialIn K (.builtin "object.__class__") "__get__" = some (some (.builtin "getset_descriptor.__get__"))) (htk : PySem.W.takesIn K (.builtin "object.__class__") = some true)
      (hm : PySem.W.mroIn K C (.type "object") = some true) : TyOf K H (.ref a) (.ref C)
/-- isinstance(x, c) for one class c, a built-in or an own one: kitOne's answer -/
theorem isinst_ok {x : V} {u t : Value} (I : Inv X pins σ H s) (rx : RelV x u) (ty : TyOf X.K H x t) (e : PySem.W.kitOne X.K t c = some b) (h : ∀ tk, Q (.bool b) { s with toks := tk }) :
    wpAny (model X.prog X.w) A (call (.builtin "isinstance") [u, c]) Q E s := by
  cases ty with
  | non => cases (show u = Value.none from rx); exact PySem.W.kia_one PySem.W.kitx_none I.kIn True.intro e (fun z => nomatch z) h
  | bl y => cases (show u = Value.bool y from rx); exact PySem.W.kia_one PySem.W.kitx_bool I.kIn True.intro e (fun z => nomatch z) h
  | int i => obtain ⟨t, q⟩ := (show ∃ t, u = Value.int i t from rx); cases q; exact PySem.W.kia_one PySem.W.kitx_int I.kIn True.intro e (fun z => nomatch z) h
  | str y => obtain ⟨t, q⟩ := (show ∃ t, u = Value.str y t from rx); cases q; exact PySem.W.kia_one PySem.W.kitx_str I.kIn True.intro e (fun z => nomatch z) h
  | flt y => obtain ⟨t, q⟩ := (show ∃ t, u = Value.float y t from rx); cases q; exact PySem.W.kia_one PySem.W.kitx_float I.kIn True.intro e (fun z => nomatch z) h
  | @lst a xs ea =>
    cases (show u = Value.ref a from rx)
    obtain ⟨_, _, n, _, h1⟩ := (show ObjOk X.prog X.w H s.heap a (.lst xs) from I.hok a _ ea)
    exact PySem.W.kia_one PySem.W.kitx_list I.kIn ⟨_, h1, rfl⟩ e (fun z => nomatch z) h
  | @frz a ob xs ea =>
    cases (show u = Value.ref a from rx)
    obtain ⟨_, _, _, n, _, h1⟩ := (show ObjOk X.prog X.w H s.heap a (.frz ob (.lst xs)) from I.hok a _ ea)
    exact PySem.W.kia_one PySem.W.kitx_list I.kIn ⟨_, h1, rfl⟩ e (fun z => nomatch z) h
  | @tup a xs ea =>
    cases (show u = Value.ref a from rx)
    obtain ⟨_, _, _, p⟩ := (show ObjOk X.prog X.w H s.heap a (.tup xs) from I.hok a _ ea)
    obtain ⟨o, h1, h2, _⟩ := p
    exact PySem.W.kia_one PySem.W.kitx_tuple I.kIn ⟨o, h1, h2⟩ e (fun z => nomatch z) h
  | @dK a kvs ea =>
    cases (show u = Value.ref a from rx)
    obtain ⟨_, _, vs, _, p⟩ := (show ObjOk X.prog X.w H s.heap a (.dK kvs) from I.hok a _ ea)
    obtain ⟨o, es, ep, h1, h2, _⟩ := p
    exact PySem.W.kia_one PySem.W.kitx_dict I.kIn ⟨o, h1, h2.1⟩ e (fun z => nomatch z) h
  | @dT a kvs ea =>
    cases (show u = Value.ref a from rx)
    obtain ⟨_, _, xs, _, o, es, ep, h1, h2, _⟩ := (show ObjOk X.prog X.w H s.heap a (.dT kvs) from I.hok a _ ea)
    exact PySem.W.kia_one PySem.W.kitx_dict I.kIn ⟨o, h1, h2.1⟩ e (fun z => nomatch z) h
  | @ins a C dx fs ea cl ha hn htk hm =>
    cases (show u = Value.ref a from rx)
    obtain ⟨mA, O, _⟩ := ins_get I.hok ea
    obtain ⟨od, J, _⟩ := O.look
    exact PySem.W.kia_one (PySem.W.kitx_own (cl.get _) cl.hd ha hn htk hm) I.kIn J e (fun z => nomatch z) h
end
end L2

namespace L2
open PySem PySem.Spec PyProof.Rows

/-! ### room -/
structure Room (k : Nat) (A : Around) : Prop where
  hd : A.handled = none
  dp : A.depth + 3 * k + 5 < recursionLimit
  un : A.units + 16 * k + 200 < cLine
theorem Room.mono {j k : Nat} {A : Around} (r : Room k A) (h : j ≤ k) : Room j A := ⟨r.hd, by have := r.dp; omega, by have := r.un; omega⟩
theorem Room.deeper {k : Nat} {A : Around} (r : Room (k + 1) A) (env : Env) : Room k (A.deeper env) :=
  ⟨r.hd, by have := r.dp; show A.depth + 1 + 3 * k + 5 < _; omega, by have := r.un; show A.units + 3 + 16 * k + 200 < _; omega⟩
theorem Room.in1 {k : Nat} {A : Around} (r : Room (k + 1) A) : Room k A.in1 :=
  ⟨r.hd, by have := r.dp; show A.depth + 3 * k + 5 < _; omega, by have := r.un; show A.units + 1 + 16 * k + 200 < _; omega⟩
theorem Room.depth {k : Nat} {A : Around} (r : Room k A) : A.depth < recursionLimit := by have := r.dp; omega
theorem Room.units {k : Nat} {A : Around} (r : Room k A) : A.units + 64 < cLine := by have := r.un; omega
theorem Room.units0 {k : Nat} {A : Around} (r : Room k A) : A.units < cLine := by have := r.un; omega

/-! ### argument lists and displays -/
def tNil : TA := fun _ H Q => Q [] H
def tCons (ta : TE) (tr : TA) : TA := fun σ H Q => ta σ H fun x H1 => tr σ H1 fun xs H2 => Q (x :: xs) H2
section
variable {X : Cx} {e : Expr} {es : List Expr} {te : TE} {t : TA} {pos : Pos}
theorem pa_nil : PA X [] tNil := fun _ _ _ _ H Q I h => Calls.spliced_nil ⟨[], H, I, .nil, h⟩
theorem pa_cons (ha : PE X e te) (hr : PA X es t) (hs : starEach (e :: es) X.env = (false, eval e X.env) :: starEach es X.env := by rfl) : PA X (e :: es) (tCons te t) := by
  intro pos pins s σ H Q I h
  rw [hs]
  show wpAny _ _ (spliced ((false, eval e X.env) :: backTo pos (starEach es X.env))) _ _ s
  refine Calls.spliced_cons (thn (ha pins s σ H _ I h) fun u s1 ⟨x, H1, I1, r1, q1⟩ => ?_)
  exact thn (hr pos pins s1 σ H1 _ I1 q1) fun us s2 ⟨xs, H2, I2, r2, q2⟩ => ⟨x :: xs, H2, I2, .cons r1 r2, q2⟩

/-- a tuple, a list of written items -/
def tTup (t : TA) : TE := fun σ H Q => t σ H fun xs H1 => xs.length ≤ sizeLine ∧ ∀ p, H1 p = none → Q (.ref p) (upd H1 p (.tup xs))
def tLst (t : TA) : TE := fun σ H Q => t σ H fun xs H1 => xs.length ≤ sizeLine ∧ ∀ p, H1 p = none → Q (.ref p) (upd H1 p (.lst xs))
theorem pe_tup {x1} (h : PA X es t) : PE X (.Tuple es x1 pos) (tTup t) := by
  intro pins s σ H Q I hq
  refine wpAny_Tuple_spliced (thn (h pos pins s σ H _ I hq) fun us s1 ⟨xs, H1, I1, r, z, q⟩ => ⟨by rw [← r.length]; exact z, ?_⟩)
  have hf : H1 s1.heap.objs.size = none := I1.hok.fresh (Nat.le_refl _)
  refine ⟨.ref s1.heap.objs.size, upd H1 s1.heap.objs.size (.tup xs), I1.laid (t' := s1.toks) (fun b u e => Heap.get?_push_of_some _ e) (Nat.le_refl _) ?_, rfl, q _ hf⟩
  exact ⟨z, us, r, ⟨_, Heap.get?_push_size _ rfl, rfl, _, rfl⟩⟩
theorem pe_lst (h : PA X es t) : PE X (.List es pos) (tLst t) := by
  intro pins s σ H Q I hq
  refine wpAny_List_spliced (thn (h pos pins s σ H _ I hq) fun us s1 ⟨xs, H1, I1, r, z, q⟩ => ⟨by rw [← r.length]; exact z, ?_⟩)
  have hf : H1 s1.heap.objs.size = none := I1.hok.fresh (Nat.le_refl _)
  refine ⟨.ref s1.heap.objs.size, upd H1 s1.heap.objs.size (.lst xs), I1.laid (t' := s1.toks) (fun b u e => Heap.get?_push_of_some _ e) (Nat.le_refl _) ?_, rfl, q _ hf⟩
  exact ⟨z, us, 0, r, Heap.get?_push_size _ rfl⟩
end

/-! ### what a def promises -/
/-- a def's promise: the bound arguments in the parameters' order, the heap, the wanted end, the wanted exception -/
abbrev Sp := List V → Hp → VK → XK → Prop
/-- how an exception lies behind a call (file 08 gives it): the callers' frames, abstract heap and state ahead of the call, the wish, the exception, the state -/
abbrev CXT := List Env → Hp → Shared → XK → Value → Shared → Prop

/-- the state at a call -/
structure Env0 (P : Program) (w : World) (K : PySem.W.Frag) (mg : Str → Option Value) (base : Heap) (A : Around) (outer : List Env) (s : Shared) (H : Hp) : Prop where
  frames : A.frames = some outer
  mod : Mod K mg base
  bs : ∀ b o, base.get? b = some o → s.heap.get? b = some o ∧ H b = none
  bsz : base.objs.size ≤ s.heap.objs.size
  funs : s.heap.FunFrames base outer
  frf : ∀ b ∈ frs outer, H b = none
  hok : HOk P w H s.heap
  bare : AllBare s.gens
/-- a call's end -/
def CE (outer : List Env) (P : Program) (w : World) (H : Hp) (s : Shared) (Q : VK) (u : Value) (s' : Shared) : Prop :=
  ∃ v H', s'.os = s.os ∧ AllBare s'.gens ∧ Un (frs outer) [] H H' s.heap s'.heap ∧ HOk P w H' s'.heap ∧ RelV v u ∧ Q v H'
def CR (CX : CXT) (outer : List Env) (P : Program) (w : World) (H : Hp) (s : Shared) (Q : VK) (E : XK) (r : Result) (s' : Shared) : Prop :=
  match r with
  | .ok (.ret u) => CE outer P w H s Q u s'
  | .ok _ => False
  | .error e => CX outer H s E e s'
structure FnOk (P : Program) (w : World) (K : PySem.W.Frag) (mg : Str → Option Value) (base : Heap) (CX : CXT) (k : Nat) (f : Addr) (fd : FuncData) (ps : List Str) (sp : Sp) : Prop where
  len : ∀ vs H Q E, sp vs H Q E → vs.length = ps.length
  run : ∀ (A : Around) (outer : List Env) (s : Shared) (H : Hp) (args : Args) (us : List Value) (vs : List V) (Q : VK) (E : XK), Room k A → Env0 P w K mg base A outer s H → BindsTo s fd args (ps.zip us) → Vals vs us → sp vs H Q E →
    codeAny (model P w) A (.call (.ref f) args) (CR CX outer P w H s Q E) s
theorem FnOk.mono {P : Program} {w : World} {K : PySem.W.Frag} {mg : Str → Option Value} {base : Heap} {CX : CXT} {j k : Nat} {f : Addr} {fd : FuncData} {ps : List Str} {sp : Sp} (F : FnOk P w K mg base CX j f fd ps sp) (h : j ≤ k) :
    FnOk P w K mg base CX k f fd ps sp := ⟨F.len, fun A outer s H args us vs Q E hr => F.run A outer s H args us vs Q E (hr.mono h)⟩
/-- a weaker promise -/
theorem FnOk.imp {P : Program} {w : World} {K : PySem.W.Frag} {mg : Str → Option Value} {base : Heap} {CX : CXT} {k : Nat} {f : Addr} {fd : FuncData} {ps : List Str} {sp sp' : Sp} (F : FnOk P w K mg base CX k f fd ps sp)
    (h : ∀ vs H Q E, sp' vs H Q E → sp vs H Q E) : FnOk P w K mg base CX k f fd ps sp' :=
  ⟨fun vs H Q E q => F.len vs H Q E (h _ _ _ _ q), fun A outer s H args us vs Q E hr he hb hv hs => F.run A outer s H args us vs Q E hr he hb hv (h _ _ _ _ hs)⟩

theorem Env0.in1 {P : Program} {w : World} {K : PySem.W.Frag} {mg : Str → Option Value} {base : Heap} {A : Around} {outer : List Env} {s : Shared} {H : Hp} (e : Env0 P w K mg base A outer s H) :
    Env0 P w K mg base A.in1 outer s H := ⟨e.frames, e.mod, e.bs, e.bsz, e.funs, e.frf, e.hok, e.bare⟩

section
variable {X : Cx} {pins : List (Addr × Obj)} {σ : St} {H : Hp} {s s' : Shared}
/-- from a body: what a callee wants -/
theorem Inv.env0 (I : Inv X pins σ H s) : Env0 X.prog X.w X.K X.mg X.base X.A X.stack s H :=
  ⟨I.ok.frames, I.ok.mod, I.bs, Nat.le_trans I.ok.bsz I.sz, I.stack, I.stkFree, I.hok, I.bare⟩
/-- behind a call -/
theorem Inv.after {Q : VK} {u : Value} (I : Inv X pins σ H s) (h : CE X.stack X.prog X.w H s Q u s') : EP X pins σ Q u s' := by
  obtain ⟨v, H', os, bare, un, hok, r, q⟩ := h
  obtain ⟨hh, g, d, t, os'⟩ := s'
  obtain rfl : os' = s.os := os
  exact ⟨v, H', I.call (h' := hh) (g' := g) (d' := d) (t' := t) (ch := []) un hok bare (fun b z => absurd z (by simp)), r, q⟩
end

/-! ### calls -/
/-- f(..): the written arguments, then the defaults dvs; E: what is wanted of an exception -/
def tCall (sp : Sp) (dvs : List V) (E : XK) (t : TA) : TE := fun σ H Q => t σ H fun vs H1 => sp (vs ++ dvs) H1 Q E
/-- o.m(..) of an instance of the class at C -/
def tMeth (C : Addr) (m : Str) (sp : Sp) (dvs : List V) (E : XK) (ta : TE) (t : TA) : TE := fun σ H Q => ta σ H fun x H1 => ∃ a dx fs, x = .ref a ∧ H1 a = some (.ins C dx fs) ∧ fs.lookup m = none ∧
  t σ H1 fun vs H2 => sp (x :: (vs ++ dvs)) H2 Q E
/-- C(..): a new instance and its dict, then __init__ -/
def tMake (C : Addr) (sp : Sp) (dvs : List V) (E : XK) (t : TA) : TE := fun σ H Q => t σ H fun vs H1 => ∀ x dx, H1 x = none → H1 dx = none → dx ≠ x →
  sp (.ref x :: (vs ++ dvs)) (upd (upd H1 dx (.own x)) x (.ins C dx [])) (fun v H2 => v = .non ∧ Q (.ref x) H2) E

/-- how the parameters are bound: us the positional arguments, kw the keywords' values by name, ds the defaults that fill up -/
def Binds (K : PySem.W.Frag) (fd : FuncData) (ps : List Str) (ds : List Value) : Prop :=
  ∀ (s : Shared) (us : List Value), K.In s.heap → (us ++ ds).length = ps.length → BindsTo s fd ⟨us, []⟩ (ps.zip (us ++ ds))
/-- every parameter is given -/
theorem Binds.all {K : PySem.W.Frag} {fd : FuncData} {ps : List Str} (h : ∀ us : List Value, us.length = ps.length → bindArgs fd ⟨us, []⟩ = pure (ps.zip us)) : Binds K fd ps [] := fun s us _ hl => by
  rw [List.append_nil] at hl ⊢
  exact .of_eq (h us hl)

/-- an exception of a callee reaches what this body wants of exceptions -/
def Passes (CX : CXT) (X : Cx) (E : XK) : Prop := ∀ (pins : List (Addr × Obj)) (σ : St) (H : Hp) (s : Shared) (e : Value) (s' : Shared), Inv X pins σ H s → CX X.stack H s E e s' → X.xe e s'

section
variable {X : Cx} {CX : CXT} {k : Nat} {f C : Addr} {fd : FuncData} {ps : List Str} {sp : Sp} {dvs : List V} {ds : List Value} {E : XK} {x m : Str} {p pos apos : Pos} {e o : Expr} {es : List Expr} {ta : TE} {t : TA}

/-- the callee runs -/
theorem run_fn {pins : List (Addr × Obj)} {σ : St} {H : Hp} {s : Shared} {Q : VK} {us : List Value} {vs : List V} (F : FnOk X.prog X.w X.K X.mg X.base CX k f fd ps sp) (hr : Room k X.A) (hb : Binds X.K fd ps ds) (hd : Vals dvs ds) (hx : Passes CX X E)
    (I : Inv X pins σ H s) (r : Vals vs us) (h : sp (vs ++ dvs) H Q E) : wpAny (model X.prog X.w) X.A (call (.ref f) us) (EP X pins σ Q) X.xe s := by
  have r2 : Vals (vs ++ dvs) (us ++ ds) := r.append hd
  have hl : (us ++ ds).length = ps.length := by rw [← r2.length]; exact F.len _ _ _ _ h
  refine wpAny_call (codeAny_mono (F.run X.A X.stack s H ⟨us, []⟩ (us ++ ds) (vs ++ dvs) Q E hr I.env0 (hb s us I.kIn hl) r2 h) fun r s' hq => ?_)
  cases r with
  | error e => exact hx pins σ H s e s' I hq
  | ok fl =>
    cases fl with
    | ret u => exact I.after hq
    | next => exact False.elim hq
    | brk => exact False.elim hq
    | cont => exact False.elim hq

theorem pe_call (F : FnOk X.prog X.w X.K X.mg X.base CX k f fd ps sp) (hr : Room k X.A) (hg : Gl X x) (hm : X.mg x = some (.ref f)) (hk : PySem.W.keepIn X.K (.ref f) = true) (hb : Binds X.K fd ps ds) (hd : Vals dvs ds) (hx : Passes CX X E)
    (ha : PA X (e :: es) t) (hdb : (x == ("__debug__" : Str)) = false := by decide) (he : starEach (e :: es) X.env = (false, eval e X.env) :: starEach es X.env := by rfl) (hpl : (backTo pos (starEach es X.env)).any (·.1) = false := by rfl) :
    PE X (.Call (.Name x p) (e :: es) [] pos) (tCall sp dvs E t) := by
  intro pins s σ H Q I h
  refine wpAny_Call_Name_kw (ld_glob I hg hm ?_ hdb)
  refine PySem.W.callWith_K (h₀ := X.base) I.ok.mod.kin hk (thn (ha pos pins s σ H _ I h) fun us s1 ⟨vs, H1, I1, r, q⟩ => ⟨I1.kIn, ?_⟩) he hpl
  exact run_fn F hr hb hd hx I1 r q
/-- what a class must have to be made -/
structure Mk (K : PySem.W.Frag) (C f : Addr) : Prop where
  makes : PySem.W.makesIn K C = true
  init : PySem.W.findIn K (.ref C) "__init__" = some (some (.ref f))
  fn : PySem.W.isFn K (.ref f) = true
  kp : PySem.W.keepIn K (.ref C) = true

end

/-! ### keywords -/
/-- the values of the keywords, from the left -/
def PK (X : Cx) (kws : List Keyword) (t : TA) : Prop :=
  ∀ (pos : Pos) (pins : List (Addr × Obj)) (s : Shared) (σ : St) (H : Hp) (Q : List V → Hp → Prop), Inv X pins σ H s → t σ H Q → wpAny (model X.prog X.w) X.A (evalAll ((backToKw pos (keywordEach kws X.env)).map (·.2))) (AP X pins σ Q) X.xe s
section
variable {X : Cx} {CX : CXT} {k : Nat} {f C : Addr} {fd : FuncData} {ps ks : List Str} {sp : Sp} {E : XK} {x m : Str} {p pos apos kpos : Pos} {e o : Expr} {es : List Expr} {kws : List Keyword} {te ta : TE} {t tk : TA} {nm : Option Str}
/-- how a call with keywords binds: g puts the positional values us and the keywords' values ws (names ks) in the parameters' order, defaults among them -/
structure KBinds (K : PySem.W.Frag) (fd : FuncData) (ps ks : List Str) (g : List Value → List Value → List Value) (gV : List V → List V → List V) : Prop where
  to : ∀ (s : Shared) (us ws : List Value), K.In s.heap → (g us ws).length = ps.length → BindsTo s fd ⟨us, ks.zip ws⟩ (ps.zip (g us ws))
  rel : ∀ {vs : List V} {us : List Value} {zs : List V} {ws : List Value}, Vals vs us → Vals zs ws → Vals (gV vs zs) (g us ws)
def tCallK (sp : Sp) (gV : List V → List V → List V) (E : XK) (t tk : TA) : TE := fun σ H Q => t σ H fun vs H1 => tk σ H1 fun zs H2 => sp (gV vs zs) H2 Q E
variable {g : List Value → List Value → List Value} {gV : List V → List V → List V}
end

/-! ### a def's body keeps its promise -/
/-- names: the parameters first -/
structure FnScope (N P : List Str) (sc : Scope) : Prop where
  kind : sc.kind = .function
  co : sc.isCoroutine = false
  gen : sc.isGenerator = false
  nd : N.Nodup
  pre : N.take P.length = P
  par : ∀ x ∈ P, sc.names.lookup x = some .local ∨ sc.names.lookup x = some .cell
  nofree : ∀ y ∈ sc.names, y.2 ≠ .free

theorem bindL_out {kindOf : Str → Option NameKind} {x : Str} : ∀ {binds : List (Str × Value)} {m : Str → Option Value}, (∀ v, (x, v) ∉ binds) → bindL kindOf binds m x = m x
  | [], _, _ => rfl
  | (n, v) :: r, m, h => by
    unfold bindL
    rw [bindL_out fun w hw => h w (List.mem_cons_of_mem _ hw)]
    split
    · have : x ≠ n := by rintro rfl; exact h v List.mem_cons_self
      simp [this]
    · rfl
theorem bindC_out {kindOf : Str → Option NameKind} {x : Str} : ∀ {binds : List (Str × Value)} {m : Str → Option Value}, (∀ v, (x, v) ∉ binds) → bindC kindOf binds m x = m x
  | [], _, _ => rfl
  | (n, v) :: r, m, h => by
    unfold bindC
    rw [bindC_out fun w hw => h w (List.mem_cons_of_mem _ hw)]
    split
    · rfl
    · have : x ≠ n := by rintro rfl; exact h v List.mem_cons_self
      simp [this]
theorem bindL_get {kindOf : Str → Option NameKind} {x : Str} {v : Value} : ∀ {P : List Str} {vs : List Value} {i : Nat} {m : Str → Option Value}, P.Nodup → P[i]? = some x → vs[i]? = some v → kindOf x = some .local →
    bindL kindOf (P.zip vs) m x = some v
  | [], _, _, _, _, h, _, _ => by simp at h
  | _ :: _, [], _, _, _, _, h, _ => by simp at h
  | p :: P, w :: vs, 0, m, nd, h1, h2, hk => by
    simp at h1 h2; subst h1; subst h2
    show bindL kindOf ((p, w) :: P.zip vs) m p = _
    unfold bindL
    rw [bindL_out fun v hv => (List.nodup_cons.mp nd).1 (List.of_mem_zip hv).1, if_pos hk]
    simp
  | p :: P, w :: vs, i + 1, m, nd, h1, h2, hk => by
    show bindL kindOf ((p, w) :: P.zip vs) m x = _
    unfold bindL
    exact bindL_get (i := i) (List.nodup_cons.mp nd).2 (by simpa using h1) (by simpa using h2) hk
theorem bindC_get {kindOf : Str → Option NameKind} {x : Str} {v : Value} : ∀ {P : List Str} {vs : List Value} {i : Nat} {m : Str → Option Value}, P.Nodup → P[i]? = some x → vs[i]? = some v → kindOf x ≠ some .local →
    bindC kindOf (P.zip vs) m x = some v
  | [], _, _, _, _, h, _, _ => by simp at h
  | _ :: _, [], _, _, _, _, h, _ => by simp at h
  | p :: P, w :: vs, 0, m, nd, h1, h2, hk => by
    simp at h1 h2; subst h1; subst h2
    show bindC kindOf ((p, w) :: P.zip vs) m p = _
    unfold bindC
    rw [bindC_out fun v hv => (List.nodup_cons.mp nd).1 (List.of_mem_zip hv).1, if_neg hk]
    simp
  | p :: P, w :: vs, i + 1, m, nd, h1, h2, hk => by
    show bindC kindOf ((p, w) :: P.zip vs) m x = _
    unfold bindC
    exact bindC_get (i := i) (List.nodup_cons.mp nd).2 (by simpa using h1) (by simpa using h2) hk

/-- the names' values at the entry -/
def start (N : List Str) (vs : List V) : St := vs.map some ++ List.replicate (N.length - vs.length) none

/-- the context of a def's body, at its entry; an exception leaves the frame, then lies as CX says -/
def cxOf (CX : CXT) (P : Program) (w : World) (K : PySem.W.Frag) (mg : Str → Option Value) (base : Heap) (N : List Str) (qual : Str) (scope : Scope) (f : Addr) (cd : Value) (A : Around) (outer : List Env) (s : Shared) (H : Hp) (E : XK) : Cx where
  prog := P
  w := w
  K := K
  mg := mg
  base := base
  A := A.deeper (envOfC qual scope s.heap.objs.size f cd)
  N := N
  s₀ := s
  H₀ := H
  env := envOfC qual scope s.heap.objs.size f cd
  outer := outer
  stack := envOfC qual scope s.heap.objs.size f cd :: outer
  ex := []
  calm := true
  fn := fun _ => true
  pn := []
  xe := fun e s' => wpAny (model P w) (A.deeper (envOfC qual scope s.heap.objs.size f cd)) (leaving (envOfC qual scope s.heap.objs.size f cd) e) (fun _ s'' => CX outer H s E e s'') (fun e' s'' => CX outer H s E e' s'') s'

theorem cell_has {sc : Scope} {n : Nat} {x : Str} (h : sc.names.lookup x = some .cell) : ∃ c, (cellsFrom n sc.names []).lookup x = some c := by
  have q := PySem.W.cellsFrom_some sc.names n [] (.inl h)
  exact Option.isSome_iff_exists.mp q

theorem inv_start {CX : CXT} {P : Program} {w : World} {K : PySem.W.Frag} {mg : Str → Option Value} {base : Heap} {N ps : List Str} {qual : Str} {scope : Scope} {f : Addr} {cd : Value} {A : Around} {outer : List Env} {s s1 : Shared} {H : Hp} {E : XK} {us : List Value} {vs : List V}
    (S : FnScope N ps scope) (hd : A.handled = none) (e0 : Env0 P w K mg base A outer s H) (hl : vs.length = ps.length) (r : Vals vs us)
    (x : InCallC s s.heap.objs.size (bindL (envOfC qual scope s.heap.objs.size f cd).kindOf (ps.zip us) fun _ => none) (cellsFrom (s.heap.objs.size + 1) scope.names []) (bindC (envOfC qual scope s.heap.objs.size f cd).kindOf (ps.zip us) fun _ => none) s1) :
    Inv (cxOf CX P w K mg base N qual scope f cd A outer s H E) [] (start N vs) H s1 := by
  have hpl : ps.length ≤ N.length := by have := congrArg List.length S.pre; rw [List.length_take] at this; omega
  obtain ⟨h1, tk, rfl, hk⟩ := x.done
  have noA : ∀ b : Addr, b ∉ (cxOf CX P w K mg base N qual scope f cd A outer s H E).ex := fun b z => absurd (show b ∈ ([] : List Addr) from z) (by simp)
  refine ⟨⟨e0.mod, S.kind, rfl, rfl, Nat.le_refl _, fun y z c h1 h2 => ?_, fun y hy => ?_, fun y c _ h => ?_, fun _ => hd, Around.frames_deeper e0.frames, .inr ⟨rfl, rfl⟩, fun b z => absurd z (noA b), e0.bs, e0.bsz, fun b _ _ => noA b, fun b z => absurd z (noA b), e0.funs, e0.frf⟩,
    rfl, e0.bare, Un.kept hk, ⟨_, x.toInCall.ns, fun i y v h1 h2 h3 => ?_⟩, fun y c h => ⟨_, x.cell y c h⟩, e0.hok.fresh (Nat.le_refl _), fun y c h => ?_, fun p hp => absurd (show p ∈ ([] : List (Addr × Obj)) from hp) (by simp), e0.hok.kept hk, ?_⟩
  · exact name_of_addr x.apart (PySem.mem_of_lookup h1) (PySem.mem_of_lookup h2)
  · have hy : scope.names.lookup y = some .cell ∨ scope.names.lookup y = some .free := hy
    rcases hy with hy | hy
    · exact cell_has hy
    · exact absurd rfl (S.nofree _ (PySem.mem_of_lookup hy))
  · exact Nat.le_of_lt (x.above y c (PySem.mem_of_lookup h))
  · have hi : i < vs.length := by
      unfold start at h2
      by_cases hi : i < vs.length
      · exact hi
      · rw [List.getElem?_append_right (by simpa using hi)] at h2
        rw [List.getElem?_replicate] at h2
        split at h2 <;> cases h2
    have ha : vs[i]? = some v := by
      unfold start at h2
      rw [List.getElem?_append_left (by simpa using hi), List.getElem?_map] at h2
      cases e : vs[i]? with
      | none => rw [e] at h2; cases h2
      | some a => rw [e] at h2; cases h2; rfl
    obtain ⟨u, hu, rv⟩ := r.get ha
    have hp : ps[i]? = some y := by
      rw [← S.pre, List.getElem?_take_of_lt (by omega)]; exact h1
    have ndP : ps.Nodup := by rw [← S.pre]; exact S.nd.sublist (List.take_sublist _ _)
    refine ⟨u, rv, ?_⟩
    rcases S.par y (List.mem_of_getElem? hp) with k | k
    · exact .inl ⟨k, bindL_get ndP hp hu k⟩
    · obtain ⟨c, e⟩ := cell_has (n := s.heap.objs.size + 1) k
      refine .inr ⟨.inl k, c, e, ?_⟩
      have q := x.cell y c e
      rw [bindC_get ndP hp hu (by show scope.names.lookup y ≠ _; rw [k]; decide)] at q
      exact q
  · exact e0.hok.fresh (Nat.le_of_lt (x.above y c (PySem.mem_of_lookup h)))
  · unfold start
    show _ = N.length
    rw [List.length_append, List.length_map, List.length_replicate]
    omega

/-- THE RULE: a def (or a method) of the text, by its body. The body's reading t is chosen for each entry; it is run at the parameters' values -/
theorem fn_of {CX : CXT} {P : Program} {w : World} {K : PySem.W.Frag} {mg : Str → Option Value} {base : Heap} {k : Nat} {f : Addr} {name qual : Str} {params : Arguments} {body : List Stmt} {scope : Scope} {dV kV doc pm cdv ct oc : Value} {an od : Option Addr}
    {osl : Array (Option Value)} {N ps : List Str} {sp : Sp} (lk : K.lookup f = some ⟨oc, od, .func (PySem.W.fnOf name qual params body scope dV kV doc pm an cdv ct), osl⟩) (hcd : PySem.W.codeIn K cdv qual = true) (S : FnScope N ps scope)
    (len : ∀ vs H Q E, sp vs H Q E → vs.length = ps.length)
    (hbody : ∀ (A : Around) (outer : List Env) (s : Shared) (H : Hp) (vs : List V) (Q : VK) (E : XK), Room k (A.deeper (envOfC qual scope s.heap.objs.size f cdv)) → sp vs H Q E →
      ∃ t, PSs (cxOf CX P w K mg base N qual scope f cdv A outer s H E) body t ∧ t { nx := fun _ H' => Q .non H', rt := Q } (start N vs) H) :
    FnOk P w K mg base CX (k + 1) f (PySem.W.fnOf name qual params body scope dV kV doc pm an cdv ct) ps sp := by
  refine ⟨len, fun A outer s H args us vs Q E hr e0 hb r hsp => ?_⟩
  have hl := len _ _ _ _ hsp
  have KX : K.In s.heap := e0.mod.kin.keeps fun b o e => (e0.bs b o e).1
  have lim : s.heap.NoLimit := e0.mod.nolimit.keeps fun b o e => (e0.bs b o e).1
  have hkind : ∀ y ∈ ps.zip us, scope.names.lookup y.1 = some .local ∨ (scope.names.lookup y.1 = some .cell ∧ ((cellsFrom (s.heap.objs.size + 1) scope.names []).lookup y.1).isSome = true) := fun ⟨n, v⟩ hy => by
    rcases S.par n (List.of_mem_zip hy).1 with q | q
    · exact .inl q
    · exact .inr ⟨q, PySem.W.cellsFrom_some _ _ _ (.inl q)⟩
  refine codeAny_call_function hr.depth (KX _ _ lk) rfl S.co S.gen rfl (PySem.W.codeRec_of KX hcd) (hb _ _ _ _ ?_)
  refine wpAny_newFunctionEnv_cells S.kind hkind fun env he s1 x => ?_
  subst he
  refine ⟨lim.keeps x.toInCall.keep, codeAny_func ?_⟩
  obtain ⟨t, ht, hq⟩ := hbody A outer s H vs Q E (hr.deeper _) hsp
  have I : Inv (cxOf CX P w K mg base N qual scope f cdv A outer s H E) [] (start N vs) H s1 := inv_start S hr.hd e0 hl r x
  refine wpAny_mono (ht [] s1 (start N vs) H _ I hq) (fun fl s' hs => ?_) fun e s' hs => hs
  have fin : ∀ {σ' : St} {H' : Hp} {v : V} {u : Value}, Inv (cxOf CX P w K mg base N qual scope f cdv A outer s H E) [] σ' H' s' → RelV v u → Q v H' → CE outer P w H s Q u s' :=
    fun {σ' H' v u} J rv q => ⟨v, H', J.os, J.bare, J.base, J.hok, rv, q⟩
  cases fl with
  | ret u =>
    obtain ⟨v, σ', H', J, rv, q⟩ := hs
    exact fin J rv q
  | next =>
    obtain ⟨σ', H', J, q⟩ := hs
    exact fin (v := V.non) (u := Value.none) J rfl q
  | brk =>
    obtain ⟨_, _, _, q⟩ := hs
    exact False.elim q
  | cont =>
    obtain ⟨_, _, _, q⟩ := hs
    exact False.elim q
end L2

namespace L2
open PySem PySem.Spec PyProof.Rows
section
variable {X : Cx} {x : Str} {p pos : Pos} {e : Expr} {es : List Expr} {t : TA} {id T : String} {r : List V → Hp → VK → Prop}

def tCB (r : List V → Hp → VK → Prop) (t : TA) : TE := fun σ H Q => t σ H fun vs H1 => r vs H1 Q
/-- f(e, ..), f a built-in function -/
theorem pe_callB (hc : CallR X (.builtin id) r) (hg : Gl X x) (hm : X.mg x = none) (hv : bootBuiltins x = some (.builtin id)) (ha : PA X (e :: es) t) (hn : x ≠ "__name__" := by decide) (hdb : (x == ("__debug__" : Str)) = false := by decide)
    (he : starEach (e :: es) X.env = (false, eval e X.env) :: starEach es X.env := by rfl) (hpl : (backTo pos (starEach es X.env)).any (·.1) = false := by rfl) : PE X (.Call (.Name x p) (e :: es) [] pos) (tCB r t) := by
  intro pins s σ H Q I h
  refine wpAny_Call_Name_kw (ld_blt I hg hm hv ?_ hn hdb)
  exact PyProof.Rows.callWith_builtin1 (thn (ha pos pins s σ H _ I h) fun us s1 ⟨vs, H1, I1, r1, q1⟩ => hc pins s1 σ H1 vs us Q I1 r1 q1) he hpl
/-- T(e, ..), T a built-in type -/
theorem pe_callTy (hc : CallR X (.type T) r) (hg : Gl X x) (hm : X.mg x = none) (hv : bootBuiltins x = some (.type T)) (ha : PA X (e :: es) t) (hn : x ≠ "__name__" := by decide) (hdb : (x == ("__debug__" : Str)) = false := by decide)
    (he : starEach (e :: es) X.env = (false, eval e X.env) :: starEach es X.env := by rfl) (hpl : (backTo pos (starEach es X.env)).any (·.1) = false := by rfl) : PE X (.Call (.Name x p) (e :: es) [] pos) (tCB r t) := by
  intro pins s σ H Q I h
  refine wpAny_Call_Name_kw (ld_blt I hg hm hv ?_ hn hdb)
  exact PyProof.Rows.callWith_type1 (thn (ha pos pins s σ H _ I h) fun us s1 ⟨vs, H1, I1, r1, q1⟩ => hc pins s1 σ H1 vs us Q I1 r1 q1) he hpl
end
end L2

namespace HT
open PySem PyProof.Rows

/-- t < u of tuples of ints -/
def lexLt : List Int → List Int → Bool
  | [], [] => false
  | [], _ :: _ => true
  | _ :: _, [] => false
  | x :: xs, y :: ys => if x = y then lexLt xs ys else decide (x < y)
section
open PySem.SeqAt
open PySem.AutoSeq1 (wpAny_loadPart')
open PySem.MeetsSeq PySem.MeetsSeq2 PySem.MeetsSeq3

end

section
variable {prog : Program} {w : World} {A : Around} {E : Value → Shared → Prop} {s : Shared}

/-! ### t[a:b], not the whole -/
/-- a slice's bound as a place among n (d where it is left out) -/
def sIx (n d : Nat) : Option Int → Nat
  | none => d
  | some v => if v < 0 then (v + (n : Int)).toNat else min v.toNat n
end
end HT

namespace L2
open PySem PySem.Spec PyProof.Rows

/-! ### the parts of a slice -/
abbrev TO := St → Hp → (Option Int → Hp → Prop) → Prop
/-- a slice's part (left out, or an int) -/
def PO (X : Cx) (e : Option Expr) (t : TO) : Prop :=
  ∀ (pins : List (Addr × Obj)) (s : Shared) (σ : St) (H : Hp) (Q : Option Int → Hp → Prop), Inv X pins σ H s → t σ H Q →
    wpAny (model X.prog X.w) X.A (evalPart e X.env) (fun u s' => ∃ o H', Inv X pins σ H' s' ∧ IsPart u o ∧ Q o H') X.xe s
def tNoPart : TO := fun _ H Q => Q none H
def tPart (t : TE) : TO := fun σ H Q => t σ H fun x H1 => ∃ i, x = .int i ∧ Q (some i) H1

section
variable {X : Cx} {e : Expr} {te : TE} {lo hi : Option Expr} {tl th : TO} {pos p2 : Pos}

theorem po_none : PO X none tNoPart := by
  intro pins s σ H Q I h
  rw [evalPart_none]
  exact wpAny_pure ⟨none, H, I, .none, h⟩
theorem po_some (h : PE X e te) : PO X (some e) (tPart te) := by
  intro pins s σ H Q I hw
  rw [evalPart_some]
  refine thn (h pins s σ H _ I hw) fun u s1 ⟨x, H1, I1, r1, q1⟩ => ?_
  obtain ⟨i, rfl, q⟩ := q1
  obtain ⟨t, rfl⟩ := r1
  exact ⟨some i, H1, I1, .int i t, q⟩

/-- what a slice of a value is, by values: the slice object stands at sl -/
def SlR (X : Cx) (r : V → Option Int → Option Int → Hp → VK → Prop) : Prop :=
  ∀ (pins : List (Addr × Obj)) (s : Shared) (σ : St) (H : Hp) (x : V) (v vl vu : Value) (lo hi : Option Int) (sl : Addr) (Q : VK), Inv X pins σ H s → RelV x v → s.heap.IsSliceOf sl vl vu .none → IsPart vl lo → IsPart vu hi → r x lo hi H Q →
    ∃ T id, typeLookup (.type T) "__getitem__" = pure (some (.builtin id)) ∧ s.TypeIs v T ∧ wpAny (model X.prog X.w) X.A (getItem v (.ref sl)) (EP X pins σ Q) X.xe s
theorem SlR.or {r r' : V → Option Int → Option Int → Hp → VK → Prop} (h : SlR X r) (h' : SlR X r') : SlR X (fun x lo hi H Q => r x lo hi H Q ∨ r' x lo hi H Q) := by
  intro pins s σ H x v vl vu lo hi sl Q I rx hs pl pu q
  rcases q with q | q
  · exact h pins s σ H x v vl vu lo hi sl Q I rx hs pl pu q
  · exact h' pins s σ H x v vl vu lo hi sl Q I rx hs pl pu q
def tSl (r : V → Option Int → Option Int → Hp → VK → Prop) (te : TE) (tl th : TO) : TE := fun σ H Q => te σ H fun x H1 => tl σ H1 fun l H2 => th σ H2 fun u H3 => r x l u H3 Q
/-- a[lo:hi], any a -/
theorem pe_slice {r : V → Option Int → Option Int → Hp → VK → Prop} (hr : SlR X r) (he : PE X e te) (hl : PO X lo tl) (hu : PO X hi th) : PE X (.Subscript e (.Slice lo hi none p2) pos) (tSl r te tl th) := by
  intro pins s σ H Q I h
  refine Subscript_ (thn (he pins s σ H _ I h) fun v s1 ⟨x, H1, I1, r1, q1⟩ => ?_)
  refine wpAny_Slice (thn (hl pins s1 σ H1 _ I1 q1) fun vl s2 ⟨l, H2, I2, pl, q2⟩ => thn (hu pins s2 σ H2 _ I2 q2) fun vu s3 ⟨u, H3, I3, pu, q3⟩ => ?_)
  rw [evalPart_none]
  refine wpAny_pure ?_
  have I4 : Inv X pins σ H3 { s3 with heap := s3.heap.push { cls := .type "slice", data := .fields #[vl, vu, .none] } } := I3.kept (t' := s3.toks) fun b ob q => Heap.get?_push_of_some _ q
  obtain ⟨T, id, hT, ht, hg⟩ := hr pins { s3 with heap := s3.heap.push { cls := .type "slice", data := .fields #[vl, vu, .none] } } σ H3 x v vl vu l u s3.heap.objs.size Q I4 r1 (Heap.IsSliceOf.new ..) pl pu q3
  show wpAny (model X.prog X.w) X.A (subscriptTail e (.Slice lo hi none p2) v (.ref s3.heap.objs.size)) (EP X pins σ Q) X.xe { s3 with heap := s3.heap.push { cls := .type "slice", data := .fields #[vl, vu, .none] } }
  exact tail_any (ops := [.ref s3.heap.objs.size, v]) ht hT hg (by with_unfolding_all rfl)

/-- the items of xs[lo:hi] -/
def cutV (xs : List V) (lo hi : Option Int) : List V := (xs.drop (HT.sIx xs.length 0 lo)).take (HT.sIx xs.length xs.length hi - HT.sIx xs.length 0 lo)
theorem cutV_length (xs : List V) (lo hi : Option Int) : (cutV xs lo hi).length ≤ xs.length := by
  unfold cutV
  rw [List.length_take, List.length_drop]
  omega
/-- t[lo:hi], not the whole of it (the whole would be t itself) -/
def rSlT (K : PySem.W.Frag) : V → Option Int → Option Int → Hp → VK → Prop := fun x lo hi H Q => ∃ a xs, x = .ref a ∧ SqT K H a xs ∧
  ¬ (HT.sIx xs.length 0 lo = 0 ∧ HT.sIx xs.length xs.length hi = xs.length) ∧ ∀ p, H p = none → Q (.ref p) (upd H p (.tup (cutV xs lo hi)))
/-! ### t < u, t + u -/
def rLtT (K : PySem.W.Frag) : R2 := fun x y H Q => ∃ a b ns ms, x = .ref a ∧ y = .ref b ∧ SqT K H a (ns.map V.int) ∧ SqT K H b (ms.map V.int) ∧ Q (.bl (HT.lexLt ns ms)) H
/-- t + u, t not empty: u empty gives t itself -/
def rCatT (K : PySem.W.Frag) : R2 := fun x y H Q => ∃ a b xs ys, x = .ref a ∧ y = .ref b ∧ SqT K H a xs ∧ SqT K H b ys ∧ xs ≠ [] ∧ xs.length + ys.length ≤ sizeLine ∧
  (ys = [] → Q (.ref a) H) ∧ (ys ≠ [] → ∀ p, H p = none → Q (.ref p) (upd H p (.tup (xs ++ ys))))
end
end L2

namespace L2
open PySem PySem.Spec PyProof.Rows

/-! ### places -/
/-- the place that an index of any sign means -/
def ixN (n : Nat) (i : Int) : Option Nat := if 0 ≤ i then (if i < n then some i.toNat else none) else if -(n : Int) ≤ i then some (i + n).toNat else none
def atI {α : Type} (xs : List α) (i : Int) : Option α := (ixN xs.length i).bind fun j => xs[j]?
theorem ixN_seq {n : Nat} {i : Int} {j : Nat} (h : ixN n i = some j) : seqIndex? i n = some j ∧ j < n ∧ -(n : Int) ≤ i ∧ i < n := by
  unfold ixN at h
  by_cases h0 : 0 ≤ i
  · rw [if_pos h0] at h
    by_cases h1 : i < n
    · rw [if_pos h1] at h
      have e : i.toNat = j := Option.some.inj h
      exact ⟨by rw [seqIndex_of h0 h1, e], by omega, by omega, h1⟩
    · rw [if_neg h1] at h; cases h
  · rw [if_neg h0] at h
    by_cases h1 : -(n : Int) ≤ i
    · rw [if_pos h1] at h
      have e : (i + n).toNat = j := Option.some.inj h
      exact ⟨by rw [seqIndex_neg (by omega) h1, e], by omega, h1, by omega⟩
    · rw [if_neg h1] at h; cases h
theorem atI_get {α : Type} {xs : List α} {i : Int} {v : α} (h : atI xs i = some v) : ∃ j, seqIndex? i xs.length = some j ∧ xs[j]? = some v ∧ j < xs.length ∧ -(xs.length : Int) ≤ i ∧ i < xs.length := by
  unfold atI at h
  cases e : ixN xs.length i with
  | none => rw [e] at h; cases h
  | some j =>
    rw [e] at h
    obtain ⟨h1, h2, h3, h4⟩ := ixN_seq e
    exact ⟨j, h1, h, h2, h3, h4⟩
theorem atI_nat {α : Type} {xs : List α} {j : Nat} {v : α} (h : xs[j]? = some v) : atI xs (j : Int) = some v := by
  have hj : j < xs.length := (List.getElem?_eq_some_iff.mp h).1
  have e : ixN xs.length (j : Int) = some j := by
    unfold ixN
    rw [if_pos (by omega), if_pos (by omega)]; simp
  unfold atI; rw [e]; exact h
/-! ### what may be subscripted -/
/-- what stands as an index of a plain subscript -/
def PlainIx (b : Expr) : Prop := ∀ o i, subscripted b false o i = operate [o, i] (getItem o i)
/-- a subscript by values -/
def IxR (X : Cx) (r : R2) : Prop :=
  ∀ (value slice : Expr) (pins : List (Addr × Obj)) (s : Shared) (σ : St) (H : Hp) (x y : V) (v u : Value) (Q : VK), Inv X pins σ H s → RelV x v → RelV y u → r x y H Q →
    subscripted slice false v u = operate [v, u] (getItem v u) → wpAny (model X.prog X.w) X.A (subscriptTail value slice v u) (EP X pins σ Q) X.xe s
/-- a call of a builtin's method by values: the receiver, the arguments -/
def MtR (X : Cx) (id : String) (r : V → List V → Hp → VK → Prop) : Prop :=
  ∀ (pins : List (Addr × Obj)) (s : Shared) (σ : St) (H : Hp) (x : V) (xs : List V) (v : Value) (us : List Value) (Q : VK), Inv X pins σ H s → RelV x v → Vals xs us → r x xs H Q →
    wpAny (model X.prog X.w) X.A (call (.builtin id) (v :: us)) (EP X pins σ Q) X.xe s
section
variable {X : Cx} {a b : Expr} {ta tb : TE} {pos : Pos}
theorem IxR.or {r r' : R2} (h : IxR X r) (h' : IxR X r') : IxR X (fun x y H Q => r x y H Q ∨ r' x y H Q) := by
  intro value slice pins s σ H x y v u Q I rx ry q hs
  rcases q with q | q
  · exact h value slice pins s σ H x y v u Q I rx ry q hs
  · exact h' value slice pins s σ H x y v u Q I rx ry q hs
theorem MtR.or {id : String} {r r' : V → List V → Hp → VK → Prop} (h : MtR X id r) (h' : MtR X id r') : MtR X id (fun x xs H Q => r x xs H Q ∨ r' x xs H Q) := by
  intro pins s σ H x xs v us Q I rx rs q
  rcases q with q | q
  · exact h pins s σ H x xs v us Q I rx rs q
  · exact h' pins s σ H x xs v us Q I rx rs q
/-- a[b] -/
theorem pe_ix {r : R2} (hr : IxR X r) (ha : PE X a ta) (hb : PE X b tb) (hs : PlainIx b) : PE X (.Subscript a b pos) (tOp r ta tb) := by
  intro pins s σ H Q I h
  exact Subscript_ (binT ha hb I h fun v u s2 x y H2 I2 rx ry q => hr a b pins s2 σ H2 x y v u Q I2 rx ry q (hs _ _))

def rIxL (K : PySem.W.Frag) : R2 := fun x y H Q => ∃ p xs i v, x = .ref p ∧ y = .int i ∧ SqL K H p xs ∧ atI xs i = some v ∧ Q v H
def rIxT (K : PySem.W.Frag) : R2 := fun x y H Q => ∃ p xs i v, x = .ref p ∧ y = .int i ∧ SqT K H p xs ∧ atI xs i = some v ∧ Q v H
def rIxS : R2 := fun x y H Q => ∃ z i c, x = .str z ∧ y = .int i ∧ z.length ≤ sizeLine ∧ atI z.cps.toList i = some c ∧ Q (.str ⟨#[c]⟩) H
theorem ix_list : IxR X (rIxL X.K) := by
  intro value slice pins s σ H x y v u Q I rx ry h hs
  obtain ⟨p, xs, i, z, rfl, rfl, hq, he, q⟩ := h
  cases rx
  obtain ⟨t, rfl⟩ := ry
  obtain ⟨its, r, pl, hz⟩ := I.list hq
  obtain ⟨j, h1, h2, h3, h4, h5⟩ := atI_get he
  obtain ⟨w, ew, rw'⟩ := r.get h2
  have hl := r.length
  have hn := line63
  have fin : EP X pins σ Q w s := ⟨z, H, I, rw', q⟩
  by_cases h0 : 0 ≤ i
  · have hj : i.toNat = j := by
      rw [seqIndex_of h0 h5] at h1
      exact Option.some.inj h1
    exact item_listR pl.isList h0 (by omega) (by rw [hj]; simpa using ew) fin hs
  · have hj : (i + (its.toArray.size : Int)).toNat = j := by
      rw [seqIndex_neg (by omega) h4] at h1
      rw [List.size_toArray, ← hl]
      exact Option.some.inj h1
    exact subscriptTail_builtinR (x := w) pl.isList.typeIs slot_list_getitem.lookup
      (wpAny_getItem_list_neg (Q := fun r s' => r = w ∧ EP X pins σ Q r s') pl.isList (by omega) (by rw [List.size_toArray] <;> omega) (by omega) (by rw [hj]; simpa using ew) ⟨rfl, fin⟩) hs
theorem ix_tup : IxR X (rIxT X.K) := by
  intro value slice pins s σ H x y v u Q I rx ry h hs
  obtain ⟨p, xs, i, z, rfl, rfl, hq, he, q⟩ := h
  cases rx
  obtain ⟨t, rfl⟩ := ry
  obtain ⟨its, r, pl, hz⟩ := I.tuple hq
  obtain ⟨j, h1, h2, h3, h4, h5⟩ := atI_get he
  obtain ⟨w, ew, rw'⟩ := r.get h2
  have hl := r.length
  have hn := line63
  have fin : EP X pins σ Q w s := ⟨z, H, I, rw', q⟩
  exact subscriptTail_builtinR (x := w) pl.typeIs slot_tuple_getitem.lookup
    (getItem_tuple (j := j) (Q := fun r s' => r = w ∧ EP X pins σ Q r s') pl (by omega) (by omega) (by rw [List.size_toArray, ← hl]; exact h1) (by simpa using ew) ⟨rfl, fin⟩) hs
theorem ix_str : IxR X rIxS := by
  intro value slice pins s σ H x y v u Q I rx ry h hs
  obtain ⟨z, i, c, rfl, rfl, hz, he, q⟩ := h
  obtain ⟨t, rfl⟩ := rx
  obtain ⟨t', rfl⟩ := ry
  obtain ⟨j, h1, h2, h3, h4, h5⟩ := atI_get he
  have hl : z.cps.toList.length = z.length := by simp [Str.length]
  rw [hl] at h1 h4 h5
  have hn := line63
  exact tail_any (typeIs_str s z t) slot_str_getitem.lookup (getItem_str (c := c) (by
    have e1 : decide (i < -(2 ^ 63 : Int)) = false := decide_eq_false (by omega)
    have e2 : decide (i ≥ 2 ^ 63) = false := decide_eq_false (by omega)
    rw [e1, e2, Bool.or_false]) (by rw [h1]; simpa using h2) ⟨.str ⟨#[c]⟩, H, I.tok _, ⟨_, rfl⟩, q⟩) hs
/-- list, tuple or str -/
def rIx (K : PySem.W.Frag) : R2 := fun x y H Q => rIxL K x y H Q ∨ rIxT K x y H Q ∨ rIxS x y H Q
/-! ### xs[i] = v, any sign -/
/-- the list's object behind a store -/
theorem mapSeq_set (its : List Value) (n j : Nat) (u : Value) : Obj.mapSeq (·.setIfInBounds j u) { cls := .type "list", data := .seq its.toArray n } = { cls := .type "list", data := .seq (its.set j u).toArray n } := by
  simp [Obj.mapSeq]
theorem Inv.lst {pins : List (Addr × Obj)} {σ : St} {H : Hp} {s : Shared} {p : Addr} {xs : List V} (I : Inv X pins σ H s) (h : H p = some (.lst xs)) :
    ∃ (its : List Value) (n : Nat), Vals xs its ∧ s.heap.get? p = some { cls := .type "list", data := .seq its.toArray n } ∧ xs.length ≤ sizeLine := by
  obtain ⟨z, its, n, r, e⟩ := I.hok p _ h
  exact ⟨its, n, r, e, z⟩
/-- the list at p is written by an update of its object -/
theorem Inv.lstUpd {pins : List (Addr × Obj)} {σ : St} {H : Hp} {s : Shared} {p : Addr} {xs ys : List V} {its its' : List Value} {n n' : Nat} {f : Obj → Obj} (I : Inv X pins σ H s) (h : H p = some (.lst xs))
    (ho : s.heap.get? p = some { cls := .type "list", data := .seq its.toArray n }) (hf : f { cls := .type "list", data := .seq its.toArray n } = { cls := .type "list", data := .seq its'.toArray n' }) (r : Vals ys its') (hz : ys.length ≤ sizeLine) (t : Nat) :
    Inv X pins σ (upd H p (.lst ys)) { s with heap := s.heap.update p f, toks := t } := by
  have e : (s.heap.update p f).get? p = some { cls := .type "list", data := .seq its'.toArray n' } := by
    rw [Heap.get?_update_self f ho (by rw [hf] <;> rfl), hf]
  refine I.write (x := p) (e := p) (by rw [h]; trivial) (.inl rfl) (fun b u hb q => (Heap.get?_update_other _ _ (Ne.symm hb)).trans q) ⟨_, e⟩ ?_
  exact ⟨hz, its', n', r, e⟩
def rSetL : V → V → V → Hp → (Hp → Prop) → Prop := fun o i v H Q => ∃ p xs k j, o = .ref p ∧ i = .int k ∧ H p = some (.lst xs) ∧ ixN xs.length k = some j ∧ Q (upd H p (.lst (xs.set j v)))
theorem set_list : PSet X rSetL := by
  intro pins s σ H o i v ov iv u Q I ro ri rv h
  obtain ⟨p, xs, k, j, rfl, rfl, hp, hj, q⟩ := h
  cases ro
  obtain ⟨t, rfl⟩ := ri
  obtain ⟨its, n, r, ho, hz⟩ := I.lst hp
  obtain ⟨h1, h2, h3, h4⟩ := ixN_seq hj
  have hl := r.length
  have hn := line63
  have I' : Inv X pins σ (upd H p (.lst (xs.set j v))) { s with heap := s.heap.update p (Obj.mapSeq (·.setIfInBounds j u)) } :=
    I.lstUpd hp ho (mapSeq_set its n j u) (r.set rv j) (by rw [List.length_set]; exact hz) s.toks
  by_cases h0 : 0 ≤ k
  · have hk : k.toNat = j := by
      rw [seqIndex_of h0 h4] at h1
      exact Option.some.inj h1
    exact PySem.W.ki_setAt ho h0 (by omega) (by rw [List.size_toArray, ← hl]; exact h4) (by rw [hk]; exact ⟨_, I', q⟩)
  · have hk : (k + (its.toArray.size : Int)).toNat = j := by
      rw [seqIndex_neg (by omega) h3] at h1
      rw [List.size_toArray, ← hl]
      exact Option.some.inj h1
    exact PySem.W.ki_setBack ho (by omega) (by rw [List.size_toArray, ← hl]; exact h3) (by omega) (by rw [hk]; exact ⟨_, I', q⟩)

/-! ### slices -/
theorem slice_bounds (lo hi : Option Int) (n : Nat) : (sliceBounds lo hi none n).1 = ((HT.sIx n 0 lo : Nat) : Int) ∧ (sliceBounds lo hi none n).2.1 = ((HT.sIx n n hi : Nat) : Int) ∧ (sliceBounds lo hi none n).2.2 = 1 := by
  refine ⟨?_, ?_, rfl⟩
  · cases lo with
    | none => simp [sliceBounds, HT.sIx]
    | some i =>
      simp only [sliceBounds, HT.sIx, Option.getD_none, show (1 : Int) > 0 by decide, if_true]
      by_cases h : i < 0
      · simp only [h, if_true] <;> omega
      · simp only [h, if_false] <;> omega
  · cases hi with
    | none => simp [sliceBounds, HT.sIx]
    | some i =>
      simp only [sliceBounds, HT.sIx, Option.getD_none, show (1 : Int) > 0 by decide, if_true]
      by_cases h : i < 0
      · simp only [h, if_true] <;> omega
      · simp only [h, if_false] <;> omega
theorem slicePick_cut (its : List Value) (lo hi : Option Int) : slicePick its.toArray lo hi none = ((its.drop (HT.sIx its.length 0 lo)).take (HT.sIx its.length its.length hi - HT.sIx its.length 0 lo)).toArray := by
  obtain ⟨h1, h2, h3⟩ := slice_bounds lo hi its.toArray.size
  unfold slicePick
  rw [h1, h2, h3]
  simp only [sliceRange_one, pick_run, List.size_toArray] <;> rfl
/-- xs[lo:hi] of a list: a new list -/
def rSlL (K : PySem.W.Frag) : V → Option Int → Option Int → Hp → VK → Prop := fun x lo hi H Q => ∃ a xs, x = .ref a ∧ SqL K H a xs ∧ ∀ p, H p = none → Q (.ref p) (upd H p (.lst (cutV xs lo hi)))
theorem sl_list : SlR X (rSlL X.K) := by
  intro pins s σ H x v vl vu lo hi sl Q I rx hs pl pu h
  obtain ⟨a, xs, rfl, hx, q⟩ := h
  cases rx
  obtain ⟨its, r, ht, hz⟩ := I.list hx
  have hlen := r.length
  refine ⟨"list", _, slot_list_getitem.lookup, ht.isList.typeIs, ?_⟩
  refine wpAny_getItem_list_slice ht.isList hs pl pu .none (by simp) ?_ (by rw [List.size_toArray] <;> omega)
  rw [slicePick_cut, ← hlen]
  refine ⟨.ref s.heap.objs.size, _, I.laid (t' := s.toks) (o := .lst (cutV xs lo hi)) (fun b ob q => Heap.get?_push_of_some _ q) (Nat.le_refl _) ?_, rfl, q _ (I.hok.fresh (Nat.le_refl _))⟩
  exact ⟨Nat.le_trans (cutV_length xs lo hi) hz, _, 0, (r.drop (HT.sIx xs.length 0 lo)).take (HT.sIx xs.length xs.length hi - HT.sIx xs.length 0 lo), Heap.get?_push_size _ rfl⟩

/-! ### in, not in: flat items -/
def flatV : V → Bool
  | .non => true
  | .bl _ => true
  | .int _ => true
  | .str _ => true
  | _ => false
/-- == of flat values -/
def eqV : V → V → Bool
  | .non, .non => true
  | .bl a, .bl b => a == b
  | .bl a, .int b => (if a then 1 else 0) == b
  | .int a, .bl b => a == (if b then 1 else 0)
  | .int a, .int b => a == b
  | .str a, .str b => a == b
  | _, _ => false
theorem eqAt_V {A : Around} {s : Shared} {y x : V} {u v : Value} (ry : RelV y u) (rx : RelV x v) (fy : flatV y = true) (fx : flatV x = true) : SeqAt.EqAt A s u v (eqV y x) := by
  cases y with
  | non =>
    cases ry
    cases x with
    | non => cases rx; exact SeqAt.EqAt.same _
    | bl b => cases rx; exact SeqAt.EqAt.none_bool b
    | int b => obtain ⟨t, rfl⟩ := rx; exact SeqAt.EqAt.none_int b t
    | str b => obtain ⟨t, rfl⟩ := rx; exact SeqAt.EqAt.none_str b t
    | _ => exact absurd (show false = true from fx) Bool.false_ne_true
  | bl a =>
    cases ry
    cases x with
    | non => cases rx; exact SeqAt.EqAt.bool_none a
    | bl b => cases rx; exact SeqAt.EqAt.bool_bool a b
    | int b => obtain ⟨t, rfl⟩ := rx; exact SeqAt.EqAt.bool_int a b t
    | str b => obtain ⟨t, rfl⟩ := rx; exact SeqAt.EqAt.bool_str a b t
    | _ => exact absurd (show false = true from fx) Bool.false_ne_true
  | int a =>
    obtain ⟨t', rfl⟩ := ry
    cases x with
    | non => cases rx; exact SeqAt.EqAt.int_none a t'
    | bl b => cases rx; exact SeqAt.EqAt.int_bool a t' b
    | int b => obtain ⟨t, rfl⟩ := rx; exact SeqAt.EqAt.int_int a t' b t
    | str b => obtain ⟨t, rfl⟩ := rx; exact SeqAt.EqAt.int_str a t' b t
    | _ => exact absurd (show false = true from fx) Bool.false_ne_true
  | str a =>
    obtain ⟨t', rfl⟩ := ry
    cases x with
    | non => cases rx; exact SeqAt.EqAt.str_none a t'
    | bl b => cases rx; exact SeqAt.EqAt.str_bool a t' b
    | int b => obtain ⟨t, rfl⟩ := rx; exact SeqAt.EqAt.str_int a t' b t
    | str b => obtain ⟨t, rfl⟩ := rx; exact SeqAt.EqAt.str_str a t' b t
    | _ => exact absurd (show false = true from fx) Bool.false_ne_true
  | _ => exact absurd (show false = true from fy) Bool.false_ne_true
/-- the items' answers, read off the values (a value's own answer does not lean on its token) -/
def eqU (x : V) (u : Value) : Bool := match u with
  | .none => eqV .non x
  | .bool b => eqV (.bl b) x
  | .int i _ => eqV (.int i) x
  | .str z _ => eqV (.str z) x
  | _ => false
theorem eqU_of {x y : V} {u : Value} (r : RelV y u) (f : flatV y = true) : eqU x u = eqV y x := by
  cases y with
  | non => cases r; rfl
  | bl b => cases r; rfl
  | int i => obtain ⟨t, rfl⟩ := r; rfl
  | str z => obtain ⟨t, rfl⟩ := r; rfl
  | _ => exact absurd (show false = true from f) Bool.false_ne_true
theorem any_eqU {x : V} : ∀ {xs : List V} {us : List Value}, Vals xs us → xs.all flatV = true → us.any (eqU x) = xs.any fun y => eqV y x
  | _, _, .nil, _ => rfl
  | y :: xs, u :: us, .cons r t, f => by
    rw [List.all_cons, Bool.and_eq_true] at f
    rw [List.any_cons, List.any_cons, eqU_of r f.1, any_eqU t f.2]
theorem mem_eqAt {A : Around} {s : Shared} {x : V} {v : Value} (rx : RelV x v) (fx : flatV x = true) : ∀ {xs : List V} {us : List Value}, Vals xs us → xs.all flatV = true → ∀ u ∈ us, SeqAt.EqAt A s u v (eqU x u)
  | _, _, .nil, _ => fun u hu => by cases hu
  | y :: xs, u :: us, .cons r t, f => fun u' hu => by
    rw [List.all_cons, Bool.and_eq_true] at f
    rcases List.mem_cons.mp hu with rfl | hu
    · rw [eqU_of r f.1]; exact eqAt_V r rx f.1 fx
    · exact mem_eqAt rx fx t f.2 u' hu
def inV (x : V) (xs : List V) : Bool := xs.any fun y => eqV y x
/-- x in a list or tuple of flat items -/
def rIn (K : PySem.W.Frag) (neg : Bool) : R2 := fun x y H Q => ∃ p xs, y = .ref p ∧ (SqL K H p xs ∨ SqT K H p xs) ∧ flatV x = true ∧ xs.all flatV = true ∧ Q (.bl (if neg then !inV x xs else inV x xs)) H
theorem op_in_seq : OpR X (compareOp .In) (rIn X.K false) := by
  intro pins s σ H x y v u Q I rx ry h
  obtain ⟨p, xs, rfl, hq, fx, fs, q⟩ := h
  cases ry
  rcases hq with hq | hq
  · obtain ⟨its, r, pl, hz⟩ := I.list hq
    refine SeqAt.in_listAt (eqU x) pl.isList (fun w hw => mem_eqAt rx fx r fs w (by simpa using hw)) ⟨.bl _, H, I, rfl, ?_⟩
    rw [show its.toArray.any (eqU x) = its.any (eqU x) by simp, any_eqU r fs]
    exact q
  · obtain ⟨its, r, pl, hz⟩ := I.tuple hq
    refine SeqAt.in_tupleAt (eqU x) pl (fun w hw => mem_eqAt rx fx r fs w (by simpa using hw)) ⟨.bl _, H, I, rfl, ?_⟩
    rw [show its.toArray.any (eqU x) = its.any (eqU x) by simp, any_eqU r fs]
    exact q
/-! ### len, list(x), tuple(x) of any list or tuple that is read -/
theorem call_len_seq : CallR X (.builtin "len") (fun xs H Q => ∃ p ys, xs = [.ref p] ∧ (SqL X.K H p ys ∨ SqT X.K H p ys) ∧ Q (.int ys.length) H) := by
  intro pins s σ H xs us Q I r h
  obtain ⟨p, ys, rfl, hq, q⟩ := h
  obtain ⟨u, rfl, rx⟩ := vals1 r
  cases rx
  have hn := line63
  rcases hq with hq | hq
  · obtain ⟨its, r', pl, hz⟩ := I.list hq
    have hlen := r'.length
    exact Calls.call_len_list pl.isList (by simp only [List.size_toArray] <;> omega) ⟨.int ys.length, H, I.tok _, ⟨s.toks + 1, by rw [List.size_toArray, hlen]⟩, q⟩
  · obtain ⟨its, r', pl, hz⟩ := I.tuple hq
    have hlen := r'.length
    exact len_tuple pl (by simp only [List.size_toArray] <;> omega) ⟨.int ys.length, H, I.tok _, ⟨s.toks + 1, by rw [List.size_toArray, hlen]⟩, q⟩
theorem CallR.or {f : Value} {r r' : List V → Hp → VK → Prop} (h : CallR X f r) (h' : CallR X f r') : CallR X f (fun xs H Q => r xs H Q ∨ r' xs H Q) := by
  intro pins s σ H xs us Q I rs q
  rcases q with q | q
  · exact h pins s σ H xs us Q I rs q
  · exact h' pins s σ H xs us Q I rs q
theorem call_list_of : CallR X (.type "list") (fun xs H Q => ∃ p ys, xs = [.ref p] ∧ (SqL X.K H p ys ∨ SqT X.K H p ys) ∧ ∀ l, H l = none → Q (.ref l) (upd H l (.lst ys))) := by
  intro pins s σ H xs us Q I r h
  obtain ⟨p, ys, rfl, hq, q⟩ := h
  obtain ⟨u, rfl, rx⟩ := vals1 r
  cases rx
  have fin : ∀ (its : List Value), Vals ys its → ys.length ≤ sizeLine → ∀ (h' : Heap) (c' : Nat), (∀ b o', s.heap.get? b = some o' → h'.get? b = some o') →
      h'.get? s.heap.objs.size = some { cls := .type "list", dict := none, data := .seq its.toArray c', slots := #[] } → EP X pins σ Q (.ref s.heap.objs.size) { s with heap := h' } := fun its r' hz h' c' kp e =>
    ⟨.ref s.heap.objs.size, _, I.laid (t' := s.toks) kp (Nat.le_refl _) (show ObjOk X.prog X.w _ h' _ (.lst ys) from ⟨hz, its, c', r', e⟩), rfl, q _ (I.hok.fresh (Nat.le_refl _))⟩
  rcases hq with hq | hq
  · obtain ⟨its, r', pl, hz⟩ := I.list hq
    have hlen := r'.length
    obtain ⟨o, ho, hc, n, hd⟩ := pl.isList
    exact call_list_seq p (.inl rfl) ho hc hd (fun h' c' kp e => fin its r' hz h' c' kp e) (by simp only [List.size_toArray] <;> omega)
  · obtain ⟨its, r', pl, hz⟩ := I.tuple hq
    have hlen := r'.length
    obtain ⟨o, ho, hc, n, hd⟩ := pl
    exact call_list_seq p (.inr rfl) ho hc hd (fun h' c' kp e => fin its r' hz h' c' kp e) (by simp only [List.size_toArray] <;> omega)
/-! ### the call of a builtin's method: o.m(..) -/
/-- the value is of that builtin type -/
def tyV (K : PySem.W.Frag) (T : String) (x : V) (H : Hp) : Prop := match x with
  | .str _ => T = "str"
  | .int _ => T = "int"
  | .ref p => (T = "list" ∧ ∃ xs, SqL K H p xs) ∨ (T = "tuple" ∧ ∃ o, K.lookup p = some o ∧ o.cls = .type "tuple" ∧ o.dict = none) ∨
      (T = "dict" ∧ ((∃ kvs, H p = some (.dK kvs)) ∨ ∃ kvs, H p = some (.dT kvs))) ∨ (T = "set" ∧ ∃ S n, H p = some (.set S n))
  | _ => False
theorem tyV_is {pins : List (Addr × Obj)} {σ : St} {H : Hp} {s : Shared} {T : String} {x : V} {v : Value} (I : Inv X pins σ H s) (r : RelV x v) (ty : tyV X.K T x H) :
    s.TypeIs v T ∧ ∀ a, v = .ref a → ∃ ob, s.heap.get? a = some ob ∧ ob.dict = none := by
  cases x with
  | str z =>
    obtain ⟨t, rfl⟩ := r
    cases (show T = "str" from ty)
    exact ⟨typeIs_str s z t, fun _ e => nomatch e⟩
  | int i =>
    obtain ⟨t, rfl⟩ := r
    cases (show T = "int" from ty)
    exact ⟨typeIs_int s i t, fun _ e => nomatch e⟩
  | ref p =>
    cases r
    rcases ty with ⟨rfl, xs, hq⟩ | ⟨rfl, o, hk, hc, hd⟩ | ⟨rfl, hk⟩ | ⟨rfl, S, n, hk⟩
    · obtain ⟨its, _, pl, _⟩ := I.list hq
      refine ⟨pl.isList.typeIs, fun a e => ?_⟩
      cases e
      obtain ⟨o, n, e, c, hd, _⟩ := pl
      exact ⟨o, e, hd⟩
    · refine ⟨⟨o, I.kIn p o hk, hc⟩, fun a e => ?_⟩
      cases e
      exact ⟨o, I.kIn _ o hk, hd⟩
    · have z : ∃ o, s.heap.get? p = some o ∧ o.ExactDict := by
        rcases hk with ⟨kvs, hk⟩ | ⟨kvs, hk⟩
        · obtain ⟨_, _, _, _, o, _, _, e, ex, _⟩ := I.hok p _ hk
          exact ⟨o, e, ex⟩
        · obtain ⟨_, _, _, _, o, _, _, e, ex, _⟩ := I.hok p _ hk
          exact ⟨o, e, ex⟩
      obtain ⟨o, e, ex⟩ := z
      refine ⟨⟨o, e, ex.1⟩, fun a e2 => ?_⟩
      cases e2
      exact ⟨o, e, ex.2.1⟩
    · obtain ⟨o, _, _, _, e, ex, _⟩ := I.hok p _ hk
      refine ⟨⟨o, e, ex.1⟩, fun a e2 => ?_⟩
      cases e2
      exact ⟨o, e, ex.2.1⟩
  | _ => exact False.elim ty
def tBM0 (K : PySem.W.Frag) (T : String) (r : V → List V → Hp → VK → Prop) (to : TE) : TE := fun σ H Q => to σ H fun x H1 => tyV K T x H1 ∧ r x [] H1 Q
def tBM (K : PySem.W.Frag) (T : String) (r : V → List V → Hp → VK → Prop) (to : TE) (t : TA) : TE := fun σ H Q => to σ H fun x H1 => tyV K T x H1 ∧ t σ H1 fun xs H2 => r x xs H2 Q
variable {o e : Expr} {es : List Expr} {to : TE} {t : TA} {name : Str} {apos cpos : Pos} {T id : String} {r : V → List V → Hp → VK → Prop}
theorem pe_bm0 (pa : PlainAttrs T) (slot : Slot T name id) (hty : typeOf (.builtin id) = pure (.type "method_descriptor")) (hm : MtR X id r) (ho : PE X o to)
    (hbase : attributeBase o name X.env (eval o X.env) = eval o X.env := by rfl) (hline : (apos.endLine == cpos.line) = true := by rfl) : PE X (.Call (.Attribute o name apos) [] [] cpos) (tBM0 X.K T r to) := by
  intro pins s σ H Q I h
  refine wpAny_Call_method0_late hbase hline (thn (ho pins s σ H _ I h) fun v s1 ⟨x, H1, I1, r1, ty, q1⟩ => ?_)
  obtain ⟨h1, h2⟩ := tyV_is I1 r1 ty
  exact ⟨T, id, pa, slot, hty, h1, h2, Calls.callWith_builtin rfl (PySem.evalArgs_none (hm pins s1 σ H1 x [] v [] Q I1 r1 .nil q1))⟩
theorem pe_bm (pa : PlainAttrs T) (slot : Slot T name id) (hty : typeOf (.builtin id) = pure (.type "method_descriptor")) (hm : MtR X id r) (ho : PE X o to) (ha : PA X (e :: es) t)
    (hbase : attributeBase o name X.env (eval o X.env) = eval o X.env := by rfl)
    (hfew : ((backTo cpos (starEach (e :: es) X.env)).all (fun x => !x.1) && (backToKw cpos (keywordEach [] X.env)).all (fun x => x.1.isSome)
      && decide ((e :: es).length + ([] : List Keyword).length + (if ([] : List Keyword).isEmpty then 0 else 1) < 30)) = true := by rfl)
    (hline : (apos.endLine == cpos.line) = true := by rfl) (hs : starEach (e :: es) X.env = (false, eval e X.env) :: starEach es X.env := by rfl) (hplain : (backTo cpos (starEach es X.env)).any (·.1) = false := by rfl) :
    PE X (.Call (.Attribute o name apos) (e :: es) [] cpos) (tBM X.K T r to t) := by
  intro pins s σ H Q I h
  refine wpAny_Call_method_late hbase hfew hline rfl (thn (ho pins s σ H _ I h) fun v s1 ⟨x, H1, I1, r1, ty, q1⟩ => ?_)
  obtain ⟨h1, h2⟩ := tyV_is I1 r1 ty
  refine ⟨T, id, pa, slot, hty, h1, h2, ?_⟩
  have hA := ha cpos pins s1 σ H1 _ I1 q1
  rw [hs] at hA ⊢
  refine Calls.callWith_builtin (by show (false || (backTo cpos (starEach es X.env)).any (·.1)) = false; rw [hplain] <;> rfl) (Calls.evalArgs_plain ?_)
  exact thn hA fun us s2 ⟨vs, H2, I2, r2, q2⟩ => hm pins s2 σ H2 x vs v us Q I2 r1 r2 q2
/- xs.append(e), list.index on a module's tuple .. are MtR facts of 06m -/
end
end L2

namespace L2
open PySem PySem.Spec PyProof.Rows

def MtM (X : Cx) (id : String) (r : V → List V → Hp → VK → Prop) : Prop :=
  ∀ (pins : List (Addr × Obj)) (s : Shared) (σ : St) (H : Hp) (x : V) (xs : List V) (v : Value) (us : List Value) (Q : VK), Inv X pins σ H s → RelV x v → Vals xs us → r x xs H Q →
    wpAny (model X.prog X.w) X.A (call (.builtin id) (v :: us)) (EP X pins σ Q) X.xe s

/-! ### lists of values -/
theorem Vals.one : ∀ {x : V} {us : List Value}, Vals [x] us → ∃ u, us = [u] ∧ RelV x u
  | _, _, .cons r .nil => ⟨_, rfl, r⟩
theorem Vals.two : ∀ {x y : V} {us : List Value}, Vals [x, y] us → ∃ u v, us = [u, v] ∧ RelV x u ∧ RelV y v
  | _, _, _, .cons r (.cons q .nil) => ⟨_, _, rfl, r, q⟩
theorem Vals.zero : ∀ {us : List Value}, Vals [] us → us = []
  | _, .nil => rfl
theorem Vals.dropLast {xs : List V} {us : List Value} (h : Vals xs us) : Vals xs.dropLast us.dropLast := by
  induction h with
  | nil => exact .nil
  | cons r t ih =>
    cases t with
    | nil => exact .nil
    | cons q t' => exact .cons r ih
theorem Vals.eraseIdx : ∀ {xs : List V} {us : List Value} (i : Nat), Vals xs us → Vals (xs.eraseIdx i) (us.eraseIdx i)
  | _, _, _, .nil => .nil
  | _, _, 0, .cons _ t => t
  | _, _, i + 1, .cons r t => .cons r (Vals.eraseIdx i t)
theorem Vals.reverse {xs : List V} {us : List Value} (h : Vals xs us) : Vals xs.reverse us.reverse := by
  induction h with
  | nil => exact .nil
  | cons r t ih => rw [List.reverse_cons, List.reverse_cons]; exact Vals.append ih (.cons r .nil)
theorem erase_last {α : Type} (l : List α) : l.eraseIdx (l.length - 1) = l.dropLast := by
  induction l with
  | nil => rfl
  | cons a r ih =>
    cases r with
    | nil => rfl
    | cons b r =>
      have e : (a :: b :: r).length - 1 = ((b :: r).length - 1) + 1 := by
        have h1 : (a :: b :: r).length = r.length + 2 := rfl
        have h2 : (b :: r).length = r.length + 1 := rfl
        omega
      rw [e, List.eraseIdx_cons_succ, ih]
      all_goals rfl
section
variable {X : Cx} {pins : List (Addr × Obj)} {σ : St} {H : Hp} {s : Shared} {l b : Addr} {xs ys zs : List V}

/-! ### the two steps: a tracked list is rewritten, a new list is laid -/
theorem Inv.lset {its its' : List Value} {n : Nat} {f : Array Value → Array Value} {t' : Nat} (I : Inv X pins σ H s) (hH : H l = some (.lst xs))
    (e : s.heap.get? l = some { cls := .type "list", data := .seq its.toArray n }) (hf : f its.toArray = its'.toArray) (hv : Vals ys its') (hz : ys.length ≤ sizeLine) :
    Inv X pins σ (upd H l (.lst ys)) { s with heap := s.heap.update l (Obj.mapSeq f), toks := t' } := by
  have q := PySem.IsL.update e f
  rw [hf] at q
  refine I.write (x := l) (e := l) (by rw [hH]; exact trivial) (.inl rfl) (fun b' u hb hu => (Heap.get?_update_other s.heap (Obj.mapSeq f) (Ne.symm hb)).trans hu) ⟨_, q⟩ ?_
  exact ⟨hz, its', _, hv, q⟩
theorem Inv.lnew {its : List Value} {t' : Nat} (I : Inv X pins σ H s) (hv : Vals ys its) (hz : ys.length ≤ sizeLine) :
    Inv X pins σ (upd H s.heap.objs.size (.lst ys)) { s with heap := s.heap.push { cls := .type "list", data := .seq its.toArray }, toks := t' } :=
  I.laid (fun _ _ q => Heap.get?_push_of_some _ q) (Nat.le_refl _) ⟨hz, its, 0, hv, Heap.get?_push_size _ rfl⟩
theorem Inv.fresh (I : Inv X pins σ H s) : H s.heap.objs.size = none := I.hok.fresh (Nat.le_refl _)
theorem Inv.lstM (I : Inv X pins σ H s) (hH : H l = some (.lst xs)) : xs.length ≤ sizeLine ∧ ∃ (its : List Value) (n : Nat), Vals xs its ∧ xs.length = its.length ∧ s.heap.get? l = some { cls := .type "list", data := .seq its.toArray n } := by
  obtain ⟨z, its, n, r, e⟩ := I.hok l _ hH
  exact ⟨z, its, n, r, r.length, e⟩

theorem notLongL {n : Nat} (h : n ≤ sizeLine) : Builtin.List.listTooLong n = false := by
  unfold Builtin.List.listTooLong
  exact decide_eq_false (by omega)
end

section
variable {X : Cx}

/-! ### methods -/
def rAppend : V → List V → Hp → VK → Prop := fun x vs H Q => ∃ l xs y, x = .ref l ∧ vs = [y] ∧ H l = some (.lst xs) ∧ xs.length < sizeLine ∧ Q .non (upd H l (.lst (xs ++ [y])))
theorem mt_append : MtM X "list.append" rAppend := by
  intro pins s σ H x vs v us Q I rx rv h
  obtain ⟨l, xs, y, rfl, rfl, hH, hz, q⟩ := h
  cases rx
  obtain ⟨u, rfl, ru⟩ := rv.one
  obtain ⟨z, its, n, r, hl, e⟩ := I.lstM hH
  refine call_meets F.slot_list_append ⟨_, e, rfl⟩ F.entry_list_append (F.args_list_append_2 _ _) (PySem.list_append l its.toArray n u (by rw [List.size_toArray]; omega)) ⟨e, ?_⟩
  refine ⟨.non, _, I.lset (its' := its ++ [u]) hH e (by simp) (r.append (.cons ru .nil)) ?_, rfl, q⟩
  rw [List.length_append, List.length_singleton]
  omega

def rExtend : V → List V → Hp → VK → Prop := fun x vs H Q => ∃ l b xs zs, x = .ref l ∧ vs = [.ref b] ∧ H l = some (.lst xs) ∧ H b = some (.lst zs) ∧ xs.length + zs.length ≤ sizeLine ∧ Q .non (upd H l (.lst (xs ++ zs)))
theorem mt_extend : MtM X "list.extend" rExtend := by
  intro pins s σ H x vs v us Q I rx rv h
  obtain ⟨l, b, xs, zs, rfl, rfl, hH, hB, hz, q⟩ := h
  cases rx
  obtain ⟨u, rfl, ru⟩ := rv.one
  cases ru
  obtain ⟨z, its, n, r, hl, e⟩ := I.lstM hH
  obtain ⟨z2, its2, n2, r2, hl2, e2⟩ := I.lstM hB
  have hsz : its.toArray.size + its2.toArray.size ≤ sizeLine := by rw [List.size_toArray, List.size_toArray]; omega
  have hlong : ¬ (!its.toArray.isEmpty && Builtin.List.listTooLong (its.toArray.size + its2.toArray.size)) = true := by
    rw [notLongL hsz, Bool.and_false]
    exact Bool.false_ne_true
  refine call_meets F.slot_list_extend ⟨_, e, rfl⟩ F.entry_list_extend (F.args_list_extend_2 _ _)
    (AutoSeq1.list_extend_list_list_0 l its.toArray n b its2.toArray n2 hlong (by rw [List.size_toArray]; omega) (by omega)) ⟨e, e2, ?_⟩
  refine ⟨.non, _, I.lset (its' := its ++ its2) hH e (by simp) (r.append r2) ?_, rfl, q⟩
  rw [List.length_append]
  omega

def rPop : V → List V → Hp → VK → Prop := fun x vs H Q => ∃ l xs y, x = .ref l ∧ vs = [] ∧ H l = some (.lst xs) ∧ xs[xs.length - 1]? = some y ∧ Q y (upd H l (.lst xs.dropLast))
theorem mt_pop : MtM X "list.pop" rPop := by
  intro pins s σ H x vs v us Q I rx rv h
  obtain ⟨l, xs, y, rfl, rfl, hH, hy, q⟩ := h
  cases rx
  have hus := rv.zero
  subst hus
  obtain ⟨z, its, n, r, hl, e⟩ := I.lstM hH
  obtain ⟨u, hu, ru⟩ := r.get hy
  have hy' : its.toArray[its.toArray.size - 1]? = some u := by
    show its.toArray[its.length - 1]? = some u
    rw [← Array.getElem?_toList, ← hl]
    exact hu
  refine call_meets F.slot_list_pop ⟨_, e, rfl⟩ F.entry_list_pop (F.args_list_pop_1 _) (MeetsSeq.list_pop_last l its.toArray n u hy' (by rw [List.size_toArray]; omega)) ⟨e, ?_⟩
  refine ⟨y, _, I.lset (its' := its.dropLast) hH e ?_ r.dropLast ?_, ru, q⟩
  · show its.toArray.eraseIdxIfInBounds (its.toArray.size - 1) = its.dropLast.toArray
    rw [List.size_toArray, List.eraseIdxIfInBounds_toArray, erase_last]
  · rw [List.length_dropLast]
    omega

def rPopAt : V → List V → Hp → VK → Prop := fun x vs H Q => ∃ l xs i k y, x = .ref l ∧ vs = [.int i] ∧ H l = some (.lst xs) ∧ -(2 ^ 63) ≤ i ∧ i < 2 ^ 63 ∧ seqIndex? i xs.length = some k ∧ xs[k]? = some y ∧ Q y (upd H l (.lst (xs.eraseIdx k)))
def rReverse : V → List V → Hp → VK → Prop := fun x vs H Q => ∃ l xs, x = .ref l ∧ vs = [] ∧ H l = some (.lst xs) ∧ Q .non (upd H l (.lst xs.reverse))
def rClear : V → List V → Hp → VK → Prop := fun x vs H Q => ∃ l xs, x = .ref l ∧ vs = [] ∧ H l = some (.lst xs) ∧ Q .non (upd H l (.lst []))
/-! ### list + list, list += list, list * int -/
def rCat : R2 := fun x y H Q => ∃ l b xs zs, x = .ref l ∧ y = .ref b ∧ H l = some (.lst xs) ∧ H b = some (.lst zs) ∧ xs.length + zs.length ≤ sizeLine ∧ ∀ p, H p = none → Q (.ref p) (upd H p (.lst (xs ++ zs)))
theorem op_cat : OpR X (binaryOp .Add) rCat := by
  intro pins s σ H x y v u Q I rx ry h
  obtain ⟨l, b, xs, zs, rfl, rfl, hH, hB, hz, q⟩ := h
  cases rx
  cases ry
  obtain ⟨z, its, n, r, hl, e⟩ := I.lstM hH
  obtain ⟨z2, its2, n2, r2, hl2, e2⟩ := I.lstM hB
  refine PySem.P.add_list e e2 ?_ (by rw [List.size_toArray, List.size_toArray]; omega)
  have ea : its.toArray ++ its2.toArray = (its ++ its2).toArray := by simp
  rw [ea]
  exact ⟨.ref _, _, I.lnew (t' := s.toks) (r.append r2) (by rw [List.length_append]; omega), rfl, q _ I.fresh⟩
/-- a list times an int (a negative one is nothing) -/
def rRep : R2 := fun x y H Q => ∃ l k xs, x = .ref l ∧ y = .int k ∧ H l = some (.lst xs) ∧ -(2 ^ 63) ≤ k ∧ k < 2 ^ 63 ∧ xs.length * k.toNat ≤ sizeLine ∧
  ∀ p, H p = none → Q (.ref p) (upd H p (.lst (List.replicate k.toNat xs).flatten))
/-! ### del xs[i] -/
end

/-! ### xs[a:b] = ys -/
section
variable {prog : Program} {w : World} {A : Around} {E : Value → Shared → Prop} {s : Shared}
end

section
variable {X : Cx}
end
end L2

namespace Att
open PySem PySem.W PySem.Calls PyProof.Rows

/-! ### the script -/
theorem ints_of_wellAll {P : Params} {h : Heap} : ∀ (ns : List Int) (vs : List Value), WellAll P h vs (ns.map WData.int) → IntsAre vs ns := by
  intro ns
  induction ns with
  | nil =>
    intro vs w
    rw [List.map_nil] at w
    cases w
    exact .nil
  | cons n ns ih =>
    intro vs w
    rw [List.map_cons] at w
    cases w with
    | cons a b =>
      cases a
      exact .cons _ _ (ih _ b)

theorem script_of {l : OpenLaw} {n : Nat} (hn : l.most = some n) {P : Params} {h : Heap} {args : List WData} {vals : List Value}
    (hpre : l.row.toRowW.claim.pre args = true) (hwl : WellAll P h vals args) :
    ∃ a vs ns, vals = [Value.ref a] ∧ args = [WData.list (ns.map WData.int)] ∧ h.get? a = some { cls := .type "list", data := .seq vs.toArray } ∧ IntsAre vs ns ∧ ns.length ≤ n := by
  have hsh : WShape.hasAll [] args [.list .int] = true := (pre_splitW hpre).1
  have hc : l.pre.holds [] { args := args } = true := (pre_splitW hpre).2
  obtain ⟨d, r, rfl, h1, h2⟩ := hasAllW_cons hsh
  obtain rfl := hasAllW_nil h2
  obtain ⟨xs, rfl, h3⟩ := hasW_list h1
  obtain ⟨ns, rfl⟩ := items_int h3
  have hlen : ns.length ≤ n := by
    unfold OpenLaw.pre at hc
    have h4 : (WTm.not (.lt (.lit (.int (n : Int))) (.len (.arg 0)))).holds [] { args := [.list (ns.map .int)] } = true := by
      have h4 := (holds_andW hc).1
      rw [hn] at h4
      exact h4
    have h5 := condW_of h4 (w_not (w_lt w_lit (w_len_list (w_arg rfl))))
    rw [List.length_map] at h5
    refine Nat.le_of_not_lt fun q => ?_
    have q' : (n : Int) < ((ns.length : Nat) : Int) := by omega
    first
      | (rw [decide_eq_true q'] at h5; exact absurd h5 (by decide))
      | (simp at h5; omega)
  cases hwl with
  | cons w1 w2 =>
    cases w2
    cases w1 with
    | list ho hall => exact ⟨_, _, ns, rfl, rfl, ho, ints_of_wellAll ns _ hall, hlen⟩

theorem post_true (l : OpenLaw) (args : List WData) : l.row.toRowW.claim.post args (.bool true) args = true :=
  postW_of (r := l.row.toRowW) (X := (true == true))
    (show WShape.has [] (.bool true) .bool = true by first | rfl | decide | simp [WShape.has, WShape.arms, WShape.armsAll])
    (show (WTm.eq .res (.lit (.bool true))).value [] { args := args, res := some (.bool true), after := args } = some (.bool (true == true)) from w_eq_bool (w_res rfl) w_lit) rfl

/-! ### the attachment: holds_open's last premise (the goal 'hc' behind k_head) from a wpAny of the law's body -/
/-- the same from a codeAny of the CALL (for a layer whose function contracts speak of calls) -/
theorem attach_call {l : OpenLaw} {n : Nat} {q : Program} {loose : List Str} {XP : (Str → Option Value) → Heap → Prop} {YP : World → Heap → Prop} {d : DefRec}
    (hn : l.most = some n) (hdf : d.params.defaults = [])
    (call : ∀ (w : World) (s₀ s₁ : Shared) (mg mb : Str → Option Value) (fa : Addr) (o : Obj) (pm cd doc : Value) (a : Addr) (vs : List Value) (ns : List Int),
      Ground q loose [] XP w s₀ mg mb s₁.heap → YP w s₁.heap →
      s₁.heap.get? fa = some o → o.data = .func (docDef d.name d.params d.body d.scope pm cd doc) → s₁.heap.CodeRec cd d.name → mg d.name = some (.ref fa) →
      s₁.heap.get? a = some { cls := .type "list", data := .seq vs.toArray } → IntsAre vs ns → ns.length ≤ n → s₁.gens = #[] →
      codeAny (model l.prog w) callerA (.call (.ref fa) ⟨[.ref a], []⟩) (fun r s' => r = .ok (.ret (.bool true)) ∧ OldK s₁.heap s'.heap ∧ s'.os = s₁.os ∧ AllBare s'.gens) s₁) :
    WalkO q loose XP YP l.row.toRowW d [] (fun f vs => PySem.call f vs) := by
  intro w s₀ s₁ mg mb G Y fa o pm cd doc dV kV ho hd hcd hD hmg hg args vals as hpre hlay hrd hwl hlo
  obtain rfl : dV = .none := Dflts.none hD hdf
  obtain rfl : kV = .none := Dflts.noKw hD
  obtain ⟨a, vs, ns, rfl, rfl, hobj, hints, hlen⟩ := script_of hn hpre hwl
  refine enter_call (codeAny_mono (call w s₀ s₁ mg mb fa o pm cd doc a vs ns G Y ho (fd_plain hd) hcd hmg hobj hints hlen hg) fun r s' hq => ?_)
  obtain ⟨rfl, h2, h3, h4⟩ := hq
  exact ⟨.inl ⟨.bool true, .bool true, [], rfl, fun _ => rfl, .bool true, post_true l _, fun _ => ⟨List.Pairwise.nil, fun _ hm => (nomatch hm)⟩⟩, h2, h3, h4⟩

/-! ### rules over ANY heap (no ledger) from facts about the written part K: the library's own take a ledger (News) for what they write -/
section
variable {prog : Program} {w : World} {A : Around} {E : Value → Shared → Prop} {s : Shared} {K : Frag}

/-! the whole heap as the ledger: makes every rule that writes through a ledger a rule over any heap -/
def noObjs (h : Heap) : Heap := { h with objs := #[] }
def ledger (h : Heap) (L d : Addr) : List (Addr × Obj) := (List.range h.objs.size).filterMap fun a => if a = L ∨ a = d then none else (h.get? a).map fun o => (a, o)
end
end Att

namespace L2
open PySem PySem.Spec PyProof.Rows

theorem vals_ints : ∀ {vs : List Value} {ns : List Int}, IntsAre vs ns → Vals (ns.map V.int) vs
  | _, _, .nil => .nil
  | _, _, .cons n t h => .cons ⟨t, rfl⟩ (vals_ints h)

/-- nothing is tracked but the script, known to the object (or it is an object of the module) -/
def Only (H : Hp) : Prop := ∀ b, H b = none ∨ ∃ o xs, H b = some (.frz o (.lst xs))

/-- THE HEAD: the law's promise, at the heap behind the top. F, the promise of the law's def, may use that base is part of the heap (so K.In base, base.Ns mainGlobals mg stand in Mod) -/
theorem law_call {P : Program} {w : World} {K : PySem.W.Frag} {mg mb : Str → Option Value} {CX : CXT} {k : Nat} {fa a : Addr} {fd : FuncData} {x : Str} {sp : Sp} {s₁ : Shared} {vs : List Value} {ns : List Int}
    (KX : K.In s₁.heap) (hns : s₁.heap.Ns mainGlobals mg) (hb : s₁.heap.Ns builtinsNs mb) (hbb : ∀ x : Str, x ≠ "__name__" → mb x = bootBuiltins x) (hlim : s₁.heap.NoLimit) (hg : s₁.gens = #[])
    (ha : s₁.heap.get? a = some { cls := .type "list", data := .seq vs.toArray }) (hi : IntsAre vs ns) (hl : ns.length ≤ sizeLine) (hr : Room k callerA)
    (F : ∀ base : Heap, K.In base → base.Ns mainGlobals mg → FnOk P w K mg base CX k fa fd [x] sp) (hbind : ∀ (s : Shared) (u : Value), BindsTo s fd ⟨[u], []⟩ [(x, u)])
    (hsp : ∀ H : Hp, Only H → SqL K H a (ns.map V.int) → sp [.ref a] H (fun v _ => v = .bl true) fun _ _ _ => False)
    (hCX : ∀ H e s', CX [] H s₁ (fun _ _ _ => False) e s' → False) :
    codeAny (model P w) callerA (.call (.ref fa) ⟨[.ref a], []⟩) (fun r s' => r = .ok (.ret (.bool true)) ∧ OldK s₁.heap s'.heap ∧ s'.os = s₁.os ∧ AllBare s'.gens) s₁ := by
  have rv := vals_ints hi
  have lenV := hi.length
  -- from an abstract heap in which nothing but the script may be tracked
  have core : ∀ H : Hp, Only H → SqL K H a (ns.map V.int) → HOk P w H s₁.heap → (∀ b, H b ≠ none → b = a) → (H a ≠ none → K.lookup a = none) →
      codeAny (model P w) callerA (.call (.ref fa) ⟨[.ref a], []⟩) (fun r s' => r = .ok (.ret (.bool true)) ∧ OldK s₁.heap s'.heap ∧ s'.os = s₁.os ∧ AllBare s'.gens) s₁ := by
    intro H hO hS hok hA hK
    have base_of : ∀ {b : Addr} {o : Obj}, s₁.heap.get? b = some o → H b = none → (hidT s₁.heap H).get? b = some o := fun e n => hidT_get e n
    have noA : ∀ {b : Addr} {o : Obj} {es : Array DictEntry} {ep : Nat}, s₁.heap.get? b = some o → o.data = .dict es ep → H b = none := fun {b o es ep} e d => by
      cases q : H b with
      | none => rfl
      | some u =>
        have e' : b = a := hA b (by rw [q]; simp)
        subst e'
        rw [ha] at e; cases e
        have d' : Data.seq vs.toArray _ = Data.dict es ep := d
        cases d'
    have nsK : ∀ {b : Addr} {m : Str → Option Value}, s₁.heap.Ns b m → (hidT s₁.heap H).Ns b m := fun {b m} ⟨o, es, ep, e, d, r⟩ => ⟨o, es, ep, base_of e (noA e d), d, r⟩
    have hKb : K.In (hidT s₁.heap H) := fun b o e => base_of (KX b o e) (by
      cases q : H b with
      | none => rfl
      | some u =>
        have e' : b = a := hA b (by rw [q]; simp)
        subst e'
        rw [hK (by rw [q]; simp)] at e; cases e)
    have hM : Mod K mg (hidT s₁.heap H) := ⟨hKb, nsK hns, ⟨mb, nsK hb, hbb⟩, let ⟨mc, h1, h2⟩ := hlim; ⟨mc, nsK h1, h2⟩⟩
    have e0 : Env0 P w K mg (hidT s₁.heap H) callerA [] s₁ H := ⟨rfl, hM, fun b o e => of_hidT e, Nat.le_of_eq (hidT_size _ _), trivial, fun b hb => absurd (show b ∈ ([] : List Addr) from hb) (by simp), hok, .of_eq hg⟩
    refine codeAny_mono ((F _ hKb (nsK hns)).run callerA [] s₁ H ⟨[.ref a], []⟩ [.ref a] [.ref a] _ _ hr e0 (hbind s₁ (.ref a)) (.cons rfl .nil) (hsp H hO hS)) fun r s' h => ?_
    cases r with
    | error e => exact (hCX H e s' h).elim
    | ok fl =>
      cases fl with
      | next => exact False.elim h
      | brk => exact False.elim h
      | cont => exact False.elim h
      | ret u =>
        obtain ⟨v, H', os, bare, un, hok', r', q⟩ := h
        have q' : v = .bl true := q
        subst q'
        obtain rfl : u = Value.bool true := r'
        refine ⟨rfl, OldK.of_keep fun b o e => ?_, os, bare⟩
        cases q : H b with
        | none => exact un.keep b o e q (by intro z; exact absurd (show b ∈ ([] : List Addr) from z) (by simp)) (by simp)
        | some u =>
          rcases hO b with z | ⟨ob, xs, z⟩
          · rw [q] at z; cases z
          · have z2 := un.frzs b ob _ z
            obtain ⟨e1, _⟩ := hok b _ z
            obtain ⟨e2, _⟩ := hok' b _ z2
            rw [e] at e1; cases e1
            exact e2
  cases hk : K.lookup a with
  | some o =>
    -- the script is one of the module's own objects
    have e := KX a o hk
    rw [ha] at e
    cases e
    refine core (fun _ => none) (fun _ => .inl rfl) (.inr ⟨_, vs.toArray, _, hk, rfl, rfl, rfl, by rw [List.size_toArray, lenV]; exact hl, by simpa using rv⟩) (fun b u z => by have z' : (none : Option HO) = some u := z; cases z') (fun b z => absurd rfl z) fun z => absurd rfl z
  | none =>
    refine core (fun b => if b = a then some (.frz { cls := .type "list", data := .seq vs.toArray } (.lst (ns.map V.int))) else none) (fun b => ?_) (.inl (.inr ⟨{ cls := .type "list", data := .seq vs.toArray }, if_pos rfl⟩)) (fun b u z => ?_) (fun b z => ?_) fun _ => hk
    · by_cases hb : b = a
      · exact .inr ⟨_, _, if_pos hb⟩
      · exact .inl (if_neg hb)
    · by_cases hb : b = a
      · have z' := (if_pos hb).symm.trans z
        cases z'
        subst hb
        exact ⟨ha, by rw [List.length_map]; exact hl, vs, _, rv, ha⟩
      · have z' := (if_neg hb).symm.trans z
        cases z'
    · by_cases hb : b = a
      · exact hb
      · exact absurd (if_neg hb) z
end L2

namespace L2
open PySem PySem.Spec PyProof.Rows

abbrev KOf {K : PySem.W.Frag} {h : Heap} (_ : K.In h) : PySem.W.Frag := K

/-- the goal that k_head leaves (case hc), from the law's promise. F gives the function object fd (K's own) once, then the promise over every base -/
theorem walk_of {l : PySem.W.OpenLaw} {n k : Nat} {q : Program} {loose : List Str} {XP : (Str → Option Value) → Heap → Prop} {YP : World → Heap → Prop} {d : DefRec} {K : Params → PySem.W.Frag} {CX : World → CXT} {sp : World → Sp} {x : Str}
    (hn : l.most = some n) (hn2 : n ≤ sizeLine) (hdf : d.params.defaults = []) (hr : Room k callerA)
    (hY : ∀ (w : World) (h : Heap), YP w h → (K w.params).In h)
    (F : ∀ (w : World) (mg : Str → Option Value) (fa : Addr) (h : Heap), (K w.params).In h → h.Ns mainGlobals mg → mg d.name = some (.ref fa) →
      ∃ fd : FuncData, (∀ (s : Shared) (u : Value), BindsTo s fd ⟨[u], []⟩ [(x, u)]) ∧
        ∀ base : Heap, (K w.params).In base → base.Ns mainGlobals mg → FnOk l.prog w (K w.params) mg base (CX w) k fa fd [x] (sp w))
    (hsp : ∀ (w : World) (H : Hp) (a : Addr) (ns : List Int), ns.length ≤ n → Only H → SqL (K w.params) H a (ns.map V.int) → sp w [.ref a] H (fun v _ => v = .bl true) fun _ _ _ => False)
    (hCX : ∀ (w : World) (H : Hp) (s : Shared) (e : Value) (s' : Shared), CX w [] H s (fun _ _ _ => False) e s' → False) :
    PySem.W.WalkO q loose XP YP l.row.toRowW d [] (fun f vs => PySem.call f vs) := by
  refine Att.attach_call hn hdf fun w s₀ s₁ mg mb fa o pm cd doc a vs ns G Y ho hd hcd hmg hobj hints hlen hg => ?_
  have KX := hY w _ Y
  obtain ⟨fd, hb, hF⟩ := F w mg fa _ KX G.T.g hmg
  exact law_call KX G.T.g G.T.b G.T.builtins G.T.nolimit hg hobj hints (Nat.le_trans hlen hn2) hr hF hb (fun H hO hS => hsp w H a ns hlen hO hS) fun H e s' => hCX w H s₁ e s'
end L2

/- THE LAST THEOREM (shape; LID, My.* are yours):
   My.Adr: a structure of the addresses that your layer names (classes, functions); My.Txt K t: a structure (Prop) of the equations over K;
   My.txt_mk : {K} {implicit addresses ..} (e1 : nsIn K mainGlobals "law" = some (some (.ref f))) (e2 : K.lookup f = some ⟨oc, od, .func (fnOf "law" "law" params body scope dV kV doc pm an cdv ct), sl⟩) (e3 : codeIn K cdv "law" = true) .. : ∃ t, My.Txt K t

set_option maxRecDepth 100000 in
set_option maxHeartbeats 0 in
theorem PySem.Challenge.cw_LID_holds : PySem.Challenge.rw_LID.Holds := by
  w_on; o_law; k_head; (case hw => w_witness2)
  k_fill
  refine L2.walk_of (l := PySem.Challenge.rw_LID) (n := 63) (k := 40) (x := "script") (CX := fun w => ..) (sp := fun _ => My.sp_law) rfl (by decide) rfl ⟨rfl, by decide, by decide⟩ (fun w h Y => PySem.W.kIn_of Y) ?F ?S ?C
  case F =>
    intro w mg fa h KX G hmg
    have T : ∃ t, My.Txt (L2.KOf KX) t := by
      dsimp only [L2.KOf]                          -- K must stand as «<heap const> w.params» for k_is
      refine' My.txt_mk ?e1 ?e2 ?e3 ..
      (case e1 => PySem.W.k_is)                    -- in the order: a name -> its address -> its object -> its parts
      (case e2 => PySem.W.k_is)
      ..
    obtain ⟨t, T⟩ := T
    have e0 := hmg.symm.trans (PySem.W.mg_of KX G T.law)
    cases e0                                       -- fa is the law's own address
    exact ⟨_, fun s u => .of_eq rfl, fun base kb nb => My.law_fn T kb nb⟩     -- if «.of_eq rfl» comes too early: refine' ⟨_, ?b, fun base kb nb => My.law_fn T kb nb⟩; exact fun s u => .of_eq rfl
  case S => exact fun w H a ns hl hO hS => ..
  case C => exact ..
(the tactic k_is has no namespace: write k_is) -/

/-! SHORT WORDS over the layer: a def of the text, its body, what a loop and a test want. -/
namespace L2
open PySem PySem.Spec PyProof.Rows

/-! ### the text by places -/
/-- the j-th statement of a class's body -/
def inClass (s : Stmt) (j : Nat) : Stmt := match s with
  | .ClassDef _ _ _ body _ _ _ _ _ _ _ => body.getD j (.Pass ⟨0, 0, 0, 0⟩)
  | _ => .Pass ⟨0, 0, 0, 0⟩
def defArgs (s : Stmt) : Arguments := match s with
  | .FunctionDef _ a _ _ _ _ _ _ _ _ => a
  | _ => { posonlyargs := [], args := [], vararg := none, kwonlyargs := [], kw_defaults := [], kwarg := none, defaults := [] }
def defBody (s : Stmt) : List Stmt := match s with
  | .FunctionDef _ _ b _ _ _ _ _ _ _ => b
  | _ => []
def defScope (s : Stmt) : Scope := match s with
  | .FunctionDef _ _ _ _ _ _ sc _ _ _ => sc
  | _ => { kind := .function, names := [], isGenerator := false, isCoroutine := false }

/-! ### no exception leaves a def -/
abbrev CX0 : CXT := fun _ _ _ _ _ _ => False
abbrev E0 : XK := fun _ _ _ => False
theorem pass0 {X : Cx} : Passes CX0 X E0 := fun _ _ _ _ _ _ _ h => h.elim

/-! ### a def (or method) of the text as it stands behind the top -/
structure Fun (K : PySem.W.Frag) (x qual : Str) (st : Stmt) (f : Addr) (fd : FuncData) : Prop where
  ex : ∃ (oc : Value) (od : Option Addr) (kV doc pm : Value) (an : Option Addr) (cdv ct : Value) (osl : Array (Option Value)),
    fd = PySem.W.fnOf x qual (defArgs st) (defBody st) (defScope st) .none kV doc pm an cdv ct ∧ K.lookup f = some ⟨oc, od, .func fd, osl⟩ ∧ PySem.W.codeIn K cdv qual = true
  kp : PySem.W.keepIn K (.ref f) = true
section
variable {P : Program} {w : World} {K : PySem.W.Frag} {mg : Str → Option Value} {base : Heap}
/-- THE RULE for a def: its body as a term of rules, and the reading of that term -/
theorem Fun.ok {x qual : Str} {st : Stmt} {f : Addr} {fd : FuncData} {N ps : List Str} {k : Nat} {sp : Sp} (F : Fun K x qual st f fd) (S : FnScope N ps (defScope st)) (len : ∀ vs H Q E, sp vs H Q E → vs.length = ps.length)
    (hbody : ∀ (cdv : Value) (A : Around) (outer : List Env) (s : Shared) (H : Hp) (vs : List V) (Q : VK) (E : XK), Room k (A.deeper (envOfC qual (defScope st) s.heap.objs.size f cdv)) → sp vs H Q E →
      ∃ t, PSs (cxOf CX0 P w K mg base N qual (defScope st) f cdv A outer s H E).nox (defBody st) t ∧ t { nx := fun _ H' => Q .non H', rt := Q } (start N vs) H) : FnOk P w K mg base CX0 (k + 1) f fd ps sp := by
  obtain ⟨oc, od, kV, doc, pm, an, cdv, ct, osl, rfl, lk, hcd⟩ := F.ex
  refine fn_of lk hcd S len fun A outer s H vs Q E hr hsp => ?_
  obtain ⟨t, h, q⟩ := hbody cdv A outer s H vs Q E hr hsp
  exact ⟨t, h.nox, q⟩
/-- how its arguments bind (no defaults): h is «fun _ _ _ _ _ _ us hl => match us, hl with | [_, _], _ => rfl», one _ a parameter -/
theorem Fun.binds {x qual : Str} {st : Stmt} {f : Addr} {fd : FuncData} {ps : List Str} (F : Fun K x qual st f fd)
    (h : ∀ (kV doc pm : Value) (an : Option Addr) (cdv ct : Value) (us : List Value), us.length = ps.length → bindArgs (PySem.W.fnOf x qual (defArgs st) (defBody st) (defScope st) .none kV doc pm an cdv ct) ⟨us, []⟩ = pure (ps.zip us)) : Binds K fd ps [] := by
  obtain ⟨oc, od, kV, doc, pm, an, cdv, ct, osl, rfl, lk, hcd⟩ := F.ex
  exact .all (h kV doc pm an cdv ct)
theorem fun_mk {x qual : Str} {st : Stmt} {f : Addr} {oc : Value} {od an : Option Addr} {osl : Array (Option Value)} {kV doc pm cdv ct : Value} (l : K.lookup f = some ⟨oc, od, .func (PySem.W.fnOf x qual (defArgs st) (defBody st) (defScope st) .none kV doc pm an cdv ct), osl⟩)
    (c : PySem.W.codeIn K cdv qual = true) (k : PySem.W.keepIn K (.ref f) = true) : Fun K x qual st f (PySem.W.fnOf x qual (defArgs st) (defBody st) (defScope st) .none kV doc pm an cdv ct) := ⟨⟨oc, od, kV, doc, pm, an, cdv, ct, osl, rfl, l, c⟩, k⟩
end
theorem hu_of {A : Around} {k : Nat} (hr : Room k A) : A.units + 1 < cLine := Nat.lt_of_le_of_lt (Nat.add_le_add_left (by decide : 1 ≤ 64) _) hr.units
theorem small1000 {n : Nat} (h : n ≤ 1000) : n < sizeLine := Nat.lt_of_le_of_lt h (by decide)

/-! ### expressions in short: the name that stands in the i-th slot -/
section
variable {X : Cx}
theorem pv (i : Nat) {x : Str} {pos : Pos} (hN : X.N[i]? = some x := by rfl) (hv : Vis X.env.scope x := by first | exact Or.inl rfl | exact Or.inr (Or.inl rfl) | exact Or.inr (Or.inr rfl)) (hd : (x == ("__debug__" : Str)) = false := by decide)
    (hcd : (x == ("__classdict__" : Str)) = false := by decide) : PE X (.Name x pos) (tVar i) := pe_var hN hv hd hcd
end

/-! ### tests -/
theorem iteF {A B : Prop} (h : B) : if false = true then A else B := by
  rw [if_neg Bool.false_ne_true]
  exact h
theorem iteT {A B : Prop} (h : A) : if true = true then A else B := by
  rw [if_pos rfl]
  exact h
theorem ite2 {c A B : Prop} [Decidable c] (h1 : c → A) (h2 : ¬ c → B) : if c then A else B := by
  by_cases h : c
  · rw [if_pos h]
    exact h1 h
  · rw [if_neg h]
    exact h2 h
/-! ### heaps -/
/-- all that was tracked is as it was -/
def Same (H H' : Hp) : Prop := ∀ b o, H b = some o → H' b = some o
theorem Same.refl (H : Hp) : Same H H := fun _ _ h => h
theorem Same.trans {H H1 H2 : Hp} (a : Same H H1) (b : Same H1 H2) : Same H H2 := fun c o h => b c o (a c o h)
theorem Same.free {H H' : Hp} (e : Same H H') {l : Addr} (h : H' l = Option.none) : H l = Option.none := by
  cases q : H l with
  | none => rfl
  | some o =>
    rw [e l o q] at h
    cases h
theorem Same.seq {K : PySem.W.Frag} {H H' : Hp} {a : Addr} {xs : List V} (e : Same H H') (h : SqL K H a xs) : SqL K H' a xs := by
  rcases h with (h | ⟨o, h⟩) | h
  · exact .inl (.inl (e _ _ h))
  · exact .inl (.inr ⟨o, e _ _ h⟩)
  · exact .inr h

end L2
/-! EXTENSION A: wide products and quotients, == of tuples, a list unpacked, isinstance -/
namespace L2
open PySem PySem.Spec PyProof.Rows
/-- below 2 ^ n in size -/
def Sz (n : Nat) (x : Int) : Prop := x.natAbs < 2 ^ n
theorem Sz.mono {m n : Nat} {x : Int} (h : Sz m x) (hn : m ≤ n) : Sz n x := Nat.lt_of_lt_of_le h (Nat.pow_le_pow_right (by decide) hn)
theorem Sz.mul {m n : Nat} {x y : Int} (h : Sz m x) (g : Sz n y) : Sz (m + n) (x * y) := by
  unfold Sz at *
  rw [Int.natAbs_mul, Nat.pow_add]
  exact Nat.mul_lt_mul_of_lt_of_lt h g
theorem Sz.neg {n : Nat} {x : Int} (h : Sz n x) : Sz n (-x) := by
  unfold Sz at *
  omega
theorem Sz.of_le {n : Nat} {x y : Int} (h : Sz n y) (g : x.natAbs ≤ y.natAbs) : Sz n x := Nat.lt_of_le_of_lt g h
section
variable {X : Cx}
def CMulW (i j : Int) : Prop := Sz 4000 i ∧ Sz 4000 j
theorem CMulW.ok {i j : Int} (h : CMulW i j) : IntMulOk i j := IntMulOk.of_le (m := 4000) (n := 4000) (intBits_le_iff.mpr h.1) (intBits_le_iff.mpr h.2) (by decide)
theorem op_mulW : OpR X (binaryOp .Mult) (rI CMulW fun i j => .int (i * j)) := opI fun _ _ _ _ _ _ _ hc q => mul_int q hc.ok
def CDivW (_ j : Int) : Prop := j ≠ 0 ∧ Sz 4000 j
theorem CDivW.ok {i j : Int} (h : CDivW i j) : Builtin.divisionGoesByPylong i j = false := by
  refine PyProof.noPylong_of_log2 ?_
  have h0 : j.natAbs ≠ 0 := by have := h.1; omega
  exact Nat.lt_trans ((Nat.log2_lt h0).mpr h.2) (by decide)
theorem op_fdivW : OpR X (binaryOp .FloorDiv) (rI CDivW fun i j => .int (i.fdiv j)) := opI fun _ _ _ _ _ _ _ hc q => floordiv_int hc.1 q (.inl hc.ok)

/-! ### == and != of two tuples of flat items -/
def eqVs : List V → List V → Bool
  | [], [] => true
  | x :: xs, y :: ys => eqV x y && eqVs xs ys
  | _, _ => false
theorem all_range_succ (n : Nat) (e : Nat → Bool) : (List.range (n + 1)).all e = (e 0 && (List.range n).all fun i => e (i + 1)) := by
  rw [List.range_succ_eq_map, List.all_cons, List.all_map]
  rfl
/-- the answer at each place -/
def eqAtI (xs ys : List V) (j : Nat) : Bool := match xs[j]?, ys[j]? with
  | some x, some y => eqV x y
  | _, _ => false
theorem eqVs_range : ∀ (xs ys : List V), ((List.range (min xs.length ys.length)).all (eqAtI xs ys) && xs.length == ys.length) = eqVs xs ys
  | [], [] => by simp [eqVs]
  | [], y :: ys => by simp [eqVs]
  | x :: xs, [] => by simp [eqVs]
  | x :: xs, y :: ys => by
    have ih := eqVs_range xs ys
    have e : min (x :: xs).length (y :: ys).length = min xs.length ys.length + 1 := by simp only [List.length_cons]; omega
    rw [e, all_range_succ]
    have e2 : (fun i => eqAtI (x :: xs) (y :: ys) (i + 1)) = eqAtI xs ys := by
      funext i; simp [eqAtI]
    rw [e2]
    have e3 : ((x :: xs).length == (y :: ys).length) = (xs.length == ys.length) := by simp
    have e4 : eqAtI (x :: xs) (y :: ys) 0 = eqV x y := by simp [eqAtI]
    rw [e3, e4, Bool.and_assoc, ih, eqVs]
def rEqT (K : PySem.W.Frag) (neg : Bool) : R2 := fun x y H Q => ∃ a b xs ys, x = .ref a ∧ y = .ref b ∧ SqT K H a xs ∧ SqT K H b ys ∧ xs.all flatV = true ∧ ys.all flatV = true ∧ Q (.bl (if neg then !eqVs xs ys else eqVs xs ys)) H
theorem tup_eqAt {pins : List (Addr × Obj)} {σ : St} {H : Hp} {s : Shared} {A : Around} {xs ys : List V} {us vs : List Value} (r1 : Vals xs us) (r2 : Vals ys vs) (f1 : xs.all flatV = true) (f2 : ys.all flatV = true) :
    ∀ j (h1 : j < us.toArray.size) (h2 : j < vs.toArray.size), SeqAt.EqAt A s us.toArray[j] vs.toArray[j] (eqAtI xs ys j) := by
  intro j h1 h2
  have l1 := r1.length
  have l2 := r2.length
  rw [List.size_toArray] at h1 h2
  have hx : xs[j]? = some (xs[j]'(by omega)) := List.getElem?_eq_getElem _
  have hy : ys[j]? = some (ys[j]'(by omega)) := List.getElem?_eq_getElem _
  obtain ⟨u, hu, ru⟩ := r1.get hx
  obtain ⟨v, hv, rv⟩ := r2.get hy
  have eu : us.toArray[j]'(by simpa using h1) = u := by
    rw [List.getElem?_eq_getElem h1] at hu
    simpa using Option.some.inj hu
  have ev : vs.toArray[j]'(by simpa using h2) = v := by
    rw [List.getElem?_eq_getElem h2] at hv
    simpa using Option.some.inj hv
  rw [eu, ev]
  have e : eqAtI xs ys j = eqV (xs[j]'(by omega)) (ys[j]'(by omega)) := by unfold eqAtI; rw [hx, hy]
  rw [e]
  exact eqAt_V ru rv (List.all_eq_true.mp f1 _ (List.getElem_mem _)) (List.all_eq_true.mp f2 _ (List.getElem_mem _))
theorem op_eqT (hu : X.A.units < cLine) : OpR X (compareOp .Eq) (rEqT X.K false) := by
  intro pins s σ H x y v u Q I rx ry h
  obtain ⟨a, b, xs, ys, rfl, rfl, ha, hb, f1, f2, q⟩ := h
  cases rx
  cases ry
  obtain ⟨its, r1, p1, _⟩ := I.tuple ha
  obtain ⟨its2, r2, p2, _⟩ := I.tuple hb
  refine SeqAt.eq_tupleAt (e := eqAtI xs ys) (show s.heap.IsTuple a its.toArray from p1) (show s.heap.IsTuple b its2.toArray from p2) hu (tup_eqAt (pins := pins) (σ := σ) (H := H) r1 r2 f1 f2) ⟨.bl _, H, I, rfl, ?_⟩
  rw [List.size_toArray, List.size_toArray, ← r1.length, ← r2.length, eqVs_range]
  exact q
theorem op_neT (hu : X.A.units < cLine) : OpR X (compareOp .NotEq) (rEqT X.K true) := by
  intro pins s σ H x y v u Q I rx ry h
  obtain ⟨a, b, xs, ys, rfl, rfl, ha, hb, f1, f2, q⟩ := h
  cases rx
  cases ry
  obtain ⟨its, r1, p1, _⟩ := I.tuple ha
  obtain ⟨its2, r2, p2, _⟩ := I.tuple hb
  refine SeqAt.RcNeAt.tuples (e := eqAtI xs ys) (show s.heap.IsTuple a its.toArray from p1) (show s.heap.IsTuple b its2.toArray from p2) hu (tup_eqAt (pins := pins) (σ := σ) (H := H) r1 r2 f1 f2) X.prog X.w X.xe _ ⟨.bl _, H, I, rfl, ?_⟩
  rw [List.size_toArray, List.size_toArray, ← r1.length, ← r2.length, eqVs_range]
  exact q

/-! ### (a, b, ..) = a list of that length -/
def gLst (K : PySem.W.Frag) (n : Nat) (t : TGs) : TG := fun v σ H Q => ∃ a xs, v = .ref a ∧ SqL K H a xs ∧ xs.length = n ∧ t xs σ H Q
theorem pg_lst {es : List Expr} {k : Nat} {t : TGs} {n : Nat} {pos : Pos} (hc : X.calm = true) (h : PGs X es t)
    (hn : (assignEach es X.env).length = n := by rfl) (hst : (assignEach es X.env).findIdx? (·.1) = none := by rfl) : PG X (.Tuple es k pos) (gLst X.K n t) := by
  intro pins s σ H v u Q I r hw
  obtain ⟨a, xs, e1, hq, hl, hw⟩ := hw
  subst e1
  cases r
  obtain ⟨its, rv, ht, hz⟩ := I.list hq
  rw [assign_Tuple]
  refine wpAny_bind (wpAny_standAt ?_)
  unfold unpack
  have e : (assignEach es X.env).length = its.toArray.size := by rw [hn, ← hl, rv.length, List.size_toArray]
  rw [e, hst]
  refine wpAny_bind (wpAny_holding (PySem.W.kun_itemsOf (I.ok.hd hc) ht.isList fun h' hx => ?_))
  have I1 : Inv X pins σ H { s with heap := h' } := I.kept (t' := s.toks) fun b o e => hx b o (Nat.ne_of_lt (Heap.lt_size e)) e
  exact h pins _ σ H xs _ Q I1 (by simpa using rv) hw

/-! ### isinstance -/
def rIs (K : PySem.W.Frag) : List V → Hp → VK → Prop := fun xs H Q => ∃ x c t u b, xs = [x, c] ∧ TyOf K H x t ∧ RelV c u ∧ (∀ p, c ≠ .ref p ∨ True) ∧ PySem.W.kitOne K t u = some b ∧ Q (.bl b) H
theorem call_isinst : CallR X (.builtin "isinstance") (rIs X.K) := by
  intro pins s σ H xs us Q I r h
  obtain ⟨x, c, t, u', b, rfl, ty, rc, _, hk, q⟩ := h
  obtain ⟨u, w', rfl, r1, r2⟩ := vals2 r
  have e : w' = u' ∨ ∃ T, c = .ty T := by
    cases c with
    | non => left; cases rc; cases r2; rfl
    | bl _ => left; cases rc; cases r2; rfl
    | int i => obtain ⟨z, rfl⟩ := rc; exact absurd hk (by simp [PySem.W.kitOne, PySem.W.kitCls]; cases ty <;> simp)
    | str i => obtain ⟨z, rfl⟩ := rc; exact absurd hk (by simp [PySem.W.kitOne, PySem.W.kitCls]; cases ty <;> simp)
    | byt i => obtain ⟨z, rfl⟩ := rc; exact absurd hk (by simp [PySem.W.kitOne, PySem.W.kitCls]; cases ty <;> simp)
    | flt i => obtain ⟨z, rfl⟩ := rc; exact absurd hk (by simp [PySem.W.kitOne, PySem.W.kitCls]; cases ty <;> simp)
    | ref _ => left; cases rc; cases r2; rfl
    | ty _ => left; cases rc; cases r2; rfl
  rcases e with rfl | ⟨T, rfl⟩
  · exact isinst_ok I r1 ty hk fun tk => ⟨.bl b, H, I.tok tk, rfl, q⟩
  · cases rc; cases r2
    exact isinst_ok I r1 ty hk fun tk => ⟨.bl b, H, I.tok tk, rfl, q⟩
end
end L2
/-! EXTENSION B: a list comprehension of one clause -/
namespace L2
open PySem PySem.Spec PyProof.Rows
/-- the context of a comprehension's block: C its names, s₀ and H₀ the entry, ex the iterator's records, pn the pins about it; no exception leaves -/
def cxComp (X : Cx) (scope : Scope) (cl : List (Str × Addr)) (C : Addr) (N : List Str) (s₀ : Shared) (H₀ : Hp) (ex : List Addr) (pn : List (Addr × Obj)) : Cx where
  prog := X.prog
  w := X.w
  K := X.K
  mg := X.mg
  base := X.base
  A := X.A
  N := N
  s₀ := s₀
  H₀ := H₀
  env := compEnvC scope cl C X.env
  outer := X.stack
  stack := X.stack
  ex := ex
  fn := fun _ => false
  calm := X.calm
  pn := pn
  xe := fun _ _ => False
/-- the block's names: x its own, fv those of the def's that it reads, in the def's slots js -/
structure CompScope (X : Cx) (scope : Scope) (cl : List (Str × Addr)) (x : Str) (fv : List Str) (js : List Nat) : Prop where
  kind : scope.kind = .function
  nc : ∀ y ∈ scope.names, y.2 ≠ .cell
  nm : ∀ y ∈ scope.names, y.2 = .local → scope.names.lookup y.1 = some .local
  hx : scope.names.lookup x = some .local
  fr : ∀ y ∈ scope.names, y.2 = .free → y.1 ∈ fv
  nd : (x :: fv).Nodup
  vis : ∀ y ∈ fv, scope.names.lookup y = some .free ∧ X.env.scope.names.lookup y = some .cell ∧ (cl.lookup y).isSome = true
  cls : ∀ p ∈ cl, X.env.cells.lookup p.1 = some p.2
  sl : Paired (fun y j => X.N[j]? = some y) fv js
def frv (js : List Nat) (σ : St) : St := js.map fun j => (σ[j]?).getD none
theorem lookup_relabel_free {env : Env} (hk : env.scope.kind = .function) : ∀ {names : List (Str × NameKind)} {y : Str}, names.lookup y = some .free → env.kindOf y = some .cell →
    (names.map fun (n, k) => if (k == NameKind.free && env.scope.kind == .function && env.kindOf n == some .cell) then (n, NameKind.cell) else (n, k)).lookup y = some .cell
  | [], _, h, _ => by simp at h
  | (n, k) :: r, y, h, hy => by
    have ih := @lookup_relabel_free env hk r y
    show List.lookup y ((if (k == NameKind.free && env.scope.kind == .function && env.kindOf n == some .cell) = true then (n, NameKind.cell) else (n, k)) :: _) = _
    cases hx : y == n with
    | true =>
      have e : y = n := eq_of_beq hx
      subst e
      simp only [List.lookup_cons, hx] at h
      cases h
      rw [if_pos (by rw [hk, hy]; rfl)]
      simp [List.lookup_cons]
    | false =>
      simp only [List.lookup_cons, hx] at h
      split
      · simp only [List.lookup_cons, hx]; exact ih h hy
      · simp only [List.lookup_cons, hx]; exact ih h hy
theorem lookup_relabel_back {env : Env} : ∀ {names : List (Str × NameKind)} {y : Str} {k' : NameKind},
    (names.map fun (n, k) => if (k == NameKind.free && env.scope.kind == .function && env.kindOf n == some .cell) then (n, NameKind.cell) else (n, k)).lookup y = some k' →
    names.lookup y = some k' ∨ (names.lookup y = some .free ∧ k' = .cell)
  | [], _, _, h => by simp at h
  | (n, k) :: r, y, k', h => by
    have ih := @lookup_relabel_back env r y k'
    have h : List.lookup y ((if (k == NameKind.free && env.scope.kind == .function && env.kindOf n == some .cell) = true then (n, NameKind.cell) else (n, k)) :: (r.map fun (n, k) => if (k == NameKind.free && env.scope.kind == .function && env.kindOf n == some .cell) then (n, NameKind.cell) else (n, k))) = some k' := h
    cases hx : y == n with
    | true =>
      by_cases hc : (k == NameKind.free && env.scope.kind == .function && env.kindOf n == some .cell) = true
      · rw [if_pos hc] at h
        simp only [List.lookup_cons, hx] at h
        cases h
        right
        have hk : k = .free := by
          rw [Bool.and_eq_true, Bool.and_eq_true] at hc
          exact eq_of_beq hc.1.1
        subst hk
        exact ⟨by simp [List.lookup_cons, hx], rfl⟩
      · rw [if_neg hc] at h
        simp only [List.lookup_cons, hx] at h
        left
        simp only [List.lookup_cons, hx]
        exact h
    | false =>
      have h' : (r.map fun (n, k) => if (k == NameKind.free && env.scope.kind == .function && env.kindOf n == some .cell) then (n, NameKind.cell) else (n, k)).lookup y = some k' := by
        by_cases hc : (k == NameKind.free && env.scope.kind == .function && env.kindOf n == some .cell) = true
        · rw [if_pos hc] at h
          simp only [List.lookup_cons, hx] at h
          exact h
        · rw [if_neg hc] at h
          simp only [List.lookup_cons, hx] at h
          exact h
      simp only [List.lookup_cons, hx]
      exact ih h'
section
variable {X : Cx} {scope : Scope} {cl : List (Str × Addr)} {x : Str} {fv : List Str} {js : List Nat}
theorem CompScope.cell_of (S : CompScope X scope cl x fv js) {y : Str} {c : Addr} (h : cl.lookup y = some c) : X.env.cells.lookup y = some c := S.cls (y, c) (PySem.mem_of_lookup h)
theorem CompScope.own (S : CompScope X scope cl x fv js) {C : Addr} {y : Str} {k : NameKind} (h : (compEnvC scope cl C X.env).kindOf y = some k) (hk : k = .cell ∨ k = .free) : y ∈ fv := by
  have h' : (scope.names.map fun (n, k) => if (k == NameKind.free && X.env.scope.kind == .function && X.env.kindOf n == some .cell) then (n, NameKind.cell) else (n, k)).lookup y = some k := h
  rcases lookup_relabel_back h' with q | ⟨q, _⟩
  · rcases hk with rfl | rfl
    · exact absurd rfl (S.nc _ (PySem.mem_of_lookup q))
    · exact S.fr _ (PySem.mem_of_lookup q) rfl
  · exact S.fr _ (PySem.mem_of_lookup q) rfl
theorem paired_get {F : Str → Nat → Prop} : ∀ {ys : List Str} {js : List Nat} {i : Nat} {y : Str}, Paired F ys js → ys[i]? = some y → ∃ j, js[i]? = some j ∧ F y j
  | _, _, _, _, .nil, e => by simp at e
  | _, _, 0, _, .cons r _, e => by simp at e; subst e; exact ⟨_, rfl, r⟩
  | _, _, i + 1, y, .cons _ t, e => by
    obtain ⟨j, h1, h2⟩ := paired_get (i := i) (y := y) t (by simpa using e)
    exact ⟨j, by simpa using h1, h2⟩
/-- the block begins -/
theorem comp_start {pins : List (Addr × Obj)} {σ : St} {H : Hp} {s : Shared} {h₁ : Heap} {ex : List Addr} {tk : Nat} (S : CompScope X scope cl x fv js) (I : Inv X pins σ H s)
    (hf : ∀ b ∈ ex, FpOk X pins H b) (hlt : ∀ b ∈ ex, b < s.heap.objs.size) (hns : h₁.Ns s.heap.objs.size (fun _ => none)) (hk : ∀ b o, s.heap.get? b = some o → h₁.get? b = some o) :
    Inv (cxComp X scope cl s.heap.objs.size (x :: fv) s H ex (X.pn ++ pins)) [] (none :: frv js σ) H { s with heap := h₁, toks := tk } := by
  have nstk : ∀ b ∈ ex, b ∉ frs X.stack := fun b hb z => by
    rcases List.mem_cons.mp (I.stkSub b z) with e | e
    · exact (hf b hb).2.1 e
    · exact (hf b hb).2.2.1 e
  have ok : (cxComp X scope cl s.heap.objs.size (x :: fv) s H ex (X.pn ++ pins)).Ok := by
    refine ⟨I.ok.mod, S.kind, I.ok.glob, I.ok.blt, Nat.le_refl _, fun y z c h1 h2 => I.ok.inj y z c (S.cell_of h1) (S.cell_of h2), fun y hy => ?_, fun y c h _ => absurd h (by exact Bool.false_ne_true), I.ok.hd, I.ok.frames, .inl rfl,
      fun b hb => ⟨Nat.ne_of_lt (hlt b hb), fun y c h => (hf b hb).2.2.2.2.1 y c (S.cell_of h)⟩, I.bs, Nat.le_trans I.ok.bsz I.sz, fun b o e hb => ?_, nstk, I.stack, I.stkFree⟩
    · have hm : y ∈ fv := by
        rcases hy with hy | hy
        · exact S.own hy (.inl rfl)
        · exact S.own hy (.inr rfl)
      exact Option.isSome_iff_exists.mp (S.vis y hm).2.2
    · obtain ⟨f0, f1, f2, f3, f4, f5⟩ := hf b hb
      rcases f3 with z | z
      · exact I.ok.noex b o e z
      · exact absurd (Nat.lt_of_lt_of_le (Heap.lt_size e) (Nat.le_trans I.ok.bsz z)) (Nat.lt_irrefl _)
  refine ⟨ok, rfl, I.bare, Un.kept hk, ⟨_, hns, fun i y v e1 e2 e3 => ?_⟩, fun y c h => ?_, I.hok.fresh (Nat.le_refl _), fun y c h => I.freeC y c (S.cell_of h), fun p hp => ?_, I.hok.kept hk, ?_⟩
  · cases i with
    | zero => have z : (some (none : Option V)) = some (some v) := e2; cases z
    | succ i =>
      have hy : fv[i]? = some y := by simpa [cxComp] using e1
      obtain ⟨j, hj, hN⟩ := paired_get S.sl hy
      have hv : σ[j]? = some (some v) := by
        have z : (frv js σ)[i]? = some (some v) := by simpa using e2
        unfold frv at z
        rw [List.getElem?_map, hj] at z
        have z' : (σ[j]?).getD none = some v := Option.some.inj z
        cases q : σ[j]? with
        | none => rw [q] at z'; cases z'
        | some o => rw [q] at z'; exact congrArg some z'
      obtain ⟨hfree, hcell, hsome⟩ := S.vis y (List.mem_of_getElem? hy)
      obtain ⟨m, hn, hl⟩ := I.loc
      obtain ⟨u, ru, look⟩ := hl j y v hN hv (.inr (.inl hcell))
      refine ⟨u, ru, .inr ⟨.inl (lookup_relabel_free I.ok.kind hfree hcell), ?_⟩⟩
      obtain ⟨c', hc'⟩ := Option.isSome_iff_exists.mp hsome
      rcases look with ⟨k, _⟩ | ⟨_, c, ec, z⟩
      · have k' : X.env.scope.names.lookup y = some .local := k
        rw [hcell] at k'; cases k'
      · have e := S.cell_of hc'
        rw [ec] at e
        cases e
        exact ⟨_, hc', by obtain ⟨o, ho, hd⟩ := z; exact ⟨o, hk _ _ ho, hd⟩⟩
  · obtain ⟨v, o, ho, hd⟩ := I.cell y c (S.cell_of h)
    exact ⟨v, o, hk _ _ ho, hd⟩
  · have hp' : p ∈ X.pn ++ pins := by simpa [cxComp] using hp
    obtain ⟨e, n, ne, nf, d⟩ := I.pin p hp'
    refine ⟨hk _ _ e, n, Nat.ne_of_lt (Heap.lt_size e), fun z => ?_, d⟩
    rcases List.mem_cons.mp (I.stkSub p.1 z) with q | q
    · exact ne q
    · exact nf q
  · show (none :: frv js σ).length = (x :: fv).length
    have : fv.length = js.length := Paired.length S.sl
    simp [frv, this]
/-- the block ends: all but its own names -/
theorem comp_end {pins pins' : List (Addr × Obj)} {σ σ' : St} {H H' : Hp} {s s' : Shared} {h'' : Heap} {ex : List Addr} {N : List Str} {pn : List (Addr × Obj)} (I : Inv X pins σ H s) (hf : ∀ b ∈ ex, FpOk X pins H b)
    (J : Inv (cxComp X scope cl s.heap.objs.size N s H ex pn) pins' σ' H' s') (sb : Heap.SameBut s.heap.objs.size s'.heap h'') : Inv X pins σ H' { s' with heap := h'' } := by
  have neC : ∀ b o, s.heap.get? b = some o → b ≠ s.heap.objs.size := fun b o e => Nat.ne_of_lt (Heap.lt_size e)
  have u : Un (frs X.stack) ex H H' s.heap s'.heap := J.base
  have fr : H' s.heap.objs.size = none := J.free
  refine I.call' (s' := { s' with heap := h'' }) (ch := ex) J.os ⟨fun b o e n hb hx => ?_, fun b o e n hb hx => ?_, u.free, fun b o e hx => ?_, u.tups, u.frzs, u.tbls⟩ (fun b o e => ?_) J.bare (fun b hb => ?_)
  · exact (sb.2 b (neC b o e)).trans (u.keep b o e n hb hx)
  · obtain ⟨sl, q⟩ := u.slot b o e n hb hx
    exact ⟨sl, (sb.2 b (neC b o e)).trans q⟩
  · obtain ⟨o', q⟩ := u.there b o e hx
    exact ⟨o', (sb.2 b (neC b o e)).trans q⟩
  · refine (J.hok b o e).stay (fun c v hc q => (sb.2 c ?_).trans q) (fun _ q => q) fun _ _ q => q
    rcases hc with rfl | hc
    · intro z; rw [z, fr] at e; cases e
    · intro z; rw [z, fr] at hc; cases hc
  · obtain ⟨f0, f1, f2, f3, f4, f5⟩ := hf b hb
    exact ⟨f3, f1, f4, f5⟩
end

/-! ### the tests of a clause -/
def PF (X : Cx) (ifs : List Expr) (t : TT) : Prop :=
  ∀ (pins : List (Addr × Obj)) (s : Shared) (σ : St) (H : Hp) (Q : Bool → Hp → Prop), Inv X pins σ H s → t σ H Q →
    wpAny (model X.prog X.w) X.A (forIn ifs true fun c r => if r = true then do let ok ← isTrue c X.env (eval c X.env); pure (ForInStep.yield ok) else pure (ForInStep.yield r)) (TP X pins σ Q) X.xe s
def tYes : TT := fun _ H Q => Q true H
theorem pf_nil {X : Cx} : PF X [] tYes := by
  intro pins s σ H Q I h
  rw [List.forIn_nil]
  exact wpAny_pure ⟨H, I, h⟩
theorem pf_one {X : Cx} {c : Expr} {t : TT} (h : PT X c t) : PF X [c] t := by
  intro pins s σ H Q I hq
  rw [List.forIn_cons]
  refine wpAny_bind ?_
  rw [if_pos rfl]
  refine wpAny_bind (thn (h pins s σ H Q I hq) fun b s1 q => wpAny_pure ?_)
  dsimp only
  rw [List.forIn_nil]
  exact wpAny_pure q

section
variable {prog : Program} {w : World} {A : Around} {R : Result → Shared → Prop} {s : Shared}
theorem compLoop_go {elt target iter : Expr} {ifs : List Expr} {scope : Scope} {pos : Pos} {it acc : Value} {env : Env} (I : Nat → Shared → Prop)
    (turn : ∀ n s, I n s → wpAny (model prog w) A (pyNext it) (fun r s₁ => match r with
      | none => R (.ok .next) s₁
      | some v => wpAny (model prog w) A (letOwnedTupleGo target it v) (fun _ s₁' => wpAny (model prog w) A (assign target env v) (fun _ s₂ =>
          wpAny (model prog w) A (forIn ifs true fun c r => if r = true then do let ok ← isTrue c env (eval c env); pure (ForInStep.yield ok) else pure (ForInStep.yield r)) (fun ok s₃ =>
            if ok = true then wpAny (model prog w) A (eval elt env) (fun x s₄ =>
              wpAny (model prog w) A (call (.builtin "list.append") [acc, x]) (fun _ s₅ => ∃ m, m < n ∧ I m s₅) (fun _ _ => False) s₄) (fun _ _ => False) s₃
            else ∃ m, m < n ∧ I m s₃) (fun _ _ => False) s₂) (fun _ _ => False) s₁') (fun _ _ => False) s₁) (fun _ _ => False) s)
    (n : Nat) (h : I n s) :
    codeAny (model prog w) A (.compLoop (.ListComp elt [⟨target, iter, ifs, 0⟩] scope pos) 0 it acc env) R s := by
  refine codeAny_loop rfl I (fun n s hI => ?_) n h
  show wpAny _ A ((compTurn (.ListComp elt [⟨target, iter, ifs, 0⟩] scope pos) 0 it acc env).onRaise (fun x => do noteFrame x env; theTreesLotGoes x)) _ _ s
  refine wpAny_noted ?_
  rw [compTurn_list]
  refine wpAny_bind (wpAny_standAt (wpAny_bind (wpAny_mono (turn n s hI) (fun r s₁ h₁ => ?_) fun _ _ h' => h'.elim)))
  cases r with
  | none => exact wpAny_pure h₁
  | some v =>
    refine wpAny_bind (wpAny_mono h₁ (fun _ s₁' h₁' => ?_) fun _ _ h' => h'.elim)
    refine wpAny_bind (wpAny_mono h₁' (fun _ s₂ h₂ => wpAny_bind (wpAny_mono h₂ (fun ok s₃ h₃ => ?_) fun _ _ h' => h'.elim)) fun _ _ h' => h'.elim)
    cases ok with
    | false => exact wpAny_pure ⟨rfl, h₃⟩
    | true =>
      exact wpAny_bind (wpAny_bind (wpAny_mono h₃ (fun x s₄ h₄ => wpAny_bind (wpAny_mono h₄ (fun _ s₅ h₅ => wpAny_pure (wpAny_pure ⟨rfl, h₅⟩)) fun _ _ h' => h'.elim)) fun _ _ h' => h'.elim))
end

/-! ### the rule -/
/-- D: the new list. W: the invariant by the turn and a measure -/
def tComp (wi : TI) (js : List Nat) (tt : TT) (te : TE) : TE := fun σ H Q => wi σ H fun J H1 => ∀ D, H1 D = none → ∃ W : Nat → Nat → Hp → Prop, (∃ m, W 0 m (upd H1 D (.lst []))) ∧ ∀ i m H, W i m H →
  (J.stop i H ∧ Q (.ref D) H) ∨ (J.go i H ∧ ∀ x H', J.yld i H x H' → tt (some x :: frv js σ) H' fun b H2 =>
    if b = true then te (some x :: frv js σ) H2 fun v H3 => ∃ xs, H3 D = some (.lst xs) ∧ xs.length < sizeLine ∧ ∃ m', m' < m ∧ W (i + 1) m' (upd H3 D (.lst (xs ++ [v])))
    else ∃ m', m' < m ∧ W (i + 1) m' H2)
theorem pe_comp {X : Cx} {elt iter : Expr} {ifs : List Expr} {x : Str} {px pos : Pos} {scope : Scope} {cl : List (Str × Addr)} {fv : List Str} {js : List Nat} {wi : TI} {tt : TT} {te : TE} (hc : X.calm = true) (hclos : closureFor scope X.env = pure cl)
    (S : CompScope X scope cl x fv js) (hi : PI X (.Name x px) iter wi)
    (ht : ∀ (C : Addr) (s₀ : Shared) (H₀ : Hp) (ex : List Addr) (pn : List (Addr × Obj)), PF (cxComp X scope cl C (x :: fv) s₀ H₀ ex pn) ifs tt)
    (he : ∀ (C : Addr) (s₀ : Shared) (H₀ : Hp) (ex : List Addr) (pn : List (Addr × Obj)), PE (cxComp X scope cl C (x :: fv) s₀ H₀ ex pn) elt te)
    (hs : ∀ x, foldedSetIterable iter X.env x = pure x := by intro _; rfl) : PE X (.ListComp elt [⟨.Name x px, iter, ifs, 0⟩] scope pos) (tComp wi js tt te) := by
  intro pins s σ H Q I h
  rw [eval_ListComp]
  refine wpAny_comprehension_free (use := none) rfl hs hclos S.kind S.nm (thn (hi pins s σ H _ I h) fun v s1 h1 => thn h1 fun itv s2 h2 => ?_)
  obtain ⟨it, fp, tn, J, H2, e, I2, T, st2, f2, hW⟩ := h2
  subst e
  have hD : H2 s2.heap.objs.size = none := I2.hok.fresh (Nat.le_refl _)
  obtain ⟨W, ⟨m0, w0⟩, turn⟩ := hW s2.heap.objs.size hD
  have lt2 : ∀ b ∈ fp, b < s2.heap.objs.size := fun b hb => by
    obtain ⟨o, e, _⟩ := T.obj _ _ st2 b hb
    exact Heap.lt_size e
  -- the new list
  refine wpAny_newObj_type (wpAny_newFunctionEnv S.nc (by intro y hy; simp at hy) (fun h₁ hns₁ hsb₁ => ?_) S.kind)
  dsimp only at hns₁ hsb₁ ⊢
  have I3 : Inv X pins σ (upd H2 s2.heap.objs.size (.lst [])) { s2 with heap := s2.heap.push { cls := .type "list", dict := none, data := .seq ([] : List Value).toArray } } := I2.lnew (t' := s2.toks) .nil (Nat.zero_le _)
  generalize hS3 : ({ s2 with heap := s2.heap.push { cls := .type "list", dict := none, data := .seq ([] : List Value).toArray } } : Shared) = s3 at I3
  have eh : s3.heap = s2.heap.push { cls := .type "list", dict := none, data := .seq ([] : List Value).toArray } := by rw [← hS3]
  rw [← eh] at hns₁ hsb₁ ⊢
  have hsz : s3.heap.objs.size = s2.heap.objs.size + 1 := by rw [eh, Heap.size_push]
  have k23 : ∀ b o, s2.heap.get? b = some o → s3.heap.get? b = some o := fun b o e => by rw [eh]; exact Heap.get?_push_of_some _ e
  have k34 : ∀ b o, s3.heap.get? b = some o → h₁.get? b = some o := fun b o e => hsb₁.extBut b o (Nat.ne_of_lt (Heap.lt_size e)) (Heap.get?_push_of_some _ e)
  have f3 : ∀ b ∈ fp, FpOk X pins (upd H2 s2.heap.objs.size (.lst [])) b := fun b hb => ⟨by rw [upd_ne (Nat.ne_of_lt (lt2 b hb))]; exact (f2 b hb).1, (f2 b hb).2⟩
  have lt3 : ∀ b ∈ fp, b < s3.heap.objs.size := fun b hb => by rw [hsz]; exact Nat.lt_succ_of_lt (lt2 b hb)
  have I4 := comp_start (tk := s3.toks) S I3 f3 lt3 (h₁ := h₁) (by simpa using hns₁) k34
  generalize hY : cxComp X scope cl s3.heap.objs.size (x :: fv) s3 (upd H2 s2.heap.objs.size (.lst [])) fp (X.pn ++ pins) = Y at I4
  have hYp : Y.prog = X.prog := by rw [← hY]; rfl
  have hYw : Y.w = X.w := by rw [← hY]; rfl
  have hYK : Y.K = X.K := by rw [← hY]; rfl
  have hYA : Y.A = X.A := by rw [← hY]; rfl
  have hYc : Y.calm = true := by rw [← hY]; exact hc
  have hYe : Y.env = compEnvC scope cl s3.heap.objs.size X.env := by rw [← hY]; rfl
  have hYx : Y.xe = fun _ _ => False := by rw [← hY]; rfl
  have hYN : Y.N = x :: fv := by rw [← hY]; rfl
  have heY : PE Y elt te := by rw [← hY]; exact he _ _ _ _ _
  have htY : PF Y ifs tt := by rw [← hY]; exact ht _ _ _ _ _
  have stat : ∀ {H' : Hp}, (∀ b ∈ fp, H' b = none) → ∀ b ∈ fp, FpOk Y [] H' b := fun {H'} hn b hb => by
    obtain ⟨g0, g1, g2, g3, g4, g5⟩ := f3 b hb
    rw [← hY]
    refine ⟨hn b hb, Nat.ne_of_lt (lt3 b hb), fun z => ?_, .inl hb, fun y c e => g4 y c (S.cell_of e), fun p hp => g5 p (by simpa [cxComp] using hp)⟩
    rcases List.mem_cons.mp (I3.stkSub b z) with q | q
    · exact g1 q
    · exact g2 q
  have fin : ∀ {i : Nat} {m : Nat} {σ' : St} {H' : Hp} {s' : Shared}, Inv Y [] σ' H' s' → Q (.ref s2.heap.objs.size) H' → compPost (model X.prog X.w) X.A X.xe none (EP X pins σ Q) (.ref s2.heap.objs.size) s3.heap.objs.size (.ok .next) s' := fun {i m σ' H' s'} J q => by
    obtain ⟨mm, hn, _⟩ := J.loc
    rw [← hY] at J hn
    refine ⟨mm, hn, fun h'' sb => ?_⟩
    exact ⟨.ref _, H', comp_end I3 f3 J sb, rfl, q⟩
  have st4 : ∀ s4 : Shared, s4 = { s3 with heap := h₁, toks := s3.toks } → tn 0 s4.heap := fun s4 e => by
    subst e
    exact T.keep _ _ _ st2 fun b hb o e => k34 b o (k23 b o e)
  have loop : codeAny (model X.prog X.w) X.A (.compLoop (.ListComp elt [⟨.Name x px, iter, ifs, 0⟩] scope pos) 0 (.ref it) (.ref s2.heap.objs.size) (compEnvC scope cl s3.heap.objs.size X.env))
      (compPost (model X.prog X.w) X.A X.xe none (EP X pins σ Q) (.ref s2.heap.objs.size) s3.heap.objs.size) { s3 with heap := h₁, toks := s3.toks } := by
    refine compLoop_go (fun n s' => ∃ (i : Nat) (o : Option V) (H' : Hp), Inv Y [] (o :: frv js σ) H' s' ∧ tn i s'.heap ∧ (∀ b ∈ fp, H' b = none) ∧ W i n H') ?_ m0 ⟨0, none, _, I4, st4 _ rfl, fun b hb => (f3 b hb).1, w0⟩
    rintro n s5 ⟨i, o, H5, I5, st5, fr5, w5⟩
    rcases turn i n H5 w5 with ⟨stop, q⟩ | ⟨go, step⟩
    · have r := T.done Y hYp hYw hYK hYc i [] s5 _ H5 (fun _ _ => False) I5 (stat fr5) st5 stop
      rw [hYA] at r
      refine thn r fun r s6 ⟨hr, I6⟩ => ?_
      subst hr
      exact fin (i := i) (m := n) I6 q
    · have r := T.item Y hYp hYw hYK hYc i [] s5 _ H5 (fun _ _ => False) I5 (stat fr5) st5 go
      rw [hYA] at r
      refine thn r fun r s6 ⟨u, hr, h6⟩ => ?_
      subst hr
      refine thn h6 fun _ s7 ⟨y, H7, I7, r7, y7, st7, fr7⟩ => ?_
      have I7' := I7.pinned (stat fr7) (T.obj _ _ st7)
      have hname : PG Y (.Name x px) (gName 0) := pg_name (X := Y) (i := 0) (by rw [hYN]; exact S.nd) (by rw [hYN]; rfl) (.inl (by rw [hYe]; exact lookup_relabel_local S.hx)) (.inr (by rw [hYe]; exact lookup_relabel_local S.hx))
      have r8 := hname _ s7 _ H7 y u (fun σ' H' => σ' = some y :: frv js σ ∧ H' = H7) I7' r7 ⟨rfl, rfl⟩
      rw [hYp, hYw, hYA, hYe, hYx] at r8
      refine thn r8 fun _ s8 ⟨σ8, H8, I8, e1, e2⟩ => ?_
      subst e1 e2
      have r9 := htY _ s8 _ _ _ I8 (step y _ y7)
      rw [hYp, hYw, hYA, hYe, hYx] at r9
      refine thn r9 fun b s9 ⟨H9, I9, q9⟩ => ?_
      have again : ∀ {σ' : St} {H' : Hp} {s' : Shared}, Inv Y ([] ++ pinsAt fp s7.heap) (some y :: frv js σ) H' s' → (∃ m', m' < n ∧ W (i + 1) m' H') →
          ∃ m, m < n ∧ ∃ (i : Nat) (o : Option V) (H' : Hp), Inv Y [] (o :: frv js σ) H' s' ∧ tn i s'.heap ∧ (∀ b ∈ fp, H' b = none) ∧ W i m H' := fun {σ' H' s'} K7 ⟨m', hm, w7⟩ => by
        refine ⟨m', hm, i + 1, some y, H', K7.unpinned, T.keep _ _ _ st7 fun b hb o e => (K7.pin (b, o) (List.mem_append_right _ (List.mem_append_right _ (mem_pinsAt hb e)))).1, fun b hb => ?_, w7⟩
        obtain ⟨o, e, d⟩ := T.obj _ _ st7 b hb
        exact (K7.pin (b, o) (List.mem_append_right _ (List.mem_append_right _ (mem_pinsAt hb e)))).2.1
      cases b with
      | false =>
        rw [if_neg Bool.false_ne_true] at q9 ⊢
        exact again (σ' := []) I9 q9
      | true =>
        rw [if_pos rfl] at q9 ⊢
        have r10 := heY _ s9 _ _ _ I9 q9
        rw [hYp, hYw, hYA, hYe, hYx] at r10
        refine thn r10 fun v s10 ⟨y10, H10, I10, ry, xs, hxs, hlen, m', hm, w10⟩ => ?_
        have r11 := mt_append (X := Y) _ s10 _ H10 (.ref s2.heap.objs.size) [y10] (.ref s2.heap.objs.size) [v] (fun _ H' => H' = upd H10 s2.heap.objs.size (.lst (xs ++ [y10]))) I10 rfl (.cons ry .nil) ⟨_, xs, y10, rfl, rfl, hxs, hlen, rfl⟩
        rw [hYp, hYw, hYA, hYx] at r11
        refine thn r11 fun _ s11 ⟨_, H11, I11, _, e11⟩ => ?_
        subst e11
        exact again (σ' := []) I11 ⟨m', hm, w10⟩
  have loop' : ∀ s4 : Shared, s4 = { s3 with heap := h₁, toks := s3.toks } → codeAny (model X.prog X.w) X.A (.compLoop (.ListComp elt [⟨.Name x px, iter, ifs, 0⟩] scope pos) 0 (.ref it) (.ref s2.heap.objs.size) (compEnvC scope cl s3.heap.objs.size X.env))
      (compPost (model X.prog X.w) X.A X.xe none (EP X pins σ Q) (.ref s2.heap.objs.size) s3.heap.objs.size) s4 := fun s4 e => by subst e; exact loop
  have e4 : ∀ t, t = s3.toks → ({ s3 with heap := h₁, toks := t } : Shared) = { s3 with heap := h₁, toks := s3.toks } := fun t e => by rw [e]
  have fin4 : ∀ s4 : Shared, s4 = { s3 with heap := h₁, toks := s3.toks } → codeAny (model X.prog X.w) X.A (.compStart (.ListComp elt [⟨.Name x px, iter, ifs, 0⟩] scope pos) 0 (.ref it) (.ref s2.heap.objs.size) (compEnvC scope cl s3.heap.objs.size X.env))
      (compPost (model X.prog X.w) X.A X.xe none (EP X pins σ Q) (.ref s2.heap.objs.size) s3.heap.objs.size) s4 := fun s4 e =>
    codeAny_compStart_list (loop' s4 e) (T.self X.A 0 s4 _ _ (st4 s4 e) (loop' s4 e))
  have es : ({ s2 with heap := s2.heap.push { cls := .type "list", dict := none, data := .seq ([] : List Value).toArray } } : Shared) = s3 := hS3
  refine fin4 _ ?_
  rw [← es]
  rfl
end L2
/-! EXTENSION C: exceptions of own classes: raised, passed on, caught at a call -/
namespace L2
open PySem PySem.Spec PyProof.Rows
section
variable {P : Program} {w : World} {H : Hp} {h : Heap} {a : Addr} {o : HO}
theorem ObjOk.there (x : ObjOk P w H h a o) : ∃ ob, h.get? a = some ob := by
  cases o with
  | lst xs => obtain ⟨_, _, _, _, e⟩ := x; exact ⟨_, e⟩
  | tup xs => obtain ⟨_, _, _, ob, e, _⟩ := x; exact ⟨_, e⟩
  | dK kvs => obtain ⟨_, _, _, _, o, _, _, e, _⟩ := x; exact ⟨_, e⟩
  | dT kvs => obtain ⟨_, _, _, _, o, _, _, e, _⟩ := x; exact ⟨_, e⟩
  | set S n => obtain ⟨o, _, _, _, e, _⟩ := x; exact ⟨_, e⟩
  | ins C dx fs => obtain ⟨_, _, _, e, _⟩ := x; exact ⟨_, e⟩
  | own y => exact x
  | xd fs => obtain ⟨_, ⟨_, _, _, e, _⟩, _⟩ := x; exact ⟨_, e⟩
  | rng lo hi => obtain ⟨_, _, _, e⟩ := x; exact ⟨_, e⟩
  | frz ob u => obtain ⟨e, _⟩ := x; exact ⟨_, e⟩
  | tbl ps => exact ⟨_, (show h.get? a = some _ from x)⟩
  | met f y => exact ⟨_, (show h.get? a = some _ from x)⟩
  | ext φ => obtain ⟨_, e, _⟩ := x; exact e
end
/-- what is kept while an exception flies over the frames l (h, H: ahead of the call; B: all that stood at the raise but the frames) -/
structure FliesB (P : Program) (w : World) (l : List Env) (H H' : Hp) (h h' B : Heap) : Prop where
  inB : ∀ b o, h.get? b = some o → b ∉ frs l → ∃ o1, B.get? b = some o1 ∧ (H b = none → o1 = o)
  trk : ∀ b u, H' b = some u → ∃ o, B.get? b = some o
  st : B.StaysIn h'
  fr : ∀ b ∈ frs l, H b = none ∧ ∃ o, h.get? b = some o ∧ ∀ vs, o.data ≠ .fields vs
  slot : ∀ b o, h.get? b = some o → b ∈ frs l → ∃ sl, h'.get? b = some { o with slots := sl }
  free : ∀ b o, h.get? b = some o → H b = none → H' b = none
  tups : ∀ b xs, H b = some (.tup xs) → H' b = some (.tup xs)
  frzs : ∀ b o u, H b = some (.frz o u) → H' b = some (.frz o u)
  tbls : ∀ b ps, H b = some (.tbl ps) → ∃ more, H' b = some (.tbl (ps ++ more))
  hok : HOk P w H' h'
section
variable {P : Program} {w : World} {l : List Env} {H H' : Hp} {h h' h'' B : Heap}
theorem FliesB.step (F : FliesB P w l H H' h h' B) (st : B.StaysIn h'') (up : h'.UpToSlots h'') : FliesB P w l H H' h h'' B := by
  refine ⟨F.inB, F.trk, st, F.fr, fun b o e hb => ?_, F.free, F.tups, F.frzs, F.tbls, fun b u e => ?_⟩
  · obtain ⟨sl, e1⟩ := F.slot b o e hb
    obtain ⟨_, o', e', nd⟩ := F.fr b hb
    rw [e] at e'
    cases e'
    obtain ⟨sl2, e2⟩ := up b _ e1 nd
    exact ⟨sl2, e2⟩
  · refine (F.hok b u e).stay (fun c v hc q => ?_) (fun _ q => q) fun _ _ q => q
    obtain ⟨u', hu'⟩ : ∃ u', H' c = some u' := by
      rcases hc with z | z
      · rw [z]; exact ⟨u, e⟩
      · exact ⟨_, z⟩
    obtain ⟨o2, e2⟩ := F.trk c u' hu'
    have e3 := F.st c o2 e2
    rw [q] at e3
    cases e3
    exact st c _ e2
theorem FliesB.un (F : FliesB P w l H H' h h' B) : Un (frs l) [] H H' h h' where
  keep := fun b o e n hb _ => by
    obtain ⟨o1, e1, z⟩ := F.inB b o e hb
    rw [z n] at e1
    exact F.st b o e1
  slot := fun b o e _ hb _ => F.slot b o e hb
  free := fun b o e n _ => F.free b o e n
  there := fun b o e _ => by
    by_cases hb : b ∈ frs l
    · obtain ⟨sl, e1⟩ := F.slot b o e hb
      exact ⟨_, e1⟩
    · obtain ⟨o1, e1, _⟩ := F.inB b o e hb
      exact ⟨o1, F.st b o1 e1⟩
  tups := F.tups
  frzs := F.frzs
  tbls := F.tbls
end
/-- an exception of the class cls lies behind a call -/
def CXe (P : Program) (w : World) : CXT := fun outer H s E e s' => ∃ (a : Addr) (cls : Value) (H' : Hp) (B : Heap) (a0 : Value), e = .ref a ∧ s'.os = s.os ∧ AllBare s'.gens ∧ s.heap.get? a = none ∧ H' a = none ∧
  FliesB P w outer H H' s.heap s'.heap B ∧ Heap.FlyingW B outer a cls a0 s'.heap ∧ E cls none H'
theorem CXe.none {P : Program} {w : World} {outer : List Env} {H : Hp} {s : Shared} {e : Value} {s' : Shared} (h : CXe P w outer H s (fun _ _ _ => False) e s') : False := by
  obtain ⟨_, _, _, _, _, _, _, _, _, _, _, _, q⟩ := h
  exact q
/-! ### a def that may raise -/
section
variable {P : Program} {w : World} {K : PySem.W.Frag} {mg : Str → Option Value} {base : Heap}
end
section
variable {P : Program} {w : World} {K : PySem.W.Frag} {mg : Str → Option Value} {base : Heap} {N : List Str} {qual : Str} {scope : Scope} {f : Addr} {cd : Value} {A : Around} {outer : List Env} {s : Shared} {H : Hp} {E : XK}
/-- an own class of exceptions, as the top has made it -/
structure ExcC (K : PySem.W.Frag) (x : Str) (C : Addr) : Prop where
  ns : PySem.W.nsIn K mainGlobals x = some (some (.ref C))
  ex : PySem.W.excIn K C [.type "ValueError", .type "Exception", .type "BaseException", .type "object"] "ValueError.__new__" = true
/-- raise C(e) -/
def tRaise (C : Addr) (E : XK) (te : TE) : TS := fun _ σ H => te σ H fun _ H1 => E (.ref C) none H1
end
end L2
/-! EXTENSION D: a call in a try, its exception caught by an own class; isinstance of what was caught -/
namespace L2
open PySem PySem.Spec PyProof.Rows
/-- within an except suite -/
def cxMark (X : Cx) (a : Addr) : Cx := { X with A := X.A.mark (some (.ref a)), calm := false, xe := fun _ _ => False }
/-- an exception that was caught -/
def ExcAt (a : Addr) (cls : Value) (h : Heap) : Prop := ∃ o vs, h.get? a = some o ∧ o.cls = cls ∧ o.data = .fields vs
def excO (a : Addr) (cls : Value) : HO := .ext (ExcAt a cls)
section
variable {X : Cx} {pins : List (Addr × Obj)} {σ : St} {H : Hp} {s : Shared} {a : Addr}
theorem Cx.Ok.mark (ok : X.Ok) (a : Addr) : (cxMark X a).Ok :=
  ⟨ok.mod, ok.kind, ok.glob, ok.blt, ok.above, ok.inj, ok.has, ok.cab, fun z => absurd (show false = true from z) Bool.false_ne_true, ok.frames, ok.stk, ok.exf, ok.bs, ok.bsz, ok.noex, ok.exfs, ok.funs, ok.frf⟩
theorem Inv.mark (I : Inv X pins σ H s) (a : Addr) : Inv (cxMark X a) pins σ H s := ⟨I.ok.mark a, I.os, I.bare, I.base, I.loc, I.cell, I.free, I.freeC, I.pin, I.hok, I.len⟩
end

/-! ### try: f(..) except C as n: suite -/
/-- the wish of a suite: behind it the name in slot i is gone -/
def tTry1 (K : PySem.W.Frag) (sp : Sp) (t : TA) (Dc : Addr) (i : Nat) (ts : TS) : TS := fun D σ H => t σ H fun vs H1 => sp (vs ++ []) H1 (fun _ H2 => D.nx σ H2) fun cls _ H2 =>
  PySem.W.exmOne K cls (.ref Dc) = some true ∧ ∀ a, H2 a = none → ts { nx := fun σ' H' => D.nx (σ'.set i none) H', rt := fun _ _ => False } (σ.set i (some (.ref a))) (upd H2 a (excO a cls))
/-! ### isinstance of an exception that was caught -/
section
open Builtin Builtin.ObjectAttr Builtin.Getset_descriptor
variable {prog : Program} {w : World} {A : Around} {E : Value → Shared → Prop} {s : Shared} {K : PySem.W.Frag} {a C : Addr} {o : Obj}
/-- what an own class of exceptions must have -/
structure ExcK (K : PySem.W.Frag) (C : Addr) : Prop where
  cl : (PySem.W.clsIn K C).isSome = true
  ga : PySem.W.findIn K (.ref C) "__getattribute__" = some (some (.builtin "BaseException.__getattribute__"))
  gh : PySem.W.findIn K (.ref C) "__getattr__" = some none
  at_ : PySem.W.findIn K (.ref C) "__class__" = some (some (.builtin "object.__class__"))
  ob : PySem.W.mroIn K C (.type "object") = some true
  be : PySem.W.mroIn K C (.type "BaseException") = some true
end
end L2
/-! EXTENSION E: isinstance of an exception that was caught -/
namespace L2
open PySem PySem.Spec PyProof.Rows
section
open Builtin Builtin.ObjectAttr Builtin.Getset_descriptor PySem.W
variable {prog : Program} {w : World} {A : Around} {E : Value → Shared → Prop} {s : Shared} {K : PySem.W.Frag} {a C : Addr} {o : Obj}
end
section
variable {X : Cx}
/-- isinstance(e, D), isinstance(e, (D, ..)) of an exception that was caught -/
def rIsE (K : PySem.W.Frag) : List V → Hp → VK → Prop := fun xs H Q => ∃ (a C : Addr) (c : V) (b : Bool), xs = [.ref a, c] ∧ H a = some (excO a (.ref C)) ∧ ExcK K C ∧ Q (.bl b) H ∧
  ((∃ u, RelV c u ∧ (∀ i, c ≠ .int i) ∧ (∀ i, c ≠ .str i) ∧ (∀ i, c ≠ .byt i) ∧ (∀ i, c ≠ .flt i) ∧ PySem.W.kitOne K (.ref C) u = some b) ∨ ∃ p cs us, c = .ref p ∧ H p = some (.tup cs) ∧ Vals cs us ∧ (∀ vs, Vals cs vs → vs = us) ∧ PySem.W.kitAny K (.ref C) us = some b)
end
end L2
/-! EXTENSION F0: argument lists by the head's kind (a generic rfl, not one over the whole text) -/
namespace L2
open PySem PySem.Spec PyProof.Rows
section
variable {X : Cx} {es : List Expr} {te : TE} {t : TA} {pos : Pos}
theorem pa_consT {a0 : List Expr} {a1 : Nat} (ha : PE X (Expr.Tuple a0 a1 pos) te) (hr : PA X es t) : PA X ((Expr.Tuple a0 a1 pos) :: es) (tCons te t) := pa_cons ha hr rfl
theorem pa_consB {a0 : Expr} {a1 : Operator} {a2 : Expr} (ha : PE X (Expr.BinOp a0 a1 a2 pos) te) (hr : PA X es t) : PA X ((Expr.BinOp a0 a1 a2 pos) :: es) (tCons te t) := pa_cons ha hr rfl
theorem pa_consC {a0 : Expr} {a1 : List Expr} {a2 : List Keyword} (ha : PE X (Expr.Call a0 a1 a2 pos) te) (hr : PA X es t) : PA X ((Expr.Call a0 a1 a2 pos) :: es) (tCons te t) := pa_cons ha hr rfl
theorem pa_consN {a0 : Str} (ha : PE X (Expr.Name a0 pos) te) (hr : PA X es t) : PA X ((Expr.Name a0 pos) :: es) (tCons te t) := pa_cons ha hr rfl
theorem pa_consK {a0 : Const} {a1 : Nat} (ha : PE X (Expr.Constant a0 a1 pos) te) (hr : PA X es t) : PA X ((Expr.Constant a0 a1 pos) :: es) (tCons te t) := pa_cons ha hr rfl
theorem pa_consS {a0 : Expr} {a1 : Expr} (ha : PE X (Expr.Subscript a0 a1 pos) te) (hr : PA X es t) : PA X ((Expr.Subscript a0 a1 pos) :: es) (tCons te t) := pa_cons ha hr rfl
theorem pa_consM {a0 : Expr} {a1 : List CmpOp} {a2 : List Expr} (ha : PE X (Expr.Compare a0 a1 a2 pos) te) (hr : PA X es t) : PA X ((Expr.Compare a0 a1 a2 pos) :: es) (tCons te t) := pa_cons ha hr rfl
theorem pa_consH {a0 : Expr} {a1 : List Comprehension} {a2 : Scope} (ha : PE X (Expr.ListComp a0 a1 a2 pos) te) (hr : PA X es t) : PA X ((Expr.ListComp a0 a1 a2 pos) :: es) (tCons te t) := pa_cons ha hr rfl
end
end L2
/-! EXTENSION F1: a power of two written numbers, a sum and a difference -/
namespace L2
open PySem PySem.Spec PyProof.Rows
section
variable {X : Cx}
abbrev rPow : R2 := rI CPow fun i j => .int (i ^ j.toNat)
abbrev rSubI : R2 := rI0 fun i j => .int (i - j)
end
end L2
/-! EXTENSION F: texts -/
namespace L2
open PySem PySem.Spec PyProof.Rows
/-! ### a walk over a text's signs -/
def Its (z : Str) : It := ⟨fun i _ => i < z.cps.size, fun i H x H' => H' = H ∧ ∃ c, z.cps[i]? = some c ∧ x = .str ⟨#[c]⟩, fun i _ => i = z.cps.size⟩
section
variable {X : Cx} {tg : Expr}
def iStr (tl : TE) : TI := fun σ H R => tl σ H fun x H1 => ∃ z, x = .str z ∧ R (Its z) H1
end

/-! ### all of a list of truths -/
theorem range_all_getD : ∀ (bs : List Bool), (List.range bs.length).all (fun i => bs.getD i true) = bs.all id
  | [] => rfl
  | b :: bs => by
    have ih := range_all_getD bs
    rw [List.length_cons, List.range_succ_eq_map, List.all_cons, List.all_map, List.all_cons]
    simp only [List.getD_cons_zero, id]
    rw [← ih]
    rfl
theorem Vals.bools : ∀ {bs : List Bool} {us : List Value} {i : Nat} {v : Value}, Vals (bs.map V.bl) us → us[i]? = some v → v = .bool (bs.getD i true)
  | [], _, _, _, .nil, e => by simp at e
  | b :: bs, _, 0, _, .cons r _, e => by
    have e' := Option.some.inj e
    subst e'
    exact r
  | b :: bs, _, i + 1, v, .cons _ t, e => by
    have := Vals.bools (i := i) (v := v) t (by simpa using e)
    simpa using this
section
variable {X : Cx}
theorem call_all (hc : X.calm = true) : CallR X (.builtin "all") (fun xs H Q => ∃ (p : Addr) (bs : List Bool), xs = [.ref p] ∧ SqL X.K H p (bs.map V.bl) ∧ Q (.bl (bs.all id)) H) := by
  intro pins s σ H xs us Q I r h
  obtain ⟨p, bs, rfl, hq, q⟩ := h
  obtain ⟨u, rfl, rx⟩ := vals1 r
  cases rx
  obtain ⟨its, rv, pl, hz⟩ := I.list hq
  have hl := rv.length
  rw [List.length_map] at hl
  have hlt : p < s.heap.objs.size := by obtain ⟨o, e, _⟩ := pl.isList; exact Heap.lt_size e
  have hne : p ≠ s.heap.objs.size := Nat.ne_of_lt hlt
  refine call_all_walk (wpAny_pyIter_list pl.isList ⟨s.heap.objs.size, [s.heap.objs.size, p], [s.heap.objs.size], its.toArray.size, _, _, fun i => bs.getD i true, rfl,
    Walks.list (A := X.A.in1) (show X.A.in1.handled = none from I.ok.hd hc) s.heap.objs.size p hne its.toArray, ⟨⟨_, Heap.get?_push_size _ rfl, rfl, rfl⟩, pl.isList.at fun o e => Heap.get?_push_of_some _ e⟩, ?_, fun h' tk kk => ?_⟩)
  · intro i v s' Q' E' hP hQ
    have e := Vals.bools rv (show its[i]? = some v by simpa using hP)
    subst e
    exact wpAny_truthy_bool hQ
  · have hsz : its.toArray.size = bs.length := by rw [List.size_toArray, ← hl]
    rw [hsz, range_all_getD]
    exact ⟨.bl _, H, I.kept fun b o e => kk b o (by simp; exact Nat.ne_of_lt (Heap.lt_size e)) (Heap.get?_push_of_some _ e), rfl, q⟩
theorem boot_all : bootBuiltins "all" = some (.builtin "all") := by decide +kernel

/-! ### f-strings -/
def PJ (X : Cx) (es : List Expr) (t : Str → TE) : Prop :=
  ∀ (acc : Str) (pins : List (Addr × Obj)) (s : Shared) (σ : St) (H : Hp) (Q : VK), Inv X pins σ H s → t acc σ H Q → wpAny (model X.prog X.w) X.A (joinParts acc (evalEach es X.env)) (EP X pins σ Q) X.xe s
def jNil : Str → TE := fun acc _ H Q => acc.length ≤ sizeLine ∧ Q (.str acc) H
def jStr (y : Str) (t : Str → TE) : Str → TE := fun acc σ H Q => (acc ++ y).length ≤ sizeLine ∧ t (acc ++ y) σ H Q
/-- what a value's place in an f-string is filled with -/
def FmtOf : V → Str → Prop
  | .str z, y => y = z ∧ z.length ≤ sizeLine
  | .int i, y => y = toString i ∧ i.natAbs.log2 < 1920
  | _, _ => False
def jFmt (te : TE) (t : Str → TE) : Str → TE := fun acc σ H Q => te σ H fun x H1 => ∃ y, FmtOf x y ∧ (acc ++ y).length ≤ sizeLine ∧ t (acc ++ y) σ H1 Q
def tFmt1 (te : TE) : TE := fun σ H Q => te σ H fun x H1 => ∃ y, FmtOf x y ∧ Q (.str y) H1
/-! ### methods of texts -/
theorem Vals.strs : ∀ {ts : List Str} {us : List Value}, Vals (ts.map V.str) us → ∃ l : List (Str × Tok), us = strValues l ∧ l.map (·.1) = ts
  | [], _, .nil => ⟨[], rfl, rfl⟩
  | t :: ts, _, .cons r h => by
    obtain ⟨l, e1, e2⟩ := Vals.strs h
    obtain ⟨tk, e⟩ := r
    subst e
    exact ⟨(t, tk) :: l, by rw [e1]; rfl, by rw [List.map_cons, e2]⟩
/-! ### slices of texts, int(text), is True -/
def rSlS : V → Option Int → Option Int → Hp → VK → Prop := fun x lo hi H Q => ∃ z, x = .str z ∧ z.length ≤ sizeLine ∧ Q (.str (Txt.slice z lo hi)) H
/-! ### within a comprehension's block -/
theorem ixc_tup {scope : Scope} {cl : List (Str × Addr)} {C : Addr} {N : List Str} {s₀ : Shared} {H₀ : Hp} {ex : List Addr} {pn : List (Addr × Obj)} : IxR (cxComp X scope cl C N s₀ H₀ ex pn) (rIxT X.K) := ix_tup

/-! ### != of two lists of flat items -/
def rNeL (K : PySem.W.Frag) : R2 := fun x y H Q => ∃ a b xs ys, x = .ref a ∧ y = .ref b ∧ SqL K H a xs ∧ SqL K H b ys ∧ xs.all flatV = true ∧ ys.all flatV = true ∧ Q (.bl (!eqVs xs ys)) H
end
end L2
/-! EXTENSION I: == of tuples whose items are flat or tuples of flat ones; None in a list of tuples; a call of a function that was picked -/
namespace L2
open PySem PySem.Spec PyProof.Rows
def eqL {α : Type} (f : α → α → Bool) : List α → List α → Bool
  | [], [] => true
  | x :: xs, y :: ys => f x y && eqL f xs ys
  | _, _ => false
def eqLat {α : Type} (f : α → α → Bool) (xs ys : List α) (j : Nat) : Bool := match xs[j]?, ys[j]? with
  | some x, some y => f x y
  | _, _ => false
theorem eqL_range {α : Type} (f : α → α → Bool) : ∀ (xs ys : List α), ((List.range (min xs.length ys.length)).all (eqLat f xs ys) && xs.length == ys.length) = eqL f xs ys
  | [], [] => by simp [eqL]
  | [], y :: ys => by simp [eqL]
  | x :: xs, [] => by simp [eqL]
  | x :: xs, y :: ys => by
    have ih := eqL_range f xs ys
    have hm : min (x :: xs).length (y :: ys).length = min xs.length ys.length + 1 := by simp only [List.length_cons]; omega
    rw [hm, all_range_succ]
    have h2 : (fun i => eqLat f (x :: xs) (y :: ys) (i + 1)) = eqLat f xs ys := by funext i; simp [eqLat]
    have h3 : ((x :: xs).length == (y :: ys).length) = (xs.length == ys.length) := by simp
    have h4 : eqLat f (x :: xs) (y :: ys) 0 = f x y := by simp [eqLat]
    rw [h2, h3, h4, Bool.and_assoc, ih, eqL]
/-- an item: flat, or a tuple of flat ones -/
inductive Itm where
  | fl (x : V) | tp (xs : List V)
def ItAt (H : Hp) : V → Itm → Prop
  | x, .fl y => x = y ∧ flatV y = true
  | x, .tp xs => ∃ q, x = .ref q ∧ H q = some (.tup xs) ∧ xs.all flatV = true
def eqItm : Itm → Itm → Bool
  | .fl x, .fl y => eqV x y
  | .tp xs, .tp ys => eqVs xs ys
  | _, _ => false
section
variable {X : Cx} {pins : List (Addr × Obj)} {σ : St} {H : Hp} {s : Shared}
/-- t == u -/
def rEqN (neg : Bool) : R2 := fun x y H Q => ∃ a b xs ys is js, x = .ref a ∧ y = .ref b ∧ H a = some (.tup xs) ∧ H b = some (.tup ys) ∧ Paired (ItAt H) xs is ∧ Paired (ItAt H) ys js ∧ Q (.bl (if neg then !eqL eqItm is js else eqL eqItm is js)) H
theorem paired_at {α β : Type} {F : α → β → Prop} : ∀ {xs : List α} {ys : List β}, Paired F xs ys → ∀ {j : Nat} {x : α}, xs[j]? = some x → ∃ y, ys[j]? = some y ∧ F x y
  | _, _, .nil, _, _, e => by simp at e
  | _, _, .cons r _, 0, _, e => by simp at e; subst e; exact ⟨_, rfl, r⟩
  | _, _, .cons _ t, j + 1, x, e => by
    obtain ⟨y, h1, h2⟩ := paired_at t (j := j) (x := x) (by simpa using e)
    exact ⟨y, by simpa using h1, h2⟩
/-- None in a list of tuples -/
def rInN : R2 := fun x y H Q => ∃ p us, x = .non ∧ y = .ref p ∧ H p = some (.lst us) ∧ (∀ u ∈ us, ∃ q xs, u = .ref q ∧ H q = some (.tup xs)) ∧ Q (.bl false) H
theorem vals_mem : ∀ {xs : List V} {us : List Value}, Vals xs us → ∀ u ∈ us, ∃ x ∈ xs, RelV x u
  | _, _, .nil, u, hu => by cases hu
  | _, _, .cons r t, u, hu => by
    rcases List.mem_cons.mp hu with rfl | hu
    · exact ⟨_, List.mem_cons_self .., r⟩
    · obtain ⟨x, hx, rx⟩ := vals_mem t u hu
      exact ⟨x, List.mem_cons_of_mem _ hx, rx⟩
/-- f(e, ..), f a value -/
def tCallV (tf : TE) (ok : Addr → Sp → Prop) (t : TA) : TE := fun σ H Q => tf σ H fun x H1 => ∃ f sp, x = .ref f ∧ ok f sp ∧ t σ H1 fun vs H2 => sp (vs ++ []) H2 Q E0
theorem pe_callV {fe e : Expr} {es : List Expr} {tf : TE} {t : TA} {pos : Pos} {ok : Addr → Sp → Prop} (hf : PE X fe tf)
    (hok : ∀ f sp, ok f sp → ∃ k fd ps, FnOk X.prog X.w X.K X.mg X.base CX0 k f fd ps sp ∧ Room k X.A ∧ PySem.W.keepIn X.K (.ref f) = true ∧ Binds X.K fd ps []) (ha : PA X (e :: es) t)
    (hc : eval (.Call fe (e :: es) [] pos) X.env = (do callWith pos (← eval fe X.env) [] (backTo pos (starEach (e :: es) X.env)) (backToKw pos (keywordEach [] X.env))) := by rfl)
    (he : starEach (e :: es) X.env = (false, eval e X.env) :: starEach es X.env := by rfl) (hpl : (backTo pos (starEach es X.env)).any (·.1) = false := by rfl) : PE X (.Call fe (e :: es) [] pos) (tCallV tf ok t) := by
  intro pins s σ H Q I h
  refine Call_ (thn (hf pins s σ H _ I h) fun v s1 ⟨x, H1, I1, rx, f, sp, ex, ho, q⟩ => ?_) hc
  subst ex
  cases rx
  obtain ⟨k, fd, ps, F, hr, hk, hb⟩ := hok f sp ho
  refine PySem.W.callWith_K (h₀ := X.base) I1.ok.mod.kin hk (thn (ha pos pins s1 σ H1 _ I1 q) fun us s2 ⟨vs, H2, I2, r, q2⟩ => ⟨I2.kIn, ?_⟩) he hpl
  exact run_fn F hr hb .nil pass0 I2 r q2
end
end L2
/-! EXTENSION J: name = [.. for ..] (the value is stored ahead of the block's end) -/
namespace L2
open PySem PySem.Spec PyProof.Rows
end L2
/-! EXTENSION H: a text times an int, a tuple of one item times 2 -/
namespace L2
open PySem PySem.Spec PyProof.Rows
section
variable {X : Cx}
def rMulS : R2 := fun x y H Q => ∃ z n, x = .str z ∧ y = .int n ∧ MulOk z n ∧ Q (.str (Txt.mul z n)) H
def rDbl : R2 := fun x y H Q => ∃ t v, x = .ref t ∧ y = .int 2 ∧ H t = some (.tup [v]) ∧ ∀ p, H p = none → Q (.ref p) (upd H p (.tup [v, v]))
end
end L2
/-! EXTENSION G: dicts (the guide's own part, given to be pasted) -/
namespace L2
open PySem PySem.Spec PyProof.Rows
/-! ### lists of pairs as tables -/
section
variable {κ : Type} [DecidableEq κ]
def valV (kvs : List (κ × V)) (k : κ) : Option V := (kvs.find? fun kv => decide (kv.1 = k)).map (·.2)
/-- in its place, or at the end -/
def putK (kvs : List (κ × V)) (k : κ) (v : V) : List (κ × V) :=
  if (kvs.any fun kv => decide (kv.1 = k)) = true then kvs.map (fun kv => if kv.1 = k then (kv.1, v) else kv) else kvs ++ [(k, v)]
def dropK (kvs : List (κ × V)) (k : κ) : List (κ × V) := kvs.filter fun kv => decide (kv.1 ≠ k)

theorem valV_pos {p : κ × V} {r : List (κ × V)} {k : κ} (e : p.1 = k) : valV (p :: r) k = some p.2 := by simp [valV, List.find?_cons, e]
theorem valV_neg {p : κ × V} {r : List (κ × V)} {k : κ} (e : ¬ p.1 = k) : valV (p :: r) k = valV r k := by simp [valV, List.find?_cons, e]
theorem valV_any (k : κ) : ∀ kvs : List (κ × V), (kvs.any fun kv => decide (kv.1 = k)) = (valV kvs k).isSome
  | [] => rfl
  | p :: r => by
    rw [List.any_cons]
    by_cases e : p.1 = k
    · simp only [valV_pos e, decide_eq_true e, Bool.true_or, Option.isSome_some]
    · rw [valV_neg e, decide_eq_false e, Bool.false_or]; exact valV_any k r
theorem RelO.isSome_eq {o : Option V} {u : Option Value} (r : RelO o u) : o.isSome = u.isSome := by
  cases o with
  | none => cases u with
    | none => rfl
    | some _ => exact (show False from r).elim
  | some _ => cases u with
    | none => exact (show False from r).elim
    | some _ => rfl
theorem RelO.getD {o : Option V} {u : Option Value} {d : V} {d' : Value} (r : RelO o u) (rd : RelV d d') : RelV (o.getD d) (u.getD d') := by
  cases o with
  | none => cases u with
    | none => exact rd
    | some _ => exact (show False from r).elim
  | some _ => cases u with
    | none => exact (show False from r).elim
    | some _ => exact r

/-- raw tables of the same keys -/
theorem KV.val {kvs : List (κ × V)} {vs : List (κ × Value)} (r : KV kvs vs) (k : κ) : RelO (valV kvs k) (valueAt vs k) := by
  unfold KV at r
  induction r with
  | nil => exact True.intro
  | @cons p q ps qs h t ih =>
    obtain ⟨h1, h2⟩ := h
    by_cases e : p.1 = k
    · have e' : q.1 = k := h1.symm.trans e
      have b : valueAt (q :: qs) k = some q.2 := by simp [valueAt, List.find?_cons, e']
      rw [valV_pos e, b]; exact h2
    · have e' : ¬ q.1 = k := fun z => e (h1.trans z)
      have b : valueAt (q :: qs) k = valueAt qs k := by simp [valueAt, List.find?_cons, e']
      rw [valV_neg e, b]; exact ih
theorem KV.any {kvs : List (κ × V)} {vs : List (κ × Value)} (r : KV kvs vs) (k : κ) : (kvs.any fun kv => decide (kv.1 = k)) = vs.any fun kv => decide (kv.1 = k) := by
  unfold KV at r
  induction r with
  | nil => rfl
  | cons h t ih => rw [List.any_cons, List.any_cons, ih, h.1]
theorem KV.repl {kvs : List (κ × V)} {vs : List (κ × Value)} (r : KV kvs vs) (k : κ) {y : V} {u : Value} (ry : RelV y u) :
    KV (kvs.map fun kv => if kv.1 = k then (kv.1, y) else kv) (vs.map fun kv => if kv.1 = k then (kv.1, u) else kv) := by
  unfold KV at r ⊢
  induction r with
  | nil => exact .nil
  | @cons p q ps qs h t ih =>
    rw [List.map_cons, List.map_cons]
    refine .cons ?_ ih
    obtain ⟨h1, h2⟩ := h
    by_cases e : p.1 = k
    · rw [if_pos e, if_pos (h1.symm.trans e)]; exact ⟨h1, ry⟩
    · rw [if_neg e, if_neg (fun z => e (h1.trans z))]; exact ⟨h1, h2⟩
theorem KV.put {kvs : List (κ × V)} {vs : List (κ × Value)} (r : KV kvs vs) (k : κ) {y : V} {u : Value} (ry : RelV y u) : KV (putK kvs k y) (stored vs k u) := by
  unfold putK stored
  rw [r.any k]
  by_cases e : (vs.any fun kv => decide (kv.1 = k)) = true
  · rw [if_pos e, if_pos e]; exact r.repl k ry
  · rw [if_neg e, if_neg e]; exact Paired.snoc r ⟨rfl, ry⟩
theorem KV.drop {kvs : List (κ × V)} {vs : List (κ × Value)} (r : KV kvs vs) (k : κ) : KV (dropK kvs k) (without vs k) := by
  unfold KV at r ⊢
  unfold dropK without
  induction r with
  | nil => exact .nil
  | @cons p q ps qs h t ih =>
    obtain ⟨h1, h2⟩ := h
    rw [List.filter_cons, List.filter_cons]
    by_cases e : p.1 = k
    · have a : ¬ decide (p.1 ≠ k) = true := by simp [e]
      have b : ¬ decide (q.1 ≠ k) = true := by simp [h1.symm.trans e]
      rw [if_neg a, if_neg b]; exact ih
    · have e' : ¬ q.1 = k := fun z => e (h1.trans z)
      have a : decide (p.1 ≠ k) = true := by simp [e]
      have b : decide (q.1 ≠ k) = true := by simp [e']
      rw [if_pos a, if_pos b]; exact .cons ⟨h1, h2⟩ ih
theorem KV.keys {kvs : List (κ × V)} {vs : List (κ × Value)} (r : KV kvs vs) : kvs.map (·.1) = vs.map (·.1) := by
  unfold KV at r
  induction r with
  | nil => rfl
  | cons h t ih => rw [List.map_cons, List.map_cons, ih, h.1]
theorem KV.length {kvs : List (κ × V)} {vs : List (κ × Value)} (r : KV kvs vs) : kvs.length = vs.length := Paired.length r
end


/-! ### a tracked dict, its keys ints and texts or tuples of these -/
theorem kV_is {P : Program} {w : World} {k : Key} {u : Value} (r : RelV (kV k) u) : (mixKind P w).is k u = true := by
  cases k with
  | inl i => obtain ⟨t, e⟩ := (show ∃ t, u = Value.int i t from r); subst e; exact mixKind_int P w i t
  | inr x => obtain ⟨t, e⟩ := (show ∃ t, u = Value.str x t from r); subst e; exact mixKind_str P w x t
/-- raw entries of a dict with tuple keys -/
abbrev KT (H : Hp) : List (List Key × V) → List (List Key × Addr × Value) → Prop := Paired fun p q => p.1 = q.1 ∧ H q.2.1 = some (.tup (p.1.map kV)) ∧ RelV p.2 q.2.2
theorem KT.val {H : Hp} {kvs : List (List Key × V)} {xs : List (List Key × Addr × Value)} (r : KT H kvs xs) (k : List Key) : RelO (valV kvs k) ((atKey xs k).map (·.2)) := by
  induction r with
  | nil => exact True.intro
  | @cons p q ps qs h t ih =>
    obtain ⟨h1, _, h2⟩ := h
    by_cases e : p.1 = k
    · have e' : q.1 = k := h1.symm.trans e
      have b : atKey (q :: qs) k = some q.2 := by simp [atKey, List.find?_cons, e']
      rw [valV_pos e, b]; exact h2
    · have e' : ¬ q.1 = k := fun z => e (h1.trans z)
      have b : atKey (q :: qs) k = atKey qs k := by simp [atKey, List.find?_cons, e']
      rw [valV_neg e, b]; exact ih
theorem KT.repl {H : Hp} {kvs : List (List Key × V)} {xs : List (List Key × Addr × Value)} (r : KT H kvs xs) (k : List Key) {y : V} {u : Value} (ry : RelV y u) :
    KT H (kvs.map fun kv => if kv.1 = k then (kv.1, y) else kv) (xs.map (putAt k u)) := by
  induction r with
  | nil => exact .nil
  | @cons p q ps qs h t ih =>
    rw [List.map_cons, List.map_cons]
    refine .cons ?_ ih
    obtain ⟨h1, h2, h3⟩ := h
    unfold putAt
    by_cases e : p.1 = k
    · rw [if_pos e, if_pos (h1.symm.trans e)]; exact ⟨h1, h2, ry⟩
    · rw [if_neg e, if_neg (fun z => e (h1.trans z))]; exact ⟨h1, h2, h3⟩
theorem KT.put {H : Hp} {kvs : List (List Key × V)} {xs : List (List Key × Addr × Value)} (r : KT H kvs xs) (k : List Key) {b : Addr} {y : V} {u : Value} (hb : H b = some (.tup (k.map kV))) (ry : RelV y u) :
    KT H (putK kvs k y) (storedH xs k b u) := by
  have e : (kvs.any fun kv => decide (kv.1 = k)) = (atKey xs k).isSome := by
    rw [valV_any, (r.val k).isSome_eq, Option.isSome_map]
  unfold putK storedH
  rw [e]
  by_cases q : (atKey xs k).isSome = true
  · rw [if_pos q, if_pos q]; exact r.repl k ry
  · rw [if_neg q, if_neg q]; exact Paired.snoc r ⟨rfl, hb, ry⟩
theorem KT.keeps {H H' : Hp} {kvs : List (List Key × V)} {xs : List (List Key × Addr × Value)} (r : KT H kvs xs) (ht : ∀ b ys, H b = some (.tup ys) → H' b = some (.tup ys)) : KT H' kvs xs :=
  Paired.mapP r fun _ _ z => ⟨z.1, ht _ _ z.2.1, z.2.2⟩

section
variable {P : Program} {w : World} {H : Hp} {h : Heap} {a : Addr}
end

/-- what the dict at a holds at the key y -/
def DGet (H : Hp) (a : Addr) (y : V) (r : Option V) : Prop :=
  (∃ kvs k, Rd H a (.dK kvs) ∧ y = kV k ∧ r = valV kvs k) ∨ ∃ kvs k b, Rd H a (.dT kvs) ∧ y = .ref b ∧ H b = some (.tup (k.map kV)) ∧ r = valV kvs k
/-- the heap behind a[y] = v -/
def DPut (H : Hp) (a : Addr) (y v : V) (H' : Hp) : Prop :=
  (∃ kvs k, H a = some (.dK kvs) ∧ y = kV k ∧ kvs.length < sizeLine ∧ H' = upd H a (.dK (putK kvs k v))) ∨
  ∃ kvs k b, H a = some (.dT kvs) ∧ y = .ref b ∧ H b = some (.tup (k.map kV)) ∧ kvs.length < sizeLine ∧ H' = upd H a (.dT (putK kvs k v))
theorem DGet.k {H : Hp} {a : Addr} {kvs : List (Key × V)} {k : Key} (e : H a = some (.dK kvs)) : DGet H a (kV k) (valV kvs k) := .inl ⟨kvs, k, .inl e, rfl, rfl⟩
theorem DGet.t {H : Hp} {a b : Addr} {kvs : List (List Key × V)} {k : List Key} (e : H a = some (.dT kvs)) (eb : H b = some (.tup (k.map kV))) : DGet H a (.ref b) (valV kvs k) := .inr ⟨kvs, k, b, .inl e, rfl, eb, rfl⟩
theorem DPut.k {H : Hp} {a : Addr} {kvs : List (Key × V)} {k : Key} {v : V} (e : H a = some (.dK kvs)) (hl : kvs.length < sizeLine) : DPut H a (kV k) v (upd H a (.dK (putK kvs k v))) := .inl ⟨kvs, k, e, rfl, hl, rfl⟩
theorem DPut.t {H : Hp} {a b : Addr} {kvs : List (List Key × V)} {k : List Key} {v : V} (e : H a = some (.dT kvs)) (eb : H b = some (.tup (k.map kV))) (hl : kvs.length < sizeLine) :
    DPut H a (.ref b) v (upd H a (.dT (putK kvs k v))) := .inr ⟨kvs, k, b, e, rfl, eb, hl, rfl⟩


section
variable {X : Cx} {pins : List (Addr × Obj)} {σ : St} {H : Hp} {s : Shared} {a : Addr} {y v : V} {u r : Value} {o : Option V} {A : Around} {E : Value → Shared → Prop}

end

section
variable {X : Cx} {pins : List (Addr × Obj)} {σ : St} {H : Hp} {s : Shared} {a : Addr} {kvs : List (Key × V)} {k : Key} {u : Value} {A : Around} {E : Value → Shared → Prop}
end


/-! ### readings and rules -/
/-- the element of a subscription, not a slice -/
def NoSl (i : Expr) : Prop := ∀ ov iv, subscripted i false ov iv = operate [ov, iv] (getItem ov iv)
/-- d[y] -/
def tDGet (td ty : TE) : TE := fun σ H Q => td σ H fun x H1 => ty σ H1 fun y H2 => ∃ a v, x = .ref a ∧ DGet H2 a y (some v) ∧ Q v H2
/-- y in d, y not in d -/
def tDIn (ty td : TE) : TE := fun σ H Q => ty σ H fun y H1 => td σ H1 fun x H2 => ∃ a o, x = .ref a ∧ DGet H2 a y o ∧ Q (.bl o.isSome) H2
def tDNotIn (ty td : TE) : TE := fun σ H Q => ty σ H fun y H1 => td σ H1 fun x H2 => ∃ a o, x = .ref a ∧ DGet H2 a y o ∧ Q (.bl (!o.isSome)) H2
/-- d[y] = v -/
def sDPut (td ty tv : TE) : TS := fun D σ H => tv σ H fun v H1 => td σ H1 fun x H2 => ty σ H2 fun y H3 => ∃ a H4, x = .ref a ∧ DPut H3 a y v H4 ∧ D.nx σ H4
/-- d[y] op= v -/
def sDAug (td ty tv : TE) (rd : V → V → Hp → VK → Prop) : TS := fun D σ H => td σ H fun x H1 => ty σ H1 fun y H2 => ∃ a v, x = .ref a ∧ DGet H2 a y (some v) ∧
  tv σ H2 fun y2 H3 => rd v y2 H3 fun z H4 => ∃ H5, DPut H4 a y z H5 ∧ D.nx σ H5
/-- del d[y] -/
def sDDel (td ty : TE) : TS := fun D σ H => td σ H fun x H1 => ty σ H1 fun y H2 => ∃ a kvs k, x = .ref a ∧ H2 a = some (.dK kvs) ∧ y = kV k ∧ (valV kvs k).isSome = true ∧ D.nx σ (upd H2 a (.dK (dropK kvs k)))

section
variable {X : Cx} {o i e value : Expr} {pos pos' tpos : Pos} {td ty tv : TE}
end


/-! ### displays -/
/-- {}, to be a dict of the kind that is wanted -/
def tDNewK : TE := fun _ H Q => ∀ p, H p = none → Q (.ref p) (upd H p (.dK []))
def tDNewT : TE := fun _ H Q => ∀ p, H p = none → Q (.ref p) (upd H p (.dT []))
section
variable {X : Cx} {pos : Pos}
end

end L2
/-! EXTENSION K: a dict whose keys are tuples is walked (it is frozen from then on) -/
namespace L2
open PySem PySem.Spec PyProof.Rows
section
variable {P : Program} {w : World} {A : Around} {E : Value → Shared → Prop} {s : Shared} {d it : Addr} {o : Obj} {es : Array DictEntry} {ep i : Nat}
/-- an exact dict, entry by entry -/
structure RawD (h : Heap) (d : Addr) (o : Obj) (es : Array DictEntry) (ep : Nat) : Prop where
  at_ : h.get? d = some o
  ex : o.ExactDict
  data : o.data = .dict es ep
theorem RawD.ty (x : RawD s.heap d o es ep) : s.TypeIs (.ref d) "dict" := ⟨o, x.at_, x.ex.1⟩
end
section
variable {X : Cx} {tg : Expr} {pins : List (Addr × Obj)} {σ : St} {H : Hp} {s : Shared}
/-- the keys of the dict at a, frozen as o -/
def Itd (a : Addr) (o : Obj) : It :=
  ⟨fun i H => ∃ kvs, H a = some (.frz o (.dT kvs)) ∧ i < kvs.length,
   fun i H x H' => H' = H ∧ ∀ kvs, H a = some (.frz o (.dT kvs)) → ∃ ks v b, kvs[i]? = some (ks, v) ∧ x = .ref b ∧ H b = some (.tup (ks.map kV)),
   fun i H => ∃ kvs, H a = some (.frz o (.dT kvs)) ∧ kvs.length ≤ i⟩
def iDT (tl : TE) : TI := fun σ H R => tl σ H fun x H1 => ∃ a kvs, x = .ref a ∧ H1 a = some (.dT kvs) ∧ ∀ o, R (Itd a o) (upd H1 a (.frz o (.dT kvs)))
end
section
variable {P : Program} {w : World} {A : Around} {E : Value → Shared → Prop} {s : Shared} {d : Addr} {o : Obj} {es : Array DictEntry} {ep : Nat}
end
section
variable {X : Cx}
/-- a list of any items against an empty one -/
def rNeE (K : PySem.W.Frag) : R2 := fun x y H Q => ∃ a b xs, x = .ref a ∧ y = .ref b ∧ SqL K H a xs ∧ SqL K H b [] ∧ Q (.bl (!xs.isEmpty)) H
end
end L2
namespace StrT
open PySem PySem.W PyProof.Rows
/-! sorting by a plain order: what the tree of questions comes to -/
section
variable {N : Nat} {lt : Nat → Nat → Bool}
def Wp {α : Type} (N : Nat) (lt : Nat → Nat → Bool) : KasT α → (α → Prop) → Prop
  | .ret a, P => P a
  | .ask i j k, P => i < N ∧ j < N ∧ Wp N lt (k (lt i j)) P
theorem Wp.mono {α : Type} {P P' : α → Prop} (hp : ∀ a, P a → P' a) : ∀ {t : KasT α}, Wp N lt t P → Wp N lt t P'
  | .ret a, h => hp a h
  | .ask _ _ _, h => ⟨h.1, h.2.1, Wp.mono hp h.2.2⟩
theorem Wp.bind {α β : Type} {f : α → KasT β} {P : β → Prop} : ∀ {t : KasT α}, Wp N lt t (fun a => Wp N lt (f a) P) → Wp N lt (t.bind f) P
  | .ret _, h => h
  | .ask _ _ _, h => ⟨h.1, h.2.1, Wp.bind h.2.2⟩

/-- a plain order: `le a b` is `lt b a = false` -/
structure Ord (lt : Nat → Nat → Bool) : Prop where
  tr : ∀ a b c, lt b a = false → lt c b = false → lt c a = false
  as : ∀ a b, lt a b = true → lt b a = false
theorem Ord.rf (o : Ord lt) (a : Nat) : lt a a = false := by
  cases h : lt a a with
  | false => rfl
  | true => exact (o.as a a h).symm ▸ h.symm ▸ h

def gg (p : Array Nat) (i : Nat) : Nat := p.getD i 0
def Up (lt : Nat → Nat → Bool) (p : Array Nat) (k : Nat) : Prop := ∀ i j, i ≤ j → j < k → lt (gg p j) (gg p i) = false
def Dn (lt : Nat → Nat → Bool) (p : Array Nat) (k : Nat) : Prop := ∀ i j, i ≤ j → j < k → lt (gg p i) (gg p j) = false
/-- what stays over all steps -/
structure Bs (N : Nat) (p₀ p : Array Nat) : Prop where
  sz : p.size = N
  bd : ∀ i, gg p i < N
  pm : p.Perm p₀

/-- the last q + 1 ahead of n are alike -/
def Eqs (lt : Nat → Nat → Bool) (p : Array Nat) (n q : Nat) : Prop := q + 1 ≤ n ∧ ∀ i j, n - (q + 1) ≤ i → i < n → n - (q + 1) ≤ j → j < n → lt (gg p i) (gg p j) = false
end
end StrT
/-! EXTENSION S: sorted of a list of pairs, enumerate, == and != of lists of pairs and of lists of such lists -/
namespace L2
open PySem PySem.Spec PyProof.Rows
/-- the order of pairs -/
def plt (p q : Int × Int) : Bool := if p.1 = q.1 then decide (p.2 < q.2) else decide (p.1 < q.1)
def PairAt (h : Heap) (v : Value) (p : Int × Int) : Prop := ∃ a t u, v = .ref a ∧ IsTup h a #[.int p.1 t, .int p.2 u]
theorem PairAt.inj {h : Heap} {v : Value} {p q : Int × Int} (x : PairAt h v p) (y : PairAt h v q) : p = q := by
  obtain ⟨a1, t1, u1, rfl, o1, h1, _, n1, d1⟩ := x
  obtain ⟨a2, t2, u2, e2, o2, h2, _, n2, d2⟩ := y
  cases e2
  rw [h1] at h2
  cases h2
  rw [d1] at d2
  injection d2 with e1 _
  obtain ⟨p1, p2⟩ := p
  obtain ⟨q1, q2⟩ := q
  simp at e1
  rw [e1.1.1, e1.2.1]
abbrev Rise (ps : List (Int × Int)) : Prop := ps.Pairwise fun p q => plt q p = false
section
variable {P : Program} {w : World} {A : Around} {E : Value → Shared → Prop} {s : Shared}
end
/-- a pair of whole numbers, as a tuple -/
def PrV (H : Hp) (v : V) (p : Int × Int) : Prop := ∃ b, v = .ref b ∧ H b = some (.tup [.int p.1, .int p.2])
abbrev Prs (H : Hp) (vs : List V) (ps : List (Int × Int)) : Prop := Paired (PrV H) vs ps
section
variable {X : Cx} {pins : List (Addr × Obj)} {σ : St} {H : Hp} {s : Shared}
theorem PrV.raw (I : Inv X pins σ H s) {v : V} {u : Value} {p : Int × Int} (rv : RelV v u) (x : PrV H v p) : PairAt s.heap u p := by
  obtain ⟨b, rfl, hb⟩ := x
  cases rv
  obtain ⟨its, r, pl, _⟩ := I.tuple (SqT.of hb)
  cases r with
  | cons r1 r =>
    cases r with
    | cons r2 r =>
      cases r
      obtain ⟨t, rfl⟩ := r1
      obtain ⟨u, rfl⟩ := r2
      exact ⟨b, t, u, rfl, pl⟩
theorem paired_via {α β γ : Type} {F : α → β → Prop} {G : α → γ → Prop} {K : β → γ → Prop} (f : ∀ a b c, F a b → G a c → K b c) : ∀ {xs : List α} {ys : List β} {zs : List γ}, Paired F xs ys → Paired G xs zs → Paired K ys zs
  | _, _, _, .nil, .nil => .nil
  | _, _, _, .cons r t, .cons r' t' => .cons (f _ _ _ r r') (paired_via f t t')
/-- sorted(l), l a list of pairs -/
def rSorted (K : PySem.W.Frag) : List V → Hp → VK → Prop := fun xs H Q => ∃ a vs ps, xs = [V.ref a] ∧ SqL K H a vs ∧ Prs H vs ps ∧ vs.length < 64 ∧ ∀ l vs' ps', H l = none → Prs H vs' ps' → ps'.Perm ps → Rise ps' → Q (.ref l) (upd H l (.lst vs'))
/-! ### enumerate -/
def Ite (K : PySem.W.Frag) (a : Addr) : It :=
  ⟨fun i H => ∃ xs x, SqL K H a xs ∧ xs[i]? = some x, fun i H y H' => ∃ x b, (∀ xs, SqL K H a xs → xs[i]? = some x) ∧ H b = none ∧ y = .ref b ∧ H' = upd H b (.tup [.int i, x]), fun i H => ∃ xs, SqL K H a xs ∧ xs.length ≤ i⟩
def iEnum (K : PySem.W.Frag) (ta : TA) : TI := fun σ H R => ta σ H fun vs H1 => ∃ a, vs = [V.ref a] ∧ (∃ xs, SqL K H1 a xs) ∧ R (Ite K a) H1
/-! ### == and != of lists of pairs -/
end
theorem eqL_dec {γ : Type} [DecidableEq γ] : ∀ (ps qs : List γ), eqL (fun p q => decide (p = q)) ps qs = decide (ps = qs)
  | [], [] => by simp [eqL]
  | [], _ :: _ => by simp [eqL]
  | _ :: _, [] => by simp [eqL]
  | p :: ps, q :: qs => by rw [eqL, eqL_dec ps qs]; simp [Bool.decide_and]
section
variable {A : Around} {s : Shared}
theorem eqAt_pairA (hA : A.units < cLine) {u v : Value} {p q : Int × Int} (hx : PairAt s.heap u p) (hy : PairAt s.heap v q) : SeqAt.EqAt A s u v (decide (p = q)) := by
  obtain ⟨a, t, u, rfl, ha⟩ := hx
  obtain ⟨b, t', u', rfl, hb⟩ := hy
  by_cases e : a = b
  · subst e
    obtain ⟨o, h1, h1', n, h2⟩ := ha
    obtain ⟨o', h3, h3', n', h4⟩ := hb
    have z : p = q := PairAt.inj ⟨a, t, u, rfl, o, h1, h1', n, h2⟩ ⟨a, t', u', rfl, o', h3, h3', n', h4⟩
    rw [decide_eq_true z]
    exact SeqAt.EqAt.same _
  · have rc := SeqAt.RcAt.tuples (A := A) (s := s) (e := fun j => if j = 0 then p.1 == q.1 else p.2 == q.2) (show s.heap.IsTuple a _ from ha) (show s.heap.IsTuple b _ from hb) hA (fun j h1 h2 => ?_)
    · have z : ((List.range (min (#[Value.int p.1 t, Value.int p.2 u] : Array Value).size (#[Value.int q.1 t', Value.int q.2 u'] : Array Value).size)).all (fun j => if j = 0 then p.1 == q.1 else p.2 == q.2) && (#[Value.int p.1 t, Value.int p.2 u] : Array Value).size == (#[Value.int q.1 t', Value.int q.2 u'] : Array Value).size) = decide (p = q) := by
        show ((List.range 2).all (fun j => if j = 0 then p.1 == q.1 else p.2 == q.2) && true) = _
        cases p; cases q
        rw [Bool.eq_iff_iff]
        simp [List.range_succ]
      rw [z] at rc
      exact SeqAt.EqAt.of_refs e rc
    · match j, h1, h2 with
      | 0, _, _ => exact SeqAt.EqAt.int_int _ _ _ _
      | 1, _, _ => exact SeqAt.EqAt.int_int _ _ _ _
      | j + 2, h1, _ => exact absurd h1 (by show ¬ j + 2 < 2; omega)
theorem lists_at {γ : Type} [DecidableEq γ] {G : Value → γ → Prop} {us vs : List Value} {ps qs : List γ} (rx : Paired G us ps) (ry : Paired G vs qs) (he : ∀ u v p q, G u p → G v q → SeqAt.EqAt A.in1 s u v (decide (p = q))) :
    ∀ j (h1 : j < us.toArray.size) (h2 : j < vs.toArray.size), SeqAt.EqAt A.in1 s us.toArray[j] vs.toArray[j] (eqLat (fun p q => decide (p = q)) ps qs j) := by
  intro j h1 h2
  rw [List.size_toArray] at h1 h2
  obtain ⟨p, hp, gp⟩ := paired_at rx (j := j) (x := us[j]) (List.getElem?_eq_getElem _)
  obtain ⟨q, hq, gq⟩ := paired_at ry (j := j) (x := vs[j]) (List.getElem?_eq_getElem _)
  have e : eqLat (fun p q => decide (p = q)) ps qs j = decide (p = q) := by unfold eqLat; rw [hp, hq]
  rw [e]
  exact he _ _ _ _ gp gq
theorem lists_rc {γ : Type} [DecidableEq γ] {G : Value → γ → Prop} {a b : Addr} {us vs : List Value} {ps qs : List γ} (hl : s.heap.IsList a us.toArray) (hb : s.heap.IsList b vs.toArray) (hu : A.units < cLine) (rx : Paired G us ps) (ry : Paired G vs qs)
    (he : ∀ u v p q, G u p → G v q → SeqAt.EqAt A.in1 s u v (decide (p = q))) : SeqAt.RcAt A s (.ref a) (.ref b) (decide (ps = qs)) ∧ SeqAt.RcNeAt A s (.ref a) (.ref b) (!decide (ps = qs)) := by
  have l1 : us.length = ps.length := Paired.length rx
  have l2 : vs.length = qs.length := Paired.length ry
  have hv := eqL_range (fun p q => decide (p = q)) ps qs
  rw [eqL_dec] at hv
  by_cases hs : us.length = vs.length
  · have hsz : us.toArray.size = vs.toArray.size := by rw [List.size_toArray, List.size_toArray]; exact hs
    have e : min ps.length qs.length = us.length := by omega
    have e2 : (ps.length == qs.length) = true := by simp; omega
    rw [e, e2, Bool.and_true] at hv
    have x1 := SeqAt.RcAt.lists hl hb hsz hu (lists_at rx ry he)
    have x2 := SeqAt.RcNeAt.lists hl hb hsz hu (lists_at rx ry he)
    rw [List.size_toArray, hv] at x1 x2
    exact ⟨x1, x2⟩
  · have hne : (us.toArray.size != vs.toArray.size) = true := by
      rw [List.size_toArray, List.size_toArray]
      simp; omega
    have z : decide (ps = qs) = false := by
      apply decide_eq_false
      intro e
      subst e
      exact hs (by omega)
    rw [z]
    exact ⟨SeqAt.RcAt.lists_lengths hl hb hne hu, SeqAt.RcNeAt.lists_lengths hl hb hne hu⟩
end
section
variable {X : Cx} {pins : List (Addr × Obj)} {σ : St} {H : Hp} {s : Shared}
theorem Prs.raw (I : Inv X pins σ H s) {vs : List V} {us : List Value} {ps : List (Int × Int)} (rv : Vals vs us) (r : Prs H vs ps) : Paired (PairAt s.heap) us ps := paired_via (F := RelV) (G := PrV H) (K := PairAt s.heap) (fun _ _ _ x y => PrV.raw I x y) rv r
/-- a list of pairs -/
def LsV (K : PySem.W.Frag) (H : Hp) (v : V) (ps : List (Int × Int)) : Prop := ∃ a vs, v = .ref a ∧ SqL K H a vs ∧ Prs H vs ps
theorem op_eqP (hu : X.A.units + 1 < cLine) : OpR X (compareOp .Eq) (fun x y H Q => ∃ ps qs, LsV X.K H x ps ∧ LsV X.K H y qs ∧ Q (.bl (decide (ps = qs))) H) := by
  intro pins s σ H x y v u Q I rx ry h
  obtain ⟨ps, qs, ⟨a, xs, rfl, ha, hx⟩, ⟨b, ys, rfl, hb, hy⟩, q⟩ := h
  cases rx
  cases ry
  obtain ⟨its, r1, p1, _⟩ := I.list ha
  obtain ⟨its2, r2, p2, _⟩ := I.list hb
  exact (lists_rc p1.isList p2.isList (Nat.lt_of_succ_lt hu) (Prs.raw I r1 hx) (Prs.raw I r2 hy) fun _ _ _ _ g1 g2 => eqAt_pairA hu g1 g2).1 X.prog X.w X.xe _ ⟨.bl _, H, I, rfl, q⟩
end
end L2
/-! EXTENSION U: a list comprehension whose target is two names; sum of a list of ints; a list from behind -/
namespace L2
open PySem PySem.Spec PyProof.Rows
structure CompScope2 (X : Cx) (scope : Scope) (cl : List (Str × Addr)) (x y : Str) (fv : List Str) (js : List Nat) : Prop where
  S : CompScope X scope cl x fv js
  hy : scope.names.lookup y = some .local
  nd : (x :: y :: fv).Nodup
section
variable {X : Cx} {scope : Scope} {cl : List (Str × Addr)} {x y : Str} {fv : List Str} {js : List Nat}
end
/-! ### the rule -/
/-- D: the new list. W: the invariant by the turn and a measure -/
def tComp2 (wi : TI) (g : TG) (js : List Nat) (tt : TT) (te : TE) : TE := fun σ H Q => wi σ H fun J H1 => ∀ D, H1 D = none → ∃ W : Nat → Nat → Hp → Prop, (∃ m, W 0 m (upd H1 D (.lst []))) ∧ ∀ i m H, W i m H →
  (J.stop i H ∧ Q (.ref D) H) ∨ (J.go i H ∧ ∀ x H' o1 o2, J.yld i H x H' → g x (o1 :: o2 :: frv js σ) H' fun σ2 H4 => (∃ v1 v2, σ2 = some v1 :: some v2 :: frv js σ) ∧ tt σ2 H4 fun b H2 =>
    if b = true then te σ2 H2 fun v H3 => ∃ xs, H3 D = some (.lst xs) ∧ xs.length < sizeLine ∧ ∃ m', m' < m ∧ W (i + 1) m' (upd H3 D (.lst (xs ++ [v])))
    else ∃ m', m' < m ∧ W (i + 1) m' H2)
/-! ### sum of a list of ints -/
section
variable {X : Cx}
/-! ### a list from behind -/
def tRev (K : PySem.W.Frag) (te : TE) (tk : TO) : TE := fun σ H Q => te σ H fun x H1 => tk σ H1 fun k H2 => k = some (-1) ∧ ∃ a xs, x = .ref a ∧ SqL K H2 a xs ∧ ∀ p, H2 p = none → Q (.ref p) (upd H2 p (.lst xs.reverse))
theorem vals_rev {xs : List V} {us : List Value} (r : Vals xs us) : Vals xs.reverse us.reverse := by
  induction r with
  | nil => exact .nil
  | cons r _ ih =>
    rw [List.reverse_cons, List.reverse_cons]
    exact Vals.append ih (.cons r .nil)
end
end L2
/-! EXTENSION V: dict displays, d.get (the guide's own part, given to be pasted) -/
namespace L2
open PySem PySem.Spec PyProof.Rows
/-- the pairs of a display, from the left -/
def tPairs : List (TE × TE) → St → Hp → (List (V × V) → Hp → Prop) → Prop
  | [], _, H, Q => Q [] H
  | (tk, tv) :: r, σ, H, Q => tk σ H fun x H1 => tv σ H1 fun y H2 => tPairs r σ H2 fun ps H3 => Q ((x, y) :: ps) H3
abbrev VV : List (V × V) → List (Value × Value) → Prop := Paired fun p q => RelV p.1 q.1 ∧ RelV p.2 q.2
def PPs (X : Cx) (pos : Pos) (keys : List (Option Expr)) (values : List Expr) (trs : List (TE × TE)) : Prop :=
  ∀ (pins : List (Addr × Obj)) (s : Shared) (σ : St) (H : Hp) (Q : List (V × V) → Hp → Prop), Inv X pins σ H s → tPairs trs σ H Q →
    wpAny (model X.prog X.w) X.A (evalPairs (pairTrees keys values X.env pos)) (fun vs s' => ∃ ps H', Inv X pins σ H' s' ∧ VV ps vs ∧ Q ps H') X.xe s
def mergeK (kvs more : List (Key × V)) : List (Key × V) := more.foldl (fun acc kv => putK acc kv.1 kv.2) kvs
/-- {k: v, ..} with keys ints and texts; the new dict stands empty while the pairs are made -/
def tDisp (trs : List (TE × TE)) : TE := fun σ H Q => ∀ p, H p = none → tPairs trs σ (upd H p (.dK [])) fun ps H2 => H2 p = some (.dK []) ∧ ∃ kvs : List (Key × V), ps = kvs.map (fun kv => (kV kv.1, kv.2)) ∧ kvs.length ≤ 15 ∧ Q (.ref p) (upd H2 p (.dK (mergeK [] kvs)))
/-! ### methods -/
/-- a method call o.m(e) of a built-in, with one argument: what must be seen of the text -/
structure M1 (X : Cx) (o : Expr) (m : Str) (apos : Pos) (e : Expr) (cpos : Pos) : Prop where
  base : attributeBase o m X.env (eval o X.env) = eval o X.env
  few : ((backTo cpos (starEach [e] X.env)).all (fun x => !x.1) && (backToKw cpos (keywordEach [] X.env)).all (fun x => x.1.isSome)
    && decide (([e] : List Expr).length + ([] : List Keyword).length + (if ([] : List Keyword).isEmpty then 0 else 1) < 30)) = true
  line : (apos.endLine == cpos.line) = true
  trees : backTo cpos (starEach [e] X.env) = [(false, eval e X.env)]
structure M2 (X : Cx) (o : Expr) (m : Str) (apos : Pos) (e f : Expr) (cpos : Pos) : Prop where
  base : attributeBase o m X.env (eval o X.env) = eval o X.env
  few : ((backTo cpos (starEach [e, f] X.env)).all (fun x => !x.1) && (backToKw cpos (keywordEach [] X.env)).all (fun x => x.1.isSome)
    && decide (([e, f] : List Expr).length + ([] : List Keyword).length + (if ([] : List Keyword).isEmpty then 0 else 1) < 30)) = true
  line : (apos.endLine == cpos.line) = true
  trees : backTo cpos (starEach [e, f] X.env) = [(false, eval e X.env), (false, eval f X.env)]

/-- a is a dict, whatever its keys -/
def IsD (H : Hp) (a : Addr) : Prop := (∃ kvs, Rd H a (.dK kvs)) ∨ ∃ kvs, Rd H a (.dT kvs)
section
variable {X : Cx} {pins : List (Addr × Obj)} {σ : St} {H : Hp} {s : Shared} {a : Addr} {y d : V} {u r : Value} {o : Option V} {A : Around} {E : Value → Shared → Prop}
end

def tDGet1 (td ty : TE) : TE := fun σ H Q => td σ H fun x H1 => ∃ a, x = .ref a ∧ IsD H1 a ∧ ty σ H1 fun y H2 => ∃ o, DGet H2 a y o ∧ Q (o.getD .non) H2
def tDGet2 (td ty tx : TE) : TE := fun σ H Q => td σ H fun x H1 => ∃ a, x = .ref a ∧ IsD H1 a ∧ ty σ H1 fun y H2 => tx σ H2 fun z H3 => ∃ o, DGet H3 a y o ∧ Q (o.getD z) H3
/-- d.pop(k): there; d.pop(k, x): there or not -/
def tDPop1 (td ty : TE) : TE := fun σ H Q => td σ H fun x H1 => ∃ a, x = .ref a ∧ IsD H1 a ∧ ty σ H1 fun y H2 => ∃ kvs k v, H2 a = some (.dK kvs) ∧ y = kV k ∧ valV kvs k = some v ∧ Q v (upd H2 a (.dK (dropK kvs k)))
def tDPop2 (td ty tx : TE) : TE := fun σ H Q => td σ H fun x H1 => ∃ a, x = .ref a ∧ IsD H1 a ∧ ty σ H1 fun y H2 => tx σ H2 fun z H3 => ∃ kvs k, H3 a = some (.dK kvs) ∧ y = kV k ∧
  (∀ v, valV kvs k = some v → Q v (upd H3 a (.dK (dropK kvs k)))) ∧ (valV kvs k = none → Q z H3)
section
variable {X : Cx} {o e f : Expr} {apos cpos : Pos} {td ty tx : TE}
end
end L2
/-! EXTENSION W: the place of a text in a list of texts -/
namespace L2
open PySem PySem.Spec PyProof.Rows
def isTx (z : Str) : Value → Bool
  | .str y _ => y == z
  | _ => false
section
variable {X : Cx}
end
end L2
/-! EXTENSION Y: dicts among the module's constants; list.insert -/
namespace L2
open PySem PySem.Spec PyProof.Rows
/-- an entry of a dict -/
def EntOk (w : World) (kv : Key × V) (e : DictEntry) : Prop := keyIs kv.1 e.key = true ∧ e.hash = keyH w kv.1 ∧ RelV kv.2 e.val
/-- the object is a dict with these entries -/
def DicO (w : World) (o : Obj) (kvs : List (Key × V)) : Prop := o.ExactDict ∧ ∃ es ep, o.data = .dict es ep ∧ Paired (EntOk w) kvs es.toList ∧ (kvs.map (·.1)).Nodup
def KDic (w : World) (K : PySem.W.Frag) (a : Addr) (kvs : List (Key × V)) : Prop := ∃ ob, K.lookup a = some ob ∧ DicO w ob kvs ∧ (a == sysModules) = false
theorem ent_all {P : Program} {w : World} : ∀ {kvs : List (Key × V)} {es : List DictEntry}, Paired (EntOk w) kvs es → ∃ vs : List (Key × Value), KV kvs vs ∧ Pairs (mixKind P w) es vs ∧ vs.map (·.1) = kvs.map (·.1) ∧ ∀ e ∈ es, ∃ k, (mixKind P w).is k e.key = true ∧ e.hash = (mixKind P w).hash k
  | _, _, .nil => ⟨[], .nil, .nil, rfl, fun _ h => nomatch h⟩
  | (kv :: _), (e :: _), .cons r t => by
    obtain ⟨vs, h1, h2, h3, h4⟩ := ent_all (P := P) t
    obtain ⟨q1, q2, q3⟩ := r
    refine ⟨(kv.1, e.val) :: vs, .cons ⟨rfl, q3⟩ h1, .cons q1 rfl h2, by rw [List.map_cons, List.map_cons, h3], fun x hx => ?_⟩
    rcases List.mem_cons.mp hx with z | z
    · rw [z]; exact ⟨kv.1, q1, q2⟩
    · exact h4 x z
section
variable {X : Cx} {pins : List (Addr × Obj)} {σ : St} {H : Hp} {s : Shared} {a : Addr} {kvs : List (Key × V)}
theorem KDic.at (I : Inv X pins σ H s) (d : KDic X.w X.K a kvs) : ∃ vs, KV kvs vs ∧ s.heap.DictOf (mixKind X.prog X.w) a vs ∧ ∃ ob, s.heap.get? a = some ob ∧ ob.dict = none := by
  obtain ⟨ob, hk, ⟨hx, es, ep, hd, hp, hn⟩, _⟩ := d
  obtain ⟨vs, h1, h2, h3, h4⟩ := ent_all (P := X.prog) hp
  refine ⟨vs, h1, ⟨ob, es, ep, I.kIn a ob hk, hx, hd, fun e he => h4 e (Array.mem_def.mp he), h2, by rw [h3]; exact hn⟩, ob, I.kIn a ob hk, hx.2.1⟩
end
def GDic (w : World) (K : PySem.W.Frag) (mg : Str → Option Value) (x : Str) (kvs : List (Key × V)) : Prop := ∃ a, mg x = some (.ref a) ∧ KDic w K a kvs
def tGD (w : World) (K : PySem.W.Frag) (kvs : List (Key × V)) : TE := fun _ H Q => ∀ a, KDic w K a kvs → Q (.ref a) H
/-- values that are tuples -/
def GDit (w : World) (K : PySem.W.Frag) (mg : Str → Option Value) (x : Str) (kts : List (Key × List V)) : Prop := ∃ kvs, GDic w K mg x kvs ∧ Paired (fun (kv : Key × V) (kt : Key × List V) => kv.1 = kt.1 ∧ ∃ a, kv.2 = .ref a ∧ ∀ H, SqT K H a kt.2) kvs kts
def tGT2 (w : World) (K : PySem.W.Frag) (kts : List (Key × List V)) : TE := fun _ H Q => ∀ a kvs, KDic w K a kvs → Paired (fun (kv : Key × V) (kt : Key × List V) => kv.1 = kt.1 ∧ ∃ a, kv.2 = .ref a ∧ ∀ H, SqT K H a kt.2) kvs kts → Q (.ref a) H
theorem pe_gdit {X : Cx} {x : Str} {kts : List (Key × List V)} {pos : Pos} (hm : GDit X.w X.K X.mg x kts) (hg : Gl X x := by rfl) (hd : (x == ("__debug__" : Str)) = false := by decide) : PE X (.Name x pos) (tGT2 X.w X.K kts) := by
  obtain ⟨kvs, ⟨a, h, k⟩, p⟩ := hm
  intro pins s σ H Q I q
  exact ld_glob I hg h ⟨.ref a, H, I, rfl, q a kvs k p⟩ hd
section
variable {X : Cx} {o i e f : Expr} {pos apos cpos : Pos} {td ty te tf : TE}
def tKGet (w : World) (K : PySem.W.Frag) (td ty : TE) : TE := fun σ H Q => td σ H fun x H1 => ty σ H1 fun y H2 => ∃ a kvs k v, x = .ref a ∧ KDic w K a kvs ∧ y = kV k ∧ valV kvs k = some v ∧ Q v H2
def tKGet2 (w : World) (K : PySem.W.Frag) (td ty tx : TE) : TE := fun σ H Q => td σ H fun x H1 => ∃ a kvs, x = .ref a ∧ KDic w K a kvs ∧ ty σ H1 fun y H2 => tx σ H2 fun z H3 => ∃ k, y = kV k ∧ Q ((valV kvs k).getD z) H3
theorem pe_kget2 (ho : PE X o td) (he : PE X e te) (hf : PE X f tf) (m : M2 X o "get" apos e f cpos) : PE X (.Call (.Attribute o "get" apos) [e, f] [] cpos) (tKGet2 X.w X.K td te tf) := by
  intro pins s σ H Q I h
  refine wpAny_Call_method m.base m.few m.line PySem.F.plainAttrs_dict PySem.F.slot_dict_get PySem.F.type_dict_get (thn (ho pins s σ H _ I h) fun u s1 ⟨x, H1, I1, rx, a, kvs, ex, d, q1⟩ => ?_)
  subst ex
  obtain rfl : u = Value.ref a := rx
  obtain ⟨_, _, dd, ob, hob, hno⟩ := d.at I1
  refine ⟨dd.typeIs, fun b q => by cases q; exact ⟨ob, hob, hno⟩, ?_⟩
  rw [m.trees]
  refine Calls.callWith_builtin rfl (Calls.evalArgs_plain (Calls.spliced_cons (thn (he pins s1 σ H1 _ I1 q1) fun iv s2 ⟨y, H2, I2, ry, q2⟩ =>
    Calls.spliced_cons (thn (hf pins s2 σ H2 _ I2 q2) fun fv s3 ⟨z, H3, I3, rz, k, ey, q3⟩ => Calls.spliced_nil ?_))))
  subst ey
  obtain ⟨vs3, rel3, dd3, _⟩ := d.at I3
  refine call_meetsIn PySem.F.slot_dict_get dd3.typeIs PySem.F.entry_dict_get (PySem.F.args_dict_get_3 _ _ _) (meets_dict_get_default (mixKind X.prog X.w) a (kV_is ry) d.choose_spec.2.2 fv) ⟨_, dd3.mapOf, ?_⟩
  exact ⟨_, H3, I3.tok _, (rel3.val k).getD rz, q3⟩
/-- l.insert(1, y) of a list that is not empty -/
def rIns1 : V → List V → Hp → VK → Prop := fun x vs H Q => ∃ l x0 xs y, x = .ref l ∧ vs = [.int 1, y] ∧ H l = some (.lst (x0 :: xs)) ∧ xs.length + 2 ≤ sizeLine ∧ Q .non (upd H l (.lst (x0 :: y :: xs)))
end
end L2
/-! EXTENSION Z: zip of a tuple and a list -/
namespace L2
open PySem PySem.Spec PyProof.Rows
section
variable {prog : Program} {w : World} {A : Around} {E : Value → Shared → Prop} {s : Shared}
end
abbrev zT1 (h : Heap) (l1 : Addr) : Heap := h.push { cls := .type "tuple_iterator", data := .fields #[.ref l1, .int 0 0] }
abbrev zT2 (h : Heap) (l1 l2 : Addr) : Heap := (zT1 h l1).push { cls := .type "list_iterator", data := .fields #[.ref l2, .int 0 0] }
abbrev zT3 (h : Heap) (l1 l2 : Addr) : Heap := (zT2 h l1 l2).push { cls := .type "tuple", data := .seq #[.ref h.objs.size, .ref (zT1 h l1).objs.size] }
abbrev zT4 (h : Heap) (l1 l2 : Addr) : Heap := (zT3 h l1 l2).push { cls := .type "tuple", data := .seq #[.none, .none] }
abbrev zT5 (h : Heap) (l1 l2 : Addr) : Heap := (zT4 h l1 l2).push { cls := .type "zip", data := .fields #[.none, .bool false, .bool false, .ref (zT2 h l1 l2).objs.size, .ref (zT3 h l1 l2).objs.size] }
section
variable {prog : Program} {w : World} {A : Around} {E : Value → Shared → Prop} {s : Shared}
end
section
variable {X : Cx} {pins : List (Addr × Obj)} {σ : St} {H : Hp} {s : Shared} {h' : Heap}
end
def Itz (K : PySem.W.Frag) (t l : Addr) : It :=
  ⟨fun i H => ∃ xs ys x y, SqT K H t xs ∧ SqL K H l ys ∧ xs[i]? = some x ∧ ys[i]? = some y,
   fun i H v H' => ∃ x y b, (∀ xs, SqT K H t xs → xs[i]? = some x) ∧ (∀ ys, SqL K H l ys → ys[i]? = some y) ∧ H b = none ∧ v = .ref b ∧ H' = upd H b (.tup [x, y]),
   fun i H => ∃ xs ys, SqT K H t xs ∧ SqL K H l ys ∧ (xs.length ≤ i ∨ ys.length ≤ i)⟩
section
variable {X : Cx}
def iZip (K : PySem.W.Frag) (ta : TA) : TI := fun σ H R => ta σ H fun vs H1 => ∃ t l, vs = [V.ref t, V.ref l] ∧ (∃ xs, SqT K H1 t xs) ∧ (∃ ys, SqL K H1 l ys) ∧ R (Itz K t l) H1
end

/-! ### max of a list -/
section
variable {X : Cx}
end
/-! ### trees that are alike -/
inductive TrEq (H : Hp) : Nat → V → V → Prop where
  | fl {n : Nat} {x : V} (h : flatV x = true) : TrEq H n x x
  | rf {n : Nat} {a : Addr} : TrEq H n (.ref a) (.ref a)
  | tp {n : Nat} {a b : Addr} {xs ys : List V} (h1 : H a = some (.tup xs)) (h2 : H b = some (.tup ys)) (hl : xs.length = ys.length)
      (hh : ∀ (j : Nat) (u v : V), xs[j]? = some u → ys[j]? = some v → TrEq H n u v) : TrEq H (n + 1) (.ref a) (.ref b)
theorem eqV_self {x : V} (h : flatV x = true) : eqV x x = true := by
  cases x <;> first | rfl | exact absurd (show false = true from h) Bool.false_ne_true | simp [eqV]
section
variable {X : Cx} {pins : List (Addr × Obj)} {σ : St} {H : Hp} {s : Shared}
theorem range_all {n : Nat} : (List.range n).all (fun _ => true) = true := by simp
theorem tr_items (I : Inv X pins σ H s) {n : Nat} {A : Around} {xs ys : List V} {us vs : List Value} (r1 : Vals xs us) (r2 : Vals ys vs)
    (ih : ∀ (j : Nat) (u v : V), xs[j]? = some u → ys[j]? = some v → ∀ u' v', RelV u u' → RelV v v' → SeqAt.EqAt A s u' v' true) :
    ∀ j (h1 : j < us.toArray.size) (h2 : j < vs.toArray.size), SeqAt.EqAt A s us.toArray[j] vs.toArray[j] ((fun _ => true) j) := by
  intro j h1 h2
  have l1 := r1.length
  have l2 := r2.length
  rw [List.size_toArray] at h1 h2
  have ex : xs[j]? = some (xs[j]'(by omega)) := List.getElem?_eq_getElem _
  have ey : ys[j]? = some (ys[j]'(by omega)) := List.getElem?_eq_getElem _
  obtain ⟨u, hu', ru⟩ := r1.get ex
  obtain ⟨v, hv', rv⟩ := r2.get ey
  have eu : us.toArray[j]'(by simpa using h1) = u := by
    rw [List.getElem?_eq_getElem h1] at hu'
    simpa using Option.some.inj hu'
  have ev : vs.toArray[j]'(by simpa using h2) = v := by
    rw [List.getElem?_eq_getElem h2] at hv'
    simpa using Option.some.inj hv'
  rw [eu, ev]
  exact ih j _ _ ex ey u v ru rv
theorem TrEq.at (I : Inv X pins σ H s) {n : Nat} {x y : V} (h : TrEq H n x y) : ∀ {A : Around} {u v : Value}, A.units + n < cLine → RelV x u → RelV y v → SeqAt.EqAt A s u v true := by
  induction h with
  | fl hf =>
    intro A u v _ rx ry
    have := eqAt_V (A := A) (s := s) rx ry hf hf
    rw [eqV_self hf] at this
    exact this
  | rf =>
    intro A u v _ rx ry
    cases rx
    cases ry
    exact SeqAt.EqAt.same _
  | @tp n a b xs ys h1 h2 hl hh ih =>
    intro A u v hu rx ry
    cases rx
    cases ry
    by_cases e : a = b
    · subst e; exact SeqAt.EqAt.same _
    obtain ⟨its, r1, p, _⟩ := I.tuple (SqT.of h1)
    obtain ⟨its2, r2, p2, _⟩ := I.tuple (SqT.of h2)
    have rc := SeqAt.RcAt.tuples (A := A) (s := s) (e := fun _ => true) (show s.heap.IsTuple a its.toArray from p) (show s.heap.IsTuple b its2.toArray from p2) (by omega)
      (tr_items I (n := n) r1 r2 fun j u v e1 e2 u' v' ru rv => ih j u v e1 e2 (A := A.in1) (show A.units + 1 + n < cLine by omega) ru rv)
    rw [List.size_toArray, List.size_toArray, ← r1.length, ← r2.length, range_all, hl] at rc
    exact SeqAt.EqAt.of_refs e (by simpa using rc)
end
end L2
/-! EXTENSION R: list(reversed(x)), x a list -/
namespace L2
open PySem PySem.Spec PyProof.Rows
section
variable {prog : Program} {w : World} {A : Around} {E : Value → Shared → Prop} {s : Shared}
theorem lri_len : typeLookup (.type "list_reverseiterator") "__len__" = pure none := by rw [typeLookup_type, builtinLookup_eq_fast]; kernel_rfl
theorem lri_hint : typeLookup (.type "list_reverseiterator") "__length_hint__" = pure (some (.builtin "list_reverseiterator.__length_hint__")) := by rw [typeLookup_type, builtinLookup_eq_fast]; kernel_rfl
theorem hint_rev {it l : Addr} {i : Int} {Q : Bool → Shared → Prop} (hit : s.heap.IsRevIter it l i) (h : Q false s) : wpAny (model prog w) A (Builtin.List.listLengthHint (.ref it)) Q E s := by
  unfold Builtin.List.listLengthHint
  refine wpAny_bind (wpAny_specialOf hit.typeIs lri_len ?_)
  wp_delta
  refine wpAny_ite_split (fun hab => absurd hab (by decide +kernel)) (fun _ => ?_)
  refine wpAny_ite_split (fun hab => absurd hab (by decide)) (fun _ => ?_)
  refine wpAny_bind (wpAny_specialOf hit.typeIs lri_hint ?_)
  generalize hid : ("list_reverseiterator.__length_hint__" : String) = id0
  wp_delta
  rw [show splitId id0 = some ("list_reverseiterator", "__length_hint__") from by subst hid; decide +kernel]
  subst hid
  refine wpAny_bind (wpAny_isInstance (T := "list_reverseiterator") (b := true) hit.typeIs (by rw [isSubtype_type]; kernel_rfl) ?_)
  refine wpAny_ite_split (fun hab => absurd hab (by decide)) (fun _ => ?_)
  refine wpAny_ite_split (fun _ => ?_) (fun hab => absurd (by decide +kernel) hab)
  refine wpAny_ite_split (fun hab => absurd hab (by decide +kernel)) (fun _ => ?_)
  exact wpAny_pure h
end
end L2
namespace L2
open PySem PySem.Spec PyProof.Rows
section
variable {prog : Program} {w : World} {A : Around} {E : Value → Shared → Prop} {s : Shared}
theorem extend_rev {R : Result → Shared → Prop} {it l : Addr} {items : Array Value} (hh : A.handled = none) (hit : s.heap.IsRevIter it l ((items.size : Int) - 1)) (hl : s.heap.IsList l items) (hne : l ≠ it) (hn : items.size ≤ sizeLine)
    (S : Addr) (hSi : S ≠ it) (hSl : S ≠ l) (res : Value) (c₀ : Nat) (hS : s.heap.get? S = some { cls := .type "list", data := .seq #[] c₀ })
    (hR : ∀ h' tk acc' c', (∀ b o, b ≠ S → b ≠ it → s.heap.get? b = some o → h'.get? b = some o) → h'.get? S = some { cls := .type "list", dict := none, data := .seq acc' c', slots := #[] } →
      ItemsOf (fun i v => items[items.size - 1 - i]? = some v) acc' items.size → R (.ok (.ret res)) { s with heap := h', toks := tk }) :
    wpAny (model prog w) A.in1 (Builtin.List.listExtendWith (.ref S) (.ref it) res)
      (fun fin s' => match fin with | .done f => R (.ok f) s' | .again c' => c'.quiet = true ∧ codeAny (model prog w) A c' R s') (fun e s' => R (.error e) s') s := by
  have hSf : S ∉ [it, l] := fun hm => by
    rcases List.mem_cons.mp hm with e | hm
    · exact hSi e
    · exact hSl (List.mem_singleton.mp hm)
  have W := (Walks.listRev (prog := prog) (w := w) (A := A.in1) hh it l hne items).toS
  unfold Builtin.List.listExtendWith
  refine wpAny_bind (wpAny_typeOf (T := "list_reverseiterator") hit.typeIs ?_)
  have h1 : Builtin.List.listSameRef (.ref S) (.ref it) = false := by simp [Builtin.List.listSameRef, hSi]
  have h2 : (Value.type "list_reverseiterator" == Value.type "list") = false := by decide
  have h3 : (Value.type "list_reverseiterator" == Value.type "tuple") = false := by decide
  simp only [h1, h2, h3, Bool.or_false, Bool.false_eq_true, if_false]
  refine wpAny_bind (wpAny_pyIter_revIter hit ?_)
  refine wpAny_bind (wpAny_holding (hint_rev hit ?_))
  rw [if_neg (by decide +kernel)]
  have e0 : (items.size : Int) - 1 - ((0 : Nat) : Int) = (items.size : Int) - 1 := by omega
  refine wpAny_pure ⟨plainId_quiet F.plain_extend_loop _, codeAny_extend_loopS W hn S hSf res items.size 0 s #[] c₀ rfl (Nat.zero_le _) ⟨Nat.zero_le _, by rw [e0]; exact hit, hl⟩ hS (ItemsOf.nil _) fun s' acc' c' hm hS' hacc => ?_⟩
  rw [Moved.eq_with hm]
  refine hR s'.heap s'.toks acc' c' (fun b o hb hb2 e => hm.heap b o (fun hmem => ?_) e) hS' hacc
  rcases List.mem_cons.mp hmem with e' | hmem
  · exact hb e'
  · exact hb2 (List.mem_singleton.mp hmem)
theorem list_init_rev {R : Result → Shared → Prop} {it l : Addr} {items : Array Value} (hh : A.handled = none) (hit : s.heap.IsRevIter it l ((items.size : Int) - 1)) (hl : s.heap.IsList l items) (hne : l ≠ it) (hn : items.size ≤ sizeLine)
    (S : Addr) (hSi : S ≠ it) (hSl : S ≠ l) (hS : s.heap.get? S = some { cls := .type "list", data := .seq #[] })
    (hR : ∀ h' tk acc' c', (∀ b o, b ≠ S → b ≠ it → s.heap.get? b = some o → h'.get? b = some o) → h'.get? S = some { cls := .type "list", dict := none, data := .seq acc' c', slots := #[] } →
      ItemsOf (fun i v => items[items.size - 1 - i]? = some v) acc' items.size → R (.ok (.ret .none)) { s with heap := h', toks := tk }) :
    wpAny (model prog w) A.in1 (Builtin.«list.__init__» ⟨[.ref S, .ref it], []⟩)
      (fun fin s' => match fin with | .done f => R (.ok f) s' | .again c' => c'.quiet = true ∧ codeAny (model prog w) A c' R s') (fun e s' => R (.error e) s') s := by
  show wpAny _ _ (do let old ← Builtin.List.listItems (.ref S); Builtin.List.listUpdate (.ref S) (fun _ => #[]); letGo old.toList.reverse; Builtin.List.listExtendWith (.ref S) (.ref it) .none) _ _ s
  refine wpAny_bind ?_
  unfold Builtin.List.listItems
  refine wpAny_bind (wpAny_seqItems hS rfl (wpAny_pure ?_))
  show wpAny _ _ (updateSeq S (fun _ => #[]) >>= fun _ => letGo (#[] : Array Value).toList.reverse >>= fun _ => Builtin.List.listExtendWith (.ref S) (.ref it) .none) _ _ s
  refine wpAny_bind (wpAny_updateSeq hS rfl ?_)
  have hS₂ := Heap.get?_update_self (Obj.mapSeq (fun _ => (#[] : Array Value))) hS rfl
  have oth : ∀ b o, b ≠ S → s.heap.get? b = some o → (s.heap.update S (Obj.mapSeq (fun _ => (#[] : Array Value)))).get? b = some o :=
    fun b o hb e => (Heap.get?_update_other _ _ (Ne.symm hb)).trans e
  refine wpAny_bind (wpAny_letGo ?_)
  refine extend_rev hh (hit.at fun o e => oth _ o (Ne.symm hSi) e) (hl.at fun o e => oth _ o (Ne.symm hSl) e) hne hn S hSi hSl .none _ hS₂ fun h' tk acc' c' hk hS' hacc => ?_
  exact hR h' tk acc' c' (fun b o hb hb2 e => hk b o hb hb2 (oth b o hb e)) hS' hacc
theorem call_list_rev {Q : Value → Shared → Prop} {it l : Addr} {items : Array Value} (hh : A.handled = none) (hit : s.heap.IsRevIter it l ((items.size : Int) - 1)) (hl : s.heap.IsList l items) (hne : l ≠ it) (hn : items.size ≤ sizeLine)
    (hQ : ∀ h' tk acc' c', (∀ b o, b ≠ it → s.heap.get? b = some o → h'.get? b = some o) →
      h'.get? s.heap.objs.size = some { cls := .type "list", dict := none, data := .seq acc' c', slots := #[] } → ItemsOf (fun i v => items[items.size - 1 - i]? = some v) acc' items.size → Q (.ref s.heap.objs.size) { s with heap := h', toks := tk }) :
    wpAny (model prog w) A (call (.type "list") [.ref it]) Q E s := by
  refine callType_codes (Q₁ := fun obj s₁ => obj = .ref s.heap.objs.size ∧ s₁ = { s with heap := s.heap.push { cls := .type "list", data := .seq #[] } }) F.called_list (F.typeCall_list_1 _) F.entry_list_init
    (code_list_new _ ⟨rfl, rfl⟩) fun obj s₁ h₁ => ?_
  obtain ⟨rfl, rfl⟩ := h₁
  have hS : (s.heap.push { cls := .type "list", data := .seq #[] }).get? s.heap.objs.size = some { cls := .type "list", data := .seq #[] } := Heap.get?_push_size _ rfl
  have i1 : s.heap.objs.size ≠ it := by obtain ⟨o, q, _⟩ := hit; exact Nat.ne_of_gt (Heap.lt_size q)
  have i2 : s.heap.objs.size ≠ l := by obtain ⟨o, q, _⟩ := hl; exact Nat.ne_of_gt (Heap.lt_size q)
  refine ⟨⟨_, hS, rfl⟩, F.args_list_init_2 _ _, list_init_rev (A := A.in1) hh (hit.at fun o e => Heap.get?_push_of_some _ e) (hl.at fun o e => Heap.get?_push_of_some _ e) hne hn _ i1 i2 hS fun h' tk acc' c' hk hS' hacc => ?_⟩
  exact ⟨rfl, hQ h' tk acc' c' (fun b o hb e => hk b o (Nat.ne_of_lt (Heap.lt_size e)) hb (Heap.get?_push_of_some _ e)) hS' hacc⟩
end
end L2
namespace L2
open PySem PySem.Spec PyProof.Rows
theorem items_rev {its : List Value} {acc : Array Value} (h : ItemsOf (fun i v => its.toArray[its.toArray.size - 1 - i]? = some v) acc its.toArray.size) : acc = its.reverse.toArray := by
  obtain ⟨h1, h2⟩ := h
  apply Array.ext'
  rw [List.toList_toArray]
  apply List.ext_getElem?
  intro j
  have hz : acc.toList.length = its.length := by rw [Array.length_toList, h1, List.size_toArray]
  by_cases c : j < its.length
  · have hj : acc[j]? = some (acc[j]'(by rw [h1, List.size_toArray]; exact c)) := Array.getElem?_eq_getElem _
    have e := h2 j _ hj
    rw [List.getElem?_reverse c, Array.getElem?_toList, hj, ← e]
    simp
  · rw [List.getElem?_eq_none (by omega), List.getElem?_eq_none (by rw [List.length_reverse]; omega)]
section
variable {X : Cx}
def tLRev (K : PySem.W.Frag) (te : TE) : TE := fun σ H Q => te σ H fun x H1 => ∃ a xs, x = .ref a ∧ SqL K H1 a xs ∧ ∀ l, H1 l = none → Q (.ref l) (upd H1 l (.lst xs.reverse))
theorem bt_reversed : bootBuiltins "reversed" = some (.type "reversed") := by decide +kernel
theorem pe_listrev {e : Expr} {te : TE} {p p2 pos pos2 : Pos} (hc : X.calm = true) (hg : Gl X "list") (hm : X.mg "list" = none) (hv : bootBuiltins "list" = some (.type "list")) (hg2 : Gl X "reversed") (hm2 : X.mg "reversed" = none) (he : PE X e te)
    (hs : starEach [e] X.env = (false, eval e X.env) :: starEach [] X.env := by rfl) :
    PE X (.Call (.Name "list" p) [.Call (.Name "reversed" p2) [e] [] pos2] [] pos) (tLRev X.K te) := by
  intro pins s σ H Q I h
  refine wpAny_Call_Name_kw (ld_blt I hg hm hv ?_)
  refine PyProof.Rows.callWith_type1 ?_ rfl rfl
  show wpAny _ _ (spliced ((false, eval (.Call (.Name "reversed" p2) [e] [] pos2) X.env) :: backTo pos (starEach [] X.env))) _ _ s
  refine Calls.spliced_cons ?_
  refine wpAny_Call_Name_kw (ld_blt I hg2 hm2 bt_reversed ?_)
  refine PyProof.Rows.callWith_type1 ?_ hs rfl
  rw [hs]
  show wpAny _ _ (spliced ((false, eval e X.env) :: backTo pos2 (starEach [] X.env))) _ _ s
  refine Calls.spliced_cons (thn (he pins s σ H _ I h) fun u s1 ⟨x, H1, I1, r1, q1⟩ => Calls.spliced_nil ?_)
  obtain ⟨a, xs, rfl, hq, q⟩ := q1
  cases r1
  obtain ⟨its, rv, pl, hz⟩ := I1.list hq
  have hlen := rv.length
  have hl := pl.isList
  refine call_reversed_list hl (Calls.spliced_nil ?_)
  have la : a < s1.heap.objs.size := by obtain ⟨o, z, _⟩ := hl; exact Heap.lt_size z
  refine call_list_rev (items := its.toArray) (I.ok.hd hc) ⟨_, Heap.get?_push_size _ rfl, rfl, rfl⟩ (hl.at fun o z => Heap.get?_push_of_some _ z) (Nat.ne_of_lt la) (by rw [List.size_toArray]; omega) fun h' tk acc' c' hk hS' hacc => ?_
  have e := items_rev hacc
  subst e
  have hp : s1.heap.objs.size ≤ (s1.heap.push (revObj a ((its.toArray.size : Int) - 1))).objs.size := by rw [Heap.size_push]; exact Nat.le_succ _
  refine ⟨.ref _, _, I1.laid (t' := tk) (o := .lst xs.reverse) (fun b o z => hk b o (Nat.ne_of_lt (Heap.lt_size z)) (Heap.get?_push_of_some _ z)) hp ?_, rfl, q _ (I1.hok.fresh hp)⟩
  exact ⟨by rw [List.length_reverse]; exact hz, its.reverse, c', vals_rev rv, hS'⟩
end
end L2
namespace Mx
/-- the divisor with the bottom's sign -/
def dv (t b : Int) : Int := if b < 0 then -(Nat.gcd t.natAbs b.natAbs : Int) else (Nat.gcd t.natAbs b.natAbs : Int)
def lowT (t b : Int) : Int := t.fdiv (dv t b)
def lowB (t b : Int) : Int := b.fdiv (dv t b)

theorem dv_dvd_t (t b : Int) : dv t b ∣ t := by
  have h : ((Nat.gcd t.natAbs b.natAbs : Nat) : Int) ∣ t := Int.natAbs_dvd_natAbs.mp (by simpa using Nat.gcd_dvd_left t.natAbs b.natAbs)
  unfold dv; split
  · exact Int.neg_dvd.mpr h
  · exact h
theorem dv_dvd_b (t b : Int) : dv t b ∣ b := by
  have h : ((Nat.gcd t.natAbs b.natAbs : Nat) : Int) ∣ b := Int.natAbs_dvd_natAbs.mp (by simpa using Nat.gcd_dvd_right t.natAbs b.natAbs)
  unfold dv; split
  · exact Int.neg_dvd.mpr h
  · exact h
theorem fdiv_mul {t d : Int} (h : d ∣ t) : t.fdiv d * d = t := by
  obtain ⟨c, rfl⟩ := h
  by_cases hd : d = 0
  · subst hd; simp
  · rw [Int.mul_comm d c, Int.mul_fdiv_cancel _ hd]
theorem low_t (t b : Int) : lowT t b * dv t b = t := fdiv_mul (dv_dvd_t t b)
theorem low_b (t b : Int) : lowB t b * dv t b = b := fdiv_mul (dv_dvd_b t b)
/-- what is in lowest terms stays -/
structure Low (x y : Int) : Prop where
  pos : 0 < y
  cop : Nat.gcd x.natAbs y.natAbs = 1
theorem Low.dv {x y : Int} (h : Low x y) : Mx.dv x y = 1 := by
  have h1 := h.pos; have h2 := h.cop
  unfold Mx.dv; rw [if_neg (by omega), h2]; rfl
theorem Low.t {x y : Int} (h : Low x y) : lowT x y = x := by have e := low_t x y; rw [h.dv] at e; omega
theorem Low.b {x y : Int} (h : Low x y) : lowB x y = y := by have e := low_b x y; rw [h.dv] at e; omega
end Mx
namespace Mx
section
variable {a b c d e f : Int}
theorem pos2 {x y : Int} (h : 0 < x) (g : 0 < y) : 0 < x * y := Int.mul_pos h g
end
end Mx

namespace Fs
open PySem L2 Mx
/-- a def of the text: its function, its name, how its arguments bind -/
structure Df (K : PySem.W.Frag) (mg : Str → Option Value) (x : Str) (st : Stmt) (ps : List Str) (f : Addr) (fd : FuncData) : Prop where
  fn : Fun K x x st f fd
  gl : mg x = some (.ref f)
  b : Binds K fd ps []
theorem pe_cl {X : Cx} {k : Nat} {f : Addr} {fd : FuncData} {ps : List Str} {sp : Sp} {x : Str} {st : Stmt} {e : Expr} {es : List Expr} {t : TA} {p pos : Pos} (D : Df X.K X.mg x st ps f fd) (F : FnOk X.prog X.w X.K X.mg X.base CX0 k f fd ps sp) (hr : Room k X.A)
    (ha : PA X (e :: es) t) (hg : Gl X x := by rfl) (hdb : (x == ("__debug__" : Str)) = false := by decide) (he : starEach (e :: es) X.env = (false, eval e X.env) :: starEach es X.env := by rfl) (hpl : (backTo pos (starEach es X.env)).any (·.1) = false := by rfl) :
    PE X (.Call (.Name x p) (e :: es) [] pos) (tCall sp [] E0 t) := pe_call F hr hg D.gl D.fn.kp D.b .nil pass0 ha hdb he hpl
/-- all but p stay -/
def KeepX (p : Addr) (H H' : Hp) : Prop := ∀ b o, b ≠ p → H b = some o → H' b = some o
theorem KeepX.refl (p : Addr) (H : Hp) : KeepX p H H := fun _ _ _ e => e
theorem KeepX.trans {p : Addr} {H H1 H2 : Hp} (a : KeepX p H H1) (b : KeepX p H1 H2) : KeepX p H H2 := fun c o hc e => b c o hc (a c o hc e)
theorem KeepX.upd {p : Addr} {H : Hp} {o : HO} : KeepX p H (upd H p o) := fun b u hb e => by rw [upd_ne hb]; exact e
theorem Same.keep {p : Addr} {H H' : Hp} (h : Same H H') : KeepX p H H' := fun b o _ e => h b o e
theorem Same.new {H : Hp} {p : Addr} {o : HO} (h : H p = none) : Same H (upd H p o) := fun b u e => by rw [upd_ne (ne_of_none e h)]; exact e
/-- a pen stands at p, asked k times at most -/
def PenAt (H : Hp) (p : Addr) (k : Nat) : Prop := ∃ a b c : Int, H p = some (.lst [.int a, .int b, .int c]) ∧ 0 ≤ c ∧ c ≤ k
theorem PenAt.same {H H' : Hp} {p : Addr} {k : Nat} (h : PenAt H p k) (s : Same H H') : PenAt H' p k := let ⟨a, b, c, e, r⟩ := h; ⟨a, b, c, s _ _ e, r⟩
theorem PenAt.mono {H : Hp} {p : Addr} {k m : Nat} (h : PenAt H p k) (s : k ≤ m) : PenAt H p m := let ⟨a, b, c, e, r, q⟩ := h; ⟨a, b, c, e, r, by omega⟩
/-- the int in the fourth slot -/
def lastN : St → Nat
  | [_, _, _, some (V.int n)] => n.toNat
  | [_, _, _, some (V.int n), _] => n.toNat
  | _ => 0
theorem sz64 {x : Int} (h1 : -18446744073709551616 < x) (h2 : x < 18446744073709551616) : Sz 64 x := by unfold Sz; omega
theorem sz4000 {x : Int} (h1 : -18446744073709551616 < x) (h2 : x < 18446744073709551616) : Sz 4000 x := (sz64 h1 h2).mono (by decide)
theorem two_le : 2 ≤ sizeLine := by decide
theorem three_le : 3 ≤ sizeLine := by decide
/-- a number stands at p -/
structure NumAt (H : Hp) (p : Addr) (x y : Int) (n : Nat) : Prop where
  ob : H p = some (.tup [.int x, .int y])
  low : Low x y
  sx : Sz n x
  sy : Sz n y
theorem NumAt.same {H H' : Hp} {p : Addr} {x y : Int} {n : Nat} (h : NumAt H p x y n) (s : Same H H') : NumAt H' p x y n := ⟨s _ _ h.ob, h.low, h.sx, h.sy⟩
theorem NumAt.mono {H : Hp} {p : Addr} {x y : Int} {n m : Nat} (h : NumAt H p x y n) (s : n ≤ m) : NumAt H p x y m := ⟨h.ob, h.low, h.sx.mono s, h.sy.mono s⟩
theorem NumAt.keep {H H' : Hp} {p q : Addr} {x y : Int} {n : Nat} (h : NumAt H p x y n) (s : KeepX q H H') (hq : p ≠ q) : NumAt H' p x y n := ⟨s _ _ hq h.ob, h.low, h.sx, h.sy⟩
/-! ### promises -/
def spGd : Sp := fun vs H Q _ => ∃ a b : Int, vs = [.int a, .int b] ∧ Q (.int (Nat.gcd a.natAbs b.natAbs : Nat)) H
def spLow : Sp := fun vs H Q _ => ∃ t b : Int, vs = [.int t, .int b] ∧ b ≠ 0 ∧ Sz 4000 b ∧ ∀ p, H p = none → Q (.ref p) (upd H p (.tup [.int (lowT t b), .int (lowB t b)]))
def spTake : Sp := fun vs H Q _ => ∃ (p : Addr) (m : Int) (k : Nat), vs = [.ref p, .int m] ∧ 0 < m ∧ Sz 4000 m ∧ PenAt H p k ∧ k ≤ 100000 ∧ ∀ (r : Int) (H' : Hp), 0 ≤ r → r < m → PenAt H' p (k + 1) → KeepX p H H' → Q (.int r) H'
def spPen (K : PySem.W.Frag) : Sp := fun vs H Q _ => ∃ (a : Addr) (ns : List Int) (k : Int), vs = [.ref a, .int k] ∧ SqL K H a (ns.map V.int) ∧ 0 ≤ k ∧ k ≤ 1000 ∧ ∀ (p : Addr) (H' : Hp), H p = none → PenAt H' p 0 → Same H H' → Q (.ref p) H'
def sp2 (f g : Int → Int → Int → Int → Int) (e : Nat → Nat → Nat) (C : Int → Int → Int → Int → Prop) : Sp := fun vs H Q _ => ∃ (p q : Addr) (a b c d : Int) (m n : Nat), vs = [.ref p, .ref q] ∧ NumAt H p a b m ∧ NumAt H q c d n ∧ m + n ≤ 3000 ∧ C a b c d ∧
  ∀ (r : Addr) (H' : Hp), Same H H' → NumAt H' r (lowT (f a b c d) (g a b c d)) (lowB (f a b c d) (g a b c d)) (e m n) → Q (.ref r) H'
abbrev eMN (m n : Nat) : Nat := m + n + 1
abbrev spSum : Sp := sp2 (fun a b c d => a * d + c * b) (fun _ b _ d => b * d) eMN (fun _ _ _ _ => True)
abbrev spDif : Sp := sp2 (fun a b c d => a * d - c * b) (fun _ b _ d => b * d) eMN (fun _ _ _ _ => True)
abbrev spPro : Sp := sp2 (fun a _ c _ => a * c) (fun _ b _ d => b * d) eMN (fun _ _ _ _ => True)
abbrev spQuo : Sp := sp2 (fun a _ _ d => a * d) (fun _ b c _ => b * c) eMN (fun _ _ c _ => c ≠ 0)
def spLess : Sp := fun vs H Q _ => ∃ (p q : Addr) (a b c d : Int) (m n : Nat), vs = [.ref p, .ref q] ∧ NumAt H p a b m ∧ NumAt H q c d n ∧ m + n ≤ 3000 ∧ Q (.bl (decide (a * d < c * b))) H

def spRight (K : PySem.W.Frag) (C : Addr) : Sp := fun vs H Q _ => ∃ a : Addr, vs = [.ref a] ∧ H a = some (excO a (.ref C)) ∧ ∀ H', Same H H' → Q (.bl true) H'
def spWhole : Sp := fun vs H Q _ => ∃ i : Int, vs = [.int i] ∧ Q (.bl true) H
def spIsNum : Sp := fun vs H Q _ => ∃ (p : Addr) (x y : Int) (n : Nat), vs = [.ref p] ∧ NumAt H p x y n ∧ n ≤ 4000 ∧ ∀ H', Same H H' → Q (.bl true) H'
def spFar : Sp := fun vs H Q _ => ∃ (p : Addr) (k : Nat), vs = [.ref p] ∧ PenAt H p k ∧ k ≤ 90000 ∧ ∀ (r : Int) (H' : Hp), Sz 250 r → PenAt H' p (k + 5) → KeepX p H H' → Q (.int r) H'
def spLaw (K : PySem.W.Frag) : Sp := fun vs H Q _ => ∃ (a : Addr) (ns : List Int), vs = [.ref a] ∧ SqL K H a (ns.map V.int) ∧ ns.length ≤ 63 ∧ ∀ H', Q (.bl true) H'
theorem boot_isinstance : bootBuiltins "isinstance" = some (.builtin "isinstance") := by decide +kernel
theorem boot_min : bootBuiltins "min" = some (.builtin "min") := by decide +kernel
theorem boot_int : bootBuiltins "int" = some (.type "int") := by decide +kernel
theorem boot_bool : bootBuiltins "bool" = some (.type "bool") := by decide +kernel
theorem boot_list : bootBuiltins "list" = some (.type "list") := by decide +kernel
theorem boot_tuple : bootBuiltins "tuple" = some (.type "tuple") := by decide +kernel
theorem pe_cls {X : Cx} {x : Str} {C : Addr} {pos : Pos} (hm : X.mg x = some (.ref C)) (hg : Gl X x := by rfl) (hd : (x == ("__debug__" : Str)) = false := by decide) : PE X (.Name x pos) (tC (.ref C)) := pe_glob hg hm rfl hd
theorem pe_typ {X : Cx} {x : Str} {T : String} {pos : Pos} (hm : X.mg x = none) (hv : bootBuiltins x = some (.type T)) (hg : Gl X x := by rfl) (hn : x ≠ "__name__" := by decide) (hd : (x == ("__debug__" : Str)) = false := by decide) : PE X (.Name x pos) (tC (.ty T)) := pe_bltn hg hm hv rfl hn hd
theorem kit_tt (K : PySem.W.Frag) (t : Value) : PySem.W.kitOne K t t = some true := by unfold PySem.W.kitOne; simp

/-! ### texts -/
def GStr (mg : Str → Option Value) (x z : Str) : Prop := ∃ u, mg x = some u ∧ RelV (.str z) u
def GInt (mg : Str → Option Value) (x : Str) (i : Int) : Prop := ∃ u, mg x = some u ∧ RelV (.int i) u
def rInS : R2 := fun x y H Q => ∃ i j, x = .str i ∧ y = .str j ∧ Q (.bl (!(Builtin.Str.occurrences j i 0 j.length 1).isEmpty)) H
theorem sl_lt {n : Nat} (h : n ≤ 1000) : n < sizeLine := small1000 h
/-! ### a text parted at a sign -/
/-! ### cells -/
structure Nm (z : Str) : Prop where
  lo : 1 ≤ z.length
  hi : z.length ≤ 6
  az : ∀ c ∈ z.cps.toList, 97 ≤ c ∧ c ≤ 122
def colL (c : Int) : Str := ⟨#[64 + c.toNat]⟩
def num (r : Int) : Str := Str.ofString (toString r)
def cellTx (z : Str) (r c : Int) : Str := ((z ++ Str.ofString "!") ++ colL c) ++ num r
structure Dg (z : Str) (n : Int) : Prop where
  lo : 1 ≤ z.length
  hi : z.length ≤ 640
  fig : ∀ c ∈ z.cps.toList, c ∈ (Str.ofString "0123456789").cps.toList
  rd : PySem.intText? z = some n
  c0 : ∃ c, z.cps.toList[0]? = some c ∧ (c ≠ 48 ∨ z = Str.ofString "0")
/-- a place, a block stands at p -/
structure PlAt (H : Hp) (p : Addr) (z : Str) (r c : Int) : Prop where
  ob : H p = some (.tup [.str z, .int r, .int c])
  nm : Nm z
  r0 : 1 ≤ r
  r1 : r ≤ 16
  c0 : 1 ≤ c
  c1 : c ≤ 8
theorem PlAt.same {H H' : Hp} {p : Addr} {z : Str} {r c : Int} (h : PlAt H p z r c) (s : Same H H') : PlAt H' p z r c := ⟨s _ _ h.ob, h.nm, h.r0, h.r1, h.c0, h.c1⟩
structure BkAt (H : Hp) (p : Addr) (z : Str) (r c r2 c2 : Int) : Prop where
  ob : H p = some (.tup [.str z, .int r, .int c, .int r2, .int c2])
  nm : Nm z
  r0 : 1 ≤ r
  r1 : r ≤ r2
  r16 : r2 ≤ 16
  c0 : 1 ≤ c
  c1 : c ≤ c2
  c8 : c2 ≤ 8
theorem BkAt.same {H H' : Hp} {p : Addr} {z : Str} {r c r2 c2 : Int} (h : BkAt H p z r c r2 c2) (s : Same H H') : BkAt H' p z r c r2 c2 := ⟨s _ _ h.ob, h.nm, h.r0, h.r1, h.r16, h.c0, h.c1, h.c8⟩
/-- the cells in a list: n of them, by rows of w from (r, c) on -/
def CsAt (H : Hp) (l : Addr) (z : Str) (r c : Int) (w n : Nat) : Prop := ∃ vs : List V, H l = some (.lst vs) ∧ vs.length = n ∧ ∀ (k : Nat) (v : V), vs[k]? = some v → ∃ a : Addr, v = .ref a ∧ H a = some (.tup [.str z, .int (r + ((k / w : Nat) : Int)), .int (c + ((k % w : Nat) : Int))])
theorem CsAt.same {H H' : Hp} {l : Addr} {z : Str} {r c : Int} {w n : Nat} (h : CsAt H l z r c w n) (s : Same H H') : CsAt H' l z r c w n := by
  obtain ⟨vs, a, b, d⟩ := h
  exact ⟨vs, s _ _ a, b, fun k v e => let ⟨p, q, u⟩ := d k v e; ⟨p, q, s _ _ u⟩⟩
/-! ### promises -/
def spRdW : Sp := fun vs H Q _ => ∃ (z : Str) (m n : Int), vs = [.str z, .int m] ∧ Dg z n ∧ (z.length : Int) ≤ m ∧ ∀ H', Same H H' → Q (.int n) H'
def spShN : Sp := fun vs H Q _ => ∃ z : Str, vs = [.str z] ∧ Nm z ∧ ∀ H', Same H H' → Q (.bl true) H'
def spWith : Sp := fun vs H Q _ => ∃ i l : Int, vs = [.int i, .int l] ∧ 1 ≤ i ∧ i ≤ l ∧ Q (.bl true) H
def spIsC : Sp := fun vs H Q _ => ∃ (p : Addr) (z : Str) (r c : Int), vs = [.ref p] ∧ PlAt H p z r c ∧ ∀ H', Same H H' → Q (.bl true) H'
def spIsB : Sp := fun vs H Q _ => ∃ (p : Addr) (z : Str) (r c r2 c2 : Int), vs = [.ref p] ∧ BkAt H p z r c r2 c2 ∧ ∀ H', Same H H' → Q (.bl true) H'
def spCT : Sp := fun vs H Q _ => ∃ (p : Addr) (z : Str) (r c : Int), vs = [.ref p] ∧ PlAt H p z r c ∧ Q (.str (cellTx z r c)) H
def spRC : Sp := fun vs H Q _ => ∃ (z : Str) (r c : Int), vs = [.str (cellTx z r c)] ∧ Nm z ∧ 1 ≤ r ∧ r ≤ 16 ∧ 1 ≤ c ∧ c ≤ 8 ∧ ∀ (p : Addr) (H' : Hp), Same H H' → PlAt H' p z r c → Q (.ref p) H'
def spCs : Sp := fun vs H Q _ => ∃ (p : Addr) (z : Str) (r c r2 c2 : Int), vs = [.ref p] ∧ BkAt H p z r c r2 c2 ∧ ∀ (l : Addr) (H' : Hp), H l = none → Same H H' → CsAt H' l z r c (c2 - c + 1).toNat ((r2 - r + 1).toNat * (c2 - c + 1).toNat) → Q (.ref l) H'
def spSheet : Sp := fun vs H Q _ => ∃ (p : Addr) (k : Nat), vs = [.ref p] ∧ PenAt H p k ∧ k ≤ 90000 ∧ ∀ (z : Str) (H' : Hp), Nm z → PenAt H' p (k + 8) → KeepX p H H' → Q (.str z) H'
def spPlace : Sp := fun vs H Q _ => ∃ (p : Addr) (k : Nat), vs = [.ref p] ∧ PenAt H p k ∧ k ≤ 80000 ∧ ∀ (q : Addr) (z : Str) (r c : Int) (H' : Hp), PlAt H' q z r c → PenAt H' p (k + 10) → KeepX p H H' → Q (.ref q) H'
def spBlock : Sp := fun vs H Q _ => ∃ (p : Addr) (k : Nat), vs = [.ref p] ∧ PenAt H p k ∧ k ≤ 70000 ∧ ∀ (q : Addr) (z : Str) (r c r2 c2 : Int) (H' : Hp), BkAt H' q z r c r2 c2 → PenAt H' p (k + 12) → KeepX p H H' → Q (.ref q) H'
def spIsP : Sp := fun vs H Q _ => ∃ (p q : Addr) (z : Str) (r c : Int), vs = [.ref p, .ref q] ∧ H p = some (.tup [.str z, .int r, .int c]) ∧ H q = some (.tup [.str z, .int r, .int c]) ∧ Q (.bl true) H
def spBkR : Sp := fun vs H Q _ => ∃ (p : Addr) (z : Str) (r c r2 c2 : Int), vs = [.ref p] ∧ BkAt H p z r c r2 c2 ∧ ∀ H', Same H H' → Q (.bl true) H'

theorem CsAt.push {H : Hp} {l q : Addr} {z : Str} {r c r' c' : Int} {w n : Nat} {vs : List V} (h1 : H l = some (.lst vs)) (h2 : vs.length = n)
    (h3 : ∀ (k : Nat) (v : V), vs[k]? = some v → ∃ a : Addr, v = .ref a ∧ H a = some (.tup [.str z, .int (r + ((k / w : Nat) : Int)), .int (c + ((k % w : Nat) : Int))]))
    (hq : H q = none) (er : r' = r + ((n / w : Nat) : Int)) (ec : c' = c + ((n % w : Nat) : Int)) : CsAt (upd (upd H q (.tup [.str z, .int r', .int c'])) l (.lst (vs ++ [.ref q]))) l z r c w (n + 1) := by
  have nql : q ≠ l := fun e => by subst e; rw [hq] at h1; cases h1
  refine ⟨_, upd_same, by rw [List.length_append, h2]; rfl, fun k v e => ?_⟩
  by_cases hk : k < n
  · rw [List.getElem?_append_left (by omega)] at e
    obtain ⟨a, ea, ha⟩ := h3 k v e
    have n1 : a ≠ l := ne_of ha h1 (by intro z; cases z)
    have n2 : a ≠ q := ne_of_none ha hq
    exact ⟨a, ea, by rw [upd_ne n1, upd_ne n2]; exact ha⟩
  · rw [List.getElem?_append_right (by omega)] at e
    have hk2 : k - vs.length = 0 := by
      obtain ⟨hlt, _⟩ := List.getElem?_eq_some_iff.mp e
      simp at hlt
      omega
    rw [hk2] at e
    have e' : V.ref q = v := by simpa using e
    have hkn : k = n := by omega
    subst hkn
    exact ⟨q, e'.symm, by rw [upd_ne nql, upd_same, er, ec]⟩
theorem Same.step {H H3 : Hp} {l q : Addr} {o o' : HO} (s : Same H H3) (hl : H l = none) (hq : H3 q = none) : Same H (upd (upd H3 q o) l o') := fun b u e => by
  rw [upd_ne (ne_of_none e hl), upd_ne (ne_of_none (s _ _ e) hq)]
  exact s _ _ e
theorem nm_lit {z : Str} (h : (decide (1 ≤ z.length) && decide (z.length ≤ 6) && z.cps.toList.all fun c => decide (97 ≤ c) && decide (c ≤ 122)) = true) : Nm z := by
  simp only [Bool.and_eq_true, decide_eq_true_eq, List.all_eq_true] at h
  exact ⟨h.1.1, h.1.2, fun c hc => h.2 c hc⟩
/-! ### numbers as texts -/
/-! ### texts by their first sign -/
/-! ### values -/
inductive Vl where
  | none | num (t b : Int) | txt (z : Str) | tru (b : Bool) | flt (w z : Str) (r c : Int)
  deriving DecidableEq
def faults : List Str := [Str.ofString "kind", Str.ofString "nought", Str.ofString "gone", Str.ofString "name", Str.ofString "shape", Str.ofString "blocked", Str.ofString "miss", Str.ofString "ring", Str.ofString "great"]
def VlOk : Vl → Prop
  | .num t b => Low t b ∧ t.natAbs < 10 ^ 30 ∧ b.natAbs < 10 ^ 30
  | .txt z => z.length ≤ 20 ∧ ∀ c ∈ z.cps.toList, c ∈ (Str.ofString "abcdefghijklmnopqrstuvwxyz0123456789 ").cps.toList
  | .flt w z r c => w ∈ faults ∧ Nm z ∧ 1 ≤ r ∧ r ≤ 16 ∧ 1 ≤ c ∧ c ≤ 8
  | _ => True
def ntext (t b : Int) : Str := if b = 1 then num t else num t ++ Str.ofString "/" ++ num b
def vtext : Vl → Str
  | .none => Str.ofString ""
  | .num t b => ntext t b
  | .txt z => Str.ofString "'" ++ z
  | .tru b => if b = true then Str.ofString "yes" else Str.ofString "no"
  | .flt w z r c => ((Str.ofString "!" ++ w) ++ Str.ofString " ") ++ cellTx z r c
def GTup (K : PySem.W.Frag) (mg : Str → Option Value) (x : Str) (xs : List V) : Prop := ∃ (a : Addr) (o : Obj), mg x = some (.ref a) ∧ K.lookup a = some o ∧ o.cls = .type "tuple" ∧ ∃ its n, o.data = .seq its n ∧ its.size ≤ sizeLine ∧ Vals xs its.toList
def tGT (K : PySem.W.Frag) (xs : List V) : TE := fun _ H Q => ∀ a, (∀ H', SqT K H' a xs) → Q (.ref a) H
theorem pe_gtup {X : Cx} {x : Str} {xs : List V} {pos : Pos} (hm : GTup X.K X.mg x xs) (hg : Gl X x := by rfl) (hd : (x == ("__debug__" : Str)) = false := by decide) : PE X (.Name x pos) (tGT X.K xs) := by
  obtain ⟨a, o, h, hl, hc, its, n, h1, h2, h3⟩ := hm
  intro pins s σ H Q I q
  exact ld_glob I hg h ⟨.ref a, H, I, rfl, q a fun H' => .inr ⟨o, its, n, hl, hc, h1, h2, h3⟩⟩ hd
/-- a value stands at p -/
def VlAt (H : Hp) (p : Addr) : Vl → Prop
  | .none => H p = some (.tup [.str (Str.ofString "none")])
  | .num t b => H p = some (.tup [.str (Str.ofString "number"), .int t, .int b])
  | .txt z => H p = some (.tup [.str (Str.ofString "text"), .str z])
  | .tru b => H p = some (.tup [.str (Str.ofString "truth"), .bl b])
  | .flt w z r c => ∃ q, H p = some (.tup [.str (Str.ofString "fault"), .str w, .ref q]) ∧ H q = some (.tup [.str z, .int r, .int c])
theorem VlAt.same {H H' : Hp} {p : Addr} {v : Vl} (h : VlAt H p v) (s : Same H H') : VlAt H' p v := by
  cases v with
  | none => exact s _ _ h
  | num t b => exact s _ _ h
  | txt z => exact s _ _ h
  | tru b => exact s _ _ h
  | flt w z r c => obtain ⟨q, a, b⟩ := h; exact ⟨q, s _ _ a, s _ _ b⟩
/-! ### promises -/
def spIsN : Sp := fun vs H Q _ => ∃ t b : Int, vs = [.int t, .int b] ∧ Low t b ∧ Q (.bl true) H
def spFew : Sp := fun vs H Q _ => ∃ i : Int, vs = [.int i] ∧ i.natAbs < 10 ^ 30 ∧ Q (.bl true) H
def spShort : Sp := fun vs H Q _ => ∃ t b : Int, vs = [.int t, .int b] ∧ Low t b ∧ t.natAbs < 10 ^ 30 ∧ b.natAbs < 10 ^ 30 ∧ Q (.bl true) H
def spIsT : Sp := fun vs H Q _ => ∃ z : Str, vs = [.str z] ∧ VlOk (.txt z) ∧ ∀ H', Same H H' → Q (.bl true) H'
def spFW : Sp := fun vs H Q _ => ∃ w : Str, vs = [.str w] ∧ w ∈ faults ∧ Q (.bl true) H
def spIsV : Sp := fun vs H Q _ => ∃ (p : Addr) (v : Vl), vs = [.ref p] ∧ VlOk v ∧ VlAt H p v ∧ ∀ H', Same H H' → Q (.bl true) H'
def spNT : Sp := fun vs H Q _ => ∃ t b : Int, vs = [.int t, .int b] ∧ t.natAbs < 10 ^ 30 ∧ b.natAbs < 10 ^ 30 ∧ Q (.str (ntext t b)) H
def spVT : Sp := fun vs H Q _ => ∃ (p : Addr) (v : Vl), vs = [.ref p] ∧ VlOk v ∧ VlAt H p v ∧ ∀ H', Same H H' → Q (.str (vtext v)) H'
def spNM : Sp := fun vs H Q _ => ∃ t b : Int, vs = [.str (ntext t b)] ∧ Low t b ∧ t.natAbs < 10 ^ 30 ∧ b.natAbs < 10 ^ 30 ∧ ∀ (p : Addr) (H' : Hp), Same H H' → VlAt H' p (.num t b) → Q (.ref p) H'
def spFM : Sp := fun vs H Q _ => ∃ (w z : Str) (r c : Int), vs = [.str ((w ++ Str.ofString " ") ++ cellTx z r c)] ∧ VlOk (.flt w z r c) ∧ ∀ (p : Addr) (H' : Hp), Same H H' → VlAt H' p (.flt w z r c) → Q (.ref p) H'
def spTM : Sp := fun vs H Q _ => ∃ v : Vl, vs = [.str (vtext v)] ∧ VlOk v ∧ ∀ (p : Addr) (H' : Hp), Same H H' → VlAt H' p v → Q (.ref p) H'
def spFar5 : Sp := fun vs H Q _ => ∃ (p : Addr) (k : Nat), vs = [.ref p] ∧ PenAt H p k ∧ k ≤ 90000 ∧ ∀ (r : Int) (H' : Hp), r.natAbs < 10 ^ 30 - 3 → PenAt H' p (k + 5) → KeepX p H H' → Q (.int r) H'
def spNum5 : Sp := fun vs H Q _ => ∃ (p : Addr) (k : Nat), vs = [.ref p] ∧ PenAt H p k ∧ k ≤ 80000 ∧ ∀ (q : Addr) (x y : Int) (H' : Hp), H' q = some (.tup [.int x, .int y]) → Low x y → x.natAbs < 10 ^ 30 → y.natAbs < 10 ^ 30 → PenAt H' p (k + 12) → KeepX p H H' → Q (.ref q) H'
def spVal : Sp := fun vs H Q _ => ∃ (p : Addr) (k : Nat), vs = [.ref p] ∧ PenAt H p k ∧ k ≤ 60000 ∧ ∀ (q : Addr) (v : Vl) (H' : Hp), VlOk v → VlAt H' q v → PenAt H' p (k + 40) → KeepX p H H' → Q (.ref q) H'
def spSame : Sp := fun vs H Q _ => ∃ (p q : Addr) (v : Vl), vs = [.ref p, .ref q] ∧ VlAt H p v ∧ VlAt H q v ∧ ∀ H', Same H H' → Q (.bl true) H'

theorem VlAt.keep {H H' : Hp} {p q : Addr} {v : Vl} {xs : List V} (h : VlAt H q v) (hp : H p = some (.lst xs)) (s : KeepX p H H') : VlAt H' q v := by
  have ne : ∀ {b : Addr} {ys : List V}, H b = some (.tup ys) → b ≠ p := fun e => ne_of e hp (by intro z; cases z)
  cases v with
  | none => exact s _ _ (ne h) h
  | num t b => exact s _ _ (ne h) h
  | txt z => exact s _ _ (ne h) h
  | tru b => exact s _ _ (ne h) h
  | flt w z r c => obtain ⟨u, a, b⟩ := h; exact ⟨u, s _ _ (ne a) a, s _ _ (ne b) b⟩
/-- v != u of two values that are one -/
def rNeV : R2 := fun x y H Q => ∃ a b v, x = .ref a ∧ y = .ref b ∧ VlAt H a v ∧ VlAt H b v ∧ Q (.bl false) H
/-! ### a pen that is a dict -/
theorem kid1 {α : Type} {us : List α} (h : us.length = 1) : ∃ a, us = [a] := match us, h with | [a], _ => ⟨a, rfl⟩
theorem kid2 {α : Type} {us : List α} (h : us.length = 2) : ∃ a b, us = [a, b] := match us, h with | [a, b], _ => ⟨a, b, rfl⟩
theorem kid3 {α : Type} {us : List α} (h : us.length = 3) : ∃ a b c, us = [a, b, c] := match us, h with | [a, b, c], _ => ⟨a, b, c, rfl⟩
abbrev kS (z : String) : Key := .inr (Str.ofString z)
def penK (a : Addr) (t r m u : Int) : List (Key × V) := [(kS "cells", .ref a), (kS "at", .int t), (kS "rest", .int r), (kS "mode", .int m), (kS "used", .int u)]
section
variable {H : Hp} {p a : Addr} {t r m u : Int}
end
/-- the pen over the script S stands at p, asked k times at most -/
def PenD (K : PySem.W.Frag) (S : Addr × List Int) (H : Hp) (p : Addr) (k : Nat) : Prop := ∃ t r m u : Int, H p = some (.dK (penK S.1 t r m u)) ∧ SqL K H S.1 (S.2.map V.int) ∧ 0 ≤ t ∧ 0 ≤ u ∧ u ≤ k ∧ (m = 0 ∨ (m = 1 ∧ 0 < S.2.length)) ∧ S.2.length ≤ 63
section
variable {K : PySem.W.Frag} {S : Addr × List Int} {H H' : Hp} {p D : Addr} {k n : Nat}
theorem PenD.same (h : PenD K S H p k) (s : Same H H') : PenD K S H' p k := let ⟨t, r, m, u, e, q, z⟩ := h; ⟨t, r, m, u, s _ _ e, s.seq q, z⟩
theorem PenD.mono (h : PenD K S H p k) (s : k ≤ n) : PenD K S H p n := let ⟨t, r, m, u, e, q, x, y, v, w⟩ := h; ⟨t, r, m, u, e, q, x, y, by omega, w⟩
theorem PenD.ob (h : PenD K S H p k) : ∃ kvs, H p = some (.dK kvs) := let ⟨_, _, _, _, e, _⟩ := h; ⟨_, e⟩
theorem PenD.ne (h : PenD K S H p k) (hD : H D = none) : D ≠ p := fun z => by
  obtain ⟨kvs, e⟩ := h.ob
  rw [← z, hD] at e; cases e
/-- a store into what was made behind the pen -/
theorem PenD.put {o : HO} (h0 : PenD K S H p k) (hD : H D = none) (h : PenD K S H' p n) : PenD K S (upd H' D o) p n := by
  have ne := h0.ne hD
  obtain ⟨_, _, _, _, _, q0, _⟩ := h0
  obtain ⟨t, r, m, u, e, q, z⟩ := h
  refine ⟨t, r, m, u, by rw [upd_ne (Ne.symm ne)]; exact e, ?_, z⟩
  rcases q0 with (q0 | ⟨o0, q0⟩) | q0
  · have na := ne_of_none q0 hD
    rcases q with (q | ⟨o1, q⟩) | q
    · exact .inl (.inl (by rw [upd_ne na]; exact q))
    · exact .inl (.inr ⟨o1, by rw [upd_ne na]; exact q⟩)
    · exact .inr q
  · have na := ne_of_none q0 hD
    rcases q with (q | ⟨o1, q⟩) | q
    · exact .inl (.inl (by rw [upd_ne na]; exact q))
    · exact .inl (.inr ⟨o1, by rw [upd_ne na]; exact q⟩)
    · exact .inr q
  · exact .inr q0
end
def spPenD (K : PySem.W.Frag) : Sp := fun vs H Q _ => ∃ (a : Addr) (ns : List Int), vs = [.ref a] ∧ SqL K H a (ns.map V.int) ∧ ns.length ≤ 63 ∧ ∀ (p : Addr) (H' : Hp), H p = none → PenD K (a, ns) H' p 0 → Same H H' → Q (.ref p) H'
def spTakD (K : PySem.W.Frag) : Sp := fun vs H Q _ => ∃ (p : Addr) (m : Int) (k : Nat) (S : Addr × List Int), vs = [.ref p, .int m] ∧ 0 < m ∧ Sz 4000 m ∧ PenD K S H p k ∧ k ≤ 10000000 ∧ ∀ (r : Int) (H' : Hp), 0 ≤ r → r < m → PenD K S H' p (k + 1) → KeepX p H H' → Q (.int r) H'
theorem atI_ints {ns : List Int} {r : Int} (h0 : 0 ≤ r) (h1 : r < (ns.length : Int)) : ∃ v, atI (ns.map V.int) r = some (V.int v) := by
  obtain ⟨j, rfl⟩ : ∃ j : Nat, r = (j : Int) := ⟨r.toNat, by omega⟩
  have hj : j < ns.length := by omega
  exact ⟨ns[j], atI_nat (by rw [List.getElem?_map, List.getElem?_eq_getElem hj]; rfl)⟩

/-! ### words -/
abbrev vS (z : String) : V := .str (Str.ofString z)
def KN14 : List V := [vS "sum", vS "yes", vS "if", vS "grid", vS "outer", vS "no", vS "su", vS "sums", vS "iff", vS "yess", vS "neg", vS "own", vS "abcdef", vS "z"]
def RS1 : List V := [vS "yes", vS "no", vS "if", vS "sum", vS "count", vS "least", vS "most", vS "sumif", vS "find", vS "turn", vS "stack"]
def RS2 : List V := [vS "grid", vS "outer"]
/-- a word that stands for itself -/
def rsv (z : Str) : Bool := inV (.str z) RS1 || inV (.str z) RS2
def knB (j : Nat) : Bool := match KN14[j]? with
  | some (.str z) => (decide (1 ≤ z.length) && decide (z.length ≤ 6) && z.cps.toList.all fun c => decide (97 ≤ c) && decide (c ≤ 122)) && (decide (j < 6) || !rsv z)
  | _ => false
def spLet (K : PySem.W.Frag) : Sp := fun vs H Q _ => ∃ (p : Addr) (fr : Bool) (n : Nat) (S : Addr × List Int), vs = [.ref p, .bl fr] ∧ PenD K S H p n ∧ n ≤ 9500000 ∧ ∀ (z : Str) (H' : Hp), Nm z → (fr = true → rsv z = false) → PenD K S H' p (n + 8) → KeepX p H H' → Q (.str z) H'
def shV : Option Str → V
  | none => .non
  | some z => .str z
def ShOk : Option Str → Prop
  | none => True
  | some z => Nm z
def spShD (K : PySem.W.Frag) : Sp := fun vs H Q _ => ∃ (p : Addr) (n : Nat) (S : Addr × List Int), vs = [.ref p] ∧ PenD K S H p n ∧ n ≤ 9000000 ∧ ∀ (s : Option Str) (H' : Hp), ShOk s → PenD K S H' p (n + 9) → KeepX p H H' → Q (shV s) H'

/-! ### formulas -/
/-- tuples stay -/
def Kp (H H' : Hp) : Prop := ∀ a xs, H a = some (.tup xs) → H' a = some (.tup xs)
theorem Kp.same {H H' : Hp} (s : Same H H') : Kp H H' := fun a xs e => s _ _ e
theorem Kp.keepD {H H' : Hp} {p : Addr} {kvs : List (Key × V)} (hp : H p = some (.dK kvs)) (s : KeepX p H H') : Kp H H' := fun a xs e => s _ _ (ne_of e hp (by intro z; cases z)) e
theorem Kp.pen {K : PySem.W.Frag} {S : Addr × List Int} {H H' : Hp} {p : Addr} {n : Nat} (h : PenD K S H p n) (s : KeepX p H H') : Kp H H' := let ⟨_, e⟩ := h.ob; Kp.keepD e s
theorem Kp.lst {H H' : Hp} {p : Addr} {ys : List V} (hp : H p = some (.lst ys)) (s : KeepX p H H') : Kp H H' := fun a xs e => s _ _ (ne_of e hp (by intro z; cases z)) e
theorem Kp.trans {H H1 H2 : Hp} (a : Kp H H1) (b : Kp H1 H2) : Kp H H2 := fun c xs e => b c xs (a c xs e)
structure Cor where
  r : Int
  c : Int
  x : Bool
  y : Bool
abbrev corV (c : Cor) : List V := [.int c.r, .int c.c, .bl c.x, .bl c.y]
structure CorOk (c : Cor) : Prop where
  r0 : 1 ≤ c.r
  r1 : c.r ≤ 16
  c0 : 1 ≤ c.c
  c1 : c.c ≤ 8
inductive Lf where
  | val (v : Vl) | cell (s : Option Str) (c : Cor) | rng (s : Option Str) (c d : Cor) | cols (s : Option Str) (a : Int) (x : Bool) (b : Int) (y : Bool) | gone | nam (z : Str) | par (i : Int) | flt
def LfAt (H : Hp) (a : Addr) : Lf → Prop
  | .val v => ∃ q, H a = some (.tup [vS "value", .ref q]) ∧ VlAt H q v
  | .cell s c => ∃ q, H a = some (.tup [vS "cell", shV s, .ref q]) ∧ H q = some (.tup (corV c))
  | .rng s c d => ∃ q u, H a = some (.tup [vS "range", shV s, .ref q, .ref u]) ∧ H q = some (.tup (corV c)) ∧ H u = some (.tup (corV d))
  | .cols s i x j y => ∃ q u, H a = some (.tup [vS "columns", shV s, .ref q, .ref u]) ∧ H q = some (.tup [.int i, .bl x]) ∧ H u = some (.tup [.int j, .bl y])
  | .gone => H a = some (.tup [vS "gone"])
  | .nam z => H a = some (.tup [vS "name", .str z])
  | .par i => H a = some (.tup [vS "param", .int i])
  | .flt => H a = some (.tup [vS "fault", vS "name"])
def VlW : Vl → Prop
  | .num t b => b = 1 ∧ 0 ≤ t ∧ t ≤ 999999999
  | .txt _ => True
  | .tru _ => True
  | _ => False
def LfOk (pr : Nat) : Lf → Prop
  | .val v => VlOk v ∧ VlW v
  | .cell s c => ShOk s ∧ CorOk c
  | .rng s c d => ShOk s ∧ CorOk c ∧ CorOk d ∧ c.r ≤ d.r ∧ c.c ≤ d.c
  | .cols .. => False
  | .gone => False
  | .nam _ => False
  | .par _ => False
  | .flt => True
theorem VlAt.kp {H H' : Hp} {p : Addr} {v : Vl} (h : VlAt H p v) (s : Kp H H') : VlAt H' p v := by
  cases v with
  | none => exact s _ _ h
  | num t b => exact s _ _ h
  | txt z => exact s _ _ h
  | tru b => exact s _ _ h
  | flt w z r c => obtain ⟨q, a, b⟩ := h; exact ⟨q, s _ _ a, s _ _ b⟩
theorem LfAt.kp {H H' : Hp} {a : Addr} {l : Lf} (h : LfAt H a l) (s : Kp H H') : LfAt H' a l := by
  cases l with
  | val v => obtain ⟨q, h1, h2⟩ := h; exact ⟨q, s _ _ h1, VlAt.kp h2 s⟩
  | cell z c => obtain ⟨q, h1, h2⟩ := h; exact ⟨q, s _ _ h1, s _ _ h2⟩
  | rng z c d => obtain ⟨q, u, h1, h2, h3⟩ := h; exact ⟨q, u, s _ _ h1, s _ _ h2, s _ _ h3⟩
  | cols z i x j y => obtain ⟨q, u, h1, h2, h3⟩ := h; exact ⟨q, u, s _ _ h1, s _ _ h2, s _ _ h3⟩
  | gone => exact s _ _ h
  | nam z => exact s _ _ h
  | par i => exact s _ _ h
  | flt => exact s _ _ h
def spCorD (K : PySem.W.Frag) : Sp := fun vs H Q _ => ∃ (p : Addr) (r c : Int) (n : Nat) (S : Addr × List Int), vs = [.ref p, .int r, .int c] ∧ PenD K S H p n ∧ n ≤ 9000000 ∧ ∀ (q : Addr) (x y : Bool) (H' : Hp), H' q = some (.tup (corV ⟨r, c, x, y⟩)) → PenD K S H' p (n + 2) → KeepX p H H' → Q (.ref q) H'
def spRefD (K : PySem.W.Frag) : Sp := fun vs H Q _ => ∃ (p : Addr) (w : Int) (n : Nat) (S : Addr × List Int), vs = [.ref p, .int w] ∧ PenD K S H p n ∧ n ≤ 8000000 ∧ ∀ (a : Addr) (l : Lf) (H' : Hp), LfAt H' a l → (∀ pr, LfOk pr l) → PenD K S H' p (n + 30) → KeepX p H H' → Q (.ref a) H'
def spValD (K : PySem.W.Frag) : Sp := fun vs H Q _ => ∃ (p : Addr) (w : Int) (n : Nat) (S : Addr × List Int), vs = [.ref p, .int w] ∧ PenD K S H p n ∧ n ≤ 8000000 ∧ ∀ (q : Addr) (v : Vl) (H' : Hp), VlAt H' q v → VlOk v → VlW v → PenD K S H' p (n + 30) → KeepX p H H' → Q (.ref q) H'
def spLeafD (K : PySem.W.Frag) : Sp := fun vs H Q _ => ∃ (p : Addr) (pr : Nat) (n : Nat) (S : Addr × List Int), vs = [.ref p, .int pr] ∧ pr ≤ 3 ∧ PenD K S H p n ∧ n ≤ 7000000 ∧ ∀ (a : Addr) (l : Lf) (H' : Hp), LfAt H' a l → LfOk pr l → PenD K S H' p (n + 40) → KeepX p H H' → Q (.ref a) H'
theorem low_one {n : Int} : Low n 1 := ⟨by decide, by simp⟩

/-! ### kinds -/
inductive Kd where
  | op (z : Str) | neg | own (z : Str) | sumif (z : Str) | grid (i j : Int) | wd (z : Str)
def frV : Kd → List V
  | .op z => [vS "op", .str z]
  | .neg => [vS "neg"]
  | .own z => [vS "own", .str z]
  | .sumif z => [vS "sumif", .str z]
  | .grid i j => [vS "grid", .int i, .int j]
  | .wd z => [.str z]
def layV (t : Addr) : Kd → List V → List V
  | .op z, us => vS "op" :: .str z :: us
  | .neg, us => vS "neg" :: us
  | .own z, _ => [vS "own", .str z, .ref t]
  | .sumif z, us => vS "sumif" :: (us.take 1 ++ .str z :: us.drop 1)
  | .grid i j, us => vS "grid" :: .int i :: .int j :: us
  | .wd z, us => .str z :: us
def isOwn : Kd → Bool
  | .own _ => true
  | _ => false
def OPS : List Str := ["+", "-", "*", "/", "&", "=", "<"].map Str.ofString
def WDS : List (Str × Nat) := [("if", 3), ("sum", 1), ("count", 1), ("least", 1), ("most", 1), ("find", 3), ("turn", 1), ("stack", 2), ("outer", 1)].map fun x => (Str.ofString x.1, x.2)
def KdOk : Kd → Nat → Prop
  | .op z, m => z ∈ OPS ∧ m = 2
  | .neg, m => m = 1
  | .own z, m => m ≤ 3 ∧ False
  | .sumif z, m => (z = Str.ofString "=" ∨ z = Str.ofString "<") ∧ m = 3
  | .grid i j, m => 1 ≤ i ∧ i ≤ 16 ∧ 1 ≤ j ∧ j ≤ 8 ∧ m = 2
  | .wd z, m => (z, m) ∈ WDS
theorem KdOk.le {k : Kd} {m : Nat} (h : KdOk k m) : m ≤ 3 := by
  cases k with
  | op z => have := h.2; omega
  | neg => have : m = 1 := h; omega
  | own z => exact h.1
  | sumif z => have := h.2; omega
  | grid i j => have := h.2.2.2.2; omega
  | wd z =>
    have h : (z, m) ∈ WDS := h
    have : ∀ x ∈ WDS, x.2 ≤ 3 := by decide +kernel
    exact this _ h
def spFrmD (K : PySem.W.Frag) : Sp := fun vs H Q _ => ∃ (p : Addr) (n : Nat) (S : Addr × List Int), vs = [.ref p] ∧ PenD K S H p n ∧ n ≤ 8000000 ∧ ∀ (a f : Addr) (k : Kd) (m : Nat) (H' : Hp), H' a = some (.tup [.ref f, .int m]) → H' f = some (.tup (frV k)) → KdOk k m → PenD K S H' p (n + 12) → KeepX p H H' → Q (.ref a) H'
def spMadD : Sp := fun vs H Q _ => ∃ (f l : Addr) (k : Kd) (us : List V), vs = [.ref f, .ref l] ∧ H f = some (.tup (frV k)) ∧ H l = some (.lst us) ∧ KdOk k us.length ∧ ∀ (a t : Addr) (H' : Hp), H' a = some (.tup (layV t k us)) → (isOwn k = true → H' t = some (.tup us)) → Same H H' → Q (.ref a) H'
theorem op7 {r : Int} (h0 : 0 ≤ r) (h1 : r < 7) : ∃ c, atI (Str.ofString "+-*/&=<").cps.toList r = some c ∧ (⟨#[c]⟩ : Str) ∈ OPS := by
  have : r = 0 ∨ r = 1 ∨ r = 2 ∨ r = 3 ∨ r = 4 ∨ r = 5 ∨ r = 6 := by omega
  rcases this with rfl | rfl | rfl | rfl | rfl | rfl | rfl
  all_goals exact ⟨_, rfl, by decide +kernel⟩
def WD9 : List Str := ["if", "sum", "count", "least", "most", "find", "turn", "stack", "outer"].map Str.ofString
/-! ### trees -/
inductive Fm where
  | lf (l : Lf) | nd (k : Kd) (ps : List Fm)
inductive FmAt (H : Hp) : V → Fm → Prop where
  | lf {a : Addr} {l : Lf} (h : LfAt H a l) : FmAt H (.ref a) (.lf l)
  | nd {a t : Addr} {k : Kd} {us : List V} {ps : List Fm} (h : H a = some (.tup (layV t k us))) (ht : isOwn k = true → H t = some (.tup us)) (hl : us.length = ps.length)
      (hh : ∀ (j : Nat) (u : V) (f : Fm), us[j]? = some u → ps[j]? = some f → FmAt H u f) : FmAt H (.ref a) (.nd k ps)
theorem FmAt.kp {H H' : Hp} {v : V} {f : Fm} (h : FmAt H v f) (s : Kp H H') : FmAt H' v f := by
  induction h with
  | lf h => exact .lf (LfAt.kp h s)
  | nd h ht hl _ ih => exact .nd (s _ _ h) (fun z => s _ _ (ht z)) hl ih
abbrev FmsAt (H : Hp) (us : List V) (fs : List Fm) : Prop := Paired (FmAt H) us fs
theorem FmsAt.kp {H H' : Hp} {us : List V} {fs : List Fm} (h : FmsAt H us fs) (s : Kp H H') : FmsAt H' us fs := Paired.imp' (fun _ _ x => FmAt.kp x s) h
inductive FO (pr : Nat) : Nat → Fm → Prop where
  | lf {n : Nat} {l : Lf} (h : LfOk pr l) : FO pr (n + 1) (.lf l)
  | nd {n : Nat} {k : Kd} {ps : List Fm} (h : KdOk k ps.length) (hp : ∀ f ∈ ps, FO pr n f) : FO pr (n + 1) (.nd k ps)
theorem FO.mono {pr : Nat} {n : Nat} {f : Fm} (h : FO pr n f) : ∀ {m : Nat}, n ≤ m → FO pr m f := by
  induction h with
  | lf h =>
    intro m hm
    obtain ⟨m, rfl⟩ : ∃ k, m = k + 1 := ⟨m - 1, by omega⟩
    exact .lf h
  | nd h _ ih =>
    intro m hm
    obtain ⟨m, rfl⟩ : ∃ k, m = k + 1 := ⟨m - 1, by omega⟩
    exact .nd h fun f hf => ih f hf (by omega)
def spGrow (K : PySem.W.Frag) (n : Nat) : Sp := fun vs H Q _ => ∃ (p : Addr) (room d : Int) (pr : Nat) (c : Nat) (S : Addr × List Int), vs = [.ref p, .int room, .int d, .int pr] ∧ d = (n : Int) + 1 ∧ 1 ≤ room ∧ room ≤ 24 ∧ pr ≤ 3 ∧ PenD K S H p c ∧ c + 80 * room.toNat ≤ 6000000 ∧
  ∀ (v : V) (f : Fm) (H' : Hp), FmAt H' v f → FO pr (n + 1) f → PenD K S H' p (c + 80 * room.toNat) → KeepX p H H' → Q v H'
theorem call_isinstC {X : Cx} {K : PySem.W.Frag} (h : X.K = K) : CallR X (.builtin "isinstance") (rIs K) := by cases h; exact call_isinst
abbrev zS (z : String) : Str := Str.ofString z
theorem atI_hd {α : Type} {x : α} {r : List α} : atI (x :: r) 0 = some x := atI_nat (j := 0) rfl
theorem atI_1 {α : Type} {x y : α} {r : List α} : atI (x :: y :: r) 1 = some y := atI_nat (j := 1) rfl
theorem atI_2 {α : Type} {x y z : α} {r : List α} : atI (x :: y :: z :: r) 2 = some z := atI_nat (j := 2) rfl
def prtF : Fm → List Fm
  | .lf _ => []
  | .nd _ ps => ps
def kw : Kd → Str
  | .op _ => zS "op"
  | .neg => zS "neg"
  | .own _ => zS "own"
  | .sumif _ => zS "sumif"
  | .grid _ _ => zS "grid"
  | .wd z => z
theorem lay_kw (t : Addr) (k : Kd) (us : List V) : ∃ r, layV t k us = .str (kw k) :: r := by cases k <;> exact ⟨_, rfl⟩
theorem FmAt.parts {H : Hp} {us : List V} {ps : List Fm} (hl : us.length = ps.length) (hh : ∀ (j : Nat) (u : V) (f : Fm), us[j]? = some u → ps[j]? = some f → FmAt H u f) : FmsAt H us ps := by
  induction us generalizing ps with
  | nil =>
    cases ps with
    | nil => exact .nil
    | cons _ _ => simp at hl
  | cons u us ih =>
    cases ps with
    | nil => simp at hl
    | cons p ps => exact .cons (hh 0 u p rfl rfl) (ih (by simpa using hl) fun j u f e1 e2 => hh (j + 1) u f (by simpa using e1) (by simpa using e2))
def isRefV : V → Bool
  | .ref _ => true
  | _ => false
def PartOr (H : Hp) (x : V) : Prop := (∃ b ys, x = .ref b ∧ H b = some (.tup ys)) ∨ (∃ z, x = .str z) ∨ ∃ i, x = .int i
theorem refs_all {us : List V} (h : ∀ u ∈ us, isRefV u = true) : us.filter isRefV = us := List.filter_eq_self.mpr h
theorem lay_tail {H : Hp} {t : Addr} {k : Kd} {us : List V} (ok : KdOk k us.length) (no : isOwn k = false) (hr : ∀ u ∈ us, ∃ b ys, u = .ref b ∧ H b = some (.tup ys)) :
    ∃ r, layV t k us = .str (kw k) :: r ∧ (∀ x ∈ r, PartOr H x) ∧ r.filter isRefV = us ∧ r.length ≤ 5 := by
  have rf : ∀ u ∈ us, isRefV u = true := fun u hu => by obtain ⟨b, ys, rfl, _⟩ := hr u hu; rfl
  have l3 := ok.le
  cases k with
  | op z =>
    refine ⟨_, rfl, fun x hx => ?_, by simp [isRefV, refs_all rf], by simp; omega⟩
    rcases List.mem_cons.mp hx with q | q
    · exact .inr (.inl ⟨_, q⟩)
    · exact .inl (hr x q)
  | neg => exact ⟨_, rfl, fun x hx => .inl (hr x hx), refs_all rf, by omega⟩
  | own z => cases no
  | sumif z =>
    refine ⟨_, rfl, fun x hx => ?_, ?_, by simp; omega⟩
    · rcases List.mem_append.mp hx with q | q
      · exact .inl (hr x (List.mem_of_mem_take q))
      · rcases List.mem_cons.mp q with q | q
        · exact .inr (.inl ⟨_, q⟩)
        · exact .inl (hr x (List.mem_of_mem_drop q))
    · rw [List.filter_append, List.filter_cons]
      show _ ++ (us.drop 1).filter isRefV = us
      rw [refs_all fun u hu => rf u (List.mem_of_mem_take hu), refs_all fun u hu => rf u (List.mem_of_mem_drop hu), List.take_append_drop]
  | grid i j =>
    refine ⟨_, rfl, fun x hx => ?_, by simp [isRefV, refs_all rf], by simp; omega⟩
    rcases List.mem_cons.mp hx with q | q
    · exact .inr (.inr ⟨_, q⟩)
    · rcases List.mem_cons.mp q with q | q
      · exact .inr (.inr ⟨_, q⟩)
      · exact .inl (hr x q)
  | wd z => exact ⟨_, rfl, fun x hx => .inl (hr x hx), refs_all rf, by omega⟩
theorem kw_own {k : Kd} {m : Nat} (ok : KdOk k m) : decide (V.str (kw k) = vS "own") = isOwn k := by
  cases k with
  | wd z =>
    have hw : (z, m) ∈ WDS := ok
    have : ∀ x ∈ WDS, decide (V.str x.1 = vS "own") = false := by decide +kernel
    exact this _ hw
  | op z => show decide (vS "op" = vS "own") = false; decide +kernel
  | neg => show decide (vS "neg" = vS "own") = false; decide +kernel
  | own z => show decide (vS "own" = vS "own") = true; decide +kernel
  | sumif z => show decide (vS "sumif" = vS "own") = false; decide +kernel
  | grid i j => show decide (vS "grid" = vS "own") = false; decide +kernel
def spPrt : Sp := fun vs H Q _ => ∃ (v : V) (f : Fm) (pr n : Nat), vs = [v] ∧ FmAt H v f ∧ FO pr n f ∧ ∀ (l : Addr) (us : List V) (H' : Hp), H l = none → H' l = some (.lst us) → FmsAt H' us (prtF f) → Same H H' → Q (.ref l) H'
theorem Same.back0 {H H' : Hp} {b : Addr} (s : Same H H') (h : H' b = none) : H b = none := by
  cases e : H b with
  | none => rfl
  | some o => rw [s _ _ e] at h; cases h

theorem slm {n : Nat} (h : n ≤ 16000000) : n ≤ sizeLine := Nat.le_trans h (by decide)
def PPK : List (Key × List V) := [(kS "op", [.int 2, .int 3]), (kS "neg", [.int 1]), (kS "if", [.int 1, .int 2, .int 3]), (kS "sum", [.int 1]), (kS "count", [.int 1]), (kS "least", [.int 1]), (kS "most", [.int 1]), (kS "sumif", [.int 1, .int 3, .int 4]), (kS "find", [.int 1, .int 2, .int 3]), (kS "turn", [.int 1]), (kS "stack", [.int 1, .int 2]), (kS "grid", [.int 3, .int 4]), (kS "outer", [.int 1])]

def ppAt (k : Str) : Option (List V) := (PPK.find? fun kt => decide (kt.1 = (Sum.inr k : Key))).map (·.2)
abbrev KTs (K : PySem.W.Frag) : List (Key × V) → List (Key × List V) → Prop := Paired (fun (kv : Key × V) (kt : Key × List V) => kv.1 = kt.1 ∧ ∃ a, kv.2 = .ref a ∧ ∀ H, SqT K H a kt.2)
theorem pp_get {K : PySem.W.Frag} {k : Key} {ys : List V} : ∀ {kvs : List (Key × V)} {kts : List (Key × List V)}, KTs K kvs kts → (kts.find? fun kt => decide (kt.1 = k)).map (·.2) = some ys → ∃ a, valV kvs k = some (.ref a) ∧ ∀ H, SqT K H a ys
  | _, _, .nil, h => by simp at h
  | (kv :: kvs), (kt :: kts), .cons r t, h => by
    obtain ⟨e, a, ea, sq⟩ := r
    by_cases c : kt.1 = k
    · rw [List.find?_cons_of_pos (by simpa using c)] at h
      simp only [Option.map_some, Option.some.injEq] at h
      subst h
      exact ⟨a, by rw [valV_pos (e.trans c), ea], sq⟩
    · rw [List.find?_cons_of_neg (by simpa using c)] at h
      obtain ⟨b, hb, sb⟩ := pp_get t h
      exact ⟨b, by rw [valV_neg (fun z => c (e.symm.trans z))]; exact hb, sb⟩
def up1 (m : Nat) : List Nat := (List.range m).map (· + 1)
theorem lay_pl {t : Addr} {k : Kd} {us : List V} (ok : KdOk k us.length) (no : isOwn k = false) : ∃ pl : List Nat, ppAt (kw k) = some (pl.map fun (p : Nat) => V.int p) ∧ pl.length = us.length ∧ ∀ j, j < us.length → ∃ p u, pl[j]? = some p ∧ us[j]? = some u ∧ atI (layV t k us) (p : Int) = some u := by
  cases k with
  | op z =>
    obtain ⟨u1, u2, rfl⟩ := kid2 ok.2
    refine ⟨[2, 3], (by show ppAt (zS "op") = _; decide +kernel), rfl, fun j hj => ?_⟩
    match j, hj with
    | 0, _ => exact ⟨2, u1, rfl, rfl, rfl⟩
    | 1, _ => exact ⟨3, u2, rfl, rfl, rfl⟩
  | neg =>
    obtain ⟨u1, rfl⟩ := kid1 (show us.length = 1 from ok)
    refine ⟨[1], (by show ppAt (zS "neg") = _; decide +kernel), rfl, fun j hj => ?_⟩
    match j, hj with
    | 0, _ => exact ⟨1, u1, rfl, rfl, rfl⟩
  | own z => cases no
  | sumif z =>
    have h3 : us.length = 3 := ok.2
    match us, h3 with
    | [u1, u2, u3], _ =>
    refine ⟨[1, 3, 4], (by show ppAt (zS "sumif") = _; decide +kernel), rfl, fun j hj => ?_⟩
    match j, hj with
    | 0, _ => exact ⟨1, u1, rfl, rfl, rfl⟩
    | 1, _ => exact ⟨3, u2, rfl, rfl, rfl⟩
    | 2, _ => exact ⟨4, u3, rfl, rfl, rfl⟩
  | grid i j =>
    obtain ⟨u1, u2, rfl⟩ := kid2 ok.2.2.2.2
    refine ⟨[3, 4], (by show ppAt (zS "grid") = _; decide +kernel), rfl, fun j hj => ?_⟩
    match j, hj with
    | 0, _ => exact ⟨3, u1, rfl, rfl, rfl⟩
    | 1, _ => exact ⟨4, u2, rfl, rfl, rfl⟩
  | wd z =>
    have hw : (z, us.length) ∈ WDS := ok
    have hz : ∀ x ∈ WDS, ppAt x.1 = some ((up1 x.2).map fun (p : Nat) => V.int p) := by decide +kernel
    refine ⟨up1 us.length, hz _ hw, by simp [up1], fun j hj => ⟨j + 1, us[j], ?_, List.getElem?_eq_getElem hj, ?_⟩⟩
    · unfold up1
      rw [List.getElem?_map, List.getElem?_range hj]; rfl
    · exact atI_nat (j := j + 1) (by show (V.str z :: us)[j + 1]? = _; rw [List.getElem?_cons_succ, List.getElem?_eq_getElem hj])
mutual
def szF : Fm → Nat
  | .lf _ => 1
  | .nd _ ps => 1 + szs ps
def szs : List Fm → Nat
  | [] => 0
  | f :: fs => szF f + szs fs
end
theorem szs_app : ∀ a b : List Fm, szs (a ++ b) = szs a + szs b
  | [], b => by rw [List.nil_append, szs]; omega
  | x :: a, b => by rw [List.cons_append, szs, szs, szs_app a b]; omega
theorem szF_prt (f : Fm) : szF f = 1 + szs (prtF f) := by
  cases f with
  | lf l => rw [szF]; show 1 = 1 + szs []; rw [szs]
  | nd k ps => rw [szF]; rfl
theorem szs_len : ∀ fs : List Fm, fs.length ≤ szs fs
  | [] => Nat.zero_le _
  | f :: fs => by
    have := szs_len fs
    have := szF_prt f
    rw [szs, List.length_cons]; omega
theorem szs_le {B : Nat} : ∀ fs : List Fm, (∀ f ∈ fs, szF f ≤ B) → szs fs ≤ fs.length * B
  | [], _ => by rw [szs]; exact Nat.zero_le _
  | f :: fs, h => by
    have a := szs_le fs fun g hg => h g (List.mem_cons_of_mem _ hg)
    have b := h f (by simp)
    rw [szs, List.length_cons, Nat.add_mul]; omega
def SB : Nat → Nat
  | 0 => 0
  | n + 1 => 1 + 3 * SB n
theorem FO.sz {pr n : Nat} {f : Fm} (h : FO pr n f) : szF f ≤ SB n := by
  induction h with
  | lf h => rw [szF]; show 1 ≤ 1 + 3 * SB _; omega
  | @nd n k ps ok _ ih =>
    rw [szF]
    have a := szs_le ps ih
    have b : ps.length * SB n ≤ 3 * SB n := Nat.mul_le_mul_right _ ok.le
    show 1 + szs ps ≤ 1 + 3 * SB n
    omega
theorem FO.sz8 {pr : Nat} {f : Fm} (h : FO pr 8 f) : szF f ≤ 3280 := Nat.le_trans h.sz (by decide)
theorem FO.prt {pr n : Nat} {f : Fm} (h : FO pr n f) : ∀ g ∈ prtF f, FO pr n g := fun g hg => by
  cases h with
  | lf _ => cases hg
  | nd _ hp => exact (hp g hg).mono (Nat.le_succ _)
theorem psplit {α β : Type} {F : α → β → Prop} : ∀ {xs : List α} {x : α} {ys : List β}, Paired F (xs ++ [x]) ys → ∃ ys' y, ys = ys' ++ [y] ∧ Paired F xs ys' ∧ F x y
  | [], _, _, .cons r .nil => ⟨[], _, rfl, .nil, r⟩
  | _ :: _, _, _, .cons r t => by
    obtain ⟨ys', y, rfl, p, q⟩ := psplit t
    exact ⟨_ :: ys', y, rfl, .cons r p, q⟩
theorem papp {α β : Type} {F : α → β → Prop} : ∀ {xs zs : List α} {ys ws : List β}, Paired F xs ys → Paired F zs ws → Paired F (xs ++ zs) (ys ++ ws)
  | _, _, _, _, .nil, h => h
  | _, _, _, _, .cons r t, h => .cons r (papp t h)
def itOk (x : V) : Prop := flatV x = true ∨ ∃ a, x = .ref a
theorem itOk.tr {H : Hp} {n : Nat} {x : V} (h : itOk x) : TrEq H n x x := by
  rcases h with h | ⟨a, rfl⟩
  · exact .fl h
  · exact .rf
theorem LfAt.pp {H : Hp} {a : Addr} {l : Lf} (h : LfAt H a l) : ∃ w r, H a = some (.tup (.str w :: r)) ∧ V.bl (decide (V.str w = vS "own")) = V.bl false ∧ ppAt w = none ∧ (∀ x ∈ (.str w :: r), itOk x) ∧ r.length ≤ 5 := by
  have sh : ∀ s : Option Str, itOk (shV s) := fun s => by cases s <;> exact .inl rfl
  cases l with
  | val v => obtain ⟨q, h1, _⟩ := h; exact ⟨_, _, h1, by decide +kernel, by decide +kernel, by simp [itOk, flatV], by simp⟩
  | cell s c => obtain ⟨q, h1, _⟩ := h; exact ⟨_, _, h1, by decide +kernel, by decide +kernel, by simp [itOk, flatV]; exact sh s, by simp⟩
  | rng s c d => obtain ⟨q, u, h1, _⟩ := h; exact ⟨_, _, h1, by decide +kernel, by decide +kernel, by simp [itOk, flatV]; exact sh s, by simp⟩
  | cols s i x j y => obtain ⟨q, u, h1, _⟩ := h; exact ⟨_, _, h1, by decide +kernel, by decide +kernel, by simp [itOk, flatV]; exact sh s, by simp⟩
  | gone => exact ⟨_, _, h, by decide +kernel, by decide +kernel, by simp [itOk, flatV], by simp⟩
  | nam z => exact ⟨_, _, h, by decide +kernel, by decide +kernel, by simp [itOk, flatV], by simp⟩
  | par i => exact ⟨_, _, h, by decide +kernel, by decide +kernel, by simp [itOk, flatV], by simp⟩
  | flt => exact ⟨_, _, h, by decide +kernel, by decide +kernel, by simp [itOk, flatV], by simp⟩
theorem pp_none {K : PySem.W.Frag} {k : Key} : ∀ {kvs : List (Key × V)} {kts : List (Key × List V)}, KTs K kvs kts → (kts.find? fun kt => decide (kt.1 = k)).map (·.2) = none → valV kvs k = none
  | _, _, .nil, _ => rfl
  | (kv :: kvs), (kt :: kts), .cons r t, h => by
    obtain ⟨e, a, ea, sq⟩ := r
    by_cases c : kt.1 = k
    · rw [List.find?_cons_of_pos (by simpa using c)] at h
      simp at h
    · rw [List.find?_cons_of_neg (by simpa using c)] at h
      rw [valV_neg (fun z => c (e.symm.trans z))]
      exact pp_none t h
theorem szF_le {pr n : Nat} {f : Fm} (h : FO pr n f) (h8 : n ≤ 8) : szF f ≤ 3280 := (h.mono h8).sz8
theorem one_le : 1 ≤ sizeLine := by decide

mutual
def alF : Fm → List Fm
  | .lf l => [.lf l]
  | .nd k ps => alL ps ++ [.nd k ps]
def alL : List Fm → List Fm
  | [] => []
  | f :: fs => alF f ++ alL fs
end
theorem alF_prt (f : Fm) : alF f = alL (prtF f) ++ [f] := by
  cases f with
  | lf l => rw [alF]; show [Fm.lf l] = alL [] ++ [Fm.lf l]; rw [alL]; rfl
  | nd k ps => rw [alF]; rfl
theorem alL_app : ∀ a b : List Fm, alL (a ++ b) = alL a ++ alL b
  | [], b => by rw [List.nil_append, alL, List.nil_append]
  | x :: a, b => by rw [List.cons_append, alL, alL, alL_app a b, List.append_assoc]
mutual
theorem alF_len : ∀ f : Fm, (alF f).length = szF f
  | .lf l => by rw [alF, szF]; rfl
  | .nd k ps => by rw [alF, szF, List.length_append, alL_len ps, List.length_singleton]; omega
theorem alL_len : ∀ fs : List Fm, (alL fs).length = szs fs
  | [] => by rw [alL, szs]; rfl
  | f :: fs => by rw [alL, szs, List.length_append, alF_len f, alL_len fs]
end
def spAll : Sp := fun vs H Q _ => ∃ (v : V) (f : Fm) (pr n : Nat), vs = [v] ∧ FmAt H v f ∧ FO pr n f ∧ n ≤ 8 ∧ ∀ l ws H', H l = none → H' l = some (.lst ws) → FmsAt H' ws (alF f) → Same H H' → Q (.ref l) H'
theorem prev {α β : Type} {R : α → β → Prop} {xs : List α} {ys : List β} (h : Paired R xs ys) : Paired R xs.reverse ys.reverse := by
  induction h with
  | nil => exact .nil
  | cons h _ ih => rw [List.reverse_cons, List.reverse_cons]; exact papp ih (.cons h .nil)


theorem FmAt.tup {H : Hp} {v : V} {f : Fm} (h : FmAt H v f) : ∃ b ys, v = .ref b ∧ H b = some (.tup ys) := by
  cases h with
  | lf h => obtain ⟨w, r, h1, _⟩ := h.pp; exact ⟨_, _, rfl, h1⟩
  | nd h _ _ _ => exact ⟨_, _, rfl, h⟩
theorem SqT.sm {K : PySem.W.Frag} {H H' : Hp} {a : Addr} {xs : List V} (h : SqT K H a xs) (s : Same H H') : SqT K H' a xs := by
  rcases h with (h | ⟨o, h⟩) | h
  · exact .inl (.inl (s _ _ h))
  · exact .inl (.inr ⟨o, s _ _ h⟩)
  · exact .inr h
/-! ### shapes -/
abbrev Sh := Option (Int × Int)
abbrev prV (p : Int × Int) : List V := [.int p.1, .int p.2]
def ShAt (K : PySem.W.Frag) (H : Hp) (v : V) : Sh → Prop
  | none => v = .non
  | some p => ∃ a, v = .ref a ∧ SqT K H a (prV p)
abbrev ShsAt (K : PySem.W.Frag) (H : Hp) (vs : List V) (ss : List Sh) : Prop := Paired (ShAt K H) vs ss
theorem ShAt.same {K : PySem.W.Frag} {H H' : Hp} {v : V} {s : Sh} (h : ShAt K H v s) (q : Same H H') : ShAt K H' v s := by
  cases s with
  | none => exact h
  | some p => obtain ⟨a, e, h⟩ := h; exact ⟨a, e, SqT.sm h q⟩
theorem ShsAt.same {K : PySem.W.Frag} {H H' : Hp} {vs : List V} {ss : List Sh} (h : ShsAt K H vs ss) (q : Same H H') : ShsAt K H' vs ss := Paired.imp' (fun _ _ x => ShAt.same x q) h
def fit (a b : Int × Int) : Sh := if a = b then some a else if b = (1, 1) then some a else if a = (1, 1) then some b else none
def stk (a b : Int × Int) : Sh := if a.2 = b.2 then some (a.1 + b.1, a.2) else none
def shW (z : Str) (ss : List Sh) : Sh :=
  if z = zS "if" then (match ss with | [some a, some b, some c] => if a = (1, 1) then fit b c else none | _ => none)
  else if z = zS "turn" then (match ss with | [some a] => some (a.2, a.1) | _ => none)
  else if z = zS "stack" then (match ss with | [some a, some b] => stk a b | _ => none)
  else if z = zS "find" then (match ss with | [some a, some _, some c] => if a = (1, 1) then (if c = (1, 1) then some (1, 1) else none) else none | _ => none)
  else if z = zS "outer" then (match ss with | [some a] => if a = (1, 1) then some (1, 1) else none | _ => none)
  else (match ss with | [some _] => some (1, 1) | _ => none)
def shK (k : Kd) (ss : List Sh) : Sh := match k with
  | .op _ => (match ss with | [some a, some b] => fit a b | _ => none)
  | .neg => (match ss with | [some a] => some a | _ => none)
  | .own _ => none
  | .sumif _ => (match ss with | [some a, some b, some c] => if a = c then (if b = (1, 1) then some (1, 1) else none) else none | _ => none)
  | .grid i j => (match ss with | [some a, some b] => if a = (1, 1) then (if b = (1, 1) then some (i, j) else none) else none | _ => none)
  | .wd z => shW z ss
def shLf : Lf → Sh
  | .rng _ c d => some (d.r - c.r + 1, d.c - c.c + 1)
  | _ => some (1, 1)
mutual
def shF : Fm → Sh
  | .lf l => shLf l
  | .nd k ps => shK k (shL ps)
def shL : List Fm → List Sh
  | [] => []
  | f :: fs => shF f :: shL fs
end
theorem shL_app : ∀ a b : List Fm, shL (a ++ b) = shL a ++ shL b
  | [], b => by rw [List.nil_append, shL, List.nil_append]
  | x :: a, b => by rw [List.cons_append, shL, shL, shL_app a b, List.cons_append]
theorem shL_len : ∀ a : List Fm, (shL a).length = a.length
  | [] => by rw [shL]; rfl
  | x :: a => by rw [shL, List.length_cons, shL_len a, List.length_cons]
theorem eqP2 (p q : Int × Int) : (if false = true then !eqVs (prV p) (prV q) else eqVs (prV p) (prV q)) = decide (p = q) := by
  obtain ⟨a, b⟩ := p
  obtain ⟨c, d⟩ := q
  have e : ∀ x y : Int, (x == y) = decide (x = y) := fun _ _ => rfl
  simp [eqVs, eqV, prV, e]
theorem neP2 (p q : Int × Int) : (if true = true then !eqVs (prV p) (prV q) else eqVs (prV p) (prV q)) = !decide (p = q) := by
  obtain ⟨a, b⟩ := p
  obtain ⟨c, d⟩ := q
  have e : ∀ x y : Int, (x == y) = decide (x = y) := fun _ _ => rfl
  simp [eqVs, eqV, prV, e]
section
variable {X : Cx} {scope : Scope} {cl : List (Str × Addr)} {C : Addr} {N : List Str} {s₀ : Shared} {H₀ : Hp} {ex : List Addr} {pn : List (Addr × Obj)}
theorem op_eqTc (hu : X.A.units < cLine) : OpR (cxComp X scope cl C N s₀ H₀ ex pn) (compareOp .Eq) (rEqT X.K false) := op_eqT hu
theorem pe_gtupc {x : Str} {xs : List V} {pos : Pos} (hm : GTup X.K X.mg x xs) (hg : Gl (cxComp X scope cl C N s₀ H₀ ex pn) x := by rfl) (hd : (x == ("__debug__" : Str)) = false := by decide) : PE (cxComp X scope cl C N s₀ H₀ ex pn) (.Name x pos) (tGT X.K xs) := pe_gtup (X := cxComp X scope cl C N s₀ H₀ ex pn) hm hg hd
end
def isNonV : V → Bool
  | .non => true
  | _ => false
def rInN2 (K : PySem.W.Frag) : R2 := fun x y H Q => ∃ p us, x = .non ∧ y = .ref p ∧ H p = some (.lst us) ∧ (∀ u ∈ us, u = .non ∨ ∃ q xs, u = .ref q ∧ SqT K H q xs) ∧ Q (.bl (us.any isNonV)) H
section
variable {X : Cx}
def nonU : Value → Bool
  | .none => true
  | _ => false
theorem any_vals : ∀ {xs : List V} {us : List Value}, Vals xs us → (∀ x ∈ xs, x = .non ∨ ∃ q, x = .ref q) → us.any nonU = xs.any isNonV
  | _, _, .nil, _ => rfl
  | _, _, .cons r t, h => by
    rw [List.any_cons, List.any_cons, any_vals t fun x hx => h x (List.mem_cons_of_mem _ hx)]
    rcases h _ (List.mem_cons_self ..) with rfl | ⟨q, rfl⟩
    · cases r; rfl
    · cases r; rfl
theorem op_inN2 (hu : X.A.units + 1 < cLine) : OpR X (compareOp .In) (rInN2 X.K) := by
  intro pins s σ H x y v u Q I rx ry h
  obtain ⟨p, us, rfl, rfl, hp, ht, q⟩ := h
  cases rx
  cases ry
  obtain ⟨its, r, pl, hz⟩ := I.list (SqL.of hp)
  refine SeqAt.in_listAt nonU pl.isList (fun w hw => ?_) ⟨.bl (us.any isNonV), H, I, ?_, q⟩
  · obtain ⟨z, hz1, hz2⟩ := vals_mem r w (by simpa using hw)
    rcases ht z hz1 with rfl | ⟨q', xs, rfl, hq⟩
    · cases hz2
      exact SeqAt.EqAt.same _
    · cases hz2
      obtain ⟨its', _, p', _⟩ := I.tuple hq
      exact SeqAt.EqAt.tuple_none p' hu
  · show Value.bool (its.toArray.any nonU) = Value.bool (us.any isNonV)
    rw [List.any_toArray, any_vals r fun x hx => (ht x hx).imp id fun ⟨q, _, e, _⟩ => ⟨q, e⟩]
end
theorem shs_any {K : PySem.W.Frag} {H : Hp} : ∀ {vs : List V} {ss : List Sh}, ShsAt K H vs ss → vs.any isNonV = ss.any (fun s => s.isNone)
  | _, _, .nil => rfl
  | _, _, @Paired.cons _ _ _ v s _ _ r t => by
    rw [List.any_cons, List.any_cons, shs_any t]
    cases s with
    | none => cases r; rfl
    | some p => obtain ⟨a, rfl, _⟩ := r; rfl
theorem shs_mem {K : PySem.W.Frag} {H : Hp} {vs : List V} {ss : List Sh} (h : ShsAt K H vs ss) : ∀ u ∈ vs, u = .non ∨ ∃ q xs, u = .ref q ∧ SqT K H q xs := fun u hu => by
  obtain ⟨j, hj, e⟩ := List.mem_iff_getElem.mp hu
  obtain ⟨s, _, x⟩ := paired_at h (show vs[j]? = some u by rw [List.getElem?_eq_getElem hj, e])
  cases s with
  | none => exact .inl x
  | some p => obtain ⟨a, e, x⟩ := x; exact .inr ⟨a, _, e, x⟩
def spFit (K : PySem.W.Frag) : Sp := fun vs H Q _ => ∃ (u v : V) (a b : Int × Int), vs = [u, v] ∧ ShAt K H u (some a) ∧ ShAt K H v (some b) ∧ ∀ r H', ShAt K H' r (fit a b) → Same H H' → Q r H'
def spStk (K : PySem.W.Frag) : Sp := fun vs H Q _ => ∃ (u v : V) (a b : Int × Int), vs = [u, v] ∧ ShAt K H u (some a) ∧ ShAt K H v (some b) ∧ ∀ r H', ShAt K H' r (stk a b) → Same H H' → Q r H'
def spBsh : Sp := fun vs H Q _ => ∃ (q : Addr) (x : V) (a b c d : Int), vs = [.ref q] ∧ H q = some (.tup [x, .int a, .int b, .int c, .int d]) ∧ ∀ r, H r = none → Q (.ref r) (upd H r (.tup [.int (c - a + 1), .int (d - b + 1)]))
def spBld : Sp := fun vs H Q _ => ∃ (v : V) (s : Option Str) (c d : Cor), vs = [v] ∧ FmAt H v (.lf (.rng s c d)) ∧ ∀ r, H r = none → Q (.ref r) (upd H r (.tup [shV s, .int c.r, .int c.c, .int d.r, .int d.c]))

theorem sh1 {K : PySem.W.Frag} {H : Hp} {us : List V} {a : Int × Int} (h : ShsAt K H us [some a]) : ∃ p, us = [.ref p] ∧ SqT K H p (prV a) := by
  cases h with | cons h t => cases t with | nil => obtain ⟨p, rfl, q⟩ := h; exact ⟨p, rfl, q⟩
theorem sh2 {K : PySem.W.Frag} {H : Hp} {us : List V} {a b : Int × Int} (h : ShsAt K H us [some a, some b]) : ∃ p q, us = [.ref p, .ref q] ∧ SqT K H p (prV a) ∧ SqT K H q (prV b) := by
  cases h with | cons h t => obtain ⟨p, rfl, hp⟩ := h; obtain ⟨q, rfl, hq⟩ := sh1 t; exact ⟨p, q, rfl, hp, hq⟩
theorem sh3 {K : PySem.W.Frag} {H : Hp} {us : List V} {a b c : Int × Int} (h : ShsAt K H us [some a, some b, some c]) : ∃ p q r, us = [.ref p, .ref q, .ref r] ∧ SqT K H p (prV a) ∧ SqT K H q (prV b) ∧ SqT K H r (prV c) := by
  cases h with | cons h t => obtain ⟨p, rfl, hp⟩ := h; obtain ⟨q, r, rfl, hq, hr⟩ := sh2 t; exact ⟨p, q, r, rfl, hp, hq, hr⟩
def sng (w : Str) (ss : List (Int × Int)) : Sh :=
  if w = zS "sumif" then (match ss with | [a, b, c] => if a = c then (if b = (1, 1) then some (1, 1) else none) else none | _ => none)
  else if w = zS "find" then (match ss with | [a, _, c] => if a = (1, 1) then (if c = (1, 1) then some (1, 1) else none) else none | _ => none)
  else if w = zS "outer" then (match ss with | [a] => if a = (1, 1) then some (1, 1) else none | _ => none)
  else some (1, 1)
def spSgl (K : PySem.W.Frag) : Sp := fun vs H Q _ => ∃ (l : Addr) (us : List V) (ss : List (Int × Int)), vs = [.ref l] ∧ H l = some (.lst us) ∧ ShsAt K H us (ss.map some) ∧ ss.length ≤ 3 ∧ ∀ H', Same H H' → Q (.bl (ss.all fun p => decide (p = (1, 1)))) H'
def spSng (K : PySem.W.Frag) : Sp := fun vs H Q _ => ∃ (a l : Addr) (w : Str) (r us : List V) (ss : List (Int × Int)), vs = [.ref a, .ref l] ∧ H a = some (.tup (.str w :: r)) ∧ H l = some (.lst us) ∧ ShsAt K H us (ss.map some) ∧ (w = zS "sumif" → ss.length = 3) ∧ (w = zS "find" → ss.length = 3) ∧ (w = zS "outer" → ss.length = 1) ∧
  ∀ x H', ShAt K H' x (sng w ss) → Same H H' → Q x H'
theorem strT' {z y : Str} (h : z = y) : V.bl (decide (V.str z = V.str y)) = V.bl true := by rw [decide_eq_true (by rw [h])]
theorem strN' {z y : Str} (h : z ≠ y) : V.bl (decide (V.str z = V.str y)) = V.bl false := by rw [decide_eq_false fun e => h (by injection e)]

theorem wds9 {z : Str} {m : Nat} (h : (z, m) ∈ WDS) : (z = zS "if" ∧ m = 3) ∨ (z = zS "sum" ∧ m = 1) ∨ (z = zS "count" ∧ m = 1) ∨ (z = zS "least" ∧ m = 1) ∨ (z = zS "most" ∧ m = 1) ∨ (z = zS "find" ∧ m = 3) ∨ (z = zS "turn" ∧ m = 1) ∨ (z = zS "stack" ∧ m = 2) ∨ (z = zS "outer" ∧ m = 1) := by
  unfold WDS at h
  simp only [List.map_cons, List.map_nil, List.mem_cons, List.not_mem_nil, or_false, Prod.mk.injEq] at h
  exact h
theorem somes : ∀ {ss : List Sh}, ss.any (fun s => s.isNone) = false → ∃ qs : List (Int × Int), ss = qs.map some
  | [], _ => ⟨[], rfl⟩
  | none :: _, h => by simp at h
  | some a :: ss, h => by
    obtain ⟨qs, rfl⟩ := somes (ss := ss) (by simpa using h)
    exact ⟨a :: qs, rfl⟩
theorem shK_none (k : Kd) (ss : List Sh) (h : ss.any (fun s => s.isNone) = true) : shK k ss = none := by
  cases k with
  | op z => unfold shK; dsimp only; split <;> simp_all
  | neg => unfold shK; dsimp only; split <;> simp_all
  | own z => rfl
  | sumif z => unfold shK; dsimp only; split <;> simp_all
  | grid i j => unfold shK; dsimp only; split <;> simp_all
  | wd z =>
    unfold shK shW
    dsimp only
    by_cases h1 : z = zS "if"
    · rw [if_pos h1]; split <;> simp_all
    rw [if_neg h1]
    by_cases h2 : z = zS "turn"
    · rw [if_pos h2]; split <;> simp_all
    rw [if_neg h2]
    by_cases h3 : z = zS "stack"
    · rw [if_pos h3]; split <;> simp_all
    rw [if_neg h3]
    by_cases h4 : z = zS "find"
    · rw [if_pos h4]; split <;> simp_all
    rw [if_neg h4]
    by_cases h5 : z = zS "outer"
    · rw [if_pos h5]; split <;> simp_all
    rw [if_neg h5]
    split <;> simp_all
theorem shF_none (f : Fm) (h : (shL (prtF f)).any (fun s => s.isNone) = true) : shF f = none := by
  cases f with
  | lf l => rw [show prtF (.lf l) = [] from rfl, shL] at h; simp at h
  | nd k ps => rw [shF]; exact shK_none k _ h
theorem shW_if (ss : List Sh) : shW (zS "if") ss = (match ss with | [some a, some b, some c] => if a = (1, 1) then fit b c else none | _ => none) := by unfold shW; rw [if_pos rfl]
theorem shW_turn (ss : List Sh) : shW (zS "turn") ss = (match ss with | [some a] => some (a.2, a.1) | _ => none) := by unfold shW; rw [if_neg (by decide +kernel), if_pos rfl]
theorem shW_stack (ss : List Sh) : shW (zS "stack") ss = (match ss with | [some a, some b] => stk a b | _ => none) := by unfold shW; rw [if_neg (by decide +kernel), if_neg (by decide +kernel), if_pos rfl]
theorem shW_find (ss : List Sh) : shW (zS "find") ss = (match ss with | [some a, some _, some c] => if a = (1, 1) then (if c = (1, 1) then some (1, 1) else none) else none | _ => none) := by
  unfold shW; rw [if_neg (by decide +kernel), if_neg (by decide +kernel), if_neg (by decide +kernel), if_pos rfl]
theorem shW_outer (ss : List Sh) : shW (zS "outer") ss = (match ss with | [some a] => if a = (1, 1) then some (1, 1) else none | _ => none) := by
  unfold shW; rw [if_neg (by decide +kernel), if_neg (by decide +kernel), if_neg (by decide +kernel), if_neg (by decide +kernel), if_pos rfl]
theorem shW_one {z : Str} (ss : List Sh) (h : z = zS "sum" ∨ z = zS "count" ∨ z = zS "least" ∨ z = zS "most") : shW z ss = (match ss with | [some _] => some (1, 1) | _ => none) := by
  rcases h with rfl | rfl | rfl | rfl <;> (unfold shW; rw [if_neg (by decide +kernel), if_neg (by decide +kernel), if_neg (by decide +kernel), if_neg (by decide +kernel), if_neg (by decide +kernel)])
theorem sng_one {w : Str} {ss : List (Int × Int)} (h1 : w ≠ zS "sumif") (h2 : w ≠ zS "find") (h3 : w ≠ zS "outer") : sng w ss = some (1, 1) := by unfold sng; rw [if_neg h1, if_neg h2, if_neg h3]
theorem sng_sumif (ss : List (Int × Int)) : sng (zS "sumif") ss = (match ss with | [a, b, c] => if a = c then (if b = (1, 1) then some (1, 1) else none) else none | _ => none) := by unfold sng; rw [if_pos rfl]
theorem sng_find (ss : List (Int × Int)) : sng (zS "find") ss = (match ss with | [a, _, c] => if a = (1, 1) then (if c = (1, 1) then some (1, 1) else none) else none | _ => none) := by unfold sng; rw [if_neg (by decide +kernel), if_pos rfl]
theorem sng_outer (ss : List (Int × Int)) : sng (zS "outer") ss = (match ss with | [a] => if a = (1, 1) then some (1, 1) else none | _ => none) := by unfold sng; rw [if_neg (by decide +kernel), if_neg (by decide +kernel), if_pos rfl]
def spSbp (K : PySem.W.Frag) : Sp := fun vs H Q _ => ∃ (v : V) (f : Fm) (l : Addr) (us : List V) (n : Nat), vs = [v, .ref l] ∧ FmAt H v f ∧ FO 0 n f ∧ H l = some (.lst us) ∧ ShsAt K H us (shL (prtF f)) ∧ ∀ x H', ShAt K H' x (shF f) → Same H H' → Q x H'

/-! ### told by parts -/
def stepS (st : List Sh) (g : Fm) : List Sh := st.take (st.length - (prtF g).length) ++ [match g with | .lf l => shLf l | .nd k _ => shK k (st.drop (st.length - (prtF g).length))]
theorem step_ok (st : List Sh) (g : Fm) : stepS (st ++ shL (prtF g)) g = st ++ [shF g] := by
  unfold stepS
  have e : (st ++ shL (prtF g)).length - (prtF g).length = st.length := by rw [List.length_append, shL_len]; omega
  rw [e, List.take_left, List.drop_left]
  cases g with
  | lf l => rw [shF]
  | nd k ps => rw [shF]; rfl
mutual
theorem fold_F : ∀ (f : Fm) (st : List Sh), (alF f).foldl stepS st = st ++ [shF f]
  | .lf l, st => by
    rw [alF, List.foldl_cons, List.foldl_nil]
    have := step_ok st (.lf l)
    rw [show shL (prtF (.lf l)) = [] by rw [show prtF (.lf l) = [] from rfl, shL], List.append_nil] at this
    exact this
  | .nd k ps, st => by
    rw [alF, List.foldl_append, fold_L ps st, List.foldl_cons, List.foldl_nil]
    exact step_ok st (.nd k ps)
theorem fold_L : ∀ (fs : List Fm) (st : List Sh), (alL fs).foldl stepS st = st ++ shL fs
  | [], st => by rw [alL, shL, List.append_nil]; rfl
  | f :: fs, st => by rw [alL, List.foldl_append, fold_F f st, fold_L fs, shL, List.append_assoc]; rfl
end
mutual
theorem pre_F : ∀ (f : Fm) (st : List Sh) (i : Nat) (g : Fm), (alF f)[i]? = some g → ∃ st', ((alF f).take i).foldl stepS st = st' ++ shL (prtF g)
  | .lf l, st, i, g, h => by
    rw [alF] at h ⊢
    have hi : i < 1 := (List.getElem?_eq_some_iff.mp h).1
    have h0 : i = 0 := by omega
    subst h0
    cases h
    exact ⟨st, by rw [show prtF (.lf l) = [] from rfl, shL, List.append_nil]; rfl⟩
  | .nd k ps, st, i, g, h => by
    rw [alF] at h ⊢
    by_cases c : i < (alL ps).length
    · rw [List.getElem?_append_left c] at h
      obtain ⟨st', e⟩ := pre_L ps st i g h
      exact ⟨st', by rw [List.take_append_of_le_length (by omega)]; exact e⟩
    · have hi : i < (alL ps ++ [Fm.nd k ps]).length := (List.getElem?_eq_some_iff.mp h).1
      rw [List.length_append, List.length_singleton] at hi
      have e : i = (alL ps).length := by omega
      subst e
      rw [List.getElem?_append_right (Nat.le_refl _), Nat.sub_self] at h
      cases h
      exact ⟨st, by rw [List.take_left, fold_L]; rfl⟩
theorem pre_L : ∀ (fs : List Fm) (st : List Sh) (i : Nat) (g : Fm), (alL fs)[i]? = some g → ∃ st', ((alL fs).take i).foldl stepS st = st' ++ shL (prtF g)
  | [], st, i, g, h => by rw [alL] at h; simp at h
  | f :: fs, st, i, g, h => by
    rw [alL] at h ⊢
    by_cases c : i < (alF f).length
    · rw [List.getElem?_append_left c] at h
      obtain ⟨st', e⟩ := pre_F f st i g h
      exact ⟨st', by rw [List.take_append_of_le_length (by omega)]; exact e⟩
    · rw [List.getElem?_append_right (by omega)] at h
      obtain ⟨st', e⟩ := pre_L fs (st ++ [shF f]) _ g h
      refine ⟨st', ?_⟩
      rw [List.take_append, List.take_of_length_le (by omega), List.foldl_append, fold_F]
      exact e
end
mutual
theorem FO.al {pr n : Nat} : ∀ (f : Fm), FO pr n f → ∀ g ∈ alF f, FO pr n g
  | .lf l, h, g, hg => by rw [alF] at hg; rw [List.mem_singleton.mp hg]; exact h
  | .nd k ps, h, g, hg => by
    rw [alF] at hg
    rcases List.mem_append.mp hg with q | q
    · exact FO.als ps (fun x hx => h.prt x hx) g q
    · rw [List.mem_singleton.mp q]; exact h
theorem FO.als {pr n : Nat} : ∀ (fs : List Fm), (∀ f ∈ fs, FO pr n f) → ∀ g ∈ alL fs, FO pr n g
  | [], _, g, hg => by rw [alL] at hg; cases hg
  | f :: fs, h, g, hg => by
    rw [alL] at hg
    rcases List.mem_append.mp hg with q | q
    · exact FO.al f (h f (List.mem_cons_self ..)) g q
    · exact FO.als fs (fun x hx => h x (List.mem_cons_of_mem _ hx)) g q
end
theorem foldl_len (fs : List Fm) (st : List Sh) : (fs.foldl stepS st).length ≤ st.length + fs.length := by
  induction fs generalizing st with
  | nil => exact Nat.le_refl _
  | cons f fs ih =>
    rw [List.foldl_cons, List.length_cons]
    have := ih (stepS st f)
    have h2 : (stepS st f).length ≤ st.length + 1 := by unfold stepS; rw [List.length_append, List.length_take, List.length_singleton]; omega
    omega
/-- the cut of a list at a place from within -/
theorem cut_hi {xs : List V} {j : Nat} (h : j ≤ xs.length) : cutV xs (some (j : Int)) none = xs.drop j := by
  unfold cutV
  have e1 : HT.sIx xs.length 0 (some (j : Int)) = j := by unfold HT.sIx; simp; split <;> omega
  have e2 : HT.sIx xs.length xs.length none = xs.length := rfl
  rw [e1, e2, ← List.length_drop]
  exact List.take_length
theorem cut_lo {xs : List V} {j : Nat} (h : j ≤ xs.length) : cutV xs none (some (j : Int)) = xs.take j := by
  unfold cutV
  have e1 : HT.sIx xs.length xs.length (some (j : Int)) = j := by unfold HT.sIx; simp; split <;> omega
  have e2 : HT.sIx xs.length 0 none = 0 := rfl
  rw [e1, e2, Nat.sub_zero]; rfl
theorem pdrop {α β : Type} {F : α → β → Prop} : ∀ {xs : List α} {ys : List β} (n : Nat), Paired F xs ys → Paired F (xs.drop n) (ys.drop n)
  | _, _, 0, h => by simpa using h
  | _, _, n + 1, .nil => by simpa using Paired.nil
  | _, _, n + 1, .cons _ t => by simpa using pdrop n t
theorem ptake {α β : Type} {F : α → β → Prop} : ∀ {xs : List α} {ys : List β} (n : Nat), Paired F xs ys → Paired F (xs.take n) (ys.take n)
  | _, _, 0, h => by simpa using Paired.nil
  | _, _, n + 1, .nil => by simpa using Paired.nil
  | _, _, n + 1, .cons r t => by simpa using Paired.cons r (ptake n t)
theorem SqT.ud {K : PySem.W.Frag} {H : Hp} {D a : Addr} {xs : List V} {vs : List V} {o : HO} (h : SqT K H a xs) (hD : H D = some (.lst vs)) : SqT K (upd H D o) a xs := by
  rcases h with (h | ⟨o1, h⟩) | h
  · exact .inl (.inl (by rw [upd_ne (ne_of h hD (by intro z; cases z))]; exact h))
  · exact .inl (.inr ⟨o1, by rw [upd_ne (ne_of h hD (by intro z; cases z))]; exact h⟩)
  · exact .inr h
theorem ShsAt.ud {K : PySem.W.Frag} {H : Hp} {D : Addr} {us vs : List V} {ss : List Sh} {o : HO} (h : ShsAt K H us ss) (hD : H D = some (.lst vs)) : ShsAt K (upd H D o) us ss := Paired.imp' (fun v s x => by
  cases s with
  | none => exact x
  | some p => obtain ⟨a, e, x⟩ := x; exact ⟨a, e, SqT.ud x hD⟩) h

/-! ### a pen that is a list -/
def PenL (K : PySem.W.Frag) (S : Addr × List Int) (H : Hp) (p : Addr) (k : Nat) : Prop := ∃ c r : Int, H p = some (.lst [.ref S.1, .int c, .int r]) ∧ SqL K H S.1 (S.2.map V.int) ∧ 0 ≤ c ∧ c ≤ k ∧ S.2.length ≤ 63
theorem SqL.kl {K : PySem.W.Frag} {H H' : Hp} {a p b : Addr} {ns : List Int} {r : List V} (h : SqL K H a (ns.map V.int)) (hp : H p = some (.lst (.ref b :: r))) (s : KeepX p H H') : SqL K H' a (ns.map V.int) := by
  rcases h with (h | ⟨o, h⟩) | h
  · exact .inl (.inl (s _ _ (ne_of h hp (by intro z; injection z with z; cases ns <;> simp at z)) h))
  · exact .inl (.inr ⟨o, s _ _ (ne_of h hp (by intro z; cases z)) h⟩)
  · exact .inr h
section
variable {K : PySem.W.Frag} {S : Addr × List Int} {H H' : Hp} {p D : Addr} {k n : Nat}
theorem PenL.same (h : PenL K S H p k) (s : Same H H') : PenL K S H' p k := let ⟨c, r, e, q, z⟩ := h; ⟨c, r, s _ _ e, s.seq q, z⟩
theorem PenL.mono (h : PenL K S H p k) (s : k ≤ n) : PenL K S H p n := let ⟨c, r, e, q, y, v, w⟩ := h; ⟨c, r, e, q, y, by omega, w⟩
theorem PenL.ob (h : PenL K S H p k) : ∃ vs, H p = some (.lst vs) := let ⟨_, _, e, _⟩ := h; ⟨_, e⟩
theorem PenL.ne (h : PenL K S H p k) (hD : H D = none) : D ≠ p := fun z => by
  obtain ⟨vs, e⟩ := h.ob
  rw [← z, hD] at e; cases e
theorem PenL.kp (h : PenL K S H p k) (s : KeepX p H H') : Kp H H' := let ⟨_, e⟩ := h.ob; Kp.lst e s
/-- a store into what was made behind the pen -/
theorem PenL.put {o : HO} (h0 : PenL K S H p k) (hD : H D = none) (h : PenL K S H' p n) : PenL K S (upd H' D o) p n := by
  have ne := h0.ne hD
  obtain ⟨_, _, _, q0, _⟩ := h0
  obtain ⟨c, r, e, q, z⟩ := h
  refine ⟨c, r, by rw [upd_ne (Ne.symm ne)]; exact e, ?_, z⟩
  rcases q0 with (q0 | ⟨o0, q0⟩) | q0
  · have na := ne_of_none q0 hD
    rcases q with (q | ⟨o1, q⟩) | q
    · exact .inl (.inl (by rw [upd_ne na]; exact q))
    · exact .inl (.inr ⟨o1, by rw [upd_ne na]; exact q⟩)
    · exact .inr q
  · have na := ne_of_none q0 hD
    rcases q with (q | ⟨o1, q⟩) | q
    · exact .inl (.inl (by rw [upd_ne na]; exact q))
    · exact .inl (.inr ⟨o1, by rw [upd_ne na]; exact q⟩)
    · exact .inr q
  · exact .inr q0
end
def spPeL (K : PySem.W.Frag) : Sp := fun vs H Q _ => ∃ (a : Addr) (ns : List Int), vs = [.ref a] ∧ SqL K H a (ns.map V.int) ∧ ns.length ≤ 63 ∧ ∀ (p : Addr) (H' : Hp), H p = none → PenL K (a, ns) H' p 0 → Same H H' → Q (.ref p) H'
def spNxt (K : PySem.W.Frag) : Sp := fun vs H Q _ => ∃ (p : Addr) (m : Int) (k : Nat) (S : Addr × List Int), vs = [.ref p, .int m] ∧ 0 < m ∧ Sz 4000 m ∧ PenL K S H p k ∧ k ≤ 10000000 ∧ ∀ (r : Int) (H' : Hp), 0 ≤ r → r < m → PenL K S H' p (k + 1) → KeepX p H H' → Q (.int r) H'
/-! ### shapes as the law tells them -/
def LhAt (H : Hp) (v : V) : Sh → Prop
  | none => v = .non
  | some p => ∃ a, v = .ref a ∧ H a = some (.tup (prV p))
abbrev LhsAt (H : Hp) (vs : List V) (ss : List Sh) : Prop := Paired (LhAt H) vs ss
theorem LhAt.same {H H' : Hp} {v : V} {s : Sh} (h : LhAt H v s) (q : Same H H') : LhAt H' v s := by
  cases s with
  | none => exact h
  | some p => obtain ⟨a, e, h⟩ := h; exact ⟨a, e, q _ _ h⟩
theorem LhAt.kp {H H' : Hp} {v : V} {s : Sh} (h : LhAt H v s) (q : Kp H H') : LhAt H' v s := by
  cases s with
  | none => exact h
  | some p => obtain ⟨a, e, h⟩ := h; exact ⟨a, e, q _ _ h⟩
theorem LhAt.sh {K : PySem.W.Frag} {H : Hp} {v : V} {s : Sh} (h : LhAt H v s) : ShAt K H v s := by
  cases s with
  | none => exact h
  | some p => obtain ⟨a, e, h⟩ := h; exact ⟨a, e, SqT.of h⟩
theorem LhsAt.same {H H' : Hp} {vs : List V} {ss : List Sh} (h : LhsAt H vs ss) (q : Same H H') : LhsAt H' vs ss := Paired.imp' (fun _ _ x => LhAt.same x q) h
theorem LhsAt.kp {H H' : Hp} {vs : List V} {ss : List Sh} (h : LhsAt H vs ss) (q : Kp H H') : LhsAt H' vs ss := Paired.imp' (fun _ _ x => LhAt.kp x q) h
theorem LhsAt.shs {K : PySem.W.Frag} {H : Hp} {vs : List V} {ss : List Sh} (h : LhsAt H vs ss) : ShsAt K H vs ss := Paired.imp' (fun _ _ x => LhAt.sh x) h
theorem lh1 {H : Hp} {us : List V} {a : Int × Int} (h : LhsAt H us [some a]) : ∃ p, us = [.ref p] ∧ H p = some (.tup (prV a)) := by
  cases h with | cons h t => cases t with | nil => obtain ⟨p, rfl, q⟩ := h; exact ⟨p, rfl, q⟩
theorem lh2 {H : Hp} {us : List V} {a b : Int × Int} (h : LhsAt H us [some a, some b]) : ∃ p q, us = [.ref p, .ref q] ∧ H p = some (.tup (prV a)) ∧ H q = some (.tup (prV b)) := by
  cases h with | cons h t => obtain ⟨p, rfl, hp⟩ := h; obtain ⟨q, rfl, hq⟩ := lh1 t; exact ⟨p, q, rfl, hp, hq⟩
theorem lh3 {H : Hp} {us : List V} {a b c : Int × Int} (h : LhsAt H us [some a, some b, some c]) : ∃ p q r, us = [.ref p, .ref q, .ref r] ∧ H p = some (.tup (prV a)) ∧ H q = some (.tup (prV b)) ∧ H r = some (.tup (prV c)) := by
  cases h with | cons h t => obtain ⟨p, rfl, hp⟩ := h; obtain ⟨q, r, rfl, hq, hr⟩ := lh2 t; exact ⟨p, q, r, rfl, hp, hq, hr⟩
def spCom : Sp := fun vs H Q _ => ∃ (u v : V) (a b : Int × Int), vs = [u, v] ∧ LhAt H u (some a) ∧ LhAt H v (some b) ∧ ∀ r H', LhAt H' r (fit a b) → Same H H' → Q r H'
theorem fit_1 {a b : Int × Int} (h : a = (1, 1)) : fit a b = some b := by
  unfold fit
  by_cases c : a = b
  · rw [if_pos c, c]
  · rw [if_neg c]
    by_cases d : b = (1, 1)
    · exact absurd (h.trans d.symm) c
    · rw [if_neg d, if_pos h]
theorem fit_2 {a b : Int × Int} (h : a = b) : fit a b = some b := by unfold fit; rw [if_pos h, h]
theorem fit_3 {a b : Int × Int} (h : a ≠ (1, 1)) (g : a ≠ b) (c : b = (1, 1)) : fit a b = some a := by unfold fit; rw [if_neg g, if_pos c]
theorem fit_4 {a b : Int × Int} (h : a ≠ (1, 1)) (g : a ≠ b) (c : b ≠ (1, 1)) : fit a b = none := by unfold fit; rw [if_neg g, if_neg c, if_neg h]

def spOfp : Sp := fun vs H Q _ => ∃ (a l : Addr) (kd : Kd) (ps : List Fm) (us : List V) (n : Nat), vs = [.ref a, .ref l] ∧ FmAt H (.ref a) (.nd kd ps) ∧ FO 0 n (.nd kd ps) ∧ H l = some (.lst us) ∧ LhsAt H us (shL ps) ∧ ∀ x H', LhAt H' x (shF (.nd kd ps)) → Same H H' → Q x H'

section
variable {X : Cx}
theorem call_isinstTT : CallR X (.builtin "isinstance") (fun xs H Q => ∃ a ys, xs = [.ref a, .ty "tuple"] ∧ SqT X.K H a ys ∧ Q (.bl true) H) := by
  intro pins s σ H xs us Q I r h
  obtain ⟨a, ys, rfl, hq, q⟩ := h
  obtain ⟨u, w', rfl, r1, r2⟩ := vals2 r
  cases r1
  cases r2
  obtain ⟨its, _, p, _⟩ := I.tuple hq
  obtain ⟨o, h1, h2, _⟩ := p
  exact PySem.W.kia_one PySem.W.kitx_tuple I.kIn ⟨o, h1, h2⟩ (kit_tt _ _) (fun z => nomatch z) fun tk => ⟨.bl true, H, I.tok tk, rfl, q⟩
end
def spLsh (n : Nat) : Sp := fun vs H Q _ => ∃ (v : V) (f : Fm), vs = [v] ∧ FmAt H v f ∧ FO 0 n f ∧ ∀ x H', LhAt H' x (shF f) → Same H H' → Q x H'
theorem filt_pre {it us : List V} {i : Nat} {x : V} (h : it.filter isRefV = us) (hx : it[i]? = some x) (hr : isRefV x = true) : us[((it.take i).filter isRefV).length]? = some x ∧ ((it.take (i + 1)).filter isRefV).length = ((it.take i).filter isRefV).length + 1 := by
  have e : it = it.take i ++ x :: it.drop (i + 1) := by
    have hi := (List.getElem?_eq_some_iff.mp hx).1
    have e2 : it[i] = x := (List.getElem?_eq_some_iff.mp hx).2
    rw [← e2, ← List.drop_eq_getElem_cons hi, List.take_append_drop]
  have e' : it.filter isRefV = (it.take i).filter isRefV ++ x :: (it.drop (i + 1)).filter isRefV := by
    conv => lhs; rw [e]
    rw [List.filter_append, List.filter_cons_of_pos hr]
  constructor
  · rw [← h, e', List.getElem?_append_right (Nat.le_refl _), Nat.sub_self]; rfl
  · rw [List.take_add_one, hx, List.filter_append, List.length_append]
    show _ + ([x].filter isRefV).length = _
    rw [List.filter_cons_of_pos hr]; rfl

def spBas (K : PySem.W.Frag) : Sp := fun vs H Q _ => ∃ (p : Addr) (h w : Int) (c : Nat) (S : Addr × List Int), vs = [.ref p, .int h, .int w] ∧ 1 ≤ h ∧ h ≤ 16 ∧ 1 ≤ w ∧ w ≤ 8 ∧ PenL K S H p c ∧ c ≤ 9000000 ∧ ∀ (v : V) (f : Fm) (H' : Hp), FmAt H' v f → FO 0 2 f → PenL K S H' p (c + 3) → KeepX p H H' → Q v H'
def spSiz (K : PySem.W.Frag) : Sp := fun vs H Q _ => ∃ (p : Addr) (c : Nat) (S : Addr × List Int), vs = [.ref p] ∧ PenL K S H p c ∧ c ≤ 9000000 ∧ ∀ (q : Addr) (h w : Int) (H' : Hp), H' q = some (.tup [.int h, .int w]) → 1 ≤ h → h ≤ 16 → 1 ≤ w → w ≤ 16 → PenL K S H' p (c + 2) → KeepX p H H' → Q (.ref q) H'
def spLik (K : PySem.W.Frag) : Sp := fun vs H Q _ => ∃ (p : Addr) (h w : Int) (c : Nat) (S : Addr × List Int), vs = [.ref p, .int h, .int w] ∧ 1 ≤ h ∧ h ≤ 16 ∧ 1 ≤ w ∧ w ≤ 16 ∧ PenL K S H p c ∧ c ≤ 8900000 ∧ ∀ (q : Addr) (h w : Int) (H' : Hp), H' q = some (.tup [.int h, .int w]) → 1 ≤ h → h ≤ 16 → 1 ≤ w → w ≤ 16 → PenL K S H' p (c + 3) → KeepX p H H' → Q (.ref q) H'
theorem mk1 {H : Hp} {a t : Addr} {kd : Kd} {u : V} {f : Fm} (h : H a = some (.tup (layV t kd [u]))) (no : isOwn kd = false) (x : FmAt H u f) : FmAt H (.ref a) (.nd kd [f]) :=
  .nd h (fun z => by rw [no] at z; cases z) rfl fun j u' f' e1 e2 => by
    match j with
    | 0 => cases e1; cases e2; exact x
    | n + 1 => simp at e1
theorem mk2 {H : Hp} {a t : Addr} {kd : Kd} {u v : V} {f g : Fm} (h : H a = some (.tup (layV t kd [u, v]))) (no : isOwn kd = false) (x : FmAt H u f) (y : FmAt H v g) : FmAt H (.ref a) (.nd kd [f, g]) :=
  .nd h (fun z => by rw [no] at z; cases z) rfl fun j u' f' e1 e2 => by
    match j with
    | 0 => cases e1; cases e2; exact x
    | 1 => cases e1; cases e2; exact y
    | n + 2 => simp at e1
theorem mk3 {H : Hp} {a t : Addr} {kd : Kd} {u v w : V} {f g k : Fm} (h : H a = some (.tup (layV t kd [u, v, w]))) (no : isOwn kd = false) (x : FmAt H u f) (y : FmAt H v g) (z : FmAt H w k) : FmAt H (.ref a) (.nd kd [f, g, k]) :=
  .nd h (fun z => by rw [no] at z; cases z) rfl fun j u' f' e1 e2 => by
    match j with
    | 0 => cases e1; cases e2; exact x
    | 1 => cases e1; cases e2; exact y
    | 2 => cases e1; cases e2; exact z
    | n + 3 => simp at e1
theorem fo1 {n : Nat} {kd : Kd} {f : Fm} (ok : KdOk kd 1) (a : FO 0 n f) : FO 0 (n + 1) (.nd kd [f]) := .nd ok fun g hg => by rw [List.mem_singleton.mp hg]; exact a
theorem fo2 {n : Nat} {kd : Kd} {f g : Fm} (ok : KdOk kd 2) (a : FO 0 n f) (b : FO 0 n g) : FO 0 (n + 1) (.nd kd [f, g]) := .nd ok fun x hx => by
  rcases List.mem_cons.mp hx with e | e
  · rw [e]; exact a
  · rw [List.mem_singleton.mp e]; exact b
theorem fo3 {n : Nat} {kd : Kd} {f g k : Fm} (ok : KdOk kd 3) (a : FO 0 n f) (b : FO 0 n g) (c : FO 0 n k) : FO 0 (n + 1) (.nd kd [f, g, k]) := .nd ok fun x hx => by
  rcases List.mem_cons.mp hx with e | e
  · rw [e]; exact a
  · rcases List.mem_cons.mp e with e | e
    · rw [e]; exact b
    · rw [List.mem_singleton.mp e]; exact c
theorem nmMain : Nm (Str.ofString "main") := nm_lit (by decide +kernel)
theorem okVal {n : Nat} : FO 0 (n + 1) (.lf (.val (.num 1 1))) := .lf ⟨⟨low_one, by decide, by decide⟩, rfl, by decide, by decide⟩
theorem okCell {n : Nat} {r c : Int} {x y : Bool} (r0 : 1 ≤ r) (r1 : r ≤ 16) (c0 : 1 ≤ c) (c1 : c ≤ 8) : FO 0 (n + 1) (.lf (.cell (some (Str.ofString "main")) ⟨r, c, x, y⟩)) := .lf ⟨nmMain, r0, r1, c0, c1⟩
theorem pickI {xs : List Int} {r : Int} {lo hi : Int} (h0 : 0 ≤ r) (h1 : r < xs.length) (hx : ∀ v ∈ xs, lo ≤ v ∧ v ≤ hi) : ∃ v : Int, atI (xs.map V.int) r = some (V.int v) ∧ lo ≤ v ∧ v ≤ hi := by
  obtain ⟨j, rfl⟩ : ∃ j : Nat, r = (j : Int) := ⟨r.toNat, by omega⟩
  have hj : j < xs.length := by omega
  exact ⟨xs[j], atI_nat (by rw [List.getElem?_map, List.getElem?_eq_getElem hj]; rfl), (hx _ (List.getElem_mem hj)).1, (hx _ (List.getElem_mem hj)).2⟩

def cst : Nat → Nat
  | 0 => 4
  | n + 1 => 2 * cst n + 20
def spMad (K : PySem.W.Frag) (n : Nat) : Sp := fun vs H Q _ => ∃ (p : Addr) (h w : Int) (c : Nat) (S : Addr × List Int), vs = [.ref p, .int h, .int w, .int n] ∧ 1 ≤ h ∧ h ≤ 16 ∧ 1 ≤ w ∧ w ≤ 16 ∧ PenL K S H p c ∧ c + cst n ≤ 8000000 ∧ ∀ (v : V) (f : Fm) (H' : Hp), FmAt H' v f → FO 0 (n + 2) f → PenL K S H' p (c + cst n) → KeepX p H H' → Q v H'
theorem cst4 (n : Nat) : 4 ≤ cst n := by cases n with | zero => exact Nat.le_refl _ | succ n => rw [cst]; omega
theorem agg4 {r : Int} (h0 : 0 ≤ r) (h1 : r < 4) : ∃ z, atI [vS "sum", vS "count", vS "least", vS "most"] r = some (V.str z) ∧ (z, 1) ∈ WDS := by
  have : r = 0 ∨ r = 1 ∨ r = 2 ∨ r = 3 := by omega
  rcases this with rfl | rfl | rfl | rfl
  all_goals exact ⟨_, rfl, by decide +kernel⟩

def spRgt (K : PySem.W.Frag) : Sp := fun vs H Q _ => ∃ (v : V) (f : Fm), vs = [v] ∧ FmAt H v f ∧ FO 0 5 f ∧ ∀ H', Same H H' → Q (.bl true) H'

end Fs
open PySem L2 Mx Fs
namespace Fs
def top (i : Nat) : Stmt := PySem.Challenge.pw_freshsheet_k24_shapes_told.main.body.getD i (.Pass ⟨0, 0, 0, 0⟩)
abbrev s_parts_of : Stmt := top 2
abbrev s_all_parts : Stmt := top 4
abbrev s_block_led_to : Stmt := top 3
abbrev s_block_shape : Stmt := top 8
abbrev s_fitted_shape : Stmt := top 9
abbrev s_stacked_shape : Stmt := top 10
abbrev s_are_single : Stmt := top 11
abbrev s_single_shape : Stmt := top 12
abbrev s_shape_by_parts : Stmt := top 13
abbrev s_told_by_parts : Stmt := top 5
abbrev s_shape_of : Stmt := top 14
abbrev s__law_pen : Stmt := top 16
abbrev s__law_next : Stmt := top 17
abbrev s__law_common : Stmt := top 18
abbrev s__law_of_parts : Stmt := top 19
abbrev s__law_shape : Stmt := top 20
abbrev s__law_base : Stmt := top 21
abbrev s__law_sizes : Stmt := top 22
abbrev s__law_like : Stmt := top 23
abbrev s__law_made : Stmt := top 24
abbrev s__law_right : Stmt := top 25
abbrev s_law : Stmt := top 26
theorem len_1 {α : Type} {us : List α} (h : us.length = 1) : ∃ a0, us = [a0] := match us, h with | [a0], _ => ⟨a0, rfl⟩
theorem len_2 {α : Type} {us : List α} (h : us.length = 2) : ∃ a0 a1, us = [a0, a1] := match us, h with | [a0, a1], _ => ⟨a0, a1, rfl⟩
theorem len_3 {α : Type} {us : List α} (h : us.length = 3) : ∃ a0 a1 a2, us = [a0, a1, a2] := match us, h with | [a0, a1, a2], _ => ⟨a0, a1, a2, rfl⟩
theorem len_4 {α : Type} {us : List α} (h : us.length = 4) : ∃ a0 a1 a2 a3, us = [a0, a1, a2, a3] := match us, h with | [a0, a1, a2, a3], _ => ⟨a0, a1, a2, a3, rfl⟩
set_option genInjectivity false in
set_option genSizeOf false in
structure Ad where
  f_parts_of : Addr
  d_parts_of : FuncData
  f_all_parts : Addr
  d_all_parts : FuncData
  f_block_led_to : Addr
  d_block_led_to : FuncData
  f_block_shape : Addr
  d_block_shape : FuncData
  f_fitted_shape : Addr
  d_fitted_shape : FuncData
  f_stacked_shape : Addr
  d_stacked_shape : FuncData
  f_are_single : Addr
  d_are_single : FuncData
  f_single_shape : Addr
  d_single_shape : FuncData
  f_shape_by_parts : Addr
  d_shape_by_parts : FuncData
  f_told_by_parts : Addr
  d_told_by_parts : FuncData
  f_shape_of : Addr
  d_shape_of : FuncData
  f__law_pen : Addr
  d__law_pen : FuncData
  f__law_next : Addr
  d__law_next : FuncData
  f__law_common : Addr
  d__law_common : FuncData
  f__law_of_parts : Addr
  d__law_of_parts : FuncData
  f__law_shape : Addr
  d__law_shape : FuncData
  f__law_base : Addr
  d__law_base : FuncData
  f__law_sizes : Addr
  d__law_sizes : FuncData
  f__law_like : Addr
  d__law_like : FuncData
  f__law_made : Addr
  d__law_made : FuncData
  f__law_right : Addr
  d__law_right : FuncData
  f_law : Addr
  d_law : FuncData
structure Txt (w : World) (K : PySem.W.Frag) (mg : Str → Option Value) (t : Ad) : Prop where
  c_parts_of : Df K mg "parts_of" s_parts_of ["formula"] t.f_parts_of t.d_parts_of
  c_all_parts : Df K mg "all_parts" s_all_parts ["formula"] t.f_all_parts t.d_all_parts
  c_block_led_to : Df K mg "block_led_to" s_block_led_to ["reference"] t.f_block_led_to t.d_block_led_to
  c_block_shape : Df K mg "block_shape" s_block_shape ["block"] t.f_block_shape t.d_block_shape
  c_fitted_shape : Df K mg "fitted_shape" s_fitted_shape ["one", "other"] t.f_fitted_shape t.d_fitted_shape
  c_stacked_shape : Df K mg "stacked_shape" s_stacked_shape ["one", "other"] t.f_stacked_shape t.d_stacked_shape
  c_are_single : Df K mg "are_single" s_are_single ["shapes"] t.f_are_single t.d_are_single
  c_single_shape : Df K mg "single_shape" s_single_shape ["formula", "shapes"] t.f_single_shape t.d_single_shape
  c_shape_by_parts : Df K mg "shape_by_parts" s_shape_by_parts ["formula", "shapes"] t.f_shape_by_parts t.d_shape_by_parts
  c_told_by_parts : Df K mg "told_by_parts" s_told_by_parts ["row", "tell_one"] t.f_told_by_parts t.d_told_by_parts
  c_shape_of : Df K mg "shape_of" s_shape_of ["opened"] t.f_shape_of t.d_shape_of
  c__law_pen : Df K mg "_law_pen" s__law_pen ["_law_script"] t.f__law_pen t.d__law_pen
  c__law_next : Df K mg "_law_next" s__law_next ["_law_pen_here", "_law_many"] t.f__law_next t.d__law_next
  c__law_common : Df K mg "_law_common" s__law_common ["_law_one", "_law_other"] t.f__law_common t.d__law_common
  c__law_of_parts : Df K mg "_law_of_parts" s__law_of_parts ["_law_tree", "_law_some"] t.f__law_of_parts t.d__law_of_parts
  c__law_shape : Df K mg "_law_shape" s__law_shape ["_law_tree"] t.f__law_shape t.d__law_shape
  c__law_base : Df K mg "_law_base" s__law_base ["_law_pen_here", "_law_high", "_law_wide"] t.f__law_base t.d__law_base
  c__law_sizes : Df K mg "_law_sizes" s__law_sizes ["_law_pen_here"] t.f__law_sizes t.d__law_sizes
  c__law_like : Df K mg "_law_like" s__law_like ["_law_pen_here", "_law_high", "_law_wide"] t.f__law_like t.d__law_like
  c__law_made : Df K mg "_law_made" s__law_made ["_law_pen_here", "_law_high", "_law_wide", "_law_deep"] t.f__law_made t.d__law_made
  c__law_right : Df K mg "_law_right" s__law_right ["_law_tree"] t.f__law_right t.d__law_right
  c_law : Df K mg "law" s_law ["_law_script"] t.f_law t.d_law
  len : mg "len" = none
  range : mg "range" = none
  isinstance : mg "isinstance" = none
  int : mg "int" = none
  bool : mg "bool" = none
  tuple : mg "tuple" = none
  list : mg "list" = none
  reversed : mg "reversed" = none
  min : mg "min" = none
  all : mg "all" = none
  v_PART_PLACES : GDit w K mg "PART_PLACES" PPK
  v_ONE_PLACE : GTup K mg "ONE_PLACE" [V.int 1, V.int 1]
  kist : PySem.W.kitOne K (.type "str") (.type "tuple") = some false
  kiit : PySem.W.kitOne K (.type "int") (.type "tuple") = some false
  kib : PySem.W.kitOne K (.type "int") (.type "bool") = some false

def spTbp (K : PySem.W.Frag) (t : Ad) : Sp := fun vs H Q _ => ∃ (l : Addr) (f : Fm) (ws : List V) (n : Nat), vs = [.ref l, .ref t.f_shape_by_parts] ∧ H l = some (.lst ws) ∧ FmsAt H ws (alF f) ∧ FO 0 n f ∧ n ≤ 8 ∧ ∀ x H', ShAt K H' x (shF f) → Same H H' → Q x H'
def spShf (K : PySem.W.Frag) : Sp := fun vs H Q _ => ∃ (v : V) (f : Fm) (n : Nat), vs = [v] ∧ FmAt H v f ∧ FO 0 n f ∧ n ≤ 8 ∧ ∀ x H', ShAt K H' x (shF f) → Same H H' → Q x H'
def okf (K : PySem.W.Frag) (t : Ad) : Addr → Sp → Prop := fun f sp => f = t.f_shape_by_parts ∧ sp = spSbp K

seal PE PT PW PA PS PSs PI PG PGs PF PO PJ OpR CallR IxR SlR
section
variable {P : Program} {w : World} {K : PySem.W.Frag} {mg : Str → Option Value} {base : Heap} {t : Ad}
theorem scparts_of : FnScope ["formula"] ["formula"] (defScope s_parts_of) := ⟨rfl, rfl, rfl, by decide +kernel, rfl, by decide +kernel, by decide +kernel⟩
theorem ok_parts_of (T : Txt w K mg t) : FnOk P w K mg base CX0 1 t.f_parts_of t.d_parts_of ["formula"] spPrt := by
  have D := T.c_parts_of
  refine D.fn.ok scparts_of (fun vs H Q E h => ?_) (fun cdv A outer s H vs Q E hr h => ?_)
  · obtain ⟨v, f, pr, n, rfl, _⟩ := h
    rfl
  · obtain ⟨v, f, pr, n, rfl, hv, fo, k⟩ := h
    have hu := hr.units0
    have hu1 := hu_of hr
    refine ⟨_, ((pss_cons (ps_if (pt_cmpR op_eq (pe_ix ix_tup (pv 0) pe_int (fun _ _ => rfl)) pe_str (nomark _)) (pss_one (ps_ret (pe_callTy call_list_of (by rfl) T.list boot_list (pa_consS (pe_ix ix_tup (pv 0) pe_int (fun _ _ => rfl)) pa_nil)))) pss_nil)
      (pss_one (ps_ret (pe_comp (fv := ["formula"]) (js := [0]) (cl := [("formula", s.heap.objs.size + 1)]) rfl (by with_unfolding_all rfl) ⟨rfl, by decide +kernel, by decide +kernel, rfl, by decide +kernel, by decide +kernel, (List.forall_mem_cons.mpr ⟨⟨rfl, rfl, rfl⟩, (List.forall_mem_nil _)⟩), (List.forall_mem_cons.mpr ⟨rfl, (List.forall_mem_nil _)⟩), (.cons rfl .nil)⟩ (pi_tup (pe_kget2 (pe_gdit T.v_PART_PLACES) (pe_ix ix_tup (pv 0) pe_int (fun _ _ => rfl)) (pe_tup pa_nil) ⟨rfl, rfl, rfl, rfl⟩)) (fun _ _ _ _ _ => pf_nil) (fun _ _ _ _ _ => (pe_ix ixc_tup (pv 1) (pv 0) (fun _ _ => rfl)))))))), ?_⟩

    cases hv with
    | @lf a l hl =>
      obtain ⟨w, r, ha, h1, h2, _⟩ := hl.pp
      refine ⟨_, rfl, a, _, _, _, rfl, rfl, SqT.of ha, atI_hd, rfl, false, h1, iteF ?_⟩
      refine fun pa kvs hk hp => ⟨pa, kvs, rfl, hk, _, rfl, a, _, _, _, rfl, rfl, SqT.of ha, atI_hd, Nat.zero_le _, fun e he => ⟨Sum.inr w, rfl, ?_⟩⟩
      rw [pp_none hp h2]
      have s1 := Same.new (o := .tup []) he
      have sq : ∀ ws D, upd H e (.tup []) D = none → SqT K (upd (upd H e (.tup [])) D (.lst ws)) e [] := fun ws D hD => SqT.of (Same.new hD _ _ upd_same)
      refine ⟨e, rfl, ⟨_, SqT.of upd_same⟩, fun D hD => ?_⟩
      refine ⟨fun i m H4 => i = 0 ∧ H4 = upd (upd H e (.tup [])) D (.lst []), ⟨0, rfl, rfl⟩, ?_⟩
      rintro i m H4 ⟨rfl, rfl⟩
      refine .inl ⟨⟨[], sq _ _ hD, Nat.le_refl _⟩, ?_⟩
      exact k D [] _ (Same.back0 s1 hD) upd_same .nil (s1.trans (Same.new hD))
    | @nd a t kd us ps ha ht hl hh =>
      cases fo with
      | nd ok hps =>
      obtain ⟨r0, er⟩ := lay_kw t kd us
      have ha0 : H a = some (.tup (.str (kw kd) :: r0)) := by rw [ha, er]
      have fm := FmAt.parts hl hh
      cases ho : isOwn kd with
      | true =>
        obtain ⟨z, rfl⟩ : ∃ z, kd = .own z := by cases kd <;> first | exact ⟨_, rfl⟩ | cases ho
        replace ha : H a = some (.tup [vS "own", .str z, .ref t]) := ha
        refine ⟨_, rfl, a, _, _, _, rfl, rfl, SqT.of ha, atI_hd, rfl, true, (by decide +kernel), iteT ?_⟩
        refine ⟨_, rfl, a, _, _, _, rfl, rfl, SqT.of ha, atI_2, t, us, rfl, .inr (SqT.of (ht rfl)), fun d hd => ?_⟩
        exact k d us _ hd upd_same (FmsAt.kp fm (Kp.same (Same.new hd))) (Same.new hd)
      | false =>
        obtain ⟨pl, hpl, lpl, hat⟩ := lay_pl (t := t) (us := us) (by rw [hl]; exact ok) ho
        have l3 := ok.le
        refine ⟨_, rfl, a, _, _, _, rfl, rfl, SqT.of ha0, atI_hd, rfl, false, congrArg V.bl ((kw_own ok).trans ho), iteF ?_⟩
        refine fun pa kvs hk hp => ⟨pa, kvs, rfl, hk, _, rfl, a, _, _, _, rfl, rfl, SqT.of ha0, atI_hd, Nat.zero_le _, fun e he => ⟨Sum.inr (kw kd), rfl, ?_⟩⟩
        obtain ⟨b, hb, hsq⟩ := pp_get hp hpl
        rw [hb]
        have s1 := Same.new (o := .tup []) he
        have nsl : ∀ {D : Addr}, upd H e (.tup []) D = none → H D = none := fun {D} h => Same.back0 s1 h
        generalize upd H e (.tup []) = H2 at *
        refine ⟨b, rfl, ⟨_, hsq _⟩, fun D hD => ?_⟩
        have sD : ∀ ws, Same H2 (upd H2 D (.lst ws)) := fun ws => Same.new hD
        refine ⟨fun i m H4 => m = us.length - i ∧ i ≤ us.length ∧ H4 = upd H2 D (.lst (us.take i)), ⟨us.length, rfl, Nat.zero_le _, rfl⟩, ?_⟩
        rintro i m H4 ⟨rfl, hi, rfl⟩
        by_cases hlt : i < us.length
        · obtain ⟨p, u, hp1, hu1', hat1⟩ := hat i hlt
          have hx1 : (pl.map fun (p : Nat) => V.int p)[i]? = some (.int p) := by rw [List.getElem?_map, hp1]; rfl
          refine .inr ⟨⟨_, _, hsq _, hx1⟩, fun x H' y => ?_⟩
          obtain ⟨e, y⟩ := y
          subst e
          have hx := y _ (hsq _)
          rw [hx1] at hx
          cases hx
          refine ⟨_, rfl, _, rfl, a, _, _, _, rfl, rfl, SqT.of (sD _ _ _ (s1 _ _ ha)), hat1, _, upd_same, sl_lt (by rw [List.length_take]; omega), us.length - (i + 1), (by omega), rfl, hlt, ?_⟩
          rw [upd_upd, List.take_add_one, hu1']; rfl
        have ei : i = us.length := by omega
        subst ei
        refine .inl ⟨⟨_, hsq _, (by rw [List.length_map, lpl]; exact Nat.le_refl _)⟩, ?_⟩
        rw [List.take_length]
        have s3 := s1.trans (sD us)
        exact k D us _ (nsl hD) upd_same (FmsAt.kp fm (Kp.same s3)) s3
theorem scall_parts : FnScope ["formula", "waiting", "row", "part"] ["formula"] (defScope s_all_parts) := ⟨rfl, rfl, rfl, by decide +kernel, rfl, by decide +kernel, by decide +kernel⟩
theorem ok_all_parts (T : Txt w K mg t) : FnOk P w K mg base CX0 2 t.f_all_parts t.d_all_parts ["formula"] spAll := by
  have D := T.c_all_parts
  refine D.fn.ok scall_parts (fun vs H Q E h => ?_) (fun cdv A outer s H vs Q E hr h => ?_)
  · obtain ⟨v, f, pr, n, rfl, _⟩ := h
    rfl
  · obtain ⟨v, f, pr, n, rfl, hv, fo, h8, k⟩ := h
    have hu := hr.units0
    have hu1 := hu_of hr
    refine ⟨_, ((pss_cons (ps_set (i := 1) scall_parts.nd rfl (Or.inl rfl) (pe_lst (pa_consN (pv 0) pa_nil)))
      (pss_cons (ps_set (i := 2) scall_parts.nd rfl (Or.inl rfl) (pe_lst pa_nil))
      (pss_cons (ps_while PassesOwn.never (pt_cmpR op_gt (pe_callB call_len_seq (by rfl) T.len PySem.boot_len (pa_consN (pv 1) pa_nil)) pe_int (nomark _)) (pss_cons (ps_set (i := 3) scall_parts.nd rfl (Or.inl rfl) (pe_bm0 PySem.F.plainAttrs_list PySem.F.slot_list_pop PySem.F.type_list_pop mt_pop (pv 1)))
      (pss_cons (ps_expr (pe_bm PySem.F.plainAttrs_list PySem.F.slot_list_append PySem.F.type_list_append mt_append (pv 2) (pa_consN (pv 3) pa_nil)))
      (pss_one (ps_expr (pe_bm PySem.F.plainAttrs_list PySem.F.slot_list_extend PySem.F.type_list_extend mt_extend (pv 1) (pa_consC (pe_cl T.c_parts_of (ok_parts_of T) (hr.mono (by decide)) (pa_consN (pv 3) pa_nil)) pa_nil)))))))
      (pss_one (ps_ret (pe_listrev rfl (by rfl) T.list boot_list (by rfl) T.reversed (pv 2)))))))), ?_⟩

    have bd := szF_le fo h8
    refine ⟨_, rfl, one_le, fun l hl => ?_⟩
    have s0 := Same.new (o := .lst [v]) hl
    have hl1 : upd H l (.lst [v]) l = some (.lst [v]) := upd_same
    have hv1 := FmAt.kp hv (Kp.same s0)
    generalize upd H l (.lst [v]) = H1 at *
    refine ⟨Nat.zero_le _, fun r hr' => ?_⟩
    have s1 := Same.new (o := .lst []) hr'
    have nlr : l ≠ r := fun z => by rw [← z, hl1] at hr'; cases hr'
    have hr0 : H r = none := by
      cases c : H r with
      | none => rfl
      | some o => rw [s0 _ _ c] at hr'; cases hr'
    refine ⟨fun m σ H5 => ∃ (vs rs : List V) (fs gs : List Fm) (x : Option V), σ = [some v, some (.ref l), some (.ref r), x] ∧ H5 l = some (.lst vs) ∧ H5 r = some (.lst rs) ∧ FmsAt H5 vs fs ∧ FmsAt H5 rs gs ∧ (∀ g ∈ fs, FO pr n g) ∧ szs fs = m ∧ alL fs ++ gs.reverse = alF f ∧ Same H H5,
      ⟨szF f, _, _, [f], [], none, rfl, s1 _ _ hl1, upd_same, .cons (FmAt.kp hv1 (Kp.same s1)) .nil, .nil, (fun g hg => by rw [List.mem_singleton.mp hg]; exact fo), (by rw [szs, szs]; omega), (by rw [alL, alL]; simp), fun b o e => s1 _ _ (s0 _ _ e)⟩, ?_⟩
    rintro m σ H5 ⟨vs, rs, fs, gs, x, rfl, hl5, hr5, fm5, gm5, good, hm, him, s5⟩
    refine ⟨_, rfl, l, _, rfl, .inl (SqL.of hl5), _, _, rfl, rfl, _, rfl, ?_⟩
    rcases List.eq_nil_or_concat vs with rfl | ⟨vs', y, hvs⟩
    · have e0 : fs = [] := List.length_eq_zero_iff.mp (Paired.length fm5).symm
      subst e0
      refine iteF ⟨_, rfl, r, rs, rfl, SqL.of hr5, fun lq hlq => ?_⟩
      have e1 : gs.reverse = alF f := by rw [← him, alL, List.nil_append]
      have s6 := Same.new (o := .lst rs.reverse) hlq
      have hq0 : H lq = none := by
        cases c : H lq with
        | none => rfl
        | some o => rw [s5 _ _ c] at hlq; cases hlq
      exact k lq rs.reverse _ hq0 upd_same (by rw [← e1]; exact prev (FmsAt.kp gm5 (Kp.same s6))) fun b o e => s6 _ _ (s5 _ _ e)
    have hvs : vs = vs' ++ [y] := by rw [hvs, List.concat_eq_append]
    subst hvs
    obtain ⟨fs', g, rfl, fm', hg⟩ := psplit fm5
    have fg := good g (by simp)
    have hsz : szs fs' + (1 + szs (prtF g)) = m := by
      rw [← hm, szs_app, szs, szs, szF_prt g]; omega
    have hne : decide ((0 : Int) < ((vs' ++ [y]).length : Int)) = true := decide_eq_true (by rw [List.length_append, List.length_singleton]; omega)
    rw [hne]
    refine iteT ⟨fun σ' H' => ∃ m', m' < m ∧ ∃ (vs rs : List V) (fs gs : List Fm) (x : Option V), σ' = [some v, some (.ref l), some (.ref r), x] ∧ H' l = some (.lst vs) ∧ H' r = some (.lst rs) ∧ FmsAt H' vs fs ∧ FmsAt H' rs gs ∧ (∀ g ∈ fs, FO pr n g) ∧ szs fs = m' ∧ alL fs ++ gs.reverse = alF f ∧ Same H H', fun _ _ z => z, ?_⟩
    refine ⟨_, rfl, .inl ⟨rfl, _, SqL.of hl5⟩, l, _, y, rfl, rfl, hl5, (by simp), ?_⟩
    rw [List.dropLast_concat]
    have t7 : Kp H5 (upd H5 l (.lst vs')) := Kp.lst hl5 KeepX.upd
    have hl7 : upd H5 l (.lst vs') l = some (.lst vs') := upd_same
    have hr7 : upd H5 l (.lst vs') r = some (.lst rs) := by rw [upd_ne nlr.symm]; exact hr5
    have fm7 := FmsAt.kp fm' t7
    have gm7 := FmsAt.kp gm5 t7
    have hg7 := FmAt.kp hg t7
    have s7 : Same H (upd H5 l (.lst vs')) := fun b o e => by rw [upd_ne (ne_of_none e hl)]; exact s5 _ _ e
    generalize upd H5 l (.lst vs') = H7 at *
    have n0 : (alL (fs' ++ [g])).length + gs.length = szF f := by rw [← alF_len f, ← him, List.length_append, List.length_reverse]
    rw [alL_len] at n0
    have n00 : rs.length = gs.length := Paired.length gm5
    refine ⟨_, rfl, .inl ⟨rfl, _, SqL.of hr7⟩, _, rfl, r, rs, y, rfl, rfl, hr7, slm (by omega), ?_⟩
    have t8 : Kp H7 (upd H7 r (.lst (rs ++ [y]))) := Kp.lst hr7 KeepX.upd
    have hl8 : upd H7 r (.lst (rs ++ [y])) l = some (.lst vs') := by rw [upd_ne nlr]; exact hl7
    have hr8 : upd H7 r (.lst (rs ++ [y])) r = some (.lst (rs ++ [y])) := upd_same
    have fm8 := FmsAt.kp fm7 t8
    have hg8 := FmAt.kp hg7 t8
    have gm8 : FmsAt _ (rs ++ [y]) (gs ++ [g]) := papp (FmsAt.kp gm7 t8) (.cons hg8 .nil)
    have s8 : Same H (upd H7 r (.lst (rs ++ [y]))) := fun b o e => by rw [upd_ne (ne_of_none e hr0)]; exact s7 _ _ e
    generalize upd H7 r (.lst (rs ++ [y])) = H8 at *
    refine ⟨_, rfl, .inl ⟨rfl, _, SqL.of hl8⟩, _, rfl, y, g, pr, n, rfl, hg8, fg, fun lp ws HA hlp0 hlp fmp sA => ?_⟩
    have n1 : vs'.length = fs'.length := Paired.length fm7
    have n2 : ws.length = (prtF g).length := Paired.length fmp
    have n3 := szs_len fs'
    have n4 := szs_len (prtF g)
    have n5 : szs (fs' ++ [g]) = szs fs' + (1 + szs (prtF g)) := by rw [szs_app, szs, szs, szF_prt g]; omega
    have hlA := sA _ _ hl8
    have hrA := sA _ _ hr8
    refine ⟨l, lp, vs', ws, rfl, rfl, hlA, hlp, slm (by omega), ?_⟩
    have tB : Kp HA (upd HA l (.lst (vs' ++ ws))) := Kp.lst hlA KeepX.upd
    refine ⟨szs fs' + szs (prtF g), (by omega), vs' ++ ws, rs ++ [y], fs' ++ prtF g, gs ++ [g], _, rfl, upd_same, (by rw [upd_ne nlr.symm]; exact hrA), papp (FmsAt.kp fm8 ((Kp.same sA).trans tB)) (FmsAt.kp fmp tB), FmsAt.kp gm8 ((Kp.same sA).trans tB), fun x hx => ?_, szs_app _ _, ?_, fun b o e => ?_⟩
    · rcases List.mem_append.mp hx with q | q
      · exact good x (List.mem_append.mpr (.inl q))
      · exact fg.prt x q
    · rw [← him, alL_app, alL_app, alL, alL, alF_prt g]; simp
    · rw [upd_ne (ne_of_none e hl)]; exact sA _ _ (s8 _ _ e)
theorem scblock_led_to : FnScope ["reference", "first", "last"] ["reference"] (defScope s_block_led_to) := ⟨rfl, rfl, rfl, by decide +kernel, rfl, by decide +kernel, by decide +kernel⟩
theorem ok_block_led_to (T : Txt w K mg t) : FnOk P w K mg base CX0 1 t.f_block_led_to t.d_block_led_to ["reference"] spBld := by
  have D := T.c_block_led_to
  refine D.fn.ok scblock_led_to (fun vs H Q E h => ?_) (fun cdv A outer s H vs Q E hr h => ?_)
  · obtain ⟨v, s_, c, d, rfl, _⟩ := h
    rfl
  · obtain ⟨v, s_, c, d, rfl, hv, k⟩ := h
    have hu := hr.units0
    have hu1 := hu_of hr
    refine ⟨_, ((pss_cons (ps_set (i := 1) scblock_led_to.nd rfl (Or.inl rfl) (pe_ix ix_tup (pv 0) pe_int (fun _ _ => rfl)))
      (pss_cons (ps_set (i := 2) scblock_led_to.nd rfl (Or.inl rfl) (pe_ix ix_tup (pv 0) (pe_un un_neg pe_int) (fun _ _ => rfl)))
      (pss_one (ps_ret (pe_tup (pa_consS (pe_ix ix_tup (pv 0) pe_int (fun _ _ => rfl)) (pa_consS (pe_ix ix_tup (pv 1) pe_int (fun _ _ => rfl)) (pa_consS (pe_ix ix_tup (pv 1) pe_int (fun _ _ => rfl)) (pa_consS (pe_ix ix_tup (pv 2) pe_int (fun _ _ => rfl)) (pa_consS (pe_ix ix_tup (pv 2) pe_int (fun _ _ => rfl)) pa_nil))))))))))), ?_⟩

    cases hv with
    | @lf a l hl =>
      obtain ⟨q, u, ha, hq, hu'⟩ := hl
      refine ⟨_, rfl, a, _, _, _, rfl, rfl, SqT.of ha, rfl, _, rfl, 1, rfl, a, _, _, _, rfl, rfl, SqT.of ha, rfl, ?_⟩
      refine ⟨_, rfl, a, _, _, _, rfl, rfl, SqT.of ha, rfl, _, rfl, q, _, _, _, rfl, rfl, SqT.of hq, rfl, _, rfl, q, _, _, _, rfl, rfl, SqT.of hq, rfl, _, rfl, u, _, _, _, rfl, rfl, SqT.of hu', rfl, _, rfl, u, _, _, _, rfl, rfl, SqT.of hu', rfl, (by show 5 ≤ sizeLine; decide), k⟩
theorem scblock_shape : FnScope ["block"] ["block"] (defScope s_block_shape) := ⟨rfl, rfl, rfl, by decide +kernel, rfl, by decide +kernel, by decide +kernel⟩
theorem ok_block_shape (T : Txt w K mg t) : FnOk P w K mg base CX0 1 t.f_block_shape t.d_block_shape ["block"] spBsh := by
  have D := T.c_block_shape
  refine D.fn.ok scblock_shape (fun vs H Q E h => ?_) (fun cdv A outer s H vs Q E hr h => ?_)
  · obtain ⟨q, x, a, b, c, d, rfl, _⟩ := h
    rfl
  · obtain ⟨q, x, a, b, c, d, rfl, hq, k⟩ := h
    have hu := hr.units0
    have hu1 := hu_of hr
    refine ⟨_, ((pss_one (ps_ret (pe_tup (pa_consB (pe_op op_add (pe_op op_sub (pe_ix ix_tup (pv 0) pe_int (fun _ _ => rfl)) (pe_ix ix_tup (pv 0) pe_int (fun _ _ => rfl))) pe_int) (pa_consB (pe_op op_add (pe_op op_sub (pe_ix ix_tup (pv 0) pe_int (fun _ _ => rfl)) (pe_ix ix_tup (pv 0) pe_int (fun _ _ => rfl))) pe_int) pa_nil)))))), ?_⟩

    refine ⟨_, rfl, q, _, _, _, rfl, rfl, SqT.of hq, rfl, _, rfl, q, _, _, _, rfl, rfl, SqT.of hq, rfl, _, _, rfl, rfl, _, _, rfl, rfl, _, rfl, q, _, _, _, rfl, rfl, SqT.of hq, rfl, _, rfl, q, _, _, _, rfl, rfl, SqT.of hq, rfl, _, _, rfl, rfl, _, _, rfl, rfl, two_le, k⟩
theorem scfitted_shape : FnScope ["one", "other"] ["one", "other"] (defScope s_fitted_shape) := ⟨rfl, rfl, rfl, by decide +kernel, rfl, by decide +kernel, by decide +kernel⟩
theorem ok_fitted_shape (T : Txt w K mg t) : FnOk P w K mg base CX0 1 t.f_fitted_shape t.d_fitted_shape ["one", "other"] (spFit K) := by
  have D := T.c_fitted_shape
  refine D.fn.ok scfitted_shape (fun vs H Q E h => ?_) (fun cdv A outer s H vs Q E hr h => ?_)
  · obtain ⟨u, v, a, b, rfl, _⟩ := h
    rfl
  · obtain ⟨u, v, a, b, rfl, ⟨p, e1, hp⟩, ⟨q, e2, hq⟩, k⟩ := h
    have hu := hr.units0
    have hu1 := hu_of hr
    refine ⟨_, ((pss_cons (ps_if (pw_or (pt_cmpR (op_eqT hu) (pv 0) (pv 1) (nomark _)) (pw_or1 (pt_cmpR (op_eqT hu) (pv 1) (pe_gtup T.v_ONE_PLACE) (nomark _)))).pt (pss_one (ps_ret (pv 0))) pss_nil)
      (pss_one (ps_ret (pe_ifExp (pt_cmpR (op_eqT hu) (pv 0) (pe_gtup T.v_ONE_PLACE) (nomark _)) (pv 1) pe_non))))), ?_⟩

    subst e1
    subst e2
    unfold fit at k
    refine ⟨_, rfl, _, rfl, p, q, _, _, rfl, rfl, hp, hq, rfl, rfl, decide (a = b), congrArg V.bl (eqP2 a b), ite2 (fun c1 => iteT ⟨_, rfl, ?_⟩) (fun c1 => ?_)⟩
    · rw [if_pos (of_decide_eq_true c1)] at k
      exact k _ _ ⟨p, rfl, hp⟩ (Same.refl _)
    have c1' := fun z => c1 (decide_eq_true z)
    rw [if_neg c1'] at k
    refine ⟨_, rfl, fun o ho => ⟨q, o, _, _, rfl, rfl, hq, (ho _), rfl, rfl, decide (b = (1, 1)), congrArg V.bl (eqP2 b (1, 1)), ite2 (fun c2 => ⟨_, rfl, ?_⟩) (fun c2 => ?_)⟩⟩
    · rw [if_pos (of_decide_eq_true c2)] at k
      exact k _ _ ⟨p, rfl, hp⟩ (Same.refl _)
    rw [if_neg fun z => c2 (decide_eq_true z)] at k
    refine ⟨_, rfl, fun o ho => ⟨p, o, _, _, rfl, rfl, hp, (ho _), rfl, rfl, decide (a = (1, 1)), congrArg V.bl (eqP2 a (1, 1)), ite2 (fun c3 => ⟨_, rfl, ?_⟩) (fun c3 => ?_)⟩⟩
    · rw [if_pos (of_decide_eq_true c3)] at k
      exact k _ _ ⟨q, rfl, hq⟩ (Same.refl _)
    · rw [if_neg fun z => c3 (decide_eq_true z)] at k
      exact k _ _ rfl (Same.refl _)
theorem scstacked_shape : FnScope ["one", "other"] ["one", "other"] (defScope s_stacked_shape) := ⟨rfl, rfl, rfl, by decide +kernel, rfl, by decide +kernel, by decide +kernel⟩
theorem ok_stacked_shape (T : Txt w K mg t) : FnOk P w K mg base CX0 1 t.f_stacked_shape t.d_stacked_shape ["one", "other"] (spStk K) := by
  have D := T.c_stacked_shape
  refine D.fn.ok scstacked_shape (fun vs H Q E h => ?_) (fun cdv A outer s H vs Q E hr h => ?_)
  · obtain ⟨u, v, a, b, rfl, _⟩ := h
    rfl
  · obtain ⟨u, v, a, b, rfl, ⟨p, e1, hp⟩, ⟨q, e2, hq⟩, k⟩ := h
    have hu := hr.units0
    have hu1 := hu_of hr
    refine ⟨_, ((pss_one (ps_ret (pe_ifExp (pt_cmpR op_eq (pe_ix ix_tup (pv 0) pe_int (fun _ _ => rfl)) (pe_ix ix_tup (pv 1) pe_int (fun _ _ => rfl)) (nomark _)) (pe_tup (pa_consB (pe_op op_add (pe_ix ix_tup (pv 0) pe_int (fun _ _ => rfl)) (pe_ix ix_tup (pv 1) pe_int (fun _ _ => rfl))) (pa_consS (pe_ix ix_tup (pv 0) pe_int (fun _ _ => rfl)) pa_nil))) pe_non)))), ?_⟩

    subst e1
    subst e2
    unfold stk at k
    refine ⟨_, rfl, p, _, _, _, rfl, rfl, hp, rfl, _, rfl, q, _, _, _, rfl, rfl, hq, rfl, rfl, _, rfl, ite2 (fun c => ?_) (fun c => ?_)⟩
    · have c' : a.2 = b.2 := by have := of_decide_eq_true c; injection this
      rw [if_pos c'] at k
      refine ⟨_, rfl, p, _, _, _, rfl, rfl, hp, rfl, _, rfl, q, _, _, _, rfl, rfl, hq, rfl, _, _, rfl, rfl, _, rfl, p, _, _, _, rfl, rfl, hp, rfl, two_le, fun r hr' => ?_⟩
      exact k _ _ ⟨r, rfl, SqT.of upd_same⟩ (Same.new hr')
    · rw [if_neg fun z => c (decide_eq_true (by rw [z]))] at k
      exact k _ _ rfl (Same.refl _)
theorem scare_single : FnScope ["shapes"] ["shapes"] (defScope s_are_single) := ⟨rfl, rfl, rfl, by decide +kernel, rfl, by decide +kernel, by decide +kernel⟩
theorem ok_are_single (T : Txt w K mg t) : FnOk P w K mg base CX0 1 t.f_are_single t.d_are_single ["shapes"] (spSgl K) := by
  have D := T.c_are_single
  refine D.fn.ok scare_single (fun vs H Q E h => ?_) (fun cdv A outer s H vs Q E hr h => ?_)
  · obtain ⟨l, us, ss, rfl, _⟩ := h
    rfl
  · obtain ⟨l, us, ss, rfl, hl, sh, h3, k⟩ := h
    have hu := hr.units0
    have hu1 := hu_of hr
    refine ⟨_, ((pss_one (ps_ret (pe_callB (call_all rfl) (by rfl) T.all boot_all (pa_consH (pe_comp (fv := []) (js := []) (cl := []) rfl (by with_unfolding_all rfl) ⟨rfl, by decide +kernel, by decide +kernel, rfl, by decide +kernel, by decide +kernel, (List.forall_mem_nil _), (List.forall_mem_nil _), .nil⟩ (pi_list (pv 0)) (fun _ _ _ _ _ => pf_nil) (fun _ _ _ _ _ => (pe_cmpR (op_eqTc hu) (pv 0) (pe_gtupc T.v_ONE_PLACE) (nomark _)))) pa_nil))))), ?_⟩

    have hlen : us.length = ss.length := by have := Paired.length sh; rw [List.length_map] at this; exact this
    refine ⟨_, rfl, l, rfl, ⟨_, SqL.of hl⟩, fun D hD => ?_⟩
    have sD : ∀ ws, Same H (upd H D (.lst ws)) := fun ws => Same.new hD
    refine ⟨fun i m H4 => m = us.length - i ∧ i ≤ us.length ∧ H4 = upd H D (.lst (((ss.take i).map fun p => decide (p = (1, 1))).map V.bl)), ⟨us.length, rfl, Nat.zero_le _, rfl⟩, ?_⟩
    rintro i m H4 ⟨rfl, hi, rfl⟩
    by_cases hlt : i < us.length
    · refine .inr ⟨⟨us, us[i], SqL.of (sD _ _ _ hl), List.getElem?_eq_getElem hlt⟩, fun x H' y => ?_⟩
      obtain ⟨e, y⟩ := y
      subst e
      have hx := y us (SqL.of (sD _ _ _ hl))
      obtain ⟨s1, hs1, xs1⟩ := paired_at sh hx
      have hlt2 : i < ss.length := by omega
      have hs2 : ss[i]? = some ss[i] := List.getElem?_eq_getElem hlt2
      have e1 : s1 = some ss[i] := by
        rw [List.getElem?_map, hs2] at hs1
        exact (Option.some.inj hs1).symm
      subst e1
      obtain ⟨a, rfl, ha⟩ := xs1
      refine ⟨_, rfl, fun o ho => ⟨a, o, _, _, rfl, rfl, SqT.sm ha (sD _), ho _, rfl, rfl, _, upd_same, sl_lt (by rw [List.length_map, List.length_map, List.length_take]; omega), us.length - (i + 1), (by omega), rfl, hlt, ?_⟩⟩
      rw [upd_upd, List.take_add_one, hs2, eqP2 ss[i] (1, 1), List.map_append, List.map_append]
      rfl
    have ei : i = us.length := by omega
    subst ei
    refine .inl ⟨⟨us, SqL.of (sD _ _ _ hl), Nat.le_refl _⟩, ?_⟩
    rw [hlen, List.take_length]
    refine ⟨D, _, rfl, SqL.of upd_same, ?_⟩
    rw [List.all_map]
    exact k _ (sD _)
theorem scsingle_shape : FnScope ["formula", "shapes", "kind"] ["formula", "shapes"] (defScope s_single_shape) := ⟨rfl, rfl, rfl, by decide +kernel, rfl, by decide +kernel, by decide +kernel⟩
theorem ok_single_shape (T : Txt w K mg t) : FnOk P w K mg base CX0 1 t.f_single_shape t.d_single_shape ["formula", "shapes"] (spSng K) := by
  have D := T.c_single_shape
  refine D.fn.ok scsingle_shape (fun vs H Q E h => ?_) (fun cdv A outer s H vs Q E hr h => ?_)
  · obtain ⟨a, l, w, r, us, ss, rfl, _⟩ := h
    rfl
  · obtain ⟨a, l, w, r, us, ss, rfl, ha, hl, sh, l1, l2, l3, k⟩ := h
    have hu := hr.units0
    have hu1 := hu_of hr
    refine ⟨_, ((pss_cons (ps_set (i := 2) scsingle_shape.nd rfl (Or.inl rfl) (pe_ix ix_tup (pv 0) pe_int (fun _ _ => rfl)))
      (pss_cons (ps_if (pt_cmpR op_eq (pv 2) pe_str (nomark _)) (pss_one (ps_ret (pe_ifExp (pw_and (pt_cmpR (op_eqT hu) (pe_ix ix_list (pv 1) pe_int (fun _ _ => rfl)) (pe_ix ix_list (pv 1) pe_int (fun _ _ => rfl)) (nomark _)) (pw_and1 (pt_cmpR (op_eqT hu) (pe_ix ix_list (pv 1) pe_int (fun _ _ => rfl)) (pe_gtup T.v_ONE_PLACE) (nomark _)))).pt (pe_gtup T.v_ONE_PLACE) pe_non))) pss_nil)
      (pss_cons (ps_if (pt_cmpR op_eq (pv 2) pe_str (nomark _)) (pss_one (ps_ret (pe_ifExp (pw_and (pt_cmpR (op_eqT hu) (pe_ix ix_list (pv 1) pe_int (fun _ _ => rfl)) (pe_gtup T.v_ONE_PLACE) (nomark _)) (pw_and1 (pt_cmpR (op_eqT hu) (pe_ix ix_list (pv 1) pe_int (fun _ _ => rfl)) (pe_gtup T.v_ONE_PLACE) (nomark _)))).pt (pe_gtup T.v_ONE_PLACE) pe_non))) pss_nil)
      (pss_cons (ps_if (pt_cmpR op_eq (pv 2) pe_str (nomark _)) (pss_one (ps_ret (pe_ifExp (pt_cmpR (op_eqT hu) (pe_ix ix_list (pv 1) pe_int (fun _ _ => rfl)) (pe_gtup T.v_ONE_PLACE) (nomark _)) (pe_ix ix_list (pv 1) pe_int (fun _ _ => rfl)) pe_non))) pss_nil)
      (pss_one (ps_ret (pe_gtup T.v_ONE_PLACE)))))))), ?_⟩

    unfold sng at k
    refine ⟨_, rfl, a, _, _, _, rfl, rfl, SqT.of ha, atI_hd, ?_⟩
    by_cases h1 : w = zS "sumif"
    · rw [if_pos h1] at k
      obtain ⟨x, y, z, rfl⟩ := kid3 (l1 h1)
      obtain ⟨p, q, u, rfl, hp, hq, hu'⟩ := sh3 sh
      refine ⟨_, rfl, rfl, true, strT' h1, iteT ?_⟩
      dsimp only at k
      refine ⟨_, rfl, l, _, _, _, rfl, rfl, SqL.of hl, rfl, _, rfl, l, _, _, _, rfl, rfl, SqL.of hl, rfl, p, u, _, _, rfl, rfl, hp, hu', rfl, rfl, decide (x = z), congrArg V.bl (eqP2 x z), ite2 (fun c1 => ?_) (fun c1 => iteF ?_)⟩
      · rw [if_pos (of_decide_eq_true c1)] at k
        refine ⟨_, rfl, l, _, _, _, rfl, rfl, SqL.of hl, rfl, fun o ho => ⟨q, o, _, _, rfl, rfl, hq, (ho _), rfl, rfl, decide (y = (1, 1)), congrArg V.bl (eqP2 y (1, 1)), ite2 (fun c2 => ?_) (fun c2 => ?_)⟩⟩
        · rw [if_pos (of_decide_eq_true c2)] at k
          exact fun o ho => k _ _ ⟨o, rfl, ho _⟩ (Same.refl _)
        · rw [if_neg fun z => c2 (decide_eq_true z)] at k
          exact k _ _ rfl (Same.refl _)
      · rw [if_neg fun z => c1 (decide_eq_true z)] at k
        exact k _ _ rfl (Same.refl _)
    rw [if_neg h1] at k
    refine ⟨_, rfl, rfl, false, strN' h1, iteF ?_⟩
    by_cases h2 : w = zS "find"
    · rw [if_pos h2] at k
      obtain ⟨x, y, z, rfl⟩ := kid3 (l2 h2)
      obtain ⟨p, q, u, rfl, hp, hq, hu'⟩ := sh3 sh
      refine ⟨_, rfl, rfl, true, strT' h2, iteT ?_⟩
      dsimp only at k
      refine ⟨_, rfl, l, _, _, _, rfl, rfl, SqL.of hl, rfl, fun o ho => ⟨p, o, _, _, rfl, rfl, hp, (ho _), rfl, rfl, decide (x = (1, 1)), congrArg V.bl (eqP2 x (1, 1)), ite2 (fun c1 => ?_) (fun c1 => iteF ?_)⟩⟩
      · rw [if_pos (of_decide_eq_true c1)] at k
        refine ⟨_, rfl, l, _, _, _, rfl, rfl, SqL.of hl, rfl, fun o ho => ⟨u, o, _, _, rfl, rfl, hu', (ho _), rfl, rfl, decide (z = (1, 1)), congrArg V.bl (eqP2 z (1, 1)), ite2 (fun c2 => ?_) (fun c2 => ?_)⟩⟩
        · rw [if_pos (of_decide_eq_true c2)] at k
          exact fun o ho => k _ _ ⟨o, rfl, ho _⟩ (Same.refl _)
        · rw [if_neg fun z => c2 (decide_eq_true z)] at k
          exact k _ _ rfl (Same.refl _)
      · rw [if_neg fun z => c1 (decide_eq_true z)] at k
        exact k _ _ rfl (Same.refl _)
    rw [if_neg h2] at k
    refine ⟨_, rfl, rfl, false, strN' h2, iteF ?_⟩
    by_cases h3 : w = zS "outer"
    · rw [if_pos h3] at k
      obtain ⟨x, rfl⟩ := kid1 (l3 h3)
      obtain ⟨p, rfl, hp⟩ := sh1 sh
      refine ⟨_, rfl, rfl, true, strT' h3, iteT ?_⟩
      dsimp only at k
      refine ⟨_, rfl, l, _, _, _, rfl, rfl, SqL.of hl, rfl, fun o ho => ⟨p, o, _, _, rfl, rfl, hp, (ho _), rfl, rfl, decide (x = (1, 1)), congrArg V.bl (eqP2 x (1, 1)), ite2 (fun c1 => ?_) (fun c1 => ?_)⟩⟩
      · have c1' := of_decide_eq_true c1
        rw [if_pos c1'] at k
        subst c1'
        exact ⟨_, rfl, l, _, _, _, rfl, rfl, SqL.of hl, rfl, k _ _ ⟨p, rfl, hp⟩ (Same.refl _)⟩
      · rw [if_neg fun z => c1 (decide_eq_true z)] at k
        exact k _ _ rfl (Same.refl _)
    rw [if_neg h3] at k
    refine ⟨_, rfl, rfl, false, strN' h3, iteF ?_⟩
    exact fun o ho => k _ _ ⟨o, rfl, ho _⟩ (Same.refl _)
theorem scshape_by_parts : FnScope ["formula", "shapes", "kind"] ["formula", "shapes"] (defScope s_shape_by_parts) := ⟨rfl, rfl, rfl, by decide +kernel, rfl, by decide +kernel, by decide +kernel⟩
theorem ok_shape_by_parts (T : Txt w K mg t) : FnOk P w K mg base CX0 3 t.f_shape_by_parts t.d_shape_by_parts ["formula", "shapes"] (spSbp K) := by
  have D := T.c_shape_by_parts
  refine D.fn.ok scshape_by_parts (fun vs H Q E h => ?_) (fun cdv A outer s H vs Q E hr h => ?_)
  · obtain ⟨v, f, l, us, n, rfl, _⟩ := h
    rfl
  · obtain ⟨v, f, l, us, n, rfl, hv, fo, hl, sh0, k⟩ := h
    have hu := hr.units0
    have hu1 := hu_of hr
    refine ⟨_, ((pss_cons (ps_set (i := 2) scshape_by_parts.nd rfl (Or.inl rfl) (pe_ix ix_tup (pv 0) pe_int (fun _ _ => rfl)))
      (pss_cons (ps_if (pt_cmpR (op_inN2 hu1) pe_non (pv 1) rfl) (pss_one (ps_ret pe_non)) pss_nil)
      (pss_cons (ps_if (pt_cmpR op_eq (pv 2) pe_str (nomark _)) (pss_one (ps_ret (pe_cl T.c_block_shape (ok_block_shape T) (hr.mono (by decide)) (pa_consC (pe_cl T.c_block_led_to (ok_block_led_to T) (hr.mono (by decide)) (pa_consN (pv 0) pa_nil)) pa_nil)))) pss_nil)
      (pss_cons (ps_if (pt_cmpR op_eq (pv 2) pe_str (nomark _)) (pss_one (ps_ret (pe_cl T.c_fitted_shape (ok_fitted_shape T) (hr.mono (by decide)) (pa_consS (pe_ix ix_list (pv 1) pe_int (fun _ _ => rfl)) (pa_consS (pe_ix ix_list (pv 1) pe_int (fun _ _ => rfl)) pa_nil))))) pss_nil)
      (pss_cons (ps_if (pt_cmpR op_eq (pv 2) pe_str (nomark _)) (pss_one (ps_ret (pe_ix ix_list (pv 1) pe_int (fun _ _ => rfl)))) pss_nil)
      (pss_cons (ps_if (pt_cmpR op_eq (pv 2) pe_str (nomark _)) (pss_one (ps_ret (pe_ifExp (pt_cmpR (op_eqT hu) (pe_ix ix_list (pv 1) pe_int (fun _ _ => rfl)) (pe_gtup T.v_ONE_PLACE) (nomark _)) (pe_cl T.c_fitted_shape (ok_fitted_shape T) (hr.mono (by decide)) (pa_consS (pe_ix ix_list (pv 1) pe_int (fun _ _ => rfl)) (pa_consS (pe_ix ix_list (pv 1) pe_int (fun _ _ => rfl)) pa_nil))) pe_non))) pss_nil)
      (pss_cons (ps_if (pt_cmpR op_eq (pv 2) pe_str (nomark _)) (pss_one (ps_ret (pe_tup (pa_consS (pe_ix ix_tup (pe_ix ix_list (pv 1) pe_int (fun _ _ => rfl)) pe_int (fun _ _ => rfl)) (pa_consS (pe_ix ix_tup (pe_ix ix_list (pv 1) pe_int (fun _ _ => rfl)) pe_int (fun _ _ => rfl)) pa_nil))))) pss_nil)
      (pss_cons (ps_if (pt_cmpR op_eq (pv 2) pe_str (nomark _)) (pss_one (ps_ret (pe_cl T.c_stacked_shape (ok_stacked_shape T) (hr.mono (by decide)) (pa_consS (pe_ix ix_list (pv 1) pe_int (fun _ _ => rfl)) (pa_consS (pe_ix ix_list (pv 1) pe_int (fun _ _ => rfl)) pa_nil))))) pss_nil)
      (pss_cons (ps_if (pt_cmpR op_eq (pv 2) pe_str (nomark _)) (pss_one (ps_ret (pe_ifExp (pt_val (pe_cl T.c_are_single (ok_are_single T) (hr.mono (by decide)) (pa_consN (pv 1) pa_nil))) (pe_tup (pa_consS (pe_ix ix_tup (pv 0) pe_int (fun _ _ => rfl)) (pa_consS (pe_ix ix_tup (pv 0) pe_int (fun _ _ => rfl)) pa_nil))) pe_non))) pss_nil)
      (pss_one (ps_ret (pe_cl T.c_single_shape (ok_single_shape T) (hr.mono (by decide)) (pa_consN (pv 0) (pa_consN (pv 1) pa_nil))))))))))))))), ?_⟩

    have any0 := shs_any sh0
    cases nn0 : (shL (prtF f)).any (fun s => s.isNone) with
    | true =>
      have e := shF_none f nn0
      rw [e] at k
      obtain ⟨b, ys, rfl, hb⟩ := hv.tup
      obtain ⟨w, r, hb0⟩ : ∃ w r, H b = some (.tup (.str w :: r)) := by
        cases hv with
        | lf h => obtain ⟨w, r, h1, _⟩ := h.pp; exact ⟨w, r, h1⟩
        | @nd _ t kd us' ps h _ _ _ => obtain ⟨r0, er⟩ := lay_kw t kd us'; exact ⟨_, r0, by rw [h, er]⟩
      exact ⟨_, rfl, b, _, _, _, rfl, rfl, SqT.of hb0, atI_hd, _, rfl, l, us, rfl, rfl, hl, shs_mem sh0, true, congrArg V.bl (any0.trans nn0), iteT (k _ _ rfl (Same.refl _))⟩
    | false =>
    have nn := any0.trans nn0
    obtain ⟨qs, hss⟩ := somes nn0
    have sh := sh0
    rw [hss] at sh
    cases hv with
    | @lf a lf0 hl0 =>
      cases fo with
      | lf lok =>
      cases lf0 with
      | cols s i x j y => exact lok.elim
      | gone => exact lok.elim
      | nam z => exact lok.elim
      | par i => exact lok.elim
      | rng s0 c d =>
        have hl00 := hl0
        obtain ⟨q, u, ha, _⟩ := hl0
        refine ⟨_, rfl, a, _, _, _, rfl, rfl, SqT.of ha, atI_hd, _, rfl, l, us, rfl, rfl, hl, shs_mem sh0, false, congrArg V.bl nn, iteF ?_⟩
        refine ⟨_, rfl, rfl, true, (by decide +kernel), iteT ?_⟩

        refine ⟨_, rfl, .ref a, s0, c, d, rfl, .lf hl00, fun r1 hr1 => ⟨r1, _, _, _, _, _, rfl, upd_same, fun r2 hr2 => ?_⟩⟩
        exact k _ _ ⟨r2, rfl, SqT.of upd_same⟩ ((Same.new hr1).trans (Same.new hr2))
      | val v =>
        obtain ⟨q, ha, _⟩ := hl0
        refine ⟨_, rfl, a, _, _, _, rfl, rfl, SqT.of ha, atI_hd, _, rfl, l, us, rfl, rfl, hl, shs_mem sh0, false, congrArg V.bl nn, iteF ?_⟩
        refine ⟨_, rfl, rfl, false, (by decide +kernel), iteF ?_⟩
        refine ⟨_, rfl, rfl, false, (by decide +kernel), iteF ?_⟩
        refine ⟨_, rfl, rfl, false, (by decide +kernel), iteF ?_⟩
        refine ⟨_, rfl, rfl, false, (by decide +kernel), iteF ?_⟩
        refine ⟨_, rfl, rfl, false, (by decide +kernel), iteF ?_⟩
        refine ⟨_, rfl, rfl, false, (by decide +kernel), iteF ?_⟩
        refine ⟨_, rfl, rfl, false, (by decide +kernel), iteF ?_⟩
        refine ⟨_, rfl, _, rfl, a, l, _, _, us, qs, rfl, ha, hl, sh, (fun z => absurd z (by decide +kernel)), (fun z => absurd z (by decide +kernel)), (fun z => absurd z (by decide +kernel)), fun x H' h' s' => k x H' ?_ s'⟩
        rw [sng_one (by decide +kernel) (by decide +kernel) (by decide +kernel)] at h'; rw [shF]; exact h'
      | cell s c =>
        obtain ⟨q, ha, _⟩ := hl0
        refine ⟨_, rfl, a, _, _, _, rfl, rfl, SqT.of ha, atI_hd, _, rfl, l, us, rfl, rfl, hl, shs_mem sh0, false, congrArg V.bl nn, iteF ?_⟩
        refine ⟨_, rfl, rfl, false, (by decide +kernel), iteF ?_⟩
        refine ⟨_, rfl, rfl, false, (by decide +kernel), iteF ?_⟩
        refine ⟨_, rfl, rfl, false, (by decide +kernel), iteF ?_⟩
        refine ⟨_, rfl, rfl, false, (by decide +kernel), iteF ?_⟩
        refine ⟨_, rfl, rfl, false, (by decide +kernel), iteF ?_⟩
        refine ⟨_, rfl, rfl, false, (by decide +kernel), iteF ?_⟩
        refine ⟨_, rfl, rfl, false, (by decide +kernel), iteF ?_⟩
        refine ⟨_, rfl, _, rfl, a, l, _, _, us, qs, rfl, ha, hl, sh, (fun z => absurd z (by decide +kernel)), (fun z => absurd z (by decide +kernel)), (fun z => absurd z (by decide +kernel)), fun x H' h' s' => k x H' ?_ s'⟩
        rw [sng_one (by decide +kernel) (by decide +kernel) (by decide +kernel)] at h'; rw [shF]; exact h'
      | flt =>
        have ha := hl0
        refine ⟨_, rfl, a, _, _, _, rfl, rfl, SqT.of ha, atI_hd, _, rfl, l, us, rfl, rfl, hl, shs_mem sh0, false, congrArg V.bl nn, iteF ?_⟩
        refine ⟨_, rfl, rfl, false, (by decide +kernel), iteF ?_⟩
        refine ⟨_, rfl, rfl, false, (by decide +kernel), iteF ?_⟩
        refine ⟨_, rfl, rfl, false, (by decide +kernel), iteF ?_⟩
        refine ⟨_, rfl, rfl, false, (by decide +kernel), iteF ?_⟩
        refine ⟨_, rfl, rfl, false, (by decide +kernel), iteF ?_⟩
        refine ⟨_, rfl, rfl, false, (by decide +kernel), iteF ?_⟩
        refine ⟨_, rfl, rfl, false, (by decide +kernel), iteF ?_⟩
        refine ⟨_, rfl, _, rfl, a, l, _, _, us, qs, rfl, ha, hl, sh, (fun z => absurd z (by decide +kernel)), (fun z => absurd z (by decide +kernel)), (fun z => absurd z (by decide +kernel)), fun x H' h' s' => k x H' ?_ s'⟩
        rw [sng_one (by decide +kernel) (by decide +kernel) (by decide +kernel)] at h'; rw [shF]; exact h'

    | @nd a t kd us' ps ha ht hl' hh =>
      cases fo with
      | nd ok hps =>
      obtain ⟨r0, er⟩ := lay_kw t kd us'
      have ha0 : H a = some (.tup (.str (kw kd) :: r0)) := by rw [ha, er]
      have fm := FmAt.parts hl' hh

      have ql : qs.length = ps.length := by
        have := shL_len ps
        rw [show shL ps = qs.map some from hss, List.length_map] at this
        exact this
      replace hss : shL ps = qs.map some := hss
      cases kd with
      | op z0 =>
        have LL := ok.2
        replace ha : H a = some (.tup (vS "op" :: .str z0 :: us')) := ha
        refine ⟨_, rfl, a, _, _, _, rfl, rfl, SqT.of ha, atI_hd, _, rfl, l, us, rfl, rfl, hl, shs_mem sh0, false, congrArg V.bl nn, iteF ?_⟩
        obtain ⟨x, y, rfl⟩ := kid2 (ql.trans LL)
        obtain ⟨p, q, rfl, hp, hq⟩ := sh2 sh
        refine ⟨_, rfl, rfl, false, (by decide +kernel), iteF ?_⟩
        refine ⟨_, rfl, rfl, true, (by decide +kernel), iteT ?_⟩
        have k : ∀ x' H', ShAt K H' x' (fit x y) → Same H H' → Q x' H' := fun x' H' h s => k x' H' (by rw [shF, hss]; exact h) s
        exact ⟨_, rfl, l, _, _, _, rfl, rfl, SqL.of hl, rfl, _, rfl, l, _, _, _, rfl, rfl, SqL.of hl, rfl, _, _, x, y, rfl, ⟨p, rfl, hp⟩, ⟨q, rfl, hq⟩, k⟩
      | neg =>
        have LL : ps.length = 1 := ok
        replace ha : H a = some (.tup (vS "neg" :: us')) := ha
        refine ⟨_, rfl, a, _, _, _, rfl, rfl, SqT.of ha, atI_hd, _, rfl, l, us, rfl, rfl, hl, shs_mem sh0, false, congrArg V.bl nn, iteF ?_⟩
        obtain ⟨x, rfl⟩ := kid1 (ql.trans LL)
        obtain ⟨p, rfl, hp⟩ := sh1 sh
        refine ⟨_, rfl, rfl, false, (by decide +kernel), iteF ?_⟩
        refine ⟨_, rfl, rfl, false, (by decide +kernel), iteF ?_⟩
        refine ⟨_, rfl, rfl, true, (by decide +kernel), iteT ?_⟩
        have k : ∀ x' H', ShAt K H' x' (some x) → Same H H' → Q x' H' := fun x' H' h s => k x' H' (by rw [shF, hss]; exact h) s
        exact ⟨_, rfl, l, _, _, _, rfl, rfl, SqL.of hl, rfl, k _ _ ⟨p, rfl, hp⟩ (Same.refl _)⟩
      | own z0 => exact ok.2.elim
      | sumif z0 =>
        have LL := ok.2
        replace ha : H a = some (.tup (vS "sumif" :: (us'.take 1 ++ .str z0 :: us'.drop 1))) := ha
        refine ⟨_, rfl, a, _, _, _, rfl, rfl, SqT.of ha, atI_hd, _, rfl, l, us, rfl, rfl, hl, shs_mem sh0, false, congrArg V.bl nn, iteF ?_⟩
        refine ⟨_, rfl, rfl, false, (by decide +kernel), iteF ?_⟩
        refine ⟨_, rfl, rfl, false, (by decide +kernel), iteF ?_⟩
        refine ⟨_, rfl, rfl, false, (by decide +kernel), iteF ?_⟩
        refine ⟨_, rfl, rfl, false, (by decide +kernel), iteF ?_⟩
        refine ⟨_, rfl, rfl, false, (by decide +kernel), iteF ?_⟩
        refine ⟨_, rfl, rfl, false, (by decide +kernel), iteF ?_⟩
        refine ⟨_, rfl, rfl, false, (by decide +kernel), iteF ?_⟩
        refine ⟨_, rfl, _, rfl, a, l, _, _, us, qs, rfl, ha, hl, sh, (fun _ => ql.trans LL), (fun z => absurd z (by decide +kernel)), (fun z => absurd z (by decide +kernel)), fun x H' h' s' => k x H' ?_ s'⟩
        rw [sng_sumif] at h'; rw [shF, hss]; obtain ⟨x1, y1, z1, rfl⟩ := kid3 (ql.trans LL); exact h'
      | grid gi gj =>
        have LL := ok.2.2.2.2
        replace ha : H a = some (.tup (vS "grid" :: .int gi :: .int gj :: us')) := ha
        refine ⟨_, rfl, a, _, _, _, rfl, rfl, SqT.of ha, atI_hd, _, rfl, l, us, rfl, rfl, hl, shs_mem sh0, false, congrArg V.bl nn, iteF ?_⟩
        obtain ⟨x, y, rfl⟩ := kid2 (ql.trans LL)
        obtain ⟨p, q, rfl, hp, hq⟩ := sh2 sh
        refine ⟨_, rfl, rfl, false, (by decide +kernel), iteF ?_⟩
        refine ⟨_, rfl, rfl, false, (by decide +kernel), iteF ?_⟩
        refine ⟨_, rfl, rfl, false, (by decide +kernel), iteF ?_⟩
        refine ⟨_, rfl, rfl, false, (by decide +kernel), iteF ?_⟩
        refine ⟨_, rfl, rfl, false, (by decide +kernel), iteF ?_⟩
        refine ⟨_, rfl, rfl, false, (by decide +kernel), iteF ?_⟩
        refine ⟨_, rfl, rfl, true, (by decide +kernel), iteT ?_⟩
        have k : ∀ x' H', ShAt K H' x' (if x = (1, 1) then (if y = (1, 1) then some (gi, gj) else none) else none) → Same H H' → Q x' H' := fun x' H' h s => k x' H' (by rw [shF, hss]; exact h) s
        refine ⟨_, rfl, l, _, [x, y], rfl, hl, sh, (by simp), fun H1 s1 => ⟨_, rfl, ?_⟩⟩
        by_cases c1 : x = (1, 1)
        · by_cases c2 : y = (1, 1)
          · rw [if_pos c1, if_pos c2] at k
            have e : ([x, y].all fun p => decide (p = (1, 1))) = true := by simp [c1, c2]
            rw [e]
            refine iteT ⟨_, rfl, a, _, _, _, rfl, rfl, SqT.of (s1 _ _ ha), atI_1, _, rfl, a, _, _, _, rfl, rfl, SqT.of (s1 _ _ ha), atI_2, two_le, fun r hr' => k _ _ ⟨r, rfl, SqT.of upd_same⟩ (s1.trans (Same.new hr'))⟩
          · rw [if_pos c1, if_neg c2] at k
            have e : ([x, y].all fun p => decide (p = (1, 1))) = false := by simp [c1, c2]
            rw [e]
            exact iteF (k _ _ rfl s1)
        · rw [if_neg c1] at k
          have e : ([x, y].all fun p => decide (p = (1, 1))) = false := by simp [c1]
          rw [e]
          exact iteF (k _ _ rfl s1)
      | wd z0 =>
        replace ha : H a = some (.tup (.str z0 :: us')) := ha
        refine ⟨_, rfl, a, _, _, _, rfl, rfl, SqT.of ha, atI_hd, _, rfl, l, us, rfl, rfl, hl, shs_mem sh0, false, congrArg V.bl nn, iteF ?_⟩
        rcases wds9 ok with ⟨rfl, LL⟩ | ⟨rfl, LL⟩ | ⟨rfl, LL⟩ | ⟨rfl, LL⟩ | ⟨rfl, LL⟩ | ⟨rfl, LL⟩ | ⟨rfl, LL⟩ | ⟨rfl, LL⟩ | ⟨rfl, LL⟩
        · skip
          obtain ⟨x, y, z, rfl⟩ := kid3 (ql.trans LL)
          obtain ⟨p, q, u, rfl, hp, hq, hu'⟩ := sh3 sh
          refine ⟨_, rfl, rfl, false, (by decide +kernel), iteF ?_⟩
          refine ⟨_, rfl, rfl, false, (by decide +kernel), iteF ?_⟩
          refine ⟨_, rfl, rfl, false, (by decide +kernel), iteF ?_⟩
          refine ⟨_, rfl, rfl, true, (by decide +kernel), iteT ?_⟩
          have k : ∀ x' H', ShAt K H' x' (if x = (1, 1) then fit y z else none) → Same H H' → Q x' H' := fun x' H' h s => k x' H' (by rw [shF, hss]; rw [shK]; rw [shW_if]; exact h) s
          refine ⟨_, rfl, l, _, _, _, rfl, rfl, SqL.of hl, rfl, fun o ho => ⟨p, o, _, _, rfl, rfl, hp, (ho _), rfl, rfl, decide (x = (1, 1)), congrArg V.bl (eqP2 x (1, 1)), ite2 (fun c1 => ?_) (fun c1 => ?_)⟩⟩
          · rw [if_pos (of_decide_eq_true c1)] at k
            exact ⟨_, rfl, l, _, _, _, rfl, rfl, SqL.of hl, rfl, _, rfl, l, _, _, _, rfl, rfl, SqL.of hl, rfl, _, _, y, z, rfl, ⟨q, rfl, hq⟩, ⟨u, rfl, hu'⟩, k⟩
          · rw [if_neg fun z => c1 (decide_eq_true z)] at k
            exact k _ _ rfl (Same.refl _)
        · skip
          refine ⟨_, rfl, rfl, false, (by decide +kernel), iteF ?_⟩
          refine ⟨_, rfl, rfl, false, (by decide +kernel), iteF ?_⟩
          refine ⟨_, rfl, rfl, false, (by decide +kernel), iteF ?_⟩
          refine ⟨_, rfl, rfl, false, (by decide +kernel), iteF ?_⟩
          refine ⟨_, rfl, rfl, false, (by decide +kernel), iteF ?_⟩
          refine ⟨_, rfl, rfl, false, (by decide +kernel), iteF ?_⟩
          refine ⟨_, rfl, rfl, false, (by decide +kernel), iteF ?_⟩
          refine ⟨_, rfl, _, rfl, a, l, _, _, us, qs, rfl, ha, hl, sh, (fun z => absurd z (by decide +kernel)), (fun z => absurd z (by decide +kernel)), (fun z => absurd z (by decide +kernel)), fun x H' h' s' => k x H' ?_ s'⟩
          rw [sng_one (by decide +kernel) (by decide +kernel) (by decide +kernel)] at h'; rw [shF, hss, shK]; rw [shW_one _ (by simp)]; obtain ⟨x1, rfl⟩ := kid1 (ql.trans LL); exact h'
        · skip
          refine ⟨_, rfl, rfl, false, (by decide +kernel), iteF ?_⟩
          refine ⟨_, rfl, rfl, false, (by decide +kernel), iteF ?_⟩
          refine ⟨_, rfl, rfl, false, (by decide +kernel), iteF ?_⟩
          refine ⟨_, rfl, rfl, false, (by decide +kernel), iteF ?_⟩
          refine ⟨_, rfl, rfl, false, (by decide +kernel), iteF ?_⟩
          refine ⟨_, rfl, rfl, false, (by decide +kernel), iteF ?_⟩
          refine ⟨_, rfl, rfl, false, (by decide +kernel), iteF ?_⟩
          refine ⟨_, rfl, _, rfl, a, l, _, _, us, qs, rfl, ha, hl, sh, (fun z => absurd z (by decide +kernel)), (fun z => absurd z (by decide +kernel)), (fun z => absurd z (by decide +kernel)), fun x H' h' s' => k x H' ?_ s'⟩
          rw [sng_one (by decide +kernel) (by decide +kernel) (by decide +kernel)] at h'; rw [shF, hss, shK]; rw [shW_one _ (by simp)]; obtain ⟨x1, rfl⟩ := kid1 (ql.trans LL); exact h'
        · skip
          refine ⟨_, rfl, rfl, false, (by decide +kernel), iteF ?_⟩
          refine ⟨_, rfl, rfl, false, (by decide +kernel), iteF ?_⟩
          refine ⟨_, rfl, rfl, false, (by decide +kernel), iteF ?_⟩
          refine ⟨_, rfl, rfl, false, (by decide +kernel), iteF ?_⟩
          refine ⟨_, rfl, rfl, false, (by decide +kernel), iteF ?_⟩
          refine ⟨_, rfl, rfl, false, (by decide +kernel), iteF ?_⟩
          refine ⟨_, rfl, rfl, false, (by decide +kernel), iteF ?_⟩
          refine ⟨_, rfl, _, rfl, a, l, _, _, us, qs, rfl, ha, hl, sh, (fun z => absurd z (by decide +kernel)), (fun z => absurd z (by decide +kernel)), (fun z => absurd z (by decide +kernel)), fun x H' h' s' => k x H' ?_ s'⟩
          rw [sng_one (by decide +kernel) (by decide +kernel) (by decide +kernel)] at h'; rw [shF, hss, shK]; rw [shW_one _ (by simp)]; obtain ⟨x1, rfl⟩ := kid1 (ql.trans LL); exact h'
        · skip
          refine ⟨_, rfl, rfl, false, (by decide +kernel), iteF ?_⟩
          refine ⟨_, rfl, rfl, false, (by decide +kernel), iteF ?_⟩
          refine ⟨_, rfl, rfl, false, (by decide +kernel), iteF ?_⟩
          refine ⟨_, rfl, rfl, false, (by decide +kernel), iteF ?_⟩
          refine ⟨_, rfl, rfl, false, (by decide +kernel), iteF ?_⟩
          refine ⟨_, rfl, rfl, false, (by decide +kernel), iteF ?_⟩
          refine ⟨_, rfl, rfl, false, (by decide +kernel), iteF ?_⟩
          refine ⟨_, rfl, _, rfl, a, l, _, _, us, qs, rfl, ha, hl, sh, (fun z => absurd z (by decide +kernel)), (fun z => absurd z (by decide +kernel)), (fun z => absurd z (by decide +kernel)), fun x H' h' s' => k x H' ?_ s'⟩
          rw [sng_one (by decide +kernel) (by decide +kernel) (by decide +kernel)] at h'; rw [shF, hss, shK]; rw [shW_one _ (by simp)]; obtain ⟨x1, rfl⟩ := kid1 (ql.trans LL); exact h'
        · skip
          refine ⟨_, rfl, rfl, false, (by decide +kernel), iteF ?_⟩
          refine ⟨_, rfl, rfl, false, (by decide +kernel), iteF ?_⟩
          refine ⟨_, rfl, rfl, false, (by decide +kernel), iteF ?_⟩
          refine ⟨_, rfl, rfl, false, (by decide +kernel), iteF ?_⟩
          refine ⟨_, rfl, rfl, false, (by decide +kernel), iteF ?_⟩
          refine ⟨_, rfl, rfl, false, (by decide +kernel), iteF ?_⟩
          refine ⟨_, rfl, rfl, false, (by decide +kernel), iteF ?_⟩
          refine ⟨_, rfl, _, rfl, a, l, _, _, us, qs, rfl, ha, hl, sh, (fun z => absurd z (by decide +kernel)), (fun _ => ql.trans LL), (fun z => absurd z (by decide +kernel)), fun x H' h' s' => k x H' ?_ s'⟩
          rw [sng_find] at h'; rw [shF, hss, shK]; rw [shW_find]; obtain ⟨x1, y1, z1, rfl⟩ := kid3 (ql.trans LL); exact h'
        · skip
          obtain ⟨x, rfl⟩ := kid1 (ql.trans LL)
          obtain ⟨p, rfl, hp⟩ := sh1 sh
          refine ⟨_, rfl, rfl, false, (by decide +kernel), iteF ?_⟩
          refine ⟨_, rfl, rfl, false, (by decide +kernel), iteF ?_⟩
          refine ⟨_, rfl, rfl, false, (by decide +kernel), iteF ?_⟩
          refine ⟨_, rfl, rfl, false, (by decide +kernel), iteF ?_⟩
          refine ⟨_, rfl, rfl, true, (by decide +kernel), iteT ?_⟩
          have k : ∀ x' H', ShAt K H' x' (some (x.2, x.1)) → Same H H' → Q x' H' := fun x' H' h s => k x' H' (by rw [shF, hss]; rw [shK]; rw [shW_turn]; exact h) s
          exact ⟨_, rfl, l, _, _, _, rfl, rfl, SqL.of hl, rfl, p, _, _, _, rfl, rfl, hp, rfl, _, rfl, l, _, _, _, rfl, rfl, SqL.of hl, rfl, p, _, _, _, rfl, rfl, hp, rfl, two_le, fun r hr' => k _ _ ⟨r, rfl, SqT.of upd_same⟩ (Same.new hr')⟩
        · skip
          obtain ⟨x, y, rfl⟩ := kid2 (ql.trans LL)
          obtain ⟨p, q, rfl, hp, hq⟩ := sh2 sh
          refine ⟨_, rfl, rfl, false, (by decide +kernel), iteF ?_⟩
          refine ⟨_, rfl, rfl, false, (by decide +kernel), iteF ?_⟩
          refine ⟨_, rfl, rfl, false, (by decide +kernel), iteF ?_⟩
          refine ⟨_, rfl, rfl, false, (by decide +kernel), iteF ?_⟩
          refine ⟨_, rfl, rfl, false, (by decide +kernel), iteF ?_⟩
          refine ⟨_, rfl, rfl, true, (by decide +kernel), iteT ?_⟩
          have k : ∀ x' H', ShAt K H' x' (stk x y) → Same H H' → Q x' H' := fun x' H' h s => k x' H' (by rw [shF, hss]; rw [shK]; rw [shW_stack]; exact h) s
          exact ⟨_, rfl, l, _, _, _, rfl, rfl, SqL.of hl, rfl, _, rfl, l, _, _, _, rfl, rfl, SqL.of hl, rfl, _, _, x, y, rfl, ⟨p, rfl, hp⟩, ⟨q, rfl, hq⟩, k⟩
        · skip
          refine ⟨_, rfl, rfl, false, (by decide +kernel), iteF ?_⟩
          refine ⟨_, rfl, rfl, false, (by decide +kernel), iteF ?_⟩
          refine ⟨_, rfl, rfl, false, (by decide +kernel), iteF ?_⟩
          refine ⟨_, rfl, rfl, false, (by decide +kernel), iteF ?_⟩
          refine ⟨_, rfl, rfl, false, (by decide +kernel), iteF ?_⟩
          refine ⟨_, rfl, rfl, false, (by decide +kernel), iteF ?_⟩
          refine ⟨_, rfl, rfl, false, (by decide +kernel), iteF ?_⟩
          refine ⟨_, rfl, _, rfl, a, l, _, _, us, qs, rfl, ha, hl, sh, (fun z => absurd z (by decide +kernel)), (fun z => absurd z (by decide +kernel)), (fun _ => ql.trans LL), fun x H' h' s' => k x H' ?_ s'⟩
          rw [sng_outer] at h'; rw [shF, hss, shK]; rw [shW_outer]; obtain ⟨x1, rfl⟩ := kid1 (ql.trans LL); exact h'
theorem okSP (T : Txt w K mg t) {A : Around} (hr : Room 3 A) : ∀ f sp, okf K t f sp → ∃ k fd ps, FnOk P w K mg base CX0 k f fd ps sp ∧ Room k A ∧ PySem.W.keepIn K (.ref f) = true ∧ Binds K fd ps [] := by
  rintro f sp ⟨rfl, rfl⟩
  exact ⟨3, _, _, ok_shape_by_parts T, hr, T.c_shape_by_parts.fn.kp, T.c_shape_by_parts.b⟩
theorem sctold_by_parts : FnScope ["row", "tell_one", "told", "formula", "first", "one"] ["row", "tell_one"] (defScope s_told_by_parts) := ⟨rfl, rfl, rfl, by decide +kernel, rfl, by decide +kernel, by decide +kernel⟩
theorem ok_told_by_parts (T : Txt w K mg t) : FnOk P w K mg base CX0 4 t.f_told_by_parts t.d_told_by_parts ["row", "tell_one"] (spTbp K t) := by
  have D := T.c_told_by_parts
  refine D.fn.ok sctold_by_parts (fun vs H Q E h => ?_) (fun cdv A outer s H vs Q E hr h => ?_)
  · obtain ⟨l, f, ws, n, rfl, _⟩ := h
    rfl
  · obtain ⟨l, f, ws, n, rfl, hl, fm, fo, h8, k⟩ := h
    have hu := hr.units0
    have hu1 := hu_of hr
    refine ⟨_, ((pss_cons (ps_set (i := 2) sctold_by_parts.nd rfl (Or.inl rfl) (pe_lst pa_nil))
      (pss_cons (ps_for PassesOwn.never rfl (pi_list (pv 0)) (pg_name (i := 3) sctold_by_parts.nd rfl (Or.inl rfl))
      (pss_cons (ps_set (i := 4) sctold_by_parts.nd rfl (Or.inl rfl) (pe_op op_sub (pe_callB call_len_seq (by rfl) T.len PySem.boot_len (pa_consN (pv 2) pa_nil)) (pe_callB call_len_seq (by rfl) T.len PySem.boot_len (pa_consC (pe_cl T.c_parts_of (ok_parts_of T) (hr.mono (by decide)) (pa_consN (pv 3) pa_nil)) pa_nil))))
      (pss_cons (ps_set (i := 5) sctold_by_parts.nd rfl (Or.inl rfl) (pe_callV (pv 1) (okSP T (hr.mono (by decide))) (pa_consN (pv 3) (pa_consS (pe_slice sl_list (pv 2) (po_some (pv 4)) po_none) pa_nil))))
      (pss_cons (ps_set (i := 2) sctold_by_parts.nd rfl (Or.inl rfl) (pe_slice sl_list (pv 2) po_none (po_some (pv 4))))
      (pss_one (ps_expr (pe_bm PySem.F.plainAttrs_list PySem.F.slot_list_append PySem.F.type_list_append mt_append (pv 2) (pa_consN (pv 5) pa_nil))))))))
      (pss_one (ps_ret (pe_ix ix_list (pv 2) pe_int (fun _ _ => rfl))))))), ?_⟩

    have bd := szF_le fo h8
    have hwl : ws.length = szF f := by rw [Paired.length fm, alF_len]
    refine ⟨Nat.zero_le _, fun d0 hd0 => ?_⟩
    have s0 := Same.new (o := .lst []) hd0
    refine ⟨_, rfl, l, rfl, ⟨_, SqL.of (s0 _ _ hl)⟩, ?_⟩
    refine for_list (xs := ws) (fun i σ H5 => ∃ (d : Addr) (vs : List V) (x3 x4 x5 : Option V), σ = [some (.ref l), some (.ref t.f_shape_by_parts), some (.ref d), x3, x4, x5] ∧ H d = none ∧ H5 d = some (.lst vs) ∧ ShsAt K H5 vs (((alF f).take i).foldl stepS []) ∧ Same H H5)
      ⟨d0, [], none, none, none, rfl, hd0, upd_same, .nil, s0⟩ ?_ ?_ ?_
    · rintro i σ H5 _ ⟨d, vs, x3, x4, x5, rfl, _, _, _, s5⟩
      exact SqL.of (s5 _ _ hl)
    · rintro i x σ H5 hx ⟨d, vs, x3, x4, x5, rfl, hd, hd5, sh5, s5⟩
      obtain ⟨g, hg, xg⟩ := paired_at fm hx
      have xg5 := FmAt.kp xg (Kp.same s5)
      have fog := FO.al f fo g (List.mem_of_getElem? hg)
      obtain ⟨st', est⟩ := pre_F f [] i g hg
      have hlen : vs.length = st'.length + (prtF g).length := by rw [Paired.length sh5, est, List.length_append, shL_len]
      have hlen2 : vs.length ≤ i := by
        rw [Paired.length sh5]
        refine Nat.le_trans (foldl_len _ _) ?_
        rw [List.length_take, List.length_nil]; omega
      have hi : i < ws.length := (List.getElem?_eq_some_iff.mp hx).1
      refine ⟨_, rfl, d, vs, rfl, .inl (SqL.of hd5), _, rfl, x, g, 0, n, rfl, xg5, fog, fun lp ps H6 hlp0 hlp fmp s6 => ?_⟩
      have hpl : ps.length = (prtF g).length := Paired.length fmp
      have ej : ((vs.length : Nat) : Int) - ((ps.length : Nat) : Int) = ((st'.length : Nat) : Int) := by omega
      refine ⟨lp, ps, rfl, .inl (SqL.of hlp), _, _, rfl, rfl, ?_⟩
      have hd6 := s6 _ _ hd5
      have sh6 := ShsAt.same sh5 s6
      rw [est] at sh6
      have ec : cutV vs (some (((vs.length : Nat) : Int) - ((ps.length : Nat) : Int))) none = vs.drop st'.length := by rw [ej]; exact cut_hi (by omega)
      have el : cutV vs none (some (((vs.length : Nat) : Int) - ((ps.length : Nat) : Int))) = vs.take st'.length := by rw [ej]; exact cut_lo (by omega)
      have shd : ShsAt K H6 (vs.drop st'.length) (shL (prtF g)) := by
        have := pdrop st'.length sh6
        rwa [List.drop_left] at this
      have sht : ShsAt K H6 (vs.take st'.length) st' := by
        have := ptake st'.length sh6
        rwa [List.take_left] at this
      rw [← ec] at shd
      rw [← el] at sht
      refine ⟨_, rfl, _, _, rfl, ⟨rfl, rfl⟩, _, rfl, _, rfl, _, rfl, _, rfl, d, vs, rfl, SqL.of hd6, fun dq hdq => ?_⟩
      have sq : ∀ o, Same H6 (upd H6 dq o) := fun o => Same.new hdq
      refine ⟨x, g, dq, _, n, rfl, FmAt.kp (FmAt.kp xg5 (Kp.same s6)) (Kp.same (sq _)), fog, upd_same, ShsAt.same shd (sq _), fun y H8 hy s8 => ?_⟩
      have s68 := (sq (.lst (cutV vs (some (((vs.length : Nat) : Int) - ((ps.length : Nat) : Int))) none))).trans s8
      refine ⟨_, rfl, _, rfl, _, rfl, d, vs, rfl, SqL.of (s68 _ _ hd6), fun de hde => ?_⟩
      have se : ∀ o, Same H8 (upd H8 de o) := fun o => Same.new hde
      have hlt : (cutV vs none (some (((vs.length : Nat) : Int) - ((ps.length : Nat) : Int)))).length ≤ vs.length := cutV_length _ _ _
      refine ⟨_, rfl, .inl ⟨rfl, _, SqL.of upd_same⟩, _, rfl, de, _, y, rfl, rfl, upd_same, slm (by omega), ?_⟩
      have s05 := (s5.trans s6).trans s68
      refine ⟨de, _, _, _, _, rfl, Same.back0 s05 hde, upd_same, ?_, fun b o e => ?_⟩
      · have e1 : ((alF f).take (i + 1)).foldl stepS [] = st' ++ [shF g] := by
          rw [List.take_add_one, hg, List.foldl_append, est]
          exact step_ok st' g
        rw [e1]
        exact papp (ShsAt.ud (ShsAt.same (ShsAt.same sht s68) (se _)) upd_same) (.cons (by
          have := ShsAt.ud (o := .lst (cutV vs none (some (((vs.length : Nat) : Int) - ((ps.length : Nat) : Int))) ++ [y])) (ShsAt.same (Paired.cons hy .nil) (se (.lst (cutV vs none (some (((vs.length : Nat) : Int) - ((ps.length : Nat) : Int))))))) upd_same
          cases this with | cons h _ => exact h) .nil)
      · rw [upd_ne (ne_of_none (s05 _ _ e) hde)]
        exact se _ _ _ (s05 _ _ e)
    · rintro σ H5 ⟨d, vs, x3, x4, x5, rfl, hd, hd5, sh5, s5⟩
      rw [hwl, ← alF_len, List.take_length, fold_F, List.nil_append] at sh5
      cases sh5 with
      | cons h5 t5 =>
        cases t5
        exact ⟨_, rfl, d, _, _, _, rfl, rfl, SqL.of hd5, rfl, k _ _ h5 s5⟩
theorem scshape_of : FnScope ["opened"] ["opened"] (defScope s_shape_of) := ⟨rfl, rfl, rfl, by decide +kernel, rfl, by decide +kernel, by decide +kernel⟩
theorem ok_shape_of (T : Txt w K mg t) : FnOk P w K mg base CX0 5 t.f_shape_of t.d_shape_of ["opened"] (spShf K) := by
  have D := T.c_shape_of
  refine D.fn.ok scshape_of (fun vs H Q E h => ?_) (fun cdv A outer s H vs Q E hr h => ?_)
  · obtain ⟨v, f, n, rfl, _⟩ := h
    rfl
  · obtain ⟨v, f, n, rfl, hv, fo, h8, k⟩ := h
    have hu := hr.units0
    have hu1 := hu_of hr
    refine ⟨_, ((pss_one (ps_ret (pe_cl T.c_told_by_parts (ok_told_by_parts T) (hr.mono (by decide)) (pa_consC (pe_cl T.c_all_parts (ok_all_parts T) (hr.mono (by decide)) (pa_consN (pv 0) pa_nil)) (pa_consN (pe_cls T.c_shape_by_parts.gl) pa_nil)))))), ?_⟩

    refine ⟨_, rfl, v, f, 0, n, rfl, hv, fo, h8, fun l ws H1 hl0 hl fm s1 => ?_⟩
    exact ⟨l, f, ws, n, rfl, hl, fm, fo, h8, fun x H2 h2 s2 => k x H2 h2 (s1.trans s2)⟩
theorem sc_law_pen : FnScope ["_law_script"] ["_law_script"] (defScope s__law_pen) := ⟨rfl, rfl, rfl, by decide +kernel, rfl, by decide +kernel, by decide +kernel⟩
theorem ok__law_pen (T : Txt w K mg t) : FnOk P w K mg base CX0 1 t.f__law_pen t.d__law_pen ["_law_script"] (spPeL K) := by
  have D := T.c__law_pen
  refine D.fn.ok sc_law_pen (fun vs H Q E h => ?_) (fun cdv A outer s H vs Q E hr h => ?_)
  · obtain ⟨a, ns, rfl, _⟩ := h
    rfl
  · obtain ⟨a, ns, rfl, hS, h63, k⟩ := h
    have hu := hr.units0
    have hu1 := hu_of hr
    refine ⟨_, ((pss_one (ps_ret (pe_lst (pa_consN (pv 0) (pa_consK pe_int (pa_consK pe_int pa_nil))))))), ?_⟩

    exact ⟨_, rfl, three_le, fun p hp => k p _ hp ⟨0, 0, upd_same, (Same.new hp).seq hS, by decide, by decide, h63⟩ (Same.new hp)⟩
theorem sc_law_next : FnScope ["_law_pen_here", "_law_many", "_law_script", "_law_count", "_law_rest", "_law_cell", "_law_number"] ["_law_pen_here", "_law_many"] (defScope s__law_next) := ⟨rfl, rfl, rfl, by decide +kernel, rfl, by decide +kernel, by decide +kernel⟩
theorem ok__law_next (T : Txt w K mg t) : FnOk P w K mg base CX0 1 t.f__law_next t.d__law_next ["_law_pen_here", "_law_many"] (spNxt K) := by
  have D := T.c__law_next
  refine D.fn.ok sc_law_next (fun vs H Q E h => ?_) (fun cdv A outer s H vs Q E hr h => ?_)
  · obtain ⟨p, m, n, S, rfl, _⟩ := h
    rfl
  · obtain ⟨p, m, n, S, rfl, hm, hz, hpen, hn, k⟩ := h
    have hu := hr.units0
    have hu1 := hu_of hr
    refine ⟨_, ((pss_cons (ps_asg (pv 0) (pg_lst rfl (pgs_cons (pg_name (i := 2) sc_law_next.nd rfl (Or.inl rfl)) (pgs_cons (pg_name (i := 3) sc_law_next.nd rfl (Or.inl rfl)) (pgs_cons (pg_name (i := 4) sc_law_next.nd rfl (Or.inl rfl)) pgs_nil)))))
      (pss_cons (ps_asg (pe_op op_add (pv 3) pe_int) (pg_sub (pv 0) pe_int set_list))
      (pss_cons (ps_if (pw_or (pt_cmpR op_eq (pe_callB call_len_seq (by rfl) T.len PySem.boot_len (pa_consN (pv 2) pa_nil)) pe_int (nomark _)) (pw_or1 (pt_cmpR op_eq (pe_op op_mod (pe_ix ix_list (pv 2) pe_int (fun _ _ => rfl)) pe_int) pe_int (nomark _)))).pt (pss_cons (ps_set (i := 5) sc_law_next.nd rfl (Or.inl rfl) pe_int)
      (pss_cons (ps_if (pt_cmpR op_gt (pe_callB call_len_seq (by rfl) T.len PySem.boot_len (pa_consN (pv 2) pa_nil)) pe_int (nomark _)) (pss_one (ps_set (i := 5) sc_law_next.nd rfl (Or.inl rfl) (pe_ix ix_list (pv 2) (pe_op op_mod (pe_op op_add (pe_op op_mulW (pv 3) pe_int) pe_int) (pe_callB call_len_seq (by rfl) T.len PySem.boot_len (pa_consN (pv 2) pa_nil))) (fun _ _ => rfl)))) pss_nil)
      (pss_cons (ps_set (i := 6) sc_law_next.nd rfl (Or.inl rfl) (pe_op op_mod (pe_op op_add (pe_op op_add (pe_op op_mod (pv 5) pe_int) (pe_op op_mulW pe_int (pv 3))) pe_int) pe_int))
      (pss_cons (ps_set (i := 6) sc_law_next.nd rfl (Or.inl rfl) (pe_op op_mod (pe_op op_mulW (pv 6) (pe_op op_add (pv 6) pe_int)) pe_int))
      (pss_cons (ps_set (i := 6) sc_law_next.nd rfl (Or.inl rfl) (pe_op op_mod (pe_op op_mulW (pv 6) (pe_op op_add (pv 6) pe_int)) pe_int))
      (pss_one (ps_ret (pe_op op_mod (pe_op op_fdiv (pv 6) pe_int) (pv 1))))))))) pss_nil)
      (pss_cons (ps_if (pt_cmpR op_eq (pe_op op_mod (pv 3) pe_int) pe_int (nomark _)) (pss_cons (ps_set (i := 4) sc_law_next.nd rfl (Or.inl rfl) pe_int)
      (pss_one (ps_if (pt_cmpR op_lt (pe_op op_add pe_int (pe_op op_fdiv (pv 3) pe_int)) (pe_callB call_len_seq (by rfl) T.len PySem.boot_len (pa_consN (pv 2) pa_nil)) (nomark _)) (pss_one (ps_set (i := 4) sc_law_next.nd rfl (Or.inl rfl) (pe_ix ix_list (pv 2) (pe_op op_add pe_int (pe_op op_fdiv (pv 3) pe_int)) (fun _ _ => rfl)))) pss_nil))) pss_nil)
      (pss_cons (ps_asg (pe_op op_fdivW (pv 4) (pv 1)) (pg_sub (pv 0) pe_int set_list))
      (pss_one (ps_ret (pe_op op_mod (pv 4) (pv 1)))))))))), ?_⟩

    obtain ⟨a, ns⟩ := S
    obtain ⟨c, r, hp, hS, hc0, hc1, h63⟩ := hpen
    dsimp only at hp hS h63
    refine ⟨_, rfl, p, _, rfl, SqL.of hp, rfl, _, _, rfl, _, _, rfl, _, _, rfl, rfl, ?_⟩
    refine ⟨_, rfl, _, _, rfl, rfl, _, rfl, p, _, _, 1, rfl, rfl, hp, rfl, ?_⟩
    have hS1 : ∀ {o}, SqL K (upd H p o) a (ns.map V.int) := fun {o} => SqL.kl hS hp KeepX.upd
    have fin : ∀ (r' x : Int) (H2 : Hp), 0 ≤ x → x < m → H2 p = some (.lst [.ref a, .int (c + 1), .int r']) → KeepX p H H2 → Q (.int x) H2 := fun r' x H2 x0 x1 h2 kp =>
      k x H2 x0 x1 ⟨c + 1, r', h2, SqL.kl hS hp kp, by omega, by omega, h63⟩ kp
    have hlen : (ns.map V.int).length = ns.length := List.length_map _
    have l0 : V.bl (decide (V.int ((ns.map V.int).length : Int) = V.int 0)) = V.bl (decide (ns.length = 0)) := by
      congr 1
      by_cases z : ns.length = 0
      · rw [decide_eq_true z]; exact decide_eq_true (by rw [hlen, z]; rfl)
      · rw [decide_eq_false z]; exact decide_eq_false fun e => z (by injection e with e; omega)
    refine ⟨_, rfl, a, _, rfl, .inl hS1, rfl, _, l0, ite2 (fun c1 => iteT ?_) (fun c1 => ?_)⟩
    · refine ⟨_, rfl, a, _, rfl, .inl hS1, _, _, rfl, rfl, false, ?_, iteF ?_⟩
      · have z := of_decide_eq_true c1
        exact congrArg V.bl (decide_eq_false (by rw [hlen, z]; decide))
      have n1 := Int.emod_nonneg (5) (show (2147483629 : Int) ≠ 0 by decide)
      have n2 := Int.emod_lt_of_pos (5) (show (0 : Int) < 2147483629 by decide)
      refine ⟨_, rfl, _, _, rfl, rfl, (by show (0 : Int) < _; decide), _, rfl, _, _, rfl, rfl, ⟨sz4000 (by decide) (by decide), sz4000 (by omega) (by omega)⟩, _, _, rfl, rfl, _, _, rfl, rfl, _, _, rfl, rfl, (by show (0 : Int) < _; decide), ?_⟩
      have m1 := Int.emod_nonneg ((5) % 2147483629 + 69621 * c + 17) (show (2147483647 : Int) ≠ 0 by decide)
      have m2 := Int.emod_lt_of_pos ((5) % 2147483629 + 69621 * c + 17) (show (0 : Int) < 2147483647 by decide)
      generalize ((5) % 2147483629 + 69621 * c + 17) % 2147483647 = x at m1 m2 ⊢
      refine ⟨_, rfl, _, rfl, _, _, rfl, rfl, _, _, rfl, rfl, ⟨sz4000 (by omega) (by omega), sz4000 (by omega) (by omega)⟩, _, _, rfl, rfl, (by show (0 : Int) < _; decide), ?_⟩
      have q1 := Int.emod_nonneg (x * (x + 40503)) (show (2147483629 : Int) ≠ 0 by decide)
      have q2 := Int.emod_lt_of_pos (x * (x + 40503)) (show (0 : Int) < 2147483629 by decide)
      generalize (x * (x + 40503)) % 2147483629 = w' at q1 q2 ⊢
      refine ⟨_, rfl, _, rfl, _, _, rfl, rfl, _, _, rfl, rfl, ⟨sz4000 (by omega) (by omega), sz4000 (by omega) (by omega)⟩, _, _, rfl, rfl, (by show (0 : Int) < _; decide), ?_⟩
      refine ⟨_, rfl, _, _, rfl, rfl, ⟨by decide, by decide⟩, _, rfl, _, _, rfl, rfl, hm, ?_⟩
      exact fin r _ _ (Int.emod_nonneg _ (by omega)) (Int.emod_lt_of_pos _ hm) upd_same KeepX.upd

    · have hl : 0 < ns.length := by
        have : ¬ ns.length = 0 := fun z => c1 (decide_eq_true z)
        omega
      obtain ⟨v0, hv0⟩ := atI_ints (ns := ns) (r := 0) (by decide) (by omega)
      refine ⟨_, rfl, a, _, _, _, rfl, rfl, hS1, hv0, _, _, rfl, rfl, (by show (0 : Int) < _; decide), rfl, _, rfl, ite2 (fun c2 => ?_) (fun c2 => ?_)⟩
      · obtain ⟨v, hv⟩ := atI_ints (ns := ns) (Int.emod_nonneg (c * 3 + 1) (show (ns.length : Int) ≠ 0 by omega)) (Int.emod_lt_of_pos (c * 3 + 1) (show (0 : Int) < ns.length by omega))
        refine ⟨_, rfl, a, _, rfl, .inl hS1, _, _, rfl, rfl, true, congrArg V.bl (decide_eq_true (by rw [hlen]; omega)), iteT ?_⟩
        refine ⟨_, rfl, _, rfl, _, _, rfl, rfl, ⟨sz4000 (by omega) (by omega), sz4000 (by decide) (by decide)⟩, _, _, rfl, rfl, _, rfl, a, _, rfl, .inl hS1, _, _, rfl, rfl, (by rw [hlen]; omega), a, _, _, _, rfl, rfl, hS1, (by rw [hlen]; exact hv), ?_⟩
        have n1 := Int.emod_nonneg (v) (show (2147483629 : Int) ≠ 0 by decide)
        have n2 := Int.emod_lt_of_pos (v) (show (0 : Int) < 2147483629 by decide)
        refine ⟨_, rfl, _, _, rfl, rfl, (by show (0 : Int) < _; decide), _, rfl, _, _, rfl, rfl, ⟨sz4000 (by decide) (by decide), sz4000 (by omega) (by omega)⟩, _, _, rfl, rfl, _, _, rfl, rfl, _, _, rfl, rfl, (by show (0 : Int) < _; decide), ?_⟩
        have m1 := Int.emod_nonneg ((v) % 2147483629 + 69621 * c + 17) (show (2147483647 : Int) ≠ 0 by decide)
        have m2 := Int.emod_lt_of_pos ((v) % 2147483629 + 69621 * c + 17) (show (0 : Int) < 2147483647 by decide)
        generalize ((v) % 2147483629 + 69621 * c + 17) % 2147483647 = x at m1 m2 ⊢
        refine ⟨_, rfl, _, rfl, _, _, rfl, rfl, _, _, rfl, rfl, ⟨sz4000 (by omega) (by omega), sz4000 (by omega) (by omega)⟩, _, _, rfl, rfl, (by show (0 : Int) < _; decide), ?_⟩
        have q1 := Int.emod_nonneg (x * (x + 40503)) (show (2147483629 : Int) ≠ 0 by decide)
        have q2 := Int.emod_lt_of_pos (x * (x + 40503)) (show (0 : Int) < 2147483629 by decide)
        generalize (x * (x + 40503)) % 2147483629 = w' at q1 q2 ⊢
        refine ⟨_, rfl, _, rfl, _, _, rfl, rfl, _, _, rfl, rfl, ⟨sz4000 (by omega) (by omega), sz4000 (by omega) (by omega)⟩, _, _, rfl, rfl, (by show (0 : Int) < _; decide), ?_⟩
        refine ⟨_, rfl, _, _, rfl, rfl, ⟨by decide, by decide⟩, _, rfl, _, _, rfl, rfl, hm, ?_⟩
        exact fin r _ _ (Int.emod_nonneg _ (by omega)) (Int.emod_lt_of_pos _ hm) upd_same KeepX.upd

      · refine ⟨_, rfl, _, _, rfl, rfl, (by show (0 : Int) < _; decide), rfl, _, rfl, ite2 (fun c3 => ?_) (fun c3 => ?_)⟩
        · refine ⟨_, rfl, _, _, rfl, rfl, ⟨by decide, by decide⟩, _, _, rfl, rfl, _, rfl, a, _, rfl, .inl hS1, _, _, rfl, rfl, _, rfl, ite2 (fun c4 => ?_) (fun c4 => ?_)⟩
          · have c4' := of_decide_eq_true c4
            rw [hlen] at c4'
            obtain ⟨v, hv⟩ := atI_ints (ns := ns) (show 0 ≤ 1 + c / 40 by omega) c4'
            refine ⟨_, rfl, _, rfl, _, _, rfl, rfl, ⟨by decide, by decide⟩, _, _, rfl, rfl, a, _, _, _, rfl, rfl, hS1, hv, ?_⟩
            refine ⟨_, rfl, _, rfl, _, _, rfl, rfl, ⟨by omega, hz⟩, _, rfl, p, _, _, 2, rfl, rfl, upd_same, rfl, ?_⟩
            refine ⟨_, rfl, _, rfl, _, _, rfl, rfl, hm, ?_⟩
            exact fin _ _ _ (Int.emod_nonneg _ (by omega)) (Int.emod_lt_of_pos _ hm) upd_same (KeepX.trans KeepX.upd KeepX.upd)

          · skip
            refine ⟨_, rfl, _, rfl, _, _, rfl, rfl, ⟨by omega, hz⟩, _, rfl, p, _, _, 2, rfl, rfl, upd_same, rfl, ?_⟩
            refine ⟨_, rfl, _, rfl, _, _, rfl, rfl, hm, ?_⟩
            exact fin _ _ _ (Int.emod_nonneg _ (by omega)) (Int.emod_lt_of_pos _ hm) upd_same (KeepX.trans KeepX.upd KeepX.upd)

        · skip
          refine ⟨_, rfl, _, rfl, _, _, rfl, rfl, ⟨by omega, hz⟩, _, rfl, p, _, _, 2, rfl, rfl, upd_same, rfl, ?_⟩
          refine ⟨_, rfl, _, rfl, _, _, rfl, rfl, hm, ?_⟩
          exact fin _ _ _ (Int.emod_nonneg _ (by omega)) (Int.emod_lt_of_pos _ hm) upd_same (KeepX.trans KeepX.upd KeepX.upd)
theorem sc_law_common : FnScope ["_law_one", "_law_other"] ["_law_one", "_law_other"] (defScope s__law_common) := ⟨rfl, rfl, rfl, by decide +kernel, rfl, by decide +kernel, by decide +kernel⟩
theorem ok__law_common (T : Txt w K mg t) : FnOk P w K mg base CX0 1 t.f__law_common t.d__law_common ["_law_one", "_law_other"] spCom := by
  have D := T.c__law_common
  refine D.fn.ok sc_law_common (fun vs H Q E h => ?_) (fun cdv A outer s H vs Q E hr h => ?_)
  · obtain ⟨u, v, a, b, rfl, _⟩ := h
    rfl
  · obtain ⟨u, v, a, b, rfl, ⟨p, e1, hp⟩, ⟨q, e2, hq⟩, k⟩ := h
    have hu := hr.units0
    have hu1 := hu_of hr
    refine ⟨_, ((pss_cons (ps_if (pw_or (pt_cmpR op_isN (pv 0) pe_non (nomark _)) (pw_or1 (pt_cmpR op_isN (pv 1) pe_non (nomark _)))).pt (pss_one (ps_ret pe_non)) pss_nil)
      (pss_cons (ps_if (pw_or (pt_cmpR (op_eqT hu) (pv 0) (pe_tup (pa_consK pe_int (pa_consK pe_int pa_nil))) (nomark _)) (pw_or1 (pt_cmpR (op_eqT hu) (pv 0) (pv 1) (nomark _)))).pt (pss_one (ps_ret (pv 1))) pss_nil)
      (pss_one (ps_ret (pe_ix ix_list (pe_lst (pa_consK pe_non (pa_consN (pv 0) pa_nil))) (pe_callTy call_int1 (by rfl) T.int boot_int (pa_consM (pe_cmpR (op_eqT hu) (pv 1) (pe_tup (pa_consK pe_int (pa_consK pe_int pa_nil))) (nomark _)) pa_nil)) (fun _ _ => rfl))))))), ?_⟩

    subst e1
    subst e2
    refine ⟨_, rfl, rfl, false, congrArg V.bl (decide_eq_false (by intro z; cases z)), iteF ⟨_, rfl, rfl, false, congrArg V.bl (decide_eq_false (by intro z; cases z)), iteF ?_⟩⟩
    refine ⟨_, rfl, two_le, fun t1 ht1 => ⟨p, t1, _, _, rfl, rfl, SqT.of (Same.new ht1 _ _ hp), SqT.of upd_same, rfl, rfl, decide (a = (1, 1)), congrArg V.bl (eqP2 a (1, 1)), ite2 (fun c1 => iteT ⟨_, rfl, ?_⟩) (fun c1 => ?_)⟩⟩
    · refine k _ _ ?_ (Same.new ht1)
      rw [fit_1 (of_decide_eq_true c1)]
      exact ⟨q, rfl, Same.new ht1 _ _ hq⟩
    have c1' := fun z => c1 (decide_eq_true z)
    have s1 := Same.new (o := .tup [.int 1, .int 1]) ht1
    replace hp := s1 _ _ hp
    replace hq := s1 _ _ hq
    refine ⟨_, rfl, _, rfl, p, q, _, _, rfl, rfl, (SqT.of hp), (SqT.of hq), rfl, rfl, decide (a = b), congrArg V.bl (eqP2 a b), ite2 (fun c2 => ⟨_, rfl, ?_⟩) (fun c2 => ?_)⟩
    · refine k _ _ ?_ s1
      rw [fit_2 (of_decide_eq_true c2)]
      exact ⟨q, rfl, hq⟩
    have c2' := fun z => c2 (decide_eq_true z)
    refine ⟨_, rfl, two_le, fun l hl => ?_⟩
    have s2 := Same.new (o := .lst [.non, .ref p]) hl
    refine ⟨_, rfl, two_le, fun t3 ht3 => ⟨q, t3, _, _, rfl, rfl, SqT.of (Same.new ht3 _ _ (s2 _ _ hq)), SqT.of upd_same, rfl, rfl, .inr ⟨decide (b = (1, 1)), congrArg (fun z => [V.bl z]) (eqP2 b (1, 1)), ?_⟩⟩⟩
    have s3 := Same.new (o := .tup [.int 1, .int 1]) ht3
    by_cases c3 : b = (1, 1)
    · rw [decide_eq_true c3]
      refine ⟨l, _, _, _, rfl, rfl, SqL.of (s3 _ _ upd_same), rfl, ?_⟩
      refine k _ _ ?_ ((s1.trans s2).trans s3)
      rw [fit_3 c1' c2' c3]
      exact ⟨p, rfl, s3 _ _ (s2 _ _ hp)⟩
    · rw [decide_eq_false c3]
      refine ⟨l, _, _, _, rfl, rfl, SqL.of (s3 _ _ upd_same), rfl, ?_⟩
      refine k _ _ ?_ ((s1.trans s2).trans s3)
      rw [fit_4 c1' c2' c3]
      rfl
theorem sc_law_of_parts : FnScope ["_law_tree", "_law_some", "_law_word"] ["_law_tree", "_law_some"] (defScope s__law_of_parts) := ⟨rfl, rfl, rfl, by decide +kernel, rfl, by decide +kernel, by decide +kernel⟩
theorem ok__law_of_parts (T : Txt w K mg t) : FnOk P w K mg base CX0 2 t.f__law_of_parts t.d__law_of_parts ["_law_tree", "_law_some"] spOfp := by
  have D := T.c__law_of_parts
  refine D.fn.ok sc_law_of_parts (fun vs H Q E h => ?_) (fun cdv A outer s H vs Q E hr h => ?_)
  · obtain ⟨a, l, kd, ps, us, n, rfl, _⟩ := h
    rfl
  · obtain ⟨a, l, kd, ps, us, n, rfl, hv, fo, hl, sh, k⟩ := h
    have hu := hr.units0
    have hu1 := hu_of hr
    refine ⟨_, ((pss_cons (ps_set (i := 2) sc_law_of_parts.nd rfl (Or.inl rfl) (pe_ix ix_tup (pv 0) pe_int (fun _ _ => rfl)))
      (pss_cons (ps_if (pt_cmpR (op_inN2 hu1) pe_non (pv 1) rfl) (pss_one (ps_ret pe_non)) pss_nil)
      (pss_cons (ps_if (pt_cmpR op_eq (pv 2) pe_str (nomark _)) (pss_one (ps_ret (pe_cl T.c__law_common (ok__law_common T) (hr.mono (by decide)) (pa_consS (pe_ix ix_list (pv 1) pe_int (fun _ _ => rfl)) (pa_consS (pe_ix ix_list (pv 1) pe_int (fun _ _ => rfl)) pa_nil))))) pss_nil)
      (pss_cons (ps_if (pw_and (pt_cmpR op_eq (pv 2) pe_str (nomark _)) (pw_and1 (pt_cmpR (op_eqT hu) (pe_ix ix_list (pv 1) pe_int (fun _ _ => rfl)) (pe_tup (pa_consK pe_int (pa_consK pe_int pa_nil))) (nomark _)))).pt (pss_one (ps_ret (pe_cl T.c__law_common (ok__law_common T) (hr.mono (by decide)) (pa_consS (pe_ix ix_list (pv 1) pe_int (fun _ _ => rfl)) (pa_consS (pe_ix ix_list (pv 1) pe_int (fun _ _ => rfl)) pa_nil))))) pss_nil)
      (pss_cons (ps_if (pt_cmpR op_eq (pv 2) pe_str (nomark _)) (pss_one (ps_ret (pe_ix ix_list (pv 1) pe_int (fun _ _ => rfl)))) pss_nil)
      (pss_cons (ps_if (pt_cmpR op_eq (pv 2) pe_str (nomark _)) (pss_one (ps_ret (pe_tup (pa_consS (pe_ix ix_tup (pe_ix ix_list (pv 1) pe_int (fun _ _ => rfl)) pe_int (fun _ _ => rfl)) (pa_consS (pe_ix ix_tup (pe_ix ix_list (pv 1) pe_int (fun _ _ => rfl)) pe_int (fun _ _ => rfl)) pa_nil))))) pss_nil)
      (pss_cons (ps_if (pw_and (pt_cmpR op_eq (pv 2) pe_str (nomark _)) (pw_and1 (pt_cmpR op_eq (pe_ix ix_tup (pe_ix ix_list (pv 1) pe_int (fun _ _ => rfl)) pe_int (fun _ _ => rfl)) (pe_ix ix_tup (pe_ix ix_list (pv 1) pe_int (fun _ _ => rfl)) pe_int (fun _ _ => rfl)) (nomark _)))).pt (pss_one (ps_ret (pe_tup (pa_consB (pe_op op_add (pe_ix ix_tup (pe_ix ix_list (pv 1) pe_int (fun _ _ => rfl)) pe_int (fun _ _ => rfl)) (pe_ix ix_tup (pe_ix ix_list (pv 1) pe_int (fun _ _ => rfl)) pe_int (fun _ _ => rfl))) (pa_consS (pe_ix ix_tup (pe_ix ix_list (pv 1) pe_int (fun _ _ => rfl)) pe_int (fun _ _ => rfl)) pa_nil))))) pss_nil)
      (pss_cons (ps_if (pt_cmpR op_in_seq (pv 2) (pe_tup (pa_consK pe_str (pa_consK pe_str (pa_consK pe_str (pa_consK pe_str pa_nil))))) rfl) (pss_one (ps_ret (pe_tup (pa_consK pe_int (pa_consK pe_int pa_nil))))) pss_nil)
      (pss_cons (ps_if (pw_and (pt_cmpR op_eq (pv 2) pe_str (nomark _)) (pw_and (pt_cmpR (op_eqT hu) (pe_ix ix_list (pv 1) pe_int (fun _ _ => rfl)) (pe_ix ix_list (pv 1) pe_int (fun _ _ => rfl)) (nomark _)) (pw_and1 (pt_cmpR (op_eqT hu) (pe_ix ix_list (pv 1) pe_int (fun _ _ => rfl)) (pe_tup (pa_consK pe_int (pa_consK pe_int pa_nil))) (nomark _))))).pt (pss_one (ps_ret (pe_tup (pa_consK pe_int (pa_consK pe_int pa_nil))))) pss_nil)
      (pss_cons (ps_if (pw_and (pt_cmpR op_eq (pv 2) pe_str (nomark _)) (pw_and1 (pt_chain (op_eqT hu) (op_eqT hu) (pe_ix ix_list (pv 1) pe_int (fun _ _ => rfl)) (pe_ix ix_list (pv 1) pe_int (fun _ _ => rfl)) (pe_tup (pa_consK pe_int (pa_consK pe_int pa_nil)))))).pt (pss_one (ps_ret (pe_tup (pa_consK pe_int (pa_consK pe_int pa_nil))))) pss_nil)
      (pss_cons (ps_if (pw_and (pt_cmpR op_eq (pv 2) pe_str (nomark _)) (pw_and1 (pt_cmpR (op_eqP hu1) (pv 1) (pe_lst (pa_consT (pe_tup (pa_consK pe_int (pa_consK pe_int pa_nil))) (pa_consT (pe_tup (pa_consK pe_int (pa_consK pe_int pa_nil))) pa_nil))) (nomark _)))).pt (pss_one (ps_ret (pe_tup (pa_consS (pe_ix ix_tup (pv 0) pe_int (fun _ _ => rfl)) (pa_consS (pe_ix ix_tup (pv 0) pe_int (fun _ _ => rfl)) pa_nil))))) pss_nil)
      (pss_cons (ps_if (pw_and (pt_cmpR op_eq (pv 2) pe_str (nomark _)) (pw_and1 (pt_cmpR (op_eqP hu1) (pv 1) (pe_lst (pa_consT (pe_tup (pa_consK pe_int (pa_consK pe_int pa_nil))) pa_nil)) (nomark _)))).pt (pss_one (ps_ret (pe_tup (pa_consK pe_int (pa_consK pe_int pa_nil))))) pss_nil)
      (pss_one (ps_ret pe_non))))))))))))))), ?_⟩

    cases hv with
    | @nd _ t _ us' _ ha ht hl' hh =>
      cases fo with
      | nd ok hps =>
      cases nn0 : (shL ps).any (fun s => s.isNone) with
      | true =>
        have e : shF (.nd kd ps) = none := shF_none (.nd kd ps) nn0
        rw [e] at k
        obtain ⟨r0, er⟩ := lay_kw t kd us'
        have ha0 : H a = some (.tup (.str (kw kd) :: r0)) := by rw [ha, er]
        exact ⟨_, rfl, a, _, _, _, rfl, rfl, SqT.of ha0, atI_hd, _, rfl, l, us, rfl, rfl, hl, shs_mem (LhsAt.shs sh), true, congrArg V.bl ((shs_any (K := K) (LhsAt.shs sh)).trans nn0), iteT (k _ _ rfl (Same.refl _))⟩
      | false =>
      obtain ⟨qs, hss⟩ := somes nn0
      rw [hss] at sh nn0
      have ql : qs.length = ps.length := by
        have := shL_len ps
        rw [hss, List.length_map] at this
        exact this
      cases kd with
      | op z0 =>
        have LL := ok.2
        replace ha : H a = some (.tup (vS "op" :: .str z0 :: us')) := ha
        obtain ⟨x, y, rfl⟩ := kid2 (ql.trans LL)
        replace k : ∀ x' H', LhAt H' x' (fit x y) → Same H H' → Q x' H' := fun x' H' h s => k x' H' (by rw [shF, hss]; exact h) s
        refine ⟨_, rfl, a, _, _, _, rfl, rfl, SqT.of ha, atI_hd, _, rfl, l, us, rfl, rfl, hl, shs_mem (LhsAt.shs sh), false, congrArg V.bl ((shs_any (K := K) (LhsAt.shs sh)).trans nn0), iteF ?_⟩
        refine ⟨_, rfl, rfl, true, (by decide +kernel), iteT ?_⟩
        obtain ⟨p, q, rfl, hp, hq⟩ := lh2 sh
        exact ⟨_, rfl, l, _, _, _, rfl, rfl, SqL.of hl, rfl, _, rfl, l, _, _, _, rfl, rfl, SqL.of hl, rfl, _, _, x, y, rfl, ⟨p, rfl, hp⟩, ⟨q, rfl, hq⟩, k⟩
      | neg =>
        have LL : ps.length = 1 := ok
        replace ha : H a = some (.tup (vS "neg" :: us')) := ha
        obtain ⟨x, rfl⟩ := kid1 (ql.trans LL)
        replace k : ∀ x' H', LhAt H' x' (some x) → Same H H' → Q x' H' := fun x' H' h s => k x' H' (by rw [shF, hss]; exact h) s
        refine ⟨_, rfl, a, _, _, _, rfl, rfl, SqT.of ha, atI_hd, _, rfl, l, us, rfl, rfl, hl, shs_mem (LhsAt.shs sh), false, congrArg V.bl ((shs_any (K := K) (LhsAt.shs sh)).trans nn0), iteF ?_⟩
        refine ⟨_, rfl, rfl, false, (by decide +kernel), iteF ?_⟩
        refine ⟨_, rfl, rfl, false, (by decide +kernel), iteF (iteF ?_)⟩
        refine ⟨_, rfl, rfl, true, (by decide +kernel), iteT ?_⟩
        obtain ⟨p, rfl, hp⟩ := lh1 sh
        exact ⟨_, rfl, l, _, _, _, rfl, rfl, SqL.of hl, rfl, k _ _ ⟨p, rfl, hp⟩ (Same.refl _)⟩
      | own z0 =>
        exact ok.2.elim
      | sumif z0 =>
        have LL := ok.2
        replace ha : H a = some (.tup (vS "sumif" :: (us'.take 1 ++ .str z0 :: us'.drop 1))) := ha
        obtain ⟨x, y, z, rfl⟩ := kid3 (ql.trans LL)
        replace k : ∀ x' H', LhAt H' x' (if x = z then (if y = (1, 1) then some (1, 1) else none) else none) → Same H H' → Q x' H' := fun x' H' h s => k x' H' (by rw [shF, hss]; exact h) s
        refine ⟨_, rfl, a, _, _, _, rfl, rfl, SqT.of ha, atI_hd, _, rfl, l, us, rfl, rfl, hl, shs_mem (LhsAt.shs sh), false, congrArg V.bl ((shs_any (K := K) (LhsAt.shs sh)).trans nn0), iteF ?_⟩
        refine ⟨_, rfl, rfl, false, (by decide +kernel), iteF ?_⟩
        refine ⟨_, rfl, rfl, false, (by decide +kernel), iteF (iteF ?_)⟩
        refine ⟨_, rfl, rfl, false, (by decide +kernel), iteF ?_⟩
        refine ⟨_, rfl, rfl, false, (by decide +kernel), iteF ?_⟩
        refine ⟨_, rfl, rfl, false, (by decide +kernel), iteF (iteF ?_)⟩
        refine ⟨_, rfl, (by show 4 ≤ sizeLine; decide), fun tn1 hn1 => ⟨tn1, _, rfl, .inr (SqT.of upd_same), rfl, rfl, false, (by decide +kernel), iteF ?_⟩⟩
        have sn1 := Same.new (o := .tup [vS "sum", vS "count", vS "least", vS "most"]) hn1
        replace ha := sn1 _ _ ha
        replace hl := sn1 _ _ hl
        replace sh := LhsAt.same sh sn1
        replace k := fun x' H' h' (s' : Same _ H') => k x' H' h' (sn1.trans s')
        refine ⟨_, rfl, rfl, true, (by decide +kernel), iteT ?_⟩
        obtain ⟨p, q, u, rfl, hp, hq, hu'⟩ := lh3 sh
        refine ⟨_, rfl, l, _, _, _, rfl, rfl, SqL.of hl, rfl, _, rfl, l, _, _, _, rfl, rfl, SqL.of hl, rfl, p, u, _, _, rfl, rfl, (SqT.of hp), (SqT.of hu'), rfl, rfl, decide (x = z), congrArg V.bl (eqP2 x z), ite2 (fun c1 => ?_) (fun c1 => iteF ?_)⟩
        · rw [if_pos (of_decide_eq_true c1)] at k
          refine ⟨_, rfl, l, _, _, _, rfl, rfl, SqL.of hl, rfl, two_le, fun dc2 hdc2 => ⟨q, dc2, _, _, rfl, rfl, SqT.of (Same.new hdc2 _ _ hq), SqT.of upd_same, rfl, rfl, decide (y = (1, 1)), congrArg V.bl (eqP2 y (1, 1)), ite2 (fun c2 => ?_) (fun c2 => ?_)⟩⟩
          · rw [if_pos (of_decide_eq_true c2)] at k
            have sc2 := Same.new (o := .tup [.int 1, .int 1]) hdc2
            replace ha := sc2 _ _ ha
            replace hl := sc2 _ _ hl
            replace sh := LhsAt.same sh sc2
            replace k := fun x' H' h' (s' : Same _ H') => k x' H' h' (sc2.trans s')
            exact ⟨two_le, fun t9 ht9 => k _ _ ⟨t9, rfl, upd_same⟩ (Same.new ht9)⟩
          · rw [if_neg fun z => c2 (decide_eq_true z)] at k
            have sc2 := Same.new (o := .tup [.int 1, .int 1]) hdc2
            replace ha := sc2 _ _ ha
            replace hl := sc2 _ _ hl
            replace sh := LhsAt.same sh sc2
            replace k := fun x' H' h' (s' : Same _ H') => k x' H' h' (sc2.trans s')
            refine ⟨_, rfl, rfl, false, (by decide +kernel), iteF (iteF ?_)⟩
            refine ⟨_, rfl, rfl, false, (by decide +kernel), iteF (iteF ?_)⟩
            refine ⟨_, rfl, rfl, false, (by decide +kernel), iteF (iteF ?_)⟩
            exact k _ _ rfl (Same.refl _)
        · rw [if_neg fun z => c1 (decide_eq_true z)] at k
          refine ⟨_, rfl, rfl, false, (by decide +kernel), iteF (iteF ?_)⟩
          refine ⟨_, rfl, rfl, false, (by decide +kernel), iteF (iteF ?_)⟩
          refine ⟨_, rfl, rfl, false, (by decide +kernel), iteF (iteF ?_)⟩
          exact k _ _ rfl (Same.refl _)
      | grid gi gj =>
        have LL := ok.2.2.2.2
        replace ha : H a = some (.tup (vS "grid" :: .int gi :: .int gj :: us')) := ha
        obtain ⟨x, y, rfl⟩ := kid2 (ql.trans LL)
        replace k : ∀ x' H', LhAt H' x' (if x = (1, 1) then (if y = (1, 1) then some (gi, gj) else none) else none) → Same H H' → Q x' H' := fun x' H' h s => k x' H' (by rw [shF, hss]; exact h) s
        refine ⟨_, rfl, a, _, _, _, rfl, rfl, SqT.of ha, atI_hd, _, rfl, l, us, rfl, rfl, hl, shs_mem (LhsAt.shs sh), false, congrArg V.bl ((shs_any (K := K) (LhsAt.shs sh)).trans nn0), iteF ?_⟩
        refine ⟨_, rfl, rfl, false, (by decide +kernel), iteF ?_⟩
        refine ⟨_, rfl, rfl, false, (by decide +kernel), iteF (iteF ?_)⟩
        refine ⟨_, rfl, rfl, false, (by decide +kernel), iteF ?_⟩
        refine ⟨_, rfl, rfl, false, (by decide +kernel), iteF ?_⟩
        refine ⟨_, rfl, rfl, false, (by decide +kernel), iteF (iteF ?_)⟩
        refine ⟨_, rfl, (by show 4 ≤ sizeLine; decide), fun tn2 hn2 => ⟨tn2, _, rfl, .inr (SqT.of upd_same), rfl, rfl, false, (by decide +kernel), iteF ?_⟩⟩
        have sn2 := Same.new (o := .tup [vS "sum", vS "count", vS "least", vS "most"]) hn2
        replace ha := sn2 _ _ ha
        replace hl := sn2 _ _ hl
        replace sh := LhsAt.same sh sn2
        replace k := fun x' H' h' (s' : Same _ H') => k x' H' h' (sn2.trans s')
        refine ⟨_, rfl, rfl, false, (by decide +kernel), iteF (iteF ?_)⟩
        refine ⟨_, rfl, rfl, false, (by decide +kernel), iteF (iteF ?_)⟩
        refine ⟨_, rfl, rfl, true, (by decide +kernel), iteT ?_⟩
        obtain ⟨p, q, rfl, hp, hq⟩ := lh2 sh
        refine ⟨_, rfl, two_le, fun d1 hd1 => ⟨two_le, fun d2 hd2 => ⟨two_le, fun d3 hd3 => ?_⟩⟩⟩
        have s1 := Same.new (o := .tup [.int 1, .int 1]) hd1
        have s2 := Same.new (o := .tup [.int 1, .int 1]) hd2
        have s3 := Same.new (o := .lst [.ref d1, .ref d2]) hd3
        have s9 := (s1.trans s2).trans s3
        have pr : Prs _ [.ref d1, .ref d2] [((1, 1) : Int × Int), (1, 1)] := .cons ⟨d1, rfl, s3 _ _ (s2 _ _ upd_same)⟩ (.cons ⟨d2, rfl, s3 _ _ upd_same⟩ .nil)
        replace ha := s9 _ _ ha
        replace hl := s9 _ _ hl
        replace sh := LhsAt.same sh s9
        replace k := fun x' H' h' (s' : Same _ H') => k x' H' h' (s9.trans s')
        replace hp := s9 _ _ hp
        replace hq := s9 _ _ hq
        refine ⟨[x, y], [((1, 1) : Int × Int), (1, 1)], ⟨l, _, rfl, SqL.of hl, .cons ⟨p, rfl, hp⟩ (.cons ⟨q, rfl, hq⟩ .nil)⟩, ⟨d3, _, rfl, SqL.of upd_same, pr⟩, decide ([x, y] = [((1, 1) : Int × Int), (1, 1)]), rfl, ite2 (fun c1 => ?_) (fun c1 => ?_)⟩
        · have c1' := of_decide_eq_true c1
          simp only [List.cons.injEq, and_true] at c1'
          rw [if_pos c1'.1, if_pos c1'.2] at k
          exact ⟨_, rfl, a, _, _, _, rfl, rfl, SqT.of ha, atI_1, _, rfl, a, _, _, _, rfl, rfl, SqT.of ha, atI_2, two_le, fun r hr' => k _ _ ⟨r, rfl, upd_same⟩ (Same.new hr')⟩
        · have e : (if x = (1, 1) then (if y = (1, 1) then (some (gi, gj) : Sh) else none) else none) = none := by
            by_cases d1 : x = (1, 1)
            · by_cases d2 : y = (1, 1)
              · exact absurd (decide_eq_true (by rw [d1, d2])) c1
              · rw [if_pos d1, if_neg d2]
            · rw [if_neg d1]
          rw [e] at k
          refine ⟨_, rfl, rfl, false, (by decide +kernel), iteF (iteF ?_)⟩
          exact k _ _ rfl (Same.refl _)
      | wd z0 =>
        replace ha : H a = some (.tup (.str z0 :: us')) := ha
        rcases wds9 ok with ⟨rfl, LL⟩ | ⟨rfl, LL⟩ | ⟨rfl, LL⟩ | ⟨rfl, LL⟩ | ⟨rfl, LL⟩ | ⟨rfl, LL⟩ | ⟨rfl, LL⟩ | ⟨rfl, LL⟩ | ⟨rfl, LL⟩
        · skip
          obtain ⟨x, y, z, rfl⟩ := kid3 (ql.trans LL)
          replace k : ∀ x' H', LhAt H' x' (if x = (1, 1) then fit y z else none) → Same H H' → Q x' H' := fun x' H' h s => k x' H' (by rw [shF, hss]; rw [shK]; rw [shW_if]; exact h) s
          refine ⟨_, rfl, a, _, _, _, rfl, rfl, SqT.of ha, atI_hd, _, rfl, l, us, rfl, rfl, hl, shs_mem (LhsAt.shs sh), false, congrArg V.bl ((shs_any (K := K) (LhsAt.shs sh)).trans nn0), iteF ?_⟩
          refine ⟨_, rfl, rfl, false, (by decide +kernel), iteF ?_⟩
          refine ⟨_, rfl, rfl, true, (by decide +kernel), iteT ?_⟩
          obtain ⟨p, q, u, rfl, hp, hq, hu'⟩ := lh3 sh
          refine ⟨_, rfl, l, _, _, _, rfl, rfl, SqL.of hl, rfl, two_le, fun dc1 hdc1 => ⟨p, dc1, _, _, rfl, rfl, SqT.of (Same.new hdc1 _ _ hp), SqT.of upd_same, rfl, rfl, decide (x = (1, 1)), congrArg V.bl (eqP2 x (1, 1)), ite2 (fun c1 => ?_) (fun c1 => ?_)⟩⟩
          · rw [if_pos (of_decide_eq_true c1)] at k
            have sc1 := Same.new (o := .tup [.int 1, .int 1]) hdc1
            replace ha := sc1 _ _ ha
            replace hl := sc1 _ _ hl
            replace sh := LhsAt.same sh sc1
            replace k := fun x' H' h' (s' : Same _ H') => k x' H' h' (sc1.trans s')
            exact ⟨_, rfl, l, _, _, _, rfl, rfl, SqL.of hl, rfl, _, rfl, l, _, _, _, rfl, rfl, SqL.of hl, rfl, _, _, y, z, rfl, ⟨q, rfl, sc1 _ _ hq⟩, ⟨u, rfl, sc1 _ _ hu'⟩, k⟩
          · rw [if_neg fun z => c1 (decide_eq_true z)] at k
            have sc1 := Same.new (o := .tup [.int 1, .int 1]) hdc1
            replace ha := sc1 _ _ ha
            replace hl := sc1 _ _ hl
            replace sh := LhsAt.same sh sc1
            replace k := fun x' H' h' (s' : Same _ H') => k x' H' h' (sc1.trans s')
            refine ⟨_, rfl, rfl, false, (by decide +kernel), iteF ?_⟩
            refine ⟨_, rfl, rfl, false, (by decide +kernel), iteF ?_⟩
            refine ⟨_, rfl, rfl, false, (by decide +kernel), iteF (iteF ?_)⟩
            refine ⟨_, rfl, (by show 4 ≤ sizeLine; decide), fun tn3 hn3 => ⟨tn3, _, rfl, .inr (SqT.of upd_same), rfl, rfl, false, (by decide +kernel), iteF ?_⟩⟩
            have sn3 := Same.new (o := .tup [vS "sum", vS "count", vS "least", vS "most"]) hn3
            replace ha := sn3 _ _ ha
            replace hl := sn3 _ _ hl
            replace sh := LhsAt.same sh sn3
            replace k := fun x' H' h' (s' : Same _ H') => k x' H' h' (sn3.trans s')
            refine ⟨_, rfl, rfl, false, (by decide +kernel), iteF (iteF ?_)⟩
            refine ⟨_, rfl, rfl, false, (by decide +kernel), iteF (iteF ?_)⟩
            refine ⟨_, rfl, rfl, false, (by decide +kernel), iteF (iteF ?_)⟩
            refine ⟨_, rfl, rfl, false, (by decide +kernel), iteF (iteF ?_)⟩
            exact k _ _ rfl (Same.refl _)
        · skip
          obtain ⟨x, rfl⟩ := kid1 (ql.trans LL)
          replace k : ∀ x' H', LhAt H' x' (some (1, 1)) → Same H H' → Q x' H' := fun x' H' h s => k x' H' (by rw [shF, hss]; rw [shK]; rw [shW_one _ (by simp)]; exact h) s
          refine ⟨_, rfl, a, _, _, _, rfl, rfl, SqT.of ha, atI_hd, _, rfl, l, us, rfl, rfl, hl, shs_mem (LhsAt.shs sh), false, congrArg V.bl ((shs_any (K := K) (LhsAt.shs sh)).trans nn0), iteF ?_⟩
          refine ⟨_, rfl, rfl, false, (by decide +kernel), iteF ?_⟩
          refine ⟨_, rfl, rfl, false, (by decide +kernel), iteF (iteF ?_)⟩
          refine ⟨_, rfl, rfl, false, (by decide +kernel), iteF ?_⟩
          refine ⟨_, rfl, rfl, false, (by decide +kernel), iteF ?_⟩
          refine ⟨_, rfl, rfl, false, (by decide +kernel), iteF (iteF ?_)⟩
          refine ⟨_, rfl, (by show 4 ≤ sizeLine; decide), fun tn4 hn4 => ⟨tn4, _, rfl, .inr (SqT.of upd_same), rfl, rfl, true, (by decide +kernel), iteT ?_⟩⟩
          have sn4 := Same.new (o := .tup [vS "sum", vS "count", vS "least", vS "most"]) hn4
          replace ha := sn4 _ _ ha
          replace hl := sn4 _ _ hl
          replace sh := LhsAt.same sh sn4
          replace k := fun x' H' h' (s' : Same _ H') => k x' H' h' (sn4.trans s')
          exact ⟨two_le, fun t9 ht9 => k _ _ ⟨t9, rfl, upd_same⟩ (Same.new ht9)⟩
        · skip
          obtain ⟨x, rfl⟩ := kid1 (ql.trans LL)
          replace k : ∀ x' H', LhAt H' x' (some (1, 1)) → Same H H' → Q x' H' := fun x' H' h s => k x' H' (by rw [shF, hss]; rw [shK]; rw [shW_one _ (by simp)]; exact h) s
          refine ⟨_, rfl, a, _, _, _, rfl, rfl, SqT.of ha, atI_hd, _, rfl, l, us, rfl, rfl, hl, shs_mem (LhsAt.shs sh), false, congrArg V.bl ((shs_any (K := K) (LhsAt.shs sh)).trans nn0), iteF ?_⟩
          refine ⟨_, rfl, rfl, false, (by decide +kernel), iteF ?_⟩
          refine ⟨_, rfl, rfl, false, (by decide +kernel), iteF (iteF ?_)⟩
          refine ⟨_, rfl, rfl, false, (by decide +kernel), iteF ?_⟩
          refine ⟨_, rfl, rfl, false, (by decide +kernel), iteF ?_⟩
          refine ⟨_, rfl, rfl, false, (by decide +kernel), iteF (iteF ?_)⟩
          refine ⟨_, rfl, (by show 4 ≤ sizeLine; decide), fun tn5 hn5 => ⟨tn5, _, rfl, .inr (SqT.of upd_same), rfl, rfl, true, (by decide +kernel), iteT ?_⟩⟩
          have sn5 := Same.new (o := .tup [vS "sum", vS "count", vS "least", vS "most"]) hn5
          replace ha := sn5 _ _ ha
          replace hl := sn5 _ _ hl
          replace sh := LhsAt.same sh sn5
          replace k := fun x' H' h' (s' : Same _ H') => k x' H' h' (sn5.trans s')
          exact ⟨two_le, fun t9 ht9 => k _ _ ⟨t9, rfl, upd_same⟩ (Same.new ht9)⟩
        · skip
          obtain ⟨x, rfl⟩ := kid1 (ql.trans LL)
          replace k : ∀ x' H', LhAt H' x' (some (1, 1)) → Same H H' → Q x' H' := fun x' H' h s => k x' H' (by rw [shF, hss]; rw [shK]; rw [shW_one _ (by simp)]; exact h) s
          refine ⟨_, rfl, a, _, _, _, rfl, rfl, SqT.of ha, atI_hd, _, rfl, l, us, rfl, rfl, hl, shs_mem (LhsAt.shs sh), false, congrArg V.bl ((shs_any (K := K) (LhsAt.shs sh)).trans nn0), iteF ?_⟩
          refine ⟨_, rfl, rfl, false, (by decide +kernel), iteF ?_⟩
          refine ⟨_, rfl, rfl, false, (by decide +kernel), iteF (iteF ?_)⟩
          refine ⟨_, rfl, rfl, false, (by decide +kernel), iteF ?_⟩
          refine ⟨_, rfl, rfl, false, (by decide +kernel), iteF ?_⟩
          refine ⟨_, rfl, rfl, false, (by decide +kernel), iteF (iteF ?_)⟩
          refine ⟨_, rfl, (by show 4 ≤ sizeLine; decide), fun tn6 hn6 => ⟨tn6, _, rfl, .inr (SqT.of upd_same), rfl, rfl, true, (by decide +kernel), iteT ?_⟩⟩
          have sn6 := Same.new (o := .tup [vS "sum", vS "count", vS "least", vS "most"]) hn6
          replace ha := sn6 _ _ ha
          replace hl := sn6 _ _ hl
          replace sh := LhsAt.same sh sn6
          replace k := fun x' H' h' (s' : Same _ H') => k x' H' h' (sn6.trans s')
          exact ⟨two_le, fun t9 ht9 => k _ _ ⟨t9, rfl, upd_same⟩ (Same.new ht9)⟩
        · skip
          obtain ⟨x, rfl⟩ := kid1 (ql.trans LL)
          replace k : ∀ x' H', LhAt H' x' (some (1, 1)) → Same H H' → Q x' H' := fun x' H' h s => k x' H' (by rw [shF, hss]; rw [shK]; rw [shW_one _ (by simp)]; exact h) s
          refine ⟨_, rfl, a, _, _, _, rfl, rfl, SqT.of ha, atI_hd, _, rfl, l, us, rfl, rfl, hl, shs_mem (LhsAt.shs sh), false, congrArg V.bl ((shs_any (K := K) (LhsAt.shs sh)).trans nn0), iteF ?_⟩
          refine ⟨_, rfl, rfl, false, (by decide +kernel), iteF ?_⟩
          refine ⟨_, rfl, rfl, false, (by decide +kernel), iteF (iteF ?_)⟩
          refine ⟨_, rfl, rfl, false, (by decide +kernel), iteF ?_⟩
          refine ⟨_, rfl, rfl, false, (by decide +kernel), iteF ?_⟩
          refine ⟨_, rfl, rfl, false, (by decide +kernel), iteF (iteF ?_)⟩
          refine ⟨_, rfl, (by show 4 ≤ sizeLine; decide), fun tn7 hn7 => ⟨tn7, _, rfl, .inr (SqT.of upd_same), rfl, rfl, true, (by decide +kernel), iteT ?_⟩⟩
          have sn7 := Same.new (o := .tup [vS "sum", vS "count", vS "least", vS "most"]) hn7
          replace ha := sn7 _ _ ha
          replace hl := sn7 _ _ hl
          replace sh := LhsAt.same sh sn7
          replace k := fun x' H' h' (s' : Same _ H') => k x' H' h' (sn7.trans s')
          exact ⟨two_le, fun t9 ht9 => k _ _ ⟨t9, rfl, upd_same⟩ (Same.new ht9)⟩
        · skip
          obtain ⟨x, y, z, rfl⟩ := kid3 (ql.trans LL)
          replace k : ∀ x' H', LhAt H' x' (if x = (1, 1) then (if z = (1, 1) then some (1, 1) else none) else none) → Same H H' → Q x' H' := fun x' H' h s => k x' H' (by rw [shF, hss]; rw [shK]; rw [shW_find]; exact h) s
          refine ⟨_, rfl, a, _, _, _, rfl, rfl, SqT.of ha, atI_hd, _, rfl, l, us, rfl, rfl, hl, shs_mem (LhsAt.shs sh), false, congrArg V.bl ((shs_any (K := K) (LhsAt.shs sh)).trans nn0), iteF ?_⟩
          refine ⟨_, rfl, rfl, false, (by decide +kernel), iteF ?_⟩
          refine ⟨_, rfl, rfl, false, (by decide +kernel), iteF (iteF ?_)⟩
          refine ⟨_, rfl, rfl, false, (by decide +kernel), iteF ?_⟩
          refine ⟨_, rfl, rfl, false, (by decide +kernel), iteF ?_⟩
          refine ⟨_, rfl, rfl, false, (by decide +kernel), iteF (iteF ?_)⟩
          refine ⟨_, rfl, (by show 4 ≤ sizeLine; decide), fun tn8 hn8 => ⟨tn8, _, rfl, .inr (SqT.of upd_same), rfl, rfl, false, (by decide +kernel), iteF ?_⟩⟩
          have sn8 := Same.new (o := .tup [vS "sum", vS "count", vS "least", vS "most"]) hn8
          replace ha := sn8 _ _ ha
          replace hl := sn8 _ _ hl
          replace sh := LhsAt.same sh sn8
          replace k := fun x' H' h' (s' : Same _ H') => k x' H' h' (sn8.trans s')
          refine ⟨_, rfl, rfl, false, (by decide +kernel), iteF (iteF ?_)⟩
          refine ⟨_, rfl, rfl, true, (by decide +kernel), iteT ?_⟩
          obtain ⟨p, q, u, rfl, hp, hq, hu'⟩ := lh3 sh
          refine ⟨_, rfl, l, _, _, _, rfl, rfl, SqL.of hl, rfl, _, rfl, l, _, _, _, rfl, rfl, SqL.of hl, rfl, p, u, _, _, rfl, rfl, SqT.of hp, SqT.of hu', rfl, rfl, decide (x = z), congrArg V.bl (eqP2 x z), ite2 (fun c1 => ?_) (fun c1 => ⟨false, rfl, iteF ?_⟩)⟩
          · have c1' := of_decide_eq_true c1
            refine ⟨two_le, fun d9 hd9 => ⟨u, d9, _, _, rfl, rfl, SqT.of (Same.new hd9 _ _ hu'), SqT.of upd_same, rfl, rfl, decide (z = (1, 1)), congrArg V.bl (eqP2 z (1, 1)), ite2 (fun c2 => ?_) (fun c2 => ?_)⟩⟩
            · rw [if_pos (c1'.trans (of_decide_eq_true c2)), if_pos (of_decide_eq_true c2)] at k
              have sc2 := Same.new (o := .tup [.int 1, .int 1]) hd9
              replace ha := sc2 _ _ ha
              replace hl := sc2 _ _ hl
              replace sh := LhsAt.same sh sc2
              replace k := fun x' H' h' (s' : Same _ H') => k x' H' h' (sc2.trans s')
              exact ⟨two_le, fun t9 ht9 => k _ _ ⟨t9, rfl, upd_same⟩ (Same.new ht9)⟩
            · rw [c1', if_neg fun z => c2 (decide_eq_true z)] at k
              have sc2 := Same.new (o := .tup [.int 1, .int 1]) hd9
              replace ha := sc2 _ _ ha
              replace hl := sc2 _ _ hl
              replace sh := LhsAt.same sh sc2
              replace k := fun x' H' h' (s' : Same _ H') => k x' H' h' (sc2.trans s')
              refine ⟨_, rfl, rfl, false, (by decide +kernel), iteF (iteF ?_)⟩
              refine ⟨_, rfl, rfl, false, (by decide +kernel), iteF (iteF ?_)⟩
              exact k _ _ rfl (Same.refl _)
          · have e : (if x = (1, 1) then (if z = (1, 1) then (some (1, 1) : Sh) else none) else none) = none := by
              by_cases d1 : x = (1, 1)
              · by_cases d2 : z = (1, 1)
                · exact absurd (d1.trans d2.symm) fun z => c1 (decide_eq_true z)
                · rw [if_pos d1, if_neg d2]
              · rw [if_neg d1]
            rw [e] at k
            refine ⟨_, rfl, rfl, false, (by decide +kernel), iteF (iteF ?_)⟩
            refine ⟨_, rfl, rfl, false, (by decide +kernel), iteF (iteF ?_)⟩
            exact k _ _ rfl (Same.refl _)
        · skip
          obtain ⟨x, rfl⟩ := kid1 (ql.trans LL)
          replace k : ∀ x' H', LhAt H' x' (some (x.2, x.1)) → Same H H' → Q x' H' := fun x' H' h s => k x' H' (by rw [shF, hss]; rw [shK]; rw [shW_turn]; exact h) s
          refine ⟨_, rfl, a, _, _, _, rfl, rfl, SqT.of ha, atI_hd, _, rfl, l, us, rfl, rfl, hl, shs_mem (LhsAt.shs sh), false, congrArg V.bl ((shs_any (K := K) (LhsAt.shs sh)).trans nn0), iteF ?_⟩
          refine ⟨_, rfl, rfl, false, (by decide +kernel), iteF ?_⟩
          refine ⟨_, rfl, rfl, false, (by decide +kernel), iteF (iteF ?_)⟩
          refine ⟨_, rfl, rfl, false, (by decide +kernel), iteF ?_⟩
          refine ⟨_, rfl, rfl, true, (by decide +kernel), iteT ?_⟩
          obtain ⟨p, rfl, hp⟩ := lh1 sh
          exact ⟨_, rfl, l, _, _, _, rfl, rfl, SqL.of hl, rfl, p, _, _, _, rfl, rfl, SqT.of hp, rfl, _, rfl, l, _, _, _, rfl, rfl, SqL.of hl, rfl, p, _, _, _, rfl, rfl, SqT.of hp, rfl, two_le, fun r hr' => k _ _ ⟨r, rfl, upd_same⟩ (Same.new hr')⟩
        · skip
          obtain ⟨x, y, rfl⟩ := kid2 (ql.trans LL)
          replace k : ∀ x' H', LhAt H' x' (stk x y) → Same H H' → Q x' H' := fun x' H' h s => k x' H' (by rw [shF, hss]; rw [shK]; rw [shW_stack]; exact h) s
          refine ⟨_, rfl, a, _, _, _, rfl, rfl, SqT.of ha, atI_hd, _, rfl, l, us, rfl, rfl, hl, shs_mem (LhsAt.shs sh), false, congrArg V.bl ((shs_any (K := K) (LhsAt.shs sh)).trans nn0), iteF ?_⟩
          refine ⟨_, rfl, rfl, false, (by decide +kernel), iteF ?_⟩
          refine ⟨_, rfl, rfl, false, (by decide +kernel), iteF (iteF ?_)⟩
          refine ⟨_, rfl, rfl, false, (by decide +kernel), iteF ?_⟩
          refine ⟨_, rfl, rfl, false, (by decide +kernel), iteF ?_⟩
          refine ⟨_, rfl, rfl, true, (by decide +kernel), iteT ?_⟩
          obtain ⟨p, q, rfl, hp, hq⟩ := lh2 sh
          unfold stk at k
          refine ⟨_, rfl, l, _, _, _, rfl, rfl, SqL.of hl, rfl, p, _, _, _, rfl, rfl, SqT.of hp, rfl, _, rfl, l, _, _, _, rfl, rfl, SqL.of hl, rfl, q, _, _, _, rfl, rfl, SqT.of hq, rfl, rfl, _, rfl, ite2 (fun c1 => ?_) (fun c1 => ?_)⟩
          · have c1' : x.2 = y.2 := by have := of_decide_eq_true c1; injection this
            rw [if_pos c1'] at k
            exact ⟨_, rfl, l, _, _, _, rfl, rfl, SqL.of hl, rfl, p, _, _, _, rfl, rfl, SqT.of hp, rfl, _, rfl, l, _, _, _, rfl, rfl, SqL.of hl, rfl, q, _, _, _, rfl, rfl, SqT.of hq, rfl, _, _, rfl, rfl, _, rfl, l, _, _, _, rfl, rfl, SqL.of hl, rfl, p, _, _, _, rfl, rfl, SqT.of hp, rfl, two_le, fun r hr' => k _ _ ⟨r, rfl, upd_same⟩ (Same.new hr')⟩
          · rw [if_neg fun z => c1 (decide_eq_true (by rw [z]))] at k
            refine ⟨_, rfl, (by show 4 ≤ sizeLine; decide), fun tn9 hn9 => ⟨tn9, _, rfl, .inr (SqT.of upd_same), rfl, rfl, false, (by decide +kernel), iteF ?_⟩⟩
            have sn9 := Same.new (o := .tup [vS "sum", vS "count", vS "least", vS "most"]) hn9
            replace ha := sn9 _ _ ha
            replace hl := sn9 _ _ hl
            replace sh := LhsAt.same sh sn9
            replace k := fun x' H' h' (s' : Same _ H') => k x' H' h' (sn9.trans s')
            refine ⟨_, rfl, rfl, false, (by decide +kernel), iteF (iteF ?_)⟩
            refine ⟨_, rfl, rfl, false, (by decide +kernel), iteF (iteF ?_)⟩
            refine ⟨_, rfl, rfl, false, (by decide +kernel), iteF (iteF ?_)⟩
            refine ⟨_, rfl, rfl, false, (by decide +kernel), iteF (iteF ?_)⟩
            exact k _ _ rfl (Same.refl _)
        · skip
          obtain ⟨x, rfl⟩ := kid1 (ql.trans LL)
          replace k : ∀ x' H', LhAt H' x' (if x = (1, 1) then some (1, 1) else none) → Same H H' → Q x' H' := fun x' H' h s => k x' H' (by rw [shF, hss]; rw [shK]; rw [shW_outer]; exact h) s
          refine ⟨_, rfl, a, _, _, _, rfl, rfl, SqT.of ha, atI_hd, _, rfl, l, us, rfl, rfl, hl, shs_mem (LhsAt.shs sh), false, congrArg V.bl ((shs_any (K := K) (LhsAt.shs sh)).trans nn0), iteF ?_⟩
          refine ⟨_, rfl, rfl, false, (by decide +kernel), iteF ?_⟩
          refine ⟨_, rfl, rfl, false, (by decide +kernel), iteF (iteF ?_)⟩
          refine ⟨_, rfl, rfl, false, (by decide +kernel), iteF ?_⟩
          refine ⟨_, rfl, rfl, false, (by decide +kernel), iteF ?_⟩
          refine ⟨_, rfl, rfl, false, (by decide +kernel), iteF (iteF ?_)⟩
          refine ⟨_, rfl, (by show 4 ≤ sizeLine; decide), fun tn10 hn10 => ⟨tn10, _, rfl, .inr (SqT.of upd_same), rfl, rfl, false, (by decide +kernel), iteF ?_⟩⟩
          have sn10 := Same.new (o := .tup [vS "sum", vS "count", vS "least", vS "most"]) hn10
          replace ha := sn10 _ _ ha
          replace hl := sn10 _ _ hl
          replace sh := LhsAt.same sh sn10
          replace k := fun x' H' h' (s' : Same _ H') => k x' H' h' (sn10.trans s')
          refine ⟨_, rfl, rfl, false, (by decide +kernel), iteF (iteF ?_)⟩
          refine ⟨_, rfl, rfl, false, (by decide +kernel), iteF (iteF ?_)⟩
          refine ⟨_, rfl, rfl, false, (by decide +kernel), iteF (iteF ?_)⟩
          refine ⟨_, rfl, rfl, true, (by decide +kernel), iteT ?_⟩
          obtain ⟨p, rfl, hp⟩ := lh1 sh
          refine ⟨_, rfl, two_le, fun d1 hd1 => ⟨one_le, fun d3 hd3 => ?_⟩⟩
          have s1 := Same.new (o := .tup [.int 1, .int 1]) hd1
          have s3 := Same.new (o := .lst [.ref d1]) hd3
          have s9 := s1.trans s3
          have pr : Prs _ [.ref d1] [((1, 1) : Int × Int)] := .cons ⟨d1, rfl, s3 _ _ upd_same⟩ .nil
          replace ha := s9 _ _ ha
          replace hl := s9 _ _ hl
          replace sh := LhsAt.same sh s9
          replace k := fun x' H' h' (s' : Same _ H') => k x' H' h' (s9.trans s')
          replace hp := s9 _ _ hp
          refine ⟨[x], [((1, 1) : Int × Int)], ⟨l, _, rfl, SqL.of hl, .cons ⟨p, rfl, hp⟩ .nil⟩, ⟨d3, _, rfl, SqL.of upd_same, pr⟩, decide ([x] = [((1, 1) : Int × Int)]), rfl, ite2 (fun c1 => ?_) (fun c1 => ?_)⟩
          · have c1' := of_decide_eq_true c1
            simp only [List.cons.injEq, and_true] at c1'
            rw [if_pos c1'] at k
            exact ⟨two_le, fun t9 ht9 => k _ _ ⟨t9, rfl, upd_same⟩ (Same.new ht9)⟩
          · rw [if_neg fun z => c1 (decide_eq_true (by rw [z]))] at k
            exact k _ _ rfl (Same.refl _)
theorem sc_law_shape : FnScope ["_law_tree"] ["_law_tree"] (defScope s__law_shape) := ⟨rfl, rfl, rfl, by decide +kernel, rfl, by decide +kernel, by decide +kernel⟩
theorem ok__law_shape (T : Txt w K mg t) : ∀ n : Nat, FnOk P w K mg base CX0 (n + 3) t.f__law_shape t.d__law_shape ["_law_tree"] (spLsh n) := by
  have D := T.c__law_shape
  intro n
  induction n with
  | zero => exact ⟨fun _ _ _ _ h => (by obtain ⟨_, _, _, _, fo, _⟩ := h; cases fo), fun _ _ _ _ _ _ _ _ _ _ _ _ _ h => (by obtain ⟨_, _, _, _, fo, _⟩ := h; cases fo)⟩
  | succ n ih =>

  refine D.fn.ok sc_law_shape (fun vs H Q E h => ?_) (fun cdv A outer s H vs Q E hr h => ?_)
  · obtain ⟨v, f, rfl, _⟩ := h
    rfl
  · obtain ⟨v, f, rfl, hv, fo, k⟩ := h
    have hu := hr.units0
    have hu1 := hu_of hr
    refine ⟨_, ((pss_cons (ps_if (pt_cmpR op_in_seq (pe_ix ix_tup (pv 0) pe_int (fun _ _ => rfl)) (pe_tup (pa_consK pe_str (pa_consK pe_str (pa_consK pe_str pa_nil)))) rfl) (pss_one (ps_ret (pe_tup (pa_consK pe_int (pa_consK pe_int pa_nil))))) pss_nil)
      (pss_cons (ps_if (pt_cmpR op_eq (pe_ix ix_tup (pv 0) pe_int (fun _ _ => rfl)) pe_str (nomark _)) (pss_one (ps_ret (pe_tup (pa_consB (pe_op op_add (pe_op op_sub (pe_ix ix_tup (pe_ix ix_tup (pv 0) pe_int (fun _ _ => rfl)) pe_int (fun _ _ => rfl)) (pe_ix ix_tup (pe_ix ix_tup (pv 0) pe_int (fun _ _ => rfl)) pe_int (fun _ _ => rfl))) pe_int) (pa_consB (pe_op op_add (pe_op op_sub (pe_ix ix_tup (pe_ix ix_tup (pv 0) pe_int (fun _ _ => rfl)) pe_int (fun _ _ => rfl)) (pe_ix ix_tup (pe_ix ix_tup (pv 0) pe_int (fun _ _ => rfl)) pe_int (fun _ _ => rfl))) pe_int) pa_nil))))) pss_nil)
      (pss_one (ps_ret (pe_cl T.c__law_of_parts (ok__law_of_parts T) (hr.mono (by omega)) (pa_consN (pv 0) (pa_consH (pe_comp (fv := []) (js := []) (cl := []) rfl (by with_unfolding_all rfl) ⟨rfl, by decide +kernel, by decide +kernel, rfl, by decide +kernel, by decide +kernel, (List.forall_mem_nil _), (List.forall_mem_nil _), .nil⟩ (pi_tup (pv 0)) (fun _ _ _ _ _ => (pf_one (pt_val (pe_callB (call_isinstC (K := K) rfl) (by rfl) T.isinstance boot_isinstance (pa_consN (pv 0) (pa_consN (pe_typ T.tuple boot_tuple) pa_nil)))))) (fun _ _ _ _ _ => (pe_cl T.c__law_shape ih (hr.mono (by omega)) (pa_consN (pv 0) pa_nil)))) pa_nil)))))))), ?_⟩

    have hv0 := hv
    have fo0 := fo
    cases hv with
    | @lf a lf0 hl0 =>
      cases fo with
      | lf lok =>
      cases lf0 with
      | cols s i x j y => exact lok.elim
      | gone => exact lok.elim
      | nam z => exact lok.elim
      | par i => exact lok.elim
      | rng s0 c d =>
        obtain ⟨q, u, ha, hq, hu'⟩ := hl0
        refine ⟨_, rfl, a, _, _, _, rfl, rfl, SqT.of ha, atI_hd, (by show 3 ≤ sizeLine; decide), fun t3 ht3 => ⟨t3, [vS "value", vS "cell", vS "fault"], rfl, .inr (SqT.of upd_same), rfl, rfl, false, (by decide +kernel), iteF ?_⟩⟩
        have s1 := Same.new (o := .tup [vS "value", vS "cell", vS "fault"]) ht3
        replace ha := s1 _ _ ha
        replace hq := s1 _ _ hq
        replace hu' := s1 _ _ hu'
        refine ⟨_, rfl, a, _, _, _, rfl, rfl, SqT.of ha, atI_hd, rfl, true, (by decide +kernel), iteT ?_⟩
        refine ⟨_, rfl, a, _, _, _, rfl, rfl, SqT.of ha, rfl, u, _, _, _, rfl, rfl, SqT.of hu', rfl, _, rfl, a, _, _, _, rfl, rfl, SqT.of ha, rfl, q, _, _, _, rfl, rfl, SqT.of hq, rfl, _, _, rfl, rfl, _, _, rfl, rfl, _, rfl, a, _, _, _, rfl, rfl, SqT.of ha, rfl, u, _, _, _, rfl, rfl, SqT.of hu', rfl, _, rfl, a, _, _, _, rfl, rfl, SqT.of ha, rfl, q, _, _, _, rfl, rfl, SqT.of hq, rfl, _, _, rfl, rfl, _, _, rfl, rfl, two_le, fun r hr' => ?_⟩
        exact k _ _ ⟨r, rfl, upd_same⟩ (s1.trans (Same.new hr'))
      | val v =>
        obtain ⟨q, ha, _⟩ := hl0
        refine ⟨_, rfl, a, _, _, _, rfl, rfl, SqT.of ha, atI_hd, (by show 3 ≤ sizeLine; decide), fun t3 ht3 => ⟨t3, [vS "value", vS "cell", vS "fault"], rfl, .inr (SqT.of upd_same), rfl, rfl, true, (by decide +kernel), iteT ?_⟩⟩
        rw [show shF (.lf (.val v)) = some (1, 1) from by rw [shF]; rfl] at k
        exact ⟨two_le, fun d hd => k _ _ ⟨d, rfl, upd_same⟩ ((Same.new ht3).trans (Same.new hd))⟩
      | cell s0 c0 =>
        obtain ⟨q, ha, _⟩ := hl0
        refine ⟨_, rfl, a, _, _, _, rfl, rfl, SqT.of ha, atI_hd, (by show 3 ≤ sizeLine; decide), fun t3 ht3 => ⟨t3, [vS "value", vS "cell", vS "fault"], rfl, .inr (SqT.of upd_same), rfl, rfl, true, (by decide +kernel), iteT ?_⟩⟩
        rw [show shF (.lf (.cell s0 c0)) = some (1, 1) from by rw [shF]; rfl] at k
        exact ⟨two_le, fun d hd => k _ _ ⟨d, rfl, upd_same⟩ ((Same.new ht3).trans (Same.new hd))⟩
      | flt =>
        have ha := hl0
        refine ⟨_, rfl, a, _, _, _, rfl, rfl, SqT.of ha, atI_hd, (by show 3 ≤ sizeLine; decide), fun t3 ht3 => ⟨t3, [vS "value", vS "cell", vS "fault"], rfl, .inr (SqT.of upd_same), rfl, rfl, true, (by decide +kernel), iteT ?_⟩⟩
        rw [show shF (.lf (.flt)) = some (1, 1) from by rw [shF]; rfl] at k
        exact ⟨two_le, fun d hd => k _ _ ⟨d, rfl, upd_same⟩ ((Same.new ht3).trans (Same.new hd))⟩

    | @nd a t kd us ps ha ht hl hh =>
      cases fo with
      | nd ok hps =>
      obtain ⟨r0, er⟩ := lay_kw t kd us
      have ha0 : H a = some (.tup (.str (kw kd) :: r0)) := by rw [ha, er]
      have fm := FmAt.parts hl hh

      have no : isOwn kd = false := by cases kd <;> first | rfl | exact ok.2.elim
      have hkw : decide (V.str (kw kd) = vS "range") = false ∧ inV (.str (kw kd)) [vS "value", vS "cell", vS "fault"] = false := by
        cases kd with
        | op z => exact (show decide (vS "op" = vS "range") = false ∧ inV (vS "op") [vS "value", vS "cell", vS "fault"] = false from ⟨by decide +kernel, by decide +kernel⟩)
        | neg => exact (show decide (vS "neg" = vS "range") = false ∧ inV (vS "neg") [vS "value", vS "cell", vS "fault"] = false from ⟨by decide +kernel, by decide +kernel⟩)
        | own z => exact ok.2.elim
        | sumif z => exact (show decide (vS "sumif" = vS "range") = false ∧ inV (vS "sumif") [vS "value", vS "cell", vS "fault"] = false from ⟨by decide +kernel, by decide +kernel⟩)
        | grid i j => exact (show decide (vS "grid" = vS "range") = false ∧ inV (vS "grid") [vS "value", vS "cell", vS "fault"] = false from ⟨by decide +kernel, by decide +kernel⟩)
        | wd z =>
          have hz : ∀ x ∈ WDS, decide (V.str x.1 = vS "range") = false ∧ inV (.str x.1) [vS "value", vS "cell", vS "fault"] = false := by decide +kernel
          exact hz _ ok
      obtain ⟨r, er2, hit, hfil, hlen⟩ := lay_tail (t := t) (H := H) (by rw [hl]; exact ok) no (fun u hu => by
        obtain ⟨j, hj, e⟩ := List.mem_iff_getElem.mp hu
        have e1 : us[j]? = some u := by rw [List.getElem?_eq_getElem hj, e]
        obtain ⟨g, _, x⟩ := paired_at fm e1
        exact x.tup)
      have ha2 : H a = some (.tup (.str (kw kd) :: r)) := by rw [ha, er2]
      refine ⟨_, rfl, a, _, _, _, rfl, rfl, SqT.of ha2, atI_hd, (by show 3 ≤ sizeLine; decide), fun t3 ht3 => ⟨t3, [vS "value", vS "cell", vS "fault"], rfl, .inr (SqT.of upd_same), rfl, rfl, false, congrArg V.bl hkw.2, iteF ?_⟩⟩
      have s1 := Same.new (o := .tup [vS "value", vS "cell", vS "fault"]) ht3
      refine ⟨_, rfl, a, _, _, _, rfl, rfl, SqT.of (s1 _ _ ha2), atI_hd, rfl, false, congrArg V.bl hkw.1, iteF ?_⟩
      refine ⟨_, rfl, _, rfl, a, rfl, ⟨_, SqT.of (s1 _ _ ha2)⟩, fun D hD => ?_⟩
      have ha3 := s1 _ _ ha2
      have fm3 := FmsAt.kp fm (Kp.same s1)
      generalize hit' : V.str (kw kd) :: r = it at *
      have hfil' : it.filter isRefV = us := by rw [← hit', List.filter_cons_of_neg (by simp [isRefV])]; exact hfil
      have hlen' : it.length ≤ 6 := by rw [← hit', List.length_cons]; omega
      have hal : ∀ x ∈ it, PartOr H x := fun x hx => by
        rw [← hit'] at hx
        rcases List.mem_cons.mp hx with e | e
        · exact .inr (.inl ⟨_, e⟩)
        · exact hit x e
      generalize hH1 : upd H t3 (.tup [vS "value", vS "cell", vS "fault"]) = H1 at *
      refine ⟨fun i m H4 => m = it.length - i ∧ i ≤ it.length ∧ ∃ vs, H4 D = some (.lst vs) ∧ LhsAt H4 vs (shL (ps.take ((it.take i).filter isRefV).length)) ∧ Same H1 H4, ⟨it.length, rfl, Nat.zero_le _, [], upd_same, (by rw [List.take_zero, List.filter_nil, List.length_nil, List.take_zero, shL]; exact .nil), Same.new hD⟩, ?_⟩
      rintro i m H4 ⟨rfl, hi, vs, hD4, sh4, s4⟩
      by_cases hlt : i < it.length
      · refine .inr ⟨⟨it, it[i], SqT.of (s4 _ _ ha3), List.getElem?_eq_getElem hlt⟩, fun x H' y => ?_⟩
        obtain ⟨e, y⟩ := y
        subst e
        have hx := y it (SqT.of (s4 _ _ ha3))
        have hm : x ∈ it := List.mem_of_getElem? hx
        have eN : isRefV x = false → ((it.take (i + 1)).filter isRefV) = (it.take i).filter isRefV := fun hn => by
          rw [List.take_add_one, hx, List.filter_append]
          show _ ++ [x].filter isRefV = _
          rw [List.filter_cons_of_neg (by rw [hn]; exact Bool.false_ne_true), List.filter_nil, List.append_nil]
        rcases hal x hm with ⟨b, ys, rfl, hb⟩ | ⟨z, rfl⟩ | ⟨j, rfl⟩
        · obtain ⟨f1, f2⟩ := filt_pre hfil' hx rfl
          obtain ⟨g, hg, xg⟩ := paired_at fm3 f1
          refine ⟨_, rfl, _, _, _, _, true, rfl, .tup (s4 _ _ (s1 _ _ hb)), rfl, (fun _ => .inr trivial), kit_tt _ _, true, rfl, iteT ?_⟩
          refine ⟨_, rfl, .ref b, g, rfl, FmAt.kp xg (Kp.same s4), hps g (List.mem_of_getElem? hg), fun y H5 hy s5 => ?_⟩
          have hD5 := s5 _ _ hD4
          have nvs : vs.length ≤ 6 := by
            rw [Paired.length sh4, shL_len, List.length_take]
            have : ((it.take i).filter isRefV).length ≤ (it.take i).length := List.length_filter_le _ _
            rw [List.length_take] at this
            omega
          have t5 : Kp H5 (upd H5 D (.lst (vs ++ [y]))) := Kp.lst hD5 KeepX.upd
          refine ⟨vs, hD5, sl_lt (by omega), it.length - (i + 1), (by omega), rfl, hlt, vs ++ [y], upd_same, ?_, fun b' o e => ?_⟩
          · rw [f2, List.take_add_one, hg, shL_app]
            exact papp (LhsAt.kp (LhsAt.same sh4 s5) t5) (by show LhsAt _ [y] (shL [g]); rw [shL, shL]; exact .cons (LhAt.kp hy t5) .nil)
          · rw [upd_ne (ne_of_none e hD)]; exact s5 _ _ (s4 _ _ e)
        · refine ⟨_, rfl, _, _, _, _, false, rfl, .str _, rfl, (fun _ => .inr trivial), T.kist, false, rfl, iteF ?_⟩
          exact ⟨it.length - (i + 1), (by omega), rfl, hlt, vs, hD4, (by rw [eN rfl]; exact sh4), s4⟩
        · refine ⟨_, rfl, _, _, _, _, false, rfl, .int _, rfl, (fun _ => .inr trivial), T.kiit, false, rfl, iteF ?_⟩
          exact ⟨it.length - (i + 1), (by omega), rfl, hlt, vs, hD4, (by rw [eN rfl]; exact sh4), s4⟩
      have ei : i = it.length := by omega
      subst ei
      refine .inl ⟨⟨it, SqT.of (s4 _ _ ha3), Nat.le_refl _⟩, ?_⟩
      rw [List.take_length, hfil', hl, List.take_length] at sh4
      exact ⟨a, D, kd, ps, vs, n + 1, rfl, FmAt.kp hv0 (Kp.same (s1.trans s4)), fo0, hD4, sh4, fun x H' h' s' => k x H' h' ((s1.trans s4).trans s')⟩
theorem sc_law_base : FnScope ["_law_pen_here", "_law_high", "_law_wide", "_law_way", "_law_one", "_law_row", "_law_column", "_law_corner"] ["_law_pen_here", "_law_high", "_law_wide"] (defScope s__law_base) := ⟨rfl, rfl, rfl, by decide +kernel, rfl, by decide +kernel, by decide +kernel⟩
theorem ok__law_base (T : Txt w K mg t) : FnOk P w K mg base CX0 2 t.f__law_base t.d__law_base ["_law_pen_here", "_law_high", "_law_wide"] (spBas K) := by
  have D := T.c__law_base
  refine D.fn.ok sc_law_base (fun vs H Q E h => ?_) (fun cdv A outer s H vs Q E hr h => ?_)
  · obtain ⟨p, h_, w_, c, S, rfl, _⟩ := h
    rfl
  · obtain ⟨p, h_, w_, c, S, rfl, h1, h2, w1, w2, hpen, hc, k⟩ := h
    have hu := hr.units0
    have hu1 := hu_of hr
    refine ⟨_, ((pss_cons (ps_set (i := 3) sc_law_base.nd rfl (Or.inl rfl) (pe_cl T.c__law_next (ok__law_next T) (hr.mono (by decide)) (pa_consN (pv 0) (pa_consK pe_int pa_nil))))
      (pss_cons (ps_set (i := 4) sc_law_base.nd rfl (Or.inl rfl) (pe_tup (pa_consK pe_str (pa_consT (pe_tup (pa_consK pe_str (pa_consK pe_int (pa_consK pe_int pa_nil)))) pa_nil))))
      (pss_cons (ps_if (pw_and (pt_cmpR (op_eqT hu) (pe_tup (pa_consN (pv 1) (pa_consN (pv 2) pa_nil))) (pe_tup (pa_consK pe_int (pa_consK pe_int pa_nil))) (nomark _)) (pw_and1 (pt_cmpR op_lt (pv 3) pe_int (nomark _)))).pt (pss_one (ps_ret (pe_ix ix_list (pe_lst (pa_consN (pv 4) (pa_consT (pe_tup (pa_consK pe_str (pa_consK pe_str (pa_consT (pe_tup (pa_consK pe_int (pa_consK pe_int (pa_consK pe_bl (pa_consK pe_bl pa_nil))))) pa_nil)))) (pa_consT (pe_tup (pa_consK pe_str (pa_consK pe_str pa_nil))) pa_nil)))) (pv 3) (fun _ _ => rfl)))) pss_nil)
      (pss_cons (ps_if (pw_and (pt_cmpR op_lt (pv 3) pe_int (nomark _)) (pw_and (pt_cmpR op_lt (pv 1) pe_int (nomark _)) (pw_and1 (pt_cmpR op_lt (pv 2) pe_int (nomark _))))).pt (pss_cons (ps_set (i := 5) sc_law_base.nd rfl (Or.inl rfl) (pe_op op_add pe_int (pe_cl T.c__law_next (ok__law_next T) (hr.mono (by decide)) (pa_consN (pv 0) (pa_consB (pe_op op_sub pe_int (pv 1)) pa_nil)))))
      (pss_cons (ps_set (i := 6) sc_law_base.nd rfl (Or.inl rfl) (pe_op op_add pe_int (pe_cl T.c__law_next (ok__law_next T) (hr.mono (by decide)) (pa_consN (pv 0) (pa_consB (pe_op op_sub pe_int (pv 2)) pa_nil)))))
      (pss_cons (ps_set (i := 7) sc_law_base.nd rfl (Or.inl rfl) (pe_tup (pa_consB (pe_op op_sub (pe_op op_add (pv 5) (pv 1)) pe_int) (pa_consB (pe_op op_sub (pe_op op_add (pv 6) (pv 2)) pe_int) (pa_consK pe_bl (pa_consK pe_bl pa_nil))))))
      (pss_one (ps_ret (pe_tup (pa_consK pe_str (pa_consK pe_str (pa_consT (pe_tup (pa_consN (pv 5) (pa_consN (pv 6) (pa_consK pe_bl (pa_consK pe_bl pa_nil))))) (pa_consN (pv 7) pa_nil)))))))))) pss_nil)
      (pss_cons (ps_if (pw_and (pt_cmpR op_lt (pv 1) pe_int (nomark _)) (pw_and1 (pt_cmpR op_lt (pv 2) pe_int (nomark _)))).pt (pss_one (ps_ret (pe_tup (pa_consK pe_str (pa_consN (pv 1) (pa_consN (pv 2) (pa_consN (pv 4) (pa_consT (pe_tup (pa_consK pe_str (pa_consK pe_str (pa_consT (pe_tup (pa_consK pe_int (pa_consK pe_int (pa_consK pe_bl (pa_consK pe_bl pa_nil))))) pa_nil)))) pa_nil)))))))) pss_nil)
      (pss_one ps_never))))))), ?_⟩

    refine ⟨_, rfl, p, _, _, _, rfl, (by show (0 : Int) < _; decide), sz4000 (by decide) (by decide), hpen, (by omega), fun r1 H1 a1 b1 pen1 kp1 => ?_⟩

    refine ⟨three_le, fun q1 hq1 => ⟨two_le, fun o1 ho1 => ?_⟩⟩
    have sa := Same.new (o := .tup [vS "number", .int 1, .int 1]) hq1
    have sb := Same.new (o := .tup [vS "value", .ref q1]) ho1
    have vA : FmAt (upd (upd H1 q1 (.tup [vS "number", .int 1, .int 1])) o1 (.tup [vS "value", .ref q1])) (.ref o1) (.lf (.val (.num 1 1))) := .lf ⟨q1, upd_same, sb _ _ upd_same⟩
    have pen2 := (pen1.same sa).same sb
    have kp2 := kp1.trans ((Same.keep sa).trans (Same.keep sb))
    generalize upd (upd H1 q1 (.tup [vS "number", .int 1, .int 1])) o1 (.tup [vS "value", .ref q1]) = H2 at *

    refine ⟨_, rfl, _, rfl, two_le, fun d1 hd1 => ⟨two_le, fun d2 hd2 => ?_⟩⟩
    have sc := Same.new (o := .tup [.int h_, .int w_]) hd1
    have sd := Same.new (o := .tup [.int 1, .int 1]) hd2
    have hd1' := sd _ _ (upd_same (H := H2) (a := d1) (o := .tup [.int h_, .int w_]))
    have hd2' : upd (upd H2 d1 (.tup [.int h_, .int w_])) d2 (.tup [.int 1, .int 1]) d2 = some (.tup [.int 1, .int 1]) := upd_same
    have pen3 := (pen2.same sc).same sd
    have kp3 := kp2.trans ((Same.keep (p := p) sc).trans (Same.keep sd))
    have vA3 := FmAt.kp vA (Kp.same (sc.trans sd))
    generalize upd (upd H2 d1 (.tup [.int h_, .int w_])) d2 (.tup [.int 1, .int 1]) = H3 at *
    refine ⟨d1, d2, _, _, rfl, rfl, SqT.of hd1', SqT.of hd2', rfl, rfl, decide ((h_, w_) = ((1, 1) : Int × Int)), congrArg V.bl (eqP2 (h_, w_) (1, 1)), ite2 (fun c1 => ?_) (fun c1 => iteF ?_)⟩
    · refine ⟨_, rfl, _, _, rfl, rfl, _, rfl, ite2 (fun c3 => ?_) (fun c3 => ?_)⟩
      · have c3' := of_decide_eq_true c3
        refine ⟨_, rfl, (by show 4 ≤ sizeLine; decide), fun g1 hg1 => ⟨three_le, fun g2 hg2 => ⟨two_le, fun g3 hg3 => ⟨three_le, fun g4 hg4 => ?_⟩⟩⟩⟩
        have s4 := Same.new (o := .tup [.int 16, .int 8, .bl false, .bl true]) hg1
        have s5 := Same.new (o := .tup [vS "cell", vS "main", .ref g1]) hg2
        have s6 := Same.new (o := .tup [vS "fault", vS "name"]) hg3
        have s7 := Same.new (o := .lst [.ref o1, .ref g2, .ref g3]) hg4
        have s9 := ((s4.trans s5).trans s6).trans s7
        have kq : ∀ (v : V) (f : Fm), FmAt _ v f → FO 0 2 f → Q v _ := fun v f x o => k v f _ x o ((pen3.same s9).mono (by omega)) (kp3.trans (Same.keep s9))
        have hr : r1 = 0 ∨ r1 = 1 ∨ r1 = 2 := by omega
        rcases hr with rfl | rfl | rfl
        · exact ⟨_, rfl, g4, _, _, _, rfl, rfl, SqL.of upd_same, rfl, kq _ _ (FmAt.kp vA3 (Kp.same s9)) okVal⟩
        · exact ⟨_, rfl, g4, _, _, _, rfl, rfl, SqL.of upd_same, rfl, kq _ (.lf (.cell (some (Str.ofString "main")) ⟨16, 8, false, true⟩)) (.lf ⟨g1, s7 _ _ (s6 _ _ upd_same), s7 _ _ (s6 _ _ (s5 _ _ upd_same))⟩) (okCell (by decide) (by decide) (by decide) (by decide))⟩
        · exact ⟨_, rfl, g4, _, _, _, rfl, rfl, SqL.of upd_same, rfl, kq _ (.lf .flt) (.lf (s7 _ _ upd_same)) (.lf trivial)⟩
      · skip
        refine ⟨_, rfl, _, _, rfl, rfl, _, rfl, ite2 (fun c2 => ?_) (fun c2 => iteF ?_)⟩
        · have c2' := of_decide_eq_true c2
          refine ⟨_, rfl, _, _, rfl, rfl, true, congrArg V.bl (decide_eq_true (by omega)), iteT ?_⟩
          refine ⟨_, rfl, _, _, rfl, rfl, true, congrArg V.bl (decide_eq_true (by omega)), iteT ?_⟩
          refine ⟨_, rfl, _, rfl, _, _, rfl, rfl, p, _, _, _, rfl, (by omega), sz4000 (by omega) (by omega), pen3, (by omega), fun r4 H4 a4 b4 pen4 kp4 => ⟨_, _, rfl, rfl, ?_⟩⟩
          refine ⟨_, rfl, _, rfl, _, _, rfl, rfl, p, _, _, _, rfl, (by omega), sz4000 (by omega) (by omega), pen4, (by omega), fun r5 H5 a5 b5 pen5 kp5 => ⟨_, _, rfl, rfl, ?_⟩⟩
          refine ⟨_, rfl, _, rfl, _, _, rfl, rfl, _, _, rfl, rfl, _, rfl, _, rfl, _, _, rfl, rfl, _, _, rfl, rfl, (by show 4 ≤ sizeLine; decide), fun e1 he1 => ?_⟩
          have s6 := Same.new (o := .tup [.int (1 + r4 + h_ - 1), .int (1 + r5 + w_ - 1), .bl false, .bl false]) he1
          refine ⟨_, rfl, _, rfl, (by show 4 ≤ sizeLine; decide), fun e2 he2 => ?_⟩
          have s7 := Same.new (o := .tup [.int (1 + r4), .int (1 + r5), .bl true, .bl false]) he2
          refine ⟨_, rfl, (by show 4 ≤ sizeLine; decide), fun e3 he3 => ?_⟩
          have s8 := Same.new (o := .tup [vS "range", vS "main", .ref e2, .ref e1]) he3
          refine k (.ref e3) (.lf (.rng (some (Str.ofString "main")) ⟨1 + r4, 1 + r5, true, false⟩ ⟨1 + r4 + h_ - 1, 1 + r5 + w_ - 1, false, false⟩)) _ (.lf ⟨e2, e1, upd_same, s8 _ _ upd_same, s8 _ _ (s7 _ _ upd_same)⟩) (.lf ⟨nmMain, ⟨by dsimp only; omega, by dsimp only; omega, by dsimp only; omega, by dsimp only; omega⟩, ⟨by dsimp only; omega, by dsimp only; omega, by dsimp only; omega, by dsimp only; omega⟩, by dsimp only; omega, by dsimp only; omega⟩) ((((pen5.same s6).same s7).same s8).mono (by omega)) (((kp3.trans kp4).trans kp5).trans (((Same.keep s6).trans (Same.keep s7)).trans (Same.keep s8)))
        refine ⟨_, rfl, _, _, rfl, rfl, true, congrArg V.bl (decide_eq_true (by omega)), iteT ?_⟩
        refine ⟨_, rfl, _, _, rfl, rfl, true, congrArg V.bl (decide_eq_true (by omega)), iteT ?_⟩
        refine ⟨_, rfl, _, rfl, _, rfl, (by show 4 ≤ sizeLine; decide), fun g1 hg1 => ⟨three_le, fun g2 hg2 => ⟨(by show 5 ≤ sizeLine; decide), fun g3 hg3 => ?_⟩⟩⟩
        have s4 := Same.new (o := .tup [.int 1, .int 1, .bl false, .bl false]) hg1
        have s5 := Same.new (o := .tup [vS "cell", vS "main", .ref g1]) hg2
        have s6 := Same.new (o := .tup [vS "grid", .int h_, .int w_, .ref o1, .ref g2]) hg3
        refine k (.ref g3) (.nd (.grid h_ w_) [.lf (.val (.num 1 1)), .lf (.cell (some (Str.ofString "main")) ⟨1, 1, false, false⟩)]) _ (mk2 (t := g3) upd_same rfl (FmAt.kp vA3 (Kp.same ((s4.trans s5).trans s6))) (.lf ⟨g1, s6 _ _ upd_same, s6 _ _ (s5 _ _ upd_same)⟩)) (fo2 ⟨by omega, by omega, by omega, by omega, rfl⟩ okVal (okCell (by decide) (by decide) (by decide) (by decide))) ((((pen3.same s4).same s5).same s6).mono (by omega)) (kp3.trans (((Same.keep s4).trans (Same.keep s5)).trans (Same.keep s6)))

    · skip
      refine ⟨_, rfl, _, _, rfl, rfl, _, rfl, ite2 (fun c2 => ?_) (fun c2 => iteF ?_)⟩
      · have c2' := of_decide_eq_true c2
        refine ⟨_, rfl, _, _, rfl, rfl, true, congrArg V.bl (decide_eq_true (by omega)), iteT ?_⟩
        refine ⟨_, rfl, _, _, rfl, rfl, true, congrArg V.bl (decide_eq_true (by omega)), iteT ?_⟩
        refine ⟨_, rfl, _, rfl, _, _, rfl, rfl, p, _, _, _, rfl, (by omega), sz4000 (by omega) (by omega), pen3, (by omega), fun r4 H4 a4 b4 pen4 kp4 => ⟨_, _, rfl, rfl, ?_⟩⟩
        refine ⟨_, rfl, _, rfl, _, _, rfl, rfl, p, _, _, _, rfl, (by omega), sz4000 (by omega) (by omega), pen4, (by omega), fun r5 H5 a5 b5 pen5 kp5 => ⟨_, _, rfl, rfl, ?_⟩⟩
        refine ⟨_, rfl, _, rfl, _, _, rfl, rfl, _, _, rfl, rfl, _, rfl, _, rfl, _, _, rfl, rfl, _, _, rfl, rfl, (by show 4 ≤ sizeLine; decide), fun e1 he1 => ?_⟩
        have s6 := Same.new (o := .tup [.int (1 + r4 + h_ - 1), .int (1 + r5 + w_ - 1), .bl false, .bl false]) he1
        refine ⟨_, rfl, _, rfl, (by show 4 ≤ sizeLine; decide), fun e2 he2 => ?_⟩
        have s7 := Same.new (o := .tup [.int (1 + r4), .int (1 + r5), .bl true, .bl false]) he2
        refine ⟨_, rfl, (by show 4 ≤ sizeLine; decide), fun e3 he3 => ?_⟩
        have s8 := Same.new (o := .tup [vS "range", vS "main", .ref e2, .ref e1]) he3
        refine k (.ref e3) (.lf (.rng (some (Str.ofString "main")) ⟨1 + r4, 1 + r5, true, false⟩ ⟨1 + r4 + h_ - 1, 1 + r5 + w_ - 1, false, false⟩)) _ (.lf ⟨e2, e1, upd_same, s8 _ _ upd_same, s8 _ _ (s7 _ _ upd_same)⟩) (.lf ⟨nmMain, ⟨by dsimp only; omega, by dsimp only; omega, by dsimp only; omega, by dsimp only; omega⟩, ⟨by dsimp only; omega, by dsimp only; omega, by dsimp only; omega, by dsimp only; omega⟩, by dsimp only; omega, by dsimp only; omega⟩) ((((pen5.same s6).same s7).same s8).mono (by omega)) (((kp3.trans kp4).trans kp5).trans (((Same.keep s6).trans (Same.keep s7)).trans (Same.keep s8)))
      refine ⟨_, rfl, _, _, rfl, rfl, true, congrArg V.bl (decide_eq_true (by omega)), iteT ?_⟩
      refine ⟨_, rfl, _, _, rfl, rfl, true, congrArg V.bl (decide_eq_true (by omega)), iteT ?_⟩
      refine ⟨_, rfl, _, rfl, _, rfl, (by show 4 ≤ sizeLine; decide), fun g1 hg1 => ⟨three_le, fun g2 hg2 => ⟨(by show 5 ≤ sizeLine; decide), fun g3 hg3 => ?_⟩⟩⟩
      have s4 := Same.new (o := .tup [.int 1, .int 1, .bl false, .bl false]) hg1
      have s5 := Same.new (o := .tup [vS "cell", vS "main", .ref g1]) hg2
      have s6 := Same.new (o := .tup [vS "grid", .int h_, .int w_, .ref o1, .ref g2]) hg3
      refine k (.ref g3) (.nd (.grid h_ w_) [.lf (.val (.num 1 1)), .lf (.cell (some (Str.ofString "main")) ⟨1, 1, false, false⟩)]) _ (mk2 (t := g3) upd_same rfl (FmAt.kp vA3 (Kp.same ((s4.trans s5).trans s6))) (.lf ⟨g1, s6 _ _ upd_same, s6 _ _ (s5 _ _ upd_same)⟩)) (fo2 ⟨by omega, by omega, by omega, by omega, rfl⟩ okVal (okCell (by decide) (by decide) (by decide) (by decide))) ((((pen3.same s4).same s5).same s6).mono (by omega)) (kp3.trans (((Same.keep s4).trans (Same.keep s5)).trans (Same.keep s6)))
theorem sc_law_sizes : FnScope ["_law_pen_here", "_law_high"] ["_law_pen_here"] (defScope s__law_sizes) := ⟨rfl, rfl, rfl, by decide +kernel, rfl, by decide +kernel, by decide +kernel⟩
theorem ok__law_sizes (T : Txt w K mg t) : FnOk P w K mg base CX0 2 t.f__law_sizes t.d__law_sizes ["_law_pen_here"] (spSiz K) := by
  have D := T.c__law_sizes
  refine D.fn.ok sc_law_sizes (fun vs H Q E h => ?_) (fun cdv A outer s H vs Q E hr h => ?_)
  · obtain ⟨p, c, S, rfl, _⟩ := h
    rfl
  · obtain ⟨p, c, S, rfl, hpen, hc, k⟩ := h
    have hu := hr.units0
    have hu1 := hu_of hr
    refine ⟨_, ((pss_cons (ps_set (i := 1) sc_law_sizes.nd rfl (Or.inl rfl) (pe_ix ix_list (pe_lst (pa_consK pe_int (pa_consK pe_int (pa_consK pe_int (pa_consK pe_int (pa_consK pe_int (pa_consK pe_int pa_nil))))))) (pe_cl T.c__law_next (ok__law_next T) (hr.mono (by decide)) (pa_consN (pv 0) (pa_consK pe_int pa_nil))) (fun _ _ => rfl)))
      (pss_one (ps_ret (pe_tup (pa_consN (pv 1) (pa_consS (pe_ix ix_list (pe_lst (pa_consK pe_int (pa_consK pe_int (pa_consK pe_int (pa_consK pe_int (pa_consK pe_int pa_nil)))))) (pe_cl T.c__law_next (ok__law_next T) (hr.mono (by decide)) (pa_consN (pv 0) (pa_consK pe_int pa_nil))) (fun _ _ => rfl)) pa_nil))))))), ?_⟩

    refine ⟨(by show 6 ≤ sizeLine; decide), fun l1 hl1 => ?_⟩
    have s1 := Same.new (o := .lst ([1, 2, 3, 1, 16, 8].map V.int)) hl1
    have n1 := hpen.ne hl1
    refine ⟨_, rfl, p, _, _, _, rfl, (by show (0 : Int) < _; decide), sz4000 (by decide) (by decide), (hpen.same s1), (by omega), fun r1 H1 a1 b1 pen1 kp1 => ?_⟩
    obtain ⟨h, hv, lo, hi⟩ := pickI (xs := [1, 2, 3, 1, 16, 8]) (lo := 1) (hi := 16) a1 (by simpa using b1) (by decide)
    refine ⟨l1, _, _, _, rfl, rfl, SqL.of (kp1 _ _ n1 upd_same), hv, ?_⟩
    refine ⟨_, rfl, (by show 5 ≤ sizeLine; decide), fun l2 hl2 => ?_⟩
    have s2 := Same.new (o := .lst ([1, 2, 1, 3, 8].map V.int)) hl2
    have n2 := pen1.ne hl2
    refine ⟨_, rfl, p, _, _, _, rfl, (by show (0 : Int) < _; decide), sz4000 (by decide) (by decide), (pen1.same s2), (by omega), fun r2 H2 a2 b2 pen2 kp2 => ?_⟩
    obtain ⟨w, hw, lo2, hi2⟩ := pickI (xs := [1, 2, 1, 3, 8]) (lo := 1) (hi := 16) a2 (by simpa using b2) (by decide)
    refine ⟨l2, _, _, _, rfl, rfl, SqL.of (kp2 _ _ n2 upd_same), hw, two_le, fun q hq => ?_⟩
    exact k q h w _ upd_same lo hi lo2 hi2 (pen2.same (Same.new hq)) ((((Same.keep s1).trans kp1).trans ((Same.keep s2).trans kp2)).trans (Same.keep (Same.new hq)))
theorem sc_law_like : FnScope ["_law_pen_here", "_law_high", "_law_wide", "_law_way"] ["_law_pen_here", "_law_high", "_law_wide"] (defScope s__law_like) := ⟨rfl, rfl, rfl, by decide +kernel, rfl, by decide +kernel, by decide +kernel⟩
theorem ok__law_like (T : Txt w K mg t) : FnOk P w K mg base CX0 3 t.f__law_like t.d__law_like ["_law_pen_here", "_law_high", "_law_wide"] (spLik K) := by
  have D := T.c__law_like
  refine D.fn.ok sc_law_like (fun vs H Q E h => ?_) (fun cdv A outer s H vs Q E hr h => ?_)
  · obtain ⟨p, h, w, c, S, rfl, _⟩ := h
    rfl
  · obtain ⟨p, h, w, c, S, rfl, h1, h2, w1, w2, hpen, hc, k⟩ := h
    have hu := hr.units0
    have hu1 := hu_of hr
    refine ⟨_, ((pss_cons (ps_set (i := 3) sc_law_like.nd rfl (Or.inl rfl) (pe_cl T.c__law_next (ok__law_next T) (hr.mono (by decide)) (pa_consN (pv 0) (pa_consK pe_int pa_nil))))
      (pss_cons (ps_if (pt_cmpR op_lt (pv 3) pe_int (nomark _)) (pss_one (ps_ret (pe_tup (pa_consN (pv 1) (pa_consN (pv 2) pa_nil))))) pss_nil)
      (pss_cons (ps_if (pt_cmpR op_lt (pv 3) pe_int (nomark _)) (pss_one (ps_ret (pe_tup (pa_consK pe_int (pa_consK pe_int pa_nil))))) pss_nil)
      (pss_one (ps_ret (pe_ix ix_list (pe_lst (pa_consT (pe_tup (pa_consN (pv 2) (pa_consN (pv 1) pa_nil))) (pa_consC (pe_cl T.c__law_sizes (ok__law_sizes T) (hr.mono (by decide)) (pa_consN (pv 0) pa_nil)) pa_nil))) (pe_op op_sub (pv 3) pe_int) (fun _ _ => rfl)))))))), ?_⟩

    refine ⟨_, rfl, p, _, _, _, rfl, (by show (0 : Int) < _; decide), sz4000 (by decide) (by decide), hpen, (by omega), fun r1 H1 a1 b1 pen1 kp1 => ?_⟩
    refine ⟨_, rfl, _, _, rfl, rfl, _, rfl, ite2 (fun c1 => ?_) (fun c1 => ?_)⟩
    · refine ⟨_, rfl, _, rfl, two_le, fun q hq => k q h w _ upd_same h1 h2 w1 w2 ((pen1.same (Same.new hq)).mono (by omega)) (kp1.trans (Same.keep (Same.new hq)))⟩
    refine ⟨_, rfl, _, _, rfl, rfl, _, rfl, ite2 (fun c2 => ?_) (fun c2 => ?_)⟩
    · refine ⟨two_le, fun q hq => k q 1 1 _ upd_same (by decide) (by decide) (by decide) (by decide) ((pen1.same (Same.new hq)).mono (by omega)) (kp1.trans (Same.keep (Same.new hq)))⟩
    have c2' : ¬ r1 < 6 := fun z => c2 (decide_eq_true z)
    refine ⟨_, rfl, _, rfl, two_le, fun q1 hq1 => ?_⟩
    have s2 := Same.new (o := .tup [.int w, .int h]) hq1
    refine ⟨_, rfl, p, _, S, rfl, pen1.same s2, (by omega), fun q2 h' w' H3 hq2 a3 b3 a4 b4 pen3 kp3 => ?_⟩
    have hq1' := (pen1.same s2).kp kp3 _ _ (upd_same (H := H1) (a := q1) (o := .tup [.int w, .int h]))
    refine ⟨two_le, fun l hl => ?_⟩
    have s4 := Same.new (o := .lst [.ref q1, .ref q2]) hl
    have kp4 := (kp1.trans ((Same.keep (p := p) s2).trans kp3)).trans (Same.keep s4)
    refine ⟨_, rfl, _, _, rfl, rfl, ?_⟩
    have hr : r1 = 6 ∨ r1 = 7 := by omega
    rcases hr with rfl | rfl
    · exact ⟨l, _, _, _, rfl, rfl, SqL.of upd_same, rfl, k q1 w h _ (s4 _ _ hq1') w1 w2 h1 h2 ((pen3.same s4).mono (by omega)) kp4⟩
    · exact ⟨l, _, _, _, rfl, rfl, SqL.of upd_same, rfl, k q2 h' w' _ (s4 _ _ hq2) a3 b3 a4 b4 ((pen3.same s4).mono (by omega)) kp4⟩
theorem sc_law_made : FnScope ["_law_pen_here", "_law_high", "_law_wide", "_law_deep", "_law_way", "_law_a", "_law_second", "_law_b", "_law_third", "_law_c"] ["_law_pen_here", "_law_high", "_law_wide", "_law_deep"] (defScope s__law_made) := ⟨rfl, rfl, rfl, by decide +kernel, rfl, by decide +kernel, by decide +kernel⟩
theorem ok__law_made (T : Txt w K mg t) : ∀ n : Nat, FnOk P w K mg base CX0 (n + 4) t.f__law_made t.d__law_made ["_law_pen_here", "_law_high", "_law_wide", "_law_deep"] (spMad K n) := by
  have D := T.c__law_made
  have ok0 : FnOk P w K mg base CX0 4 t.f__law_made t.d__law_made ["_law_pen_here", "_law_high", "_law_wide", "_law_deep"] (spMad K 0) := by

    refine D.fn.ok sc_law_made (fun vs H Q E h => ?_) (fun cdv A outer s H vs Q E hr h => ?_)
    · obtain ⟨p, h, w_, c, S, rfl, _⟩ := h
      rfl
    · obtain ⟨p, h, w_, c, S, rfl, h1, h2, w1, w2, hpen, hc, k⟩ := h
      have hu := hr.units0
      have hu1 := hu_of hr
      refine ⟨_, ((pss_cons (ps_set (i := 4) sc_law_made.nd rfl (Or.inl rfl) (pe_cl T.c__law_next (ok__law_next T) (hr.mono (by omega)) (pa_consN (pv 0) (pa_consK pe_int pa_nil))))
      (pss_cons (ps_if (pw_or (pt_cmpR op_eq (pv 3) pe_int (nomark _)) (pw_or1 (pt_cmpR op_lt (pv 4) pe_int (nomark _)))).pt (pss_one (ps_ret (pe_cl T.c__law_base (ok__law_base T) (hr.mono (by omega)) (pa_consN (pv 0) (pa_consC (pe_callB (call_min2 rfl) (by rfl) T.min boot_min (pa_consN (pv 1) (pa_consK pe_int pa_nil))) (pa_consC (pe_callB (call_min2 rfl) (by rfl) T.min boot_min (pa_consN (pv 2) (pa_consK pe_int pa_nil))) pa_nil)))))) pss_nil)
      (pss_cons ps_never (pss_cons ps_never (pss_cons ps_never (pss_cons ps_never (pss_cons ps_never (pss_cons ps_never (pss_cons ps_never (pss_cons ps_never (pss_cons ps_never (pss_cons ps_never (pss_cons ps_never (pss_one ps_never))))))))))))))), ?_⟩

      have c0 : cst 0 = 4 := rfl
      have ih : FnOk P w K mg base CX0 0 t.f__law_made t.d__law_made ["_law_pen_here", "_law_high", "_law_wide", "_law_deep"] (fun _ _ _ _ => False) := ⟨fun _ _ _ _ z => z.elim, fun _ _ _ _ _ _ _ _ _ _ _ _ _ z => z.elim⟩
      refine ⟨_, rfl, p, _, _, _, rfl, (by show (0 : Int) < _; decide), sz4000 (by decide) (by decide), hpen, (by omega), fun r1 H1 a1 b1 pen1 kp1 => ?_⟩
      exact ⟨_, rfl, rfl, true, rfl, iteT (iteT ⟨_, rfl, _, rfl, _, _, rfl, _, rfl, _, _, rfl, p, _, _, _, S, rfl, (by split <;> omega), (by split <;> omega), (by split <;> omega), (by split <;> omega), pen1, (by omega), fun v f HB x o penB kpB => k v f HB x (o.mono (by omega)) (penB.mono (by omega)) (kp1.trans kpB)⟩)⟩

  intro n
  induction n with
  | zero => exact ok0
  | succ n ih =>

  refine D.fn.ok sc_law_made (fun vs H Q E h => ?_) (fun cdv A outer s H vs Q E hr h => ?_)
  · obtain ⟨p, h, w_, c, S, rfl, _⟩ := h
    rfl
  · obtain ⟨p, h, w_, c, S, rfl, h1, h2, w1, w2, hpen, hc, k⟩ := h
    have hu := hr.units0
    have hu1 := hu_of hr
    refine ⟨_, ((pss_cons (ps_set (i := 4) sc_law_made.nd rfl (Or.inl rfl) (pe_cl T.c__law_next (ok__law_next T) (hr.mono (by omega)) (pa_consN (pv 0) (pa_consK pe_int pa_nil))))
      (pss_cons (ps_if (pw_or (pt_cmpR op_eq (pv 3) pe_int (nomark _)) (pw_or1 (pt_cmpR op_lt (pv 4) pe_int (nomark _)))).pt (pss_one (ps_ret (pe_cl T.c__law_base (ok__law_base T) (hr.mono (by omega)) (pa_consN (pv 0) (pa_consC (pe_callB (call_min2 rfl) (by rfl) T.min boot_min (pa_consN (pv 1) (pa_consK pe_int pa_nil))) (pa_consC (pe_callB (call_min2 rfl) (by rfl) T.min boot_min (pa_consN (pv 2) (pa_consK pe_int pa_nil))) pa_nil)))))) pss_nil)
      (pss_cons (ps_set (i := 5) sc_law_made.nd rfl (Or.inl rfl) (pe_cl T.c__law_made ih (hr.mono (by omega)) (pa_consN (pv 0) (pa_consN (pv 1) (pa_consN (pv 2) (pa_consB (pe_op op_sub (pv 3) pe_int) pa_nil))))))
      (pss_cons (ps_if (pt_cmpR op_lt (pv 4) pe_int (nomark _)) (pss_one (ps_ret (pe_ix ix_list (pe_lst (pa_consT (pe_tup (pa_consK pe_str (pa_consN (pv 5) pa_nil))) (pa_consT (pe_tup (pa_consK pe_str (pa_consN (pv 5) pa_nil))) pa_nil))) (pe_op op_sub (pv 4) pe_int) (fun _ _ => rfl)))) pss_nil)
      (pss_cons (ps_if (pt_cmpR op_eq (pv 4) pe_int (nomark _)) (pss_one (ps_ret (pe_tup (pa_consS (pe_ix ix_list (pe_lst (pa_consK pe_str (pa_consK pe_str (pa_consK pe_str (pa_consK pe_str pa_nil))))) (pe_cl T.c__law_next (ok__law_next T) (hr.mono (by omega)) (pa_consN (pv 0) (pa_consK pe_int pa_nil))) (fun _ _ => rfl)) (pa_consN (pv 5) pa_nil))))) pss_nil)
      (pss_cons (ps_if (pt_cmpR op_eq (pv 4) pe_int (nomark _)) (pss_one (ps_ret (pe_tup (pa_consK pe_str (pa_consN (pv 5) pa_nil))))) pss_nil)
      (pss_cons (ps_set (i := 6) sc_law_made.nd rfl (Or.inl rfl) (pe_cl T.c__law_like (ok__law_like T) (hr.mono (by omega)) (pa_consN (pv 0) (pa_consN (pv 1) (pa_consN (pv 2) pa_nil)))))
      (pss_cons (ps_set (i := 7) sc_law_made.nd rfl (Or.inl rfl) (pe_cl T.c__law_made ih (hr.mono (by omega)) (pa_consN (pv 0) (pa_consS (pe_ix ix_tup (pv 6) pe_int (fun _ _ => rfl)) (pa_consS (pe_ix ix_tup (pv 6) pe_int (fun _ _ => rfl)) (pa_consB (pe_op op_sub (pv 3) pe_int) pa_nil))))))
      (pss_cons (ps_if (pt_cmpR op_lt (pv 4) pe_int (nomark _)) (pss_one (ps_ret (pe_tup (pa_consK pe_str (pa_consS (pe_ix ix_str pe_str (pe_cl T.c__law_next (ok__law_next T) (hr.mono (by omega)) (pa_consN (pv 0) (pa_consK pe_int pa_nil))) (fun _ _ => rfl)) (pa_consN (pv 5) (pa_consN (pv 7) pa_nil))))))) pss_nil)
      (pss_cons (ps_if (pt_cmpR op_eq (pv 4) pe_int (nomark _)) (pss_one (ps_ret (pe_tup (pa_consK pe_str (pa_consN (pv 5) (pa_consN (pv 7) pa_nil)))))) pss_nil)
      (pss_cons (ps_if (pt_cmpR op_eq (pv 4) pe_int (nomark _)) (pss_one (ps_ret (pe_tup (pa_consK pe_str (pa_consB (pe_op op_add pe_int (pe_cl T.c__law_next (ok__law_next T) (hr.mono (by omega)) (pa_consN (pv 0) (pa_consK pe_int pa_nil)))) (pa_consB (pe_op op_add pe_int (pe_cl T.c__law_next (ok__law_next T) (hr.mono (by omega)) (pa_consN (pv 0) (pa_consK pe_int pa_nil)))) (pa_consN (pv 5) (pa_consN (pv 7) pa_nil)))))))) pss_nil)
      (pss_cons (ps_set (i := 8) sc_law_made.nd rfl (Or.inl rfl) (pe_cl T.c__law_like (ok__law_like T) (hr.mono (by omega)) (pa_consN (pv 0) (pa_consK pe_int (pa_consK pe_int pa_nil)))))
      (pss_cons (ps_set (i := 9) sc_law_made.nd rfl (Or.inl rfl) (pe_cl T.c__law_made ok0 (hr.mono (by omega)) (pa_consN (pv 0) (pa_consS (pe_ix ix_tup (pv 8) pe_int (fun _ _ => rfl)) (pa_consS (pe_ix ix_tup (pv 8) pe_int (fun _ _ => rfl)) (pa_consK pe_int pa_nil))))))
      (pss_one (ps_ret (pe_ix ix_list (pe_lst (pa_consT (pe_tup (pa_consK pe_str (pa_consN (pv 9) (pa_consN (pv 5) (pa_consN (pv 7) pa_nil))))) (pa_consT (pe_tup (pa_consK pe_str (pa_consN (pv 5) (pa_consK pe_str (pa_consN (pv 9) (pa_consN (pv 7) pa_nil)))))) (pa_consT (pe_tup (pa_consK pe_str (pa_consN (pv 9) (pa_consN (pv 5) (pa_consN (pv 7) pa_nil))))) (pa_consT (pe_tup (pa_consK pe_str (pa_consN (pv 5) (pa_consN (pv 7) (pa_consN (pv 9) pa_nil))))) pa_nil))))) (pe_op op_sub (pv 4) pe_int) (fun _ _ => rfl)))))))))))))))))), ?_⟩

    have c0 : cst (n + 1) = 2 * cst n + 20 := rfl
    have c4 := cst4 n
    refine ⟨_, rfl, p, _, _, _, rfl, (by show (0 : Int) < _; decide), sz4000 (by decide) (by decide), hpen, (by omega), fun r1 H1 a1 b1 pen1 kp1 => ?_⟩
    refine ⟨_, rfl, rfl, false, congrArg V.bl (decide_eq_false (by intro z; injection z with z; omega)), iteF ?_⟩
    refine ⟨_, rfl, _, _, rfl, rfl, _, rfl, ite2 (fun _ => ⟨_, rfl, _, rfl, _, _, rfl, _, rfl, _, _, rfl, p, _, _, _, S, rfl, (by split <;> omega), (by split <;> omega), (by split <;> omega), (by split <;> omega), pen1, (by omega), fun v f HB x o penB kpB => k v f HB x (o.mono (by omega)) (penB.mono (by omega)) (kp1.trans kpB)⟩) (fun k1 => ?_)⟩
    have k1' : ¬ r1 < 3 := fun z => k1 (decide_eq_true z)
    refine ⟨_, rfl, _, rfl, _, rfl, _, rfl, _, _, rfl, rfl, p, h, w_, _, S, ?_, h1, h2, w1, w2, pen1, (by omega), fun va fa H2 xa oa pen2 kp2 => ?_⟩
    · exact congrArg (fun z : Int => [V.ref p, V.int h, V.int w_, V.int z]) (show ((n + 1 : Nat) : Int) - 1 = (n : Int) by omega)
    have kp12 := kp1.trans kp2
    refine ⟨_, rfl, _, _, rfl, rfl, _, rfl, ite2 (fun k2 => ?_) (fun k2 => ?_)⟩
    · have k2' := of_decide_eq_true k2
      refine ⟨_, rfl, two_le, fun g1 hg1 => ⟨_, rfl, two_le, fun g2 hg2 => ⟨two_le, fun g3 hg3 => ?_⟩⟩⟩
      have s1 := Same.new (o := .tup [vS "neg", va]) hg1
      have s2 := Same.new (o := .tup [vS "outer", va]) hg2
      have s3 := Same.new (o := .lst [.ref g1, .ref g2]) hg3
      have s9 := (s1.trans s2).trans s3
      have xa9 := FmAt.kp xa (Kp.same s9)
      have kq : ∀ (v : V) (f : Fm), FmAt _ v f → FO 0 (n + 3) f → Q v _ := fun v f x o => k v f _ x o ((pen2.same s9).mono (by omega)) (kp12.trans (Same.keep s9))
      have hr : r1 = 3 ∨ r1 = 4 := by omega
      rcases hr with rfl | rfl
      · exact ⟨_, rfl, _, _, rfl, rfl, g3, _, _, _, rfl, rfl, SqL.of upd_same, rfl, kq _ _ (mk1 (t := g1) (kd := .neg) (s3 _ _ (s2 _ _ upd_same)) rfl xa9) (fo1 rfl oa)⟩
      · exact ⟨_, rfl, _, _, rfl, rfl, g3, _, _, _, rfl, rfl, SqL.of upd_same, rfl, kq _ _ (mk1 (t := g1) (kd := .wd (zS "outer")) (s3 _ _ upd_same) rfl xa9) (fo1 (show (zS "outer", 1) ∈ WDS by decide +kernel) oa)⟩
    have k2' : ¬ r1 < 5 := fun z => k2 (decide_eq_true z)
    refine ⟨_, rfl, rfl, _, rfl, ite2 (fun k3 => ?_) (fun k3 => ?_)⟩
    · refine ⟨(by show 4 ≤ sizeLine; decide), fun g1 hg1 => ?_⟩
      have s1 := Same.new (o := .lst [vS "sum", vS "count", vS "least", vS "most"]) hg1
      have ng := pen2.ne hg1
      refine ⟨_, rfl, p, _, _, _, rfl, (by show (0 : Int) < _; decide), sz4000 (by decide) (by decide), (pen2.same s1), (by omega), fun r3 H3 a3 b3 pen3 kp3 => ?_⟩
      obtain ⟨z, hz, hin⟩ := agg4 a3 b3
      refine ⟨g1, _, _, _, rfl, rfl, SqL.of (kp3 _ _ ng upd_same), hz, _, rfl, two_le, fun g2 hg2 => ?_⟩
      have s4 := Same.new (o := .tup [.str z, va]) hg2
      have xa4 := FmAt.kp (FmAt.kp (FmAt.kp xa (Kp.same s1)) ((pen2.same s1).kp kp3)) (Kp.same s4)
      exact k _ _ _ (mk1 (t := g2) (kd := .wd z) upd_same rfl xa4) (fo1 hin oa) ((pen3.same s4).mono (by omega)) ((kp12.trans ((Same.keep s1).trans kp3)).trans (Same.keep s4))
    refine ⟨_, rfl, rfl, _, rfl, ite2 (fun k4 => ?_) (fun k4 => ?_)⟩
    · refine ⟨_, rfl, two_le, fun g1 hg1 => ?_⟩
      have s1 := Same.new (o := .tup [vS "turn", va]) hg1
      exact k _ _ _ (mk1 (t := g1) (kd := .wd (zS "turn")) upd_same rfl (FmAt.kp xa (Kp.same s1))) (fo1 (show (zS "turn", 1) ∈ WDS by decide +kernel) oa) ((pen2.same s1).mono (by omega)) (kp12.trans (Same.keep s1))
    have k3' : r1 ≠ 5 := fun z => k3 (decide_eq_true (by rw [z]))
    have k4' : r1 ≠ 6 := fun z => k4 (decide_eq_true (by rw [z]))
    refine ⟨_, rfl, _, rfl, _, rfl, p, h, w_, _, S, rfl, h1, h2, w1, w2, pen2, (by omega), fun qb hb wb H3 hqb hb1 hb2 wb1 wb2 pen3 kp3 => ?_⟩
    have xa3 := FmAt.kp xa (pen2.kp kp3)
    refine ⟨_, rfl, _, rfl, qb, _, _, _, rfl, rfl, SqT.of hqb, rfl, _, rfl, qb, _, _, _, rfl, rfl, SqT.of hqb, rfl, _, rfl, _, _, rfl, rfl, p, hb, wb, _, S, ?_, hb1, hb2, wb1, wb2, pen3, (by omega), fun vb fb H4 xb ob pen4 kp4 => ?_⟩
    · exact congrArg (fun z : Int => [V.ref p, V.int hb, V.int wb, V.int z]) (show ((n + 1 : Nat) : Int) - 1 = (n : Int) by omega)
    have xa4 := FmAt.kp xa3 (pen3.kp kp4)
    have kp14 := (kp12.trans kp3).trans kp4
    refine ⟨_, rfl, _, _, rfl, rfl, _, rfl, ite2 (fun k5 => ?_) (fun k5 => ?_)⟩
    · refine ⟨_, rfl, p, _, _, _, rfl, (by show (0 : Int) < _; decide), sz4000 (by decide) (by decide), pen4, (by omega), fun r5 H5 a5 b5 pen5 kp5 => ?_⟩
      obtain ⟨c', hc', hin⟩ := op7 a5 b5
      refine ⟨_, _, c', rfl, rfl, (by decide +kernel), hc', _, rfl, _, rfl, (by show 4 ≤ sizeLine; decide), fun g1 hg1 => ?_⟩
      have s6 := Same.new (o := .tup [vS "op", .str ⟨#[c']⟩, va, vb]) hg1
      exact k _ _ _ (mk2 (t := g1) (kd := .op ⟨#[c']⟩) upd_same rfl (FmAt.kp (FmAt.kp xa4 (pen4.kp kp5)) (Kp.same s6)) (FmAt.kp (FmAt.kp xb (pen4.kp kp5)) (Kp.same s6))) (fo2 ⟨hin, rfl⟩ oa ob) ((pen5.same s6).mono (by omega)) ((kp14.trans kp5).trans (Same.keep s6))
    have k5' : ¬ r1 < 10 := fun z => k5 (decide_eq_true z)
    refine ⟨_, rfl, rfl, _, rfl, ite2 (fun k6 => ?_) (fun k6 => ?_)⟩
    · refine ⟨_, rfl, _, rfl, three_le, fun g1 hg1 => ?_⟩
      have s6 := Same.new (o := .tup [vS "stack", va, vb]) hg1
      exact k _ _ _ (mk2 (t := g1) (kd := .wd (zS "stack")) upd_same rfl (FmAt.kp xa4 (Kp.same s6)) (FmAt.kp xb (Kp.same s6))) (fo2 (show (zS "stack", 2) ∈ WDS by decide +kernel) oa ob) ((pen4.same s6).mono (by omega)) (kp14.trans (Same.keep s6))
    refine ⟨_, rfl, rfl, _, rfl, ite2 (fun k7 => ?_) (fun k7 => ?_)⟩
    · refine ⟨_, rfl, p, _, _, _, rfl, (by show (0 : Int) < _; decide), sz4000 (by decide) (by decide), pen4, (by omega), fun r5 H5 a5 b5 pen5 kp5 => ⟨_, _, rfl, rfl, _, rfl, p, _, _, _, rfl, (by show (0 : Int) < _; decide), sz4000 (by decide) (by decide), pen5, (by omega), fun r6 H6 a6 b6 pen6 kp6 => ⟨_, _, rfl, rfl, _, rfl, _, rfl, (by show 5 ≤ sizeLine; decide), fun g1 hg1 => ?_⟩⟩⟩
      have s6 := Same.new (o := .tup [vS "grid", .int (1 + r5), .int (1 + r6), va, vb]) hg1
      have kk := ((pen4.kp kp5).trans (pen5.kp kp6)).trans (Kp.same s6)
      exact k _ _ _ (mk2 (t := g1) (kd := .grid (1 + r5) (1 + r6)) upd_same rfl (FmAt.kp xa4 kk) (FmAt.kp xb kk)) (fo2 ⟨by omega, by omega, by omega, by omega, rfl⟩ oa ob) ((pen6.same s6).mono (by omega)) (((kp14.trans kp5).trans kp6).trans (Same.keep s6))
    have k6' : r1 ≠ 10 := fun z => k6 (decide_eq_true (by rw [z]))
    have k7' : r1 ≠ 11 := fun z => k7 (decide_eq_true (by rw [z]))
    have c00 : cst 0 = 4 := rfl
    refine ⟨_, rfl, p, 1, 1, _, S, rfl, (by decide), (by decide), (by decide), (by decide), pen4, (by omega), fun qc hc' wc H5 hqc hc1 hc2 wc1 wc2 pen5 kp5 => ?_⟩
    refine ⟨_, rfl, _, rfl, qc, _, _, _, rfl, rfl, SqT.of hqc, rfl, _, rfl, qc, _, _, _, rfl, rfl, SqT.of hqc, rfl, p, hc', wc, _, S, rfl, hc1, hc2, wc1, wc2, pen5, (by omega), fun vc fc H6 xc oc pen6 kp6 => ?_⟩
    have kk := (pen4.kp kp5).trans (pen5.kp kp6)
    have xa6 := FmAt.kp xa4 kk
    have xb6 := FmAt.kp xb kk
    have kp16 := (kp14.trans kp5).trans kp6
    have oc' : FO 0 (n + 2) fc := oc.mono (by omega)
    refine ⟨_, rfl, _, rfl, _, rfl, (by show 4 ≤ sizeLine; decide), fun g1 hg1 => ⟨_, rfl, _, rfl, _, rfl, (by show 5 ≤ sizeLine; decide), fun g2 hg2 => ⟨_, rfl, _, rfl, _, rfl, (by show 4 ≤ sizeLine; decide), fun g3 hg3 => ⟨_, rfl, _, rfl, _, rfl, (by show 4 ≤ sizeLine; decide), fun g4 hg4 => ⟨(by show 4 ≤ sizeLine; decide), fun g5 hg5 => ?_⟩⟩⟩⟩⟩
    have s1 := Same.new (o := .tup [vS "if", vc, va, vb]) hg1
    have s2 := Same.new (o := .tup [vS "sumif", va, vS "<", vc, vb]) hg2
    have s3 := Same.new (o := .tup [vS "find", vc, va, vb]) hg3
    have s4 := Same.new (o := .tup [vS "if", va, vb, vc]) hg4
    have s5 := Same.new (o := .lst [.ref g1, .ref g2, .ref g3, .ref g4]) hg5
    have s9 := (((s1.trans s2).trans s3).trans s4).trans s5
    have xa9 := FmAt.kp xa6 (Kp.same s9)
    have xb9 := FmAt.kp xb6 (Kp.same s9)
    have xc9 := FmAt.kp xc (Kp.same s9)
    have kq : ∀ (v : V) (f : Fm), FmAt _ v f → FO 0 (n + 3) f → Q v _ := fun v f x o => k v f _ x o ((pen6.same s9).mono (by omega)) (kp16.trans (Same.keep s9))
    have hr : r1 = 12 ∨ r1 = 13 ∨ r1 = 14 ∨ r1 = 15 := by omega
    rcases hr with rfl | rfl | rfl | rfl
    · exact ⟨_, rfl, _, _, rfl, rfl, g5, _, _, _, rfl, rfl, SqL.of upd_same, rfl, kq _ _ (mk3 (t := g1) (kd := .wd (zS "if")) (s5 _ _ (s4 _ _ (s3 _ _ (s2 _ _ upd_same)))) rfl xc9 xa9 xb9) (fo3 (show (zS "if", 3) ∈ WDS by decide +kernel) oc' oa ob)⟩
    · exact ⟨_, rfl, _, _, rfl, rfl, g5, _, _, _, rfl, rfl, SqL.of upd_same, rfl, kq _ _ (mk3 (t := g1) (kd := .sumif (zS "<")) (s5 _ _ (s4 _ _ (s3 _ _ upd_same))) rfl xa9 xc9 xb9) (fo3 ⟨.inr rfl, rfl⟩ oa oc' ob)⟩
    · exact ⟨_, rfl, _, _, rfl, rfl, g5, _, _, _, rfl, rfl, SqL.of upd_same, rfl, kq _ _ (mk3 (t := g1) (kd := .wd (zS "find")) (s5 _ _ (s4 _ _ upd_same)) rfl xc9 xa9 xb9) (fo3 (show (zS "find", 3) ∈ WDS by decide +kernel) oc' oa ob)⟩
    · exact ⟨_, rfl, _, _, rfl, rfl, g5, _, _, _, rfl, rfl, SqL.of upd_same, rfl, kq _ _ (mk3 (t := g1) (kd := .wd (zS "if")) (s5 _ _ upd_same) rfl xa9 xb9 xc9) (fo3 (show (zS "if", 3) ∈ WDS by decide +kernel) oa ob oc')⟩
theorem sc_law_right : FnScope ["_law_tree", "_law_due", "_law_found"] ["_law_tree"] (defScope s__law_right) := ⟨rfl, rfl, rfl, by decide +kernel, rfl, by decide +kernel, by decide +kernel⟩
theorem ok__law_right (T : Txt w K mg t) : FnOk P w K mg base CX0 9 t.f__law_right t.d__law_right ["_law_tree"] (spRgt K) := by
  have D := T.c__law_right
  refine D.fn.ok sc_law_right (fun vs H Q E h => ?_) (fun cdv A outer s H vs Q E hr h => ?_)
  · obtain ⟨v, f, rfl, _⟩ := h
    rfl
  · obtain ⟨v, f, rfl, hv, fo, k⟩ := h
    have hu := hr.units0
    have hu1 := hu_of hr
    refine ⟨_, ((pss_cons (ps_set (i := 1) sc_law_right.nd rfl (Or.inl rfl) (pe_cl T.c__law_shape (ok__law_shape T 5) (hr.mono (by omega)) (pa_consN (pv 0) pa_nil)))
      (pss_cons (ps_set (i := 2) sc_law_right.nd rfl (Or.inl rfl) (pe_cl T.c_shape_of (ok_shape_of T) (hr.mono (by decide)) (pa_consN (pv 0) pa_nil)))
      (pss_cons (ps_if (pt_cmpR op_isN (pv 1) pe_non (nomark _)) (pss_one (ps_ret (pe_cmpR op_isN (pv 2) pe_non (nomark _)))) pss_nil)
      (pss_cons (ps_if (pw_or (pt_not (pt_val (pe_callB call_isinstTT (by rfl) T.isinstance boot_isinstance (pa_consN (pv 2) (pa_consN (pe_typ T.tuple boot_tuple) pa_nil))))) (pw_or1 (pt_cmpR (op_neT hu) (pv 2) (pv 1) (nomark _)))).pt (pss_one (ps_ret pe_bl)) pss_nil)
      (pss_one (ps_ret (pe_callB (call_all rfl) (by rfl) T.all boot_all (pa_consH (pe_comp (fv := []) (js := []) (cl := []) rfl (by with_unfolding_all rfl) ⟨rfl, by decide +kernel, by decide +kernel, rfl, by decide +kernel, by decide +kernel, (List.forall_mem_nil _), (List.forall_mem_nil _), .nil⟩ (pi_tup (pv 2)) (fun _ _ _ _ _ => pf_nil) (fun _ _ _ _ _ => (pe_and (pe_callB (call_isinstC (K := K) rfl) (by rfl) T.isinstance boot_isinstance (pa_consN (pv 0) (pa_consN (pe_typ T.int boot_int) pa_nil))) (pe_one (pe_not (pe_callB (call_isinstC (K := K) rfl) (by rfl) T.isinstance boot_isinstance (pa_consN (pv 0) (pa_consN (pe_typ T.bool boot_bool) pa_nil)))))))) pa_nil))))))))), ?_⟩

    refine ⟨_, rfl, v, f, rfl, hv, fo, fun d H1 hd s1 => ?_⟩
    refine ⟨_, rfl, v, f, 5, rfl, FmAt.kp hv (Kp.same s1), fo, (by decide), fun u H2 hu' s2 => ?_⟩
    have hd2 := LhAt.same hd s2
    cases e : shF f with
    | none =>
      rw [e] at hd2 hu'
      obtain rfl : d = .non := hd2
      obtain rfl : u = .non := hu'
      exact ⟨_, rfl, rfl, true, rfl, iteT ⟨_, rfl, rfl, k _ (s1.trans s2)⟩⟩
    | some p =>
      rw [e] at hd2 hu'
      obtain ⟨a, rfl, ha⟩ := hd2
      obtain ⟨b, rfl, hb⟩ := hu'
      refine ⟨_, rfl, rfl, false, congrArg V.bl (decide_eq_false (by intro z; cases z)), iteF ?_⟩
      refine ⟨_, rfl, b, _, rfl, hb, true, rfl, iteF ?_⟩
      refine ⟨_, rfl, _, rfl, b, a, _, _, rfl, rfl, hb, SqT.of ha, rfl, rfl, false, congrArg V.bl ((neP2 p p).trans (by rw [decide_eq_true rfl]; rfl)), iteF ?_⟩
      refine ⟨_, rfl, b, rfl, ⟨_, hb⟩, fun D hD => ?_⟩
      have sD : ∀ ws, Same H2 (upd H2 D (.lst ws)) := fun ws => Same.new hD
      refine ⟨fun i m H4 => m = 2 - i ∧ i ≤ 2 ∧ H4 = upd H2 D (.lst ((List.replicate i true).map V.bl)), ⟨2, rfl, by decide, rfl⟩, ?_⟩
      rintro i m H4 ⟨rfl, hi, rfl⟩
      by_cases hlt : i < 2
      · have hx0 : ∃ j : Int, (prV p)[i]? = some (.int j) := by
          match i, hlt with
          | 0, _ => exact ⟨_, rfl⟩
          | 1, _ => exact ⟨_, rfl⟩
        obtain ⟨j, hj⟩ := hx0
        refine .inr ⟨⟨prV p, .int j, SqT.sm hb (sD _), hj⟩, fun x H' y => ?_⟩
        obtain ⟨e, y⟩ := y
        subst e
        have hx := y (prV p) (SqT.sm hb (sD _))
        rw [hj] at hx
        cases hx
        refine ⟨_, rfl, _, _, _, _, true, rfl, .int _, rfl, (fun _ => .inr trivial), kit_tt _ _, true, rfl, iteT ?_⟩
        refine ⟨_, rfl, _, _, _, _, false, rfl, .int _, rfl, (fun _ => .inr trivial), T.kib, false, rfl, _, upd_same, sl_lt (by rw [List.length_map, List.length_replicate]; omega), 2 - (i + 1), (by omega), rfl, hlt, ?_⟩
        rw [upd_upd, List.replicate_succ', List.map_append]; rfl
      have ei : i = 2 := by omega
      subst ei
      refine .inl ⟨⟨prV p, SqT.sm hb (sD _), Nat.le_refl _⟩, ?_⟩
      exact ⟨D, [true, true], rfl, SqL.of upd_same, k _ ((s1.trans s2).trans (sD _))⟩
theorem sclaw : FnScope ["_law_script", "_law_pen_here", "_law_trees", "_law_k", "_law_high", "_law_wide", "_law_tree"] ["_law_script"] (defScope s_law) := ⟨rfl, rfl, rfl, by decide +kernel, rfl, by decide +kernel, by decide +kernel⟩
theorem ok_law (T : Txt w K mg t) : FnOk P w K mg base CX0 12 t.f_law t.d_law ["_law_script"] (spLaw K) := by
  have D := T.c_law
  refine D.fn.ok sclaw (fun vs H Q E h => ?_) (fun cdv A outer s H vs Q E hr h => ?_)
  · obtain ⟨a, ns, rfl, _⟩ := h
    rfl
  · obtain ⟨a, ns, rfl, hS, hlen, k⟩ := h
    have hu := hr.units0
    have hu1 := hu_of hr
    refine ⟨_, ((pss_cons (ps_set (i := 1) sclaw.nd rfl (Or.inl rfl) (pe_cl T.c__law_pen (ok__law_pen T) (hr.mono (by decide)) (pa_consN (pv 0) pa_nil)))
      (pss_cons (ps_set (i := 2) sclaw.nd rfl (Or.inl rfl) (pe_lst pa_nil))
      (pss_cons (ps_for PassesOwn.never rfl (pi_range1 rfl T.range (pa_consB (pe_op op_add pe_int (pe_cl T.c__law_next (ok__law_next T) (hr.mono (by decide)) (pa_consN (pv 1) (pa_consK pe_int pa_nil)))) pa_nil)) (pg_name (i := 3) sclaw.nd rfl (Or.inl rfl))
      (pss_cons (ps_asg (pe_cl T.c__law_sizes (ok__law_sizes T) (hr.mono (by decide)) (pa_consN (pv 1) pa_nil)) (pg_tup rfl (pgs_cons (pg_name (i := 4) sclaw.nd rfl (Or.inl rfl)) (pgs_cons (pg_name (i := 5) sclaw.nd rfl (Or.inl rfl)) pgs_nil))))
      (pss_one (ps_expr (pe_bm PySem.F.plainAttrs_list PySem.F.slot_list_append PySem.F.type_list_append mt_append (pv 2) (pa_consC (pe_cl T.c__law_made (ok__law_made T 3) (hr.mono (by omega)) (pa_consN (pv 1) (pa_consN (pv 4) (pa_consN (pv 5) (pa_consK pe_int pa_nil))))) pa_nil))))))
      (pss_cons (ps_for PassesOwn.never rfl (pi_list (pe_op op_cat (pv 2) (pe_slice sl_list (pv 2) po_none (po_some pe_int)))) (pg_name (i := 6) sclaw.nd rfl (Or.inl rfl))
      (pss_one (ps_if (pt_not (pt_val (pe_cl T.c__law_right (ok__law_right T) (hr.mono (by decide)) (pa_consN (pv 6) pa_nil)))) (pss_one (ps_ret pe_bl)) pss_nil)))
      (pss_one (ps_ret pe_bl))))))), ?_⟩
    refine ⟨_, rfl, a, ns, rfl, hS, hlen, fun p H0 hp pen0 s0 => ?_⟩
    refine ⟨Nat.zero_le _, fun l hl => ?_⟩
    have s1 := Same.new (o := .lst []) hl
    have nlp := pen0.ne hl
    refine ⟨_, rfl, p, _, _, _, rfl, (by show (0 : Int) < _; decide), sz4000 (by decide) (by decide), (pen0.same s1), (by omega), fun r1 H1 a1 b1 pen1 kp1 => ⟨_, _, rfl, rfl, _, rfl, (by omega), (by omega), ?_⟩⟩
    have c3 : cst 3 = 172 := rfl
    have hl1 := kp1 _ _ nlp (upd_same (H := H0) (a := l) (o := .lst []))
    refine for_range (n := (1 + r1).toNat) (fun i σ H2 => ∃ (x3 x4 x5 x6 : Option V) (vs : List V) (fs : List Fm), σ = [some (.ref a), some (.ref p), some (.ref l), x3, x4, x5, x6] ∧ H2 l = some (.lst vs) ∧ FmsAt H2 vs fs ∧ (∀ g ∈ fs, FO 0 5 g) ∧ fs.length = i ∧ PenL K (a, ns) H2 p (1 + 200 * i))
      ⟨none, none, none, none, [], [], rfl, hl1, .nil, (fun g hg => by cases hg), rfl, pen1⟩ ?_ ?_
    · rintro i σ H2 hi ⟨x3, x4, x5, x6, vs, fs, rfl, hl2, fm2, good, hlen2, pen2⟩
      have hi8 : i < 8 := by omega
      refine ⟨_, rfl, p, _, _, rfl, pen2, (by omega), fun q h w_ H3 hq h1 h2 w1 w2 pen3 kp3 => ?_⟩
      refine ⟨q, _, rfl, SqT.of hq, rfl, _, _, rfl, _, _, rfl, rfl, ?_⟩
      have hl3 := kp3 _ _ nlp hl2
      have fm3 := FmsAt.kp fm2 (pen2.kp kp3)
      refine ⟨_, rfl, .inl ⟨rfl, _, SqL.of hl3⟩, _, rfl, _, rfl, _, rfl, p, h, w_, _, _, rfl, h1, h2, w1, w2, pen3, (by omega), fun v f H4 x o pen4 kp4 => ?_⟩
      have hl4 := kp4 _ _ nlp hl3
      have nv : vs.length = fs.length := Paired.length fm2
      refine ⟨l, vs, v, rfl, rfl, hl4, sl_lt (by omega), ?_⟩
      have t5 : Kp H4 (upd H4 l (.lst (vs ++ [v]))) := Kp.lst hl4 KeepX.upd
      refine ⟨_, _, _, _, vs ++ [v], fs ++ [f], rfl, upd_same, papp (FmsAt.kp (FmsAt.kp fm3 (pen3.kp kp4)) t5) (.cons (FmAt.kp x t5) .nil), fun g hg => ?_, (by rw [List.length_append, hlen2]; rfl), ?_⟩
      · rcases List.mem_append.mp hg with z | z
        · exact good g z
        · rw [List.mem_singleton.mp z]; exact o
      · exact ((pen0.put hl pen4).mono (by omega))
    · rintro σ H2 ⟨x3, x4, x5, x6, vs, fs, rfl, hl2, fm2, good, hlen2, pen2⟩
      have nv : vs.length = fs.length := Paired.length fm2
      have hcl := cutV_length vs none (some 1)
      refine ⟨_, rfl, _, rfl, _, rfl, l, vs, rfl, SqL.of hl2, fun d1 hd1 => ?_⟩
      have sa := Same.new (o := .lst (cutV vs none (some 1))) hd1
      refine ⟨l, d1, vs, _, rfl, rfl, sa _ _ hl2, upd_same, slm (by omega), fun d2 hd2 => ?_⟩
      have sb := Same.new (o := .lst (vs ++ cutV vs none (some 1))) hd2
      have sc := sa.trans sb
      refine ⟨d2, rfl, ⟨_, SqL.of upd_same⟩, ?_⟩
      have hd2' : upd (upd H2 d1 (.lst (cutV vs none (some 1)))) d2 (.lst (vs ++ cutV vs none (some 1))) d2 = some (.lst (vs ++ cutV vs none (some 1))) := upd_same
      refine for_list (xs := vs ++ cutV vs none (some 1)) (fun i σ H5 => ∃ x6, σ = [some (.ref a), some (.ref p), some (.ref l), x3, x4, x5, x6] ∧ Same (upd (upd H2 d1 (.lst (cutV vs none (some 1)))) d2 (.lst (vs ++ cutV vs none (some 1)))) H5) ⟨_, rfl, Same.refl _⟩ (fun i σ H5 _ ⟨_, _, s5⟩ => SqL.of (s5 _ _ hd2')) ?_ ?_
      · rintro i x σ H5 hx ⟨x6, rfl, s5⟩
        have hm : x ∈ vs := by
          rcases List.mem_append.mp (List.mem_of_getElem? hx) with z | z
          · exact z
          · exact List.mem_of_mem_drop (List.mem_of_mem_take z)
        obtain ⟨j, hj, e⟩ := List.mem_iff_getElem.mp hm
        obtain ⟨f, hf, xf⟩ := paired_at fm2 (show vs[j]? = some x by rw [List.getElem?_eq_getElem hj, e])
        exact ⟨_, rfl, x, f, rfl, FmAt.kp xf (Kp.same (sc.trans s5)), good f (List.mem_of_getElem? hf), fun H6 s6 => ⟨true, rfl, iteF ⟨_, rfl, s5.trans s6⟩⟩⟩
      · rintro σ H5 ⟨x6, rfl, s5⟩
        exact k H5
end
theorem all_mk {l : PySem.W.OpenLaw} {w : World} {K : PySem.W.Frag} {h : Heap} {mg : Str → Option Value} {fa : Addr} (X : K.In h) (G : h.Ns mainGlobals mg) (hfa : mg "law" = some (.ref fa))
    {w_PART_PLACES : Addr} {o_PART_PLACES : Obj} {w_ONE_PLACE : Addr} {o_ONE_PLACE : Obj} {f0 f1 f2 f3 f4 f5 f6 f7 f8 f9 f10 f11 f12 f13 f14 f15 f16 f17 f18 f19 f20 f21 : Addr} {od0 an0 od1 an1 od2 an2 od3 an3 od4 an4 od5 an5 od6 an6 od7 an7 od8 an8 od9 an9 od10 an10 od11 an11 od12 an12 od13 an13 od14 an14 od15 an15 od16 an16 od17 an17 od18 an18 od19 an19 od20 an20 od21 an21 : Option Addr} {sl0 sl1 sl2 sl3 sl4 sl5 sl6 sl7 sl8 sl9 sl10 sl11 sl12 sl13 sl14 sl15 sl16 sl17 sl18 sl19 sl20 sl21 : Array (Option Value)} {oc0 kV0 dc0 pm0 cd0 ct0 oc1 kV1 dc1 pm1 cd1 ct1 oc2 kV2 dc2 pm2 cd2 ct2 oc3 kV3 dc3 pm3 cd3 ct3 oc4 kV4 dc4 pm4 cd4 ct4 oc5 kV5 dc5 pm5 cd5 ct5 oc6 kV6 dc6 pm6 cd6 ct6 oc7 kV7 dc7 pm7 cd7 ct7 oc8 kV8 dc8 pm8 cd8 ct8 oc9 kV9 dc9 pm9 cd9 ct9 oc10 kV10 dc10 pm10 cd10 ct10 oc11 kV11 dc11 pm11 cd11 ct11 oc12 kV12 dc12 pm12 cd12 ct12 oc13 kV13 dc13 pm13 cd13 ct13 oc14 kV14 dc14 pm14 cd14 ct14 oc15 kV15 dc15 pm15 cd15 ct15 oc16 kV16 dc16 pm16 cd16 ct16 oc17 kV17 dc17 pm17 cd17 ct17 oc18 kV18 dc18 pm18 cd18 ct18 oc19 kV19 dc19 pm19 cd19 ct19 oc20 kV20 dc20 pm20 cd20 ct20 oc21 kV21 dc21 pm21 cd21 ct21 : Value}
    (a0 : PySem.W.nsIn K mainGlobals "parts_of" = some (some (.ref f0))) (l0 : K.lookup f0 = some ⟨oc0, od0, .func (PySem.W.fnOf "parts_of" "parts_of" (defArgs s_parts_of) (defBody s_parts_of) (defScope s_parts_of) .none kV0 dc0 pm0 an0 cd0 ct0), sl0⟩) (c0 : PySem.W.codeIn K cd0 "parts_of" = true) (k0 : PySem.W.keepIn K (.ref f0) = true)
    (a1 : PySem.W.nsIn K mainGlobals "all_parts" = some (some (.ref f1))) (l1 : K.lookup f1 = some ⟨oc1, od1, .func (PySem.W.fnOf "all_parts" "all_parts" (defArgs s_all_parts) (defBody s_all_parts) (defScope s_all_parts) .none kV1 dc1 pm1 an1 cd1 ct1), sl1⟩) (c1 : PySem.W.codeIn K cd1 "all_parts" = true) (k1 : PySem.W.keepIn K (.ref f1) = true)
    (a2 : PySem.W.nsIn K mainGlobals "block_led_to" = some (some (.ref f2))) (l2 : K.lookup f2 = some ⟨oc2, od2, .func (PySem.W.fnOf "block_led_to" "block_led_to" (defArgs s_block_led_to) (defBody s_block_led_to) (defScope s_block_led_to) .none kV2 dc2 pm2 an2 cd2 ct2), sl2⟩) (c2 : PySem.W.codeIn K cd2 "block_led_to" = true) (k2 : PySem.W.keepIn K (.ref f2) = true)
    (a3 : PySem.W.nsIn K mainGlobals "block_shape" = some (some (.ref f3))) (l3 : K.lookup f3 = some ⟨oc3, od3, .func (PySem.W.fnOf "block_shape" "block_shape" (defArgs s_block_shape) (defBody s_block_shape) (defScope s_block_shape) .none kV3 dc3 pm3 an3 cd3 ct3), sl3⟩) (c3 : PySem.W.codeIn K cd3 "block_shape" = true) (k3 : PySem.W.keepIn K (.ref f3) = true)
    (a4 : PySem.W.nsIn K mainGlobals "fitted_shape" = some (some (.ref f4))) (l4 : K.lookup f4 = some ⟨oc4, od4, .func (PySem.W.fnOf "fitted_shape" "fitted_shape" (defArgs s_fitted_shape) (defBody s_fitted_shape) (defScope s_fitted_shape) .none kV4 dc4 pm4 an4 cd4 ct4), sl4⟩) (c4 : PySem.W.codeIn K cd4 "fitted_shape" = true) (k4 : PySem.W.keepIn K (.ref f4) = true)
    (a5 : PySem.W.nsIn K mainGlobals "stacked_shape" = some (some (.ref f5))) (l5 : K.lookup f5 = some ⟨oc5, od5, .func (PySem.W.fnOf "stacked_shape" "stacked_shape" (defArgs s_stacked_shape) (defBody s_stacked_shape) (defScope s_stacked_shape) .none kV5 dc5 pm5 an5 cd5 ct5), sl5⟩) (c5 : PySem.W.codeIn K cd5 "stacked_shape" = true) (k5 : PySem.W.keepIn K (.ref f5) = true)
    (a6 : PySem.W.nsIn K mainGlobals "are_single" = some (some (.ref f6))) (l6 : K.lookup f6 = some ⟨oc6, od6, .func (PySem.W.fnOf "are_single" "are_single" (defArgs s_are_single) (defBody s_are_single) (defScope s_are_single) .none kV6 dc6 pm6 an6 cd6 ct6), sl6⟩) (c6 : PySem.W.codeIn K cd6 "are_single" = true) (k6 : PySem.W.keepIn K (.ref f6) = true)
    (a7 : PySem.W.nsIn K mainGlobals "single_shape" = some (some (.ref f7))) (l7 : K.lookup f7 = some ⟨oc7, od7, .func (PySem.W.fnOf "single_shape" "single_shape" (defArgs s_single_shape) (defBody s_single_shape) (defScope s_single_shape) .none kV7 dc7 pm7 an7 cd7 ct7), sl7⟩) (c7 : PySem.W.codeIn K cd7 "single_shape" = true) (k7 : PySem.W.keepIn K (.ref f7) = true)
    (a8 : PySem.W.nsIn K mainGlobals "shape_by_parts" = some (some (.ref f8))) (l8 : K.lookup f8 = some ⟨oc8, od8, .func (PySem.W.fnOf "shape_by_parts" "shape_by_parts" (defArgs s_shape_by_parts) (defBody s_shape_by_parts) (defScope s_shape_by_parts) .none kV8 dc8 pm8 an8 cd8 ct8), sl8⟩) (c8 : PySem.W.codeIn K cd8 "shape_by_parts" = true) (k8 : PySem.W.keepIn K (.ref f8) = true)
    (a9 : PySem.W.nsIn K mainGlobals "told_by_parts" = some (some (.ref f9))) (l9 : K.lookup f9 = some ⟨oc9, od9, .func (PySem.W.fnOf "told_by_parts" "told_by_parts" (defArgs s_told_by_parts) (defBody s_told_by_parts) (defScope s_told_by_parts) .none kV9 dc9 pm9 an9 cd9 ct9), sl9⟩) (c9 : PySem.W.codeIn K cd9 "told_by_parts" = true) (k9 : PySem.W.keepIn K (.ref f9) = true)
    (a10 : PySem.W.nsIn K mainGlobals "shape_of" = some (some (.ref f10))) (l10 : K.lookup f10 = some ⟨oc10, od10, .func (PySem.W.fnOf "shape_of" "shape_of" (defArgs s_shape_of) (defBody s_shape_of) (defScope s_shape_of) .none kV10 dc10 pm10 an10 cd10 ct10), sl10⟩) (c10 : PySem.W.codeIn K cd10 "shape_of" = true) (k10 : PySem.W.keepIn K (.ref f10) = true)
    (a11 : PySem.W.nsIn K mainGlobals "_law_pen" = some (some (.ref f11))) (l11 : K.lookup f11 = some ⟨oc11, od11, .func (PySem.W.fnOf "_law_pen" "_law_pen" (defArgs s__law_pen) (defBody s__law_pen) (defScope s__law_pen) .none kV11 dc11 pm11 an11 cd11 ct11), sl11⟩) (c11 : PySem.W.codeIn K cd11 "_law_pen" = true) (k11 : PySem.W.keepIn K (.ref f11) = true)
    (a12 : PySem.W.nsIn K mainGlobals "_law_next" = some (some (.ref f12))) (l12 : K.lookup f12 = some ⟨oc12, od12, .func (PySem.W.fnOf "_law_next" "_law_next" (defArgs s__law_next) (defBody s__law_next) (defScope s__law_next) .none kV12 dc12 pm12 an12 cd12 ct12), sl12⟩) (c12 : PySem.W.codeIn K cd12 "_law_next" = true) (k12 : PySem.W.keepIn K (.ref f12) = true)
    (a13 : PySem.W.nsIn K mainGlobals "_law_common" = some (some (.ref f13))) (l13 : K.lookup f13 = some ⟨oc13, od13, .func (PySem.W.fnOf "_law_common" "_law_common" (defArgs s__law_common) (defBody s__law_common) (defScope s__law_common) .none kV13 dc13 pm13 an13 cd13 ct13), sl13⟩) (c13 : PySem.W.codeIn K cd13 "_law_common" = true) (k13 : PySem.W.keepIn K (.ref f13) = true)
    (a14 : PySem.W.nsIn K mainGlobals "_law_of_parts" = some (some (.ref f14))) (l14 : K.lookup f14 = some ⟨oc14, od14, .func (PySem.W.fnOf "_law_of_parts" "_law_of_parts" (defArgs s__law_of_parts) (defBody s__law_of_parts) (defScope s__law_of_parts) .none kV14 dc14 pm14 an14 cd14 ct14), sl14⟩) (c14 : PySem.W.codeIn K cd14 "_law_of_parts" = true) (k14 : PySem.W.keepIn K (.ref f14) = true)
    (a15 : PySem.W.nsIn K mainGlobals "_law_shape" = some (some (.ref f15))) (l15 : K.lookup f15 = some ⟨oc15, od15, .func (PySem.W.fnOf "_law_shape" "_law_shape" (defArgs s__law_shape) (defBody s__law_shape) (defScope s__law_shape) .none kV15 dc15 pm15 an15 cd15 ct15), sl15⟩) (c15 : PySem.W.codeIn K cd15 "_law_shape" = true) (k15 : PySem.W.keepIn K (.ref f15) = true)
    (a16 : PySem.W.nsIn K mainGlobals "_law_base" = some (some (.ref f16))) (l16 : K.lookup f16 = some ⟨oc16, od16, .func (PySem.W.fnOf "_law_base" "_law_base" (defArgs s__law_base) (defBody s__law_base) (defScope s__law_base) .none kV16 dc16 pm16 an16 cd16 ct16), sl16⟩) (c16 : PySem.W.codeIn K cd16 "_law_base" = true) (k16 : PySem.W.keepIn K (.ref f16) = true)
    (a17 : PySem.W.nsIn K mainGlobals "_law_sizes" = some (some (.ref f17))) (l17 : K.lookup f17 = some ⟨oc17, od17, .func (PySem.W.fnOf "_law_sizes" "_law_sizes" (defArgs s__law_sizes) (defBody s__law_sizes) (defScope s__law_sizes) .none kV17 dc17 pm17 an17 cd17 ct17), sl17⟩) (c17 : PySem.W.codeIn K cd17 "_law_sizes" = true) (k17 : PySem.W.keepIn K (.ref f17) = true)
    (a18 : PySem.W.nsIn K mainGlobals "_law_like" = some (some (.ref f18))) (l18 : K.lookup f18 = some ⟨oc18, od18, .func (PySem.W.fnOf "_law_like" "_law_like" (defArgs s__law_like) (defBody s__law_like) (defScope s__law_like) .none kV18 dc18 pm18 an18 cd18 ct18), sl18⟩) (c18 : PySem.W.codeIn K cd18 "_law_like" = true) (k18 : PySem.W.keepIn K (.ref f18) = true)
    (a19 : PySem.W.nsIn K mainGlobals "_law_made" = some (some (.ref f19))) (l19 : K.lookup f19 = some ⟨oc19, od19, .func (PySem.W.fnOf "_law_made" "_law_made" (defArgs s__law_made) (defBody s__law_made) (defScope s__law_made) .none kV19 dc19 pm19 an19 cd19 ct19), sl19⟩) (c19 : PySem.W.codeIn K cd19 "_law_made" = true) (k19 : PySem.W.keepIn K (.ref f19) = true)
    (a20 : PySem.W.nsIn K mainGlobals "_law_right" = some (some (.ref f20))) (l20 : K.lookup f20 = some ⟨oc20, od20, .func (PySem.W.fnOf "_law_right" "_law_right" (defArgs s__law_right) (defBody s__law_right) (defScope s__law_right) .none kV20 dc20 pm20 an20 cd20 ct20), sl20⟩) (c20 : PySem.W.codeIn K cd20 "_law_right" = true) (k20 : PySem.W.keepIn K (.ref f20) = true)
    (a21 : PySem.W.nsIn K mainGlobals "law" = some (some (.ref f21))) (l21 : K.lookup f21 = some ⟨oc21, od21, .func (PySem.W.fnOf "law" "law" (defArgs s_law) (defBody s_law) (defScope s_law) .none kV21 dc21 pm21 an21 cd21 ct21), sl21⟩) (c21 : PySem.W.codeIn K cd21 "law" = true) (k21 : PySem.W.keepIn K (.ref f21) = true)
    (z_len : PySem.W.nsIn K mainGlobals "len" = some none)
    (z_range : PySem.W.nsIn K mainGlobals "range" = some none)
    (z_isinstance : PySem.W.nsIn K mainGlobals "isinstance" = some none)
    (z_int : PySem.W.nsIn K mainGlobals "int" = some none)
    (z_bool : PySem.W.nsIn K mainGlobals "bool" = some none)
    (z_tuple : PySem.W.nsIn K mainGlobals "tuple" = some none)
    (z_list : PySem.W.nsIn K mainGlobals "list" = some none)
    (z_reversed : PySem.W.nsIn K mainGlobals "reversed" = some none)
    (z_min : PySem.W.nsIn K mainGlobals "min" = some none)
    (z_all : PySem.W.nsIn K mainGlobals "all" = some none)
    (g_PART_PLACES : PySem.W.nsIn K mainGlobals "PART_PLACES" = some (some (.ref w_PART_PLACES)))
    (h_PART_PLACES : K.lookup w_PART_PLACES = some o_PART_PLACES)
    (r_PART_PLACES : ∃ kvs, DicO w o_PART_PLACES kvs ∧ Paired (fun (kv : Key × V) (kt : Key × List V) => kv.1 = kt.1 ∧ ∃ a, kv.2 = .ref a ∧ ∀ H, SqT K H a kt.2) kvs PPK)
    (n_PART_PLACES : (w_PART_PLACES == sysModules) = false)
    (g_ONE_PLACE : PySem.W.nsIn K mainGlobals "ONE_PLACE" = some (some (.ref w_ONE_PLACE)))
    (h_ONE_PLACE : K.lookup w_ONE_PLACE = some o_ONE_PLACE)
    (r_ONE_PLACE : o_ONE_PLACE.cls = .type "tuple" ∧ ∃ its n, o_ONE_PLACE.data = .seq its n ∧ its.size ≤ sizeLine ∧ Vals [V.int 1, V.int 1] its.toList)
    (kist : PySem.W.kitOne K (.type "str") (.type "tuple") = some false)
    (kiit : PySem.W.kitOne K (.type "int") (.type "tuple") = some false)
    (kib : PySem.W.kitOne K (.type "int") (.type "bool") = some false)  :
    ∃ fd : FuncData, (∀ (s : Shared) (v : Value), BindsTo s fd ⟨[v], []⟩ [("_law_script", v)]) ∧ ∀ base : Heap, K.In base → base.Ns mainGlobals mg → FnOk l.prog w K mg base CX0 12 fa fd ["_law_script"] (spLaw K) := by
  have e := hfa.symm.trans (PySem.W.mg_of X G a21)
  cases e
  have F0 := fun_mk (st := s_parts_of) l0 c0 k0
  have b0 := F0.binds (ps := ["formula"]) fun _ _ _ _ _ _ us hl => by obtain ⟨_, rfl⟩ := len_1 hl; rfl
  have F1 := fun_mk (st := s_all_parts) l1 c1 k1
  have b1 := F1.binds (ps := ["formula"]) fun _ _ _ _ _ _ us hl => by obtain ⟨_, rfl⟩ := len_1 hl; rfl
  have F2 := fun_mk (st := s_block_led_to) l2 c2 k2
  have b2 := F2.binds (ps := ["reference"]) fun _ _ _ _ _ _ us hl => by obtain ⟨_, rfl⟩ := len_1 hl; rfl
  have F3 := fun_mk (st := s_block_shape) l3 c3 k3
  have b3 := F3.binds (ps := ["block"]) fun _ _ _ _ _ _ us hl => by obtain ⟨_, rfl⟩ := len_1 hl; rfl
  have F4 := fun_mk (st := s_fitted_shape) l4 c4 k4
  have b4 := F4.binds (ps := ["one", "other"]) fun _ _ _ _ _ _ us hl => by obtain ⟨_, _, rfl⟩ := len_2 hl; rfl
  have F5 := fun_mk (st := s_stacked_shape) l5 c5 k5
  have b5 := F5.binds (ps := ["one", "other"]) fun _ _ _ _ _ _ us hl => by obtain ⟨_, _, rfl⟩ := len_2 hl; rfl
  have F6 := fun_mk (st := s_are_single) l6 c6 k6
  have b6 := F6.binds (ps := ["shapes"]) fun _ _ _ _ _ _ us hl => by obtain ⟨_, rfl⟩ := len_1 hl; rfl
  have F7 := fun_mk (st := s_single_shape) l7 c7 k7
  have b7 := F7.binds (ps := ["formula", "shapes"]) fun _ _ _ _ _ _ us hl => by obtain ⟨_, _, rfl⟩ := len_2 hl; rfl
  have F8 := fun_mk (st := s_shape_by_parts) l8 c8 k8
  have b8 := F8.binds (ps := ["formula", "shapes"]) fun _ _ _ _ _ _ us hl => by obtain ⟨_, _, rfl⟩ := len_2 hl; rfl
  have F9 := fun_mk (st := s_told_by_parts) l9 c9 k9
  have b9 := F9.binds (ps := ["row", "tell_one"]) fun _ _ _ _ _ _ us hl => by obtain ⟨_, _, rfl⟩ := len_2 hl; rfl
  have F10 := fun_mk (st := s_shape_of) l10 c10 k10
  have b10 := F10.binds (ps := ["opened"]) fun _ _ _ _ _ _ us hl => by obtain ⟨_, rfl⟩ := len_1 hl; rfl
  have F11 := fun_mk (st := s__law_pen) l11 c11 k11
  have b11 := F11.binds (ps := ["_law_script"]) fun _ _ _ _ _ _ us hl => by obtain ⟨_, rfl⟩ := len_1 hl; rfl
  have F12 := fun_mk (st := s__law_next) l12 c12 k12
  have b12 := F12.binds (ps := ["_law_pen_here", "_law_many"]) fun _ _ _ _ _ _ us hl => by obtain ⟨_, _, rfl⟩ := len_2 hl; rfl
  have F13 := fun_mk (st := s__law_common) l13 c13 k13
  have b13 := F13.binds (ps := ["_law_one", "_law_other"]) fun _ _ _ _ _ _ us hl => by obtain ⟨_, _, rfl⟩ := len_2 hl; rfl
  have F14 := fun_mk (st := s__law_of_parts) l14 c14 k14
  have b14 := F14.binds (ps := ["_law_tree", "_law_some"]) fun _ _ _ _ _ _ us hl => by obtain ⟨_, _, rfl⟩ := len_2 hl; rfl
  have F15 := fun_mk (st := s__law_shape) l15 c15 k15
  have b15 := F15.binds (ps := ["_law_tree"]) fun _ _ _ _ _ _ us hl => by obtain ⟨_, rfl⟩ := len_1 hl; rfl
  have F16 := fun_mk (st := s__law_base) l16 c16 k16
  have b16 := F16.binds (ps := ["_law_pen_here", "_law_high", "_law_wide"]) fun _ _ _ _ _ _ us hl => by obtain ⟨_, _, _, rfl⟩ := len_3 hl; rfl
  have F17 := fun_mk (st := s__law_sizes) l17 c17 k17
  have b17 := F17.binds (ps := ["_law_pen_here"]) fun _ _ _ _ _ _ us hl => by obtain ⟨_, rfl⟩ := len_1 hl; rfl
  have F18 := fun_mk (st := s__law_like) l18 c18 k18
  have b18 := F18.binds (ps := ["_law_pen_here", "_law_high", "_law_wide"]) fun _ _ _ _ _ _ us hl => by obtain ⟨_, _, _, rfl⟩ := len_3 hl; rfl
  have F19 := fun_mk (st := s__law_made) l19 c19 k19
  have b19 := F19.binds (ps := ["_law_pen_here", "_law_high", "_law_wide", "_law_deep"]) fun _ _ _ _ _ _ us hl => by obtain ⟨_, _, _, _, rfl⟩ := len_4 hl; rfl
  have F20 := fun_mk (st := s__law_right) l20 c20 k20
  have b20 := F20.binds (ps := ["_law_tree"]) fun _ _ _ _ _ _ us hl => by obtain ⟨_, rfl⟩ := len_1 hl; rfl
  have F21 := fun_mk (st := s_law) l21 c21 k21
  have b21 := F21.binds (ps := ["_law_script"]) fun _ _ _ _ _ _ us hl => by obtain ⟨_, rfl⟩ := len_1 hl; rfl
  have T : Txt w K mg ⟨f0, _, f1, _, f2, _, f3, _, f4, _, f5, _, f6, _, f7, _, f8, _, f9, _, f10, _, f11, _, f12, _, f13, _, f14, _, f15, _, f16, _, f17, _, f18, _, f19, _, f20, _, _, _⟩ := ⟨⟨F0, PySem.W.mg_of X G a0, b0⟩, ⟨F1, PySem.W.mg_of X G a1, b1⟩, ⟨F2, PySem.W.mg_of X G a2, b2⟩, ⟨F3, PySem.W.mg_of X G a3, b3⟩, ⟨F4, PySem.W.mg_of X G a4, b4⟩, ⟨F5, PySem.W.mg_of X G a5, b5⟩, ⟨F6, PySem.W.mg_of X G a6, b6⟩, ⟨F7, PySem.W.mg_of X G a7, b7⟩, ⟨F8, PySem.W.mg_of X G a8, b8⟩, ⟨F9, PySem.W.mg_of X G a9, b9⟩, ⟨F10, PySem.W.mg_of X G a10, b10⟩, ⟨F11, PySem.W.mg_of X G a11, b11⟩, ⟨F12, PySem.W.mg_of X G a12, b12⟩, ⟨F13, PySem.W.mg_of X G a13, b13⟩, ⟨F14, PySem.W.mg_of X G a14, b14⟩, ⟨F15, PySem.W.mg_of X G a15, b15⟩, ⟨F16, PySem.W.mg_of X G a16, b16⟩, ⟨F17, PySem.W.mg_of X G a17, b17⟩, ⟨F18, PySem.W.mg_of X G a18, b18⟩, ⟨F19, PySem.W.mg_of X G a19, b19⟩, ⟨F20, PySem.W.mg_of X G a20, b20⟩, ⟨F21, PySem.W.mg_of X G a21, b21⟩, PySem.W.mg_none_of X G z_len, PySem.W.mg_none_of X G z_range, PySem.W.mg_none_of X G z_isinstance, PySem.W.mg_none_of X G z_int, PySem.W.mg_none_of X G z_bool, PySem.W.mg_none_of X G z_tuple, PySem.W.mg_none_of X G z_list, PySem.W.mg_none_of X G z_reversed, PySem.W.mg_none_of X G z_min, PySem.W.mg_none_of X G z_all, (let ⟨k, d, p⟩ := r_PART_PLACES; ⟨k, ⟨_, PySem.W.mg_of X G g_PART_PLACES, _, h_PART_PLACES, d, n_PART_PLACES⟩, p⟩), ⟨_, _, PySem.W.mg_of X G g_ONE_PLACE, h_ONE_PLACE, r_ONE_PLACE⟩, kist, kiit, kib⟩
  exact ⟨_, fun s v => .of_eq rfl, fun base _ _ => ok_law T⟩
theorem walk {l : PySem.W.OpenLaw} {q : Program} {loose : List Str} {XP : (Str → Option Value) → Heap → Prop} {YP : World → Heap → Prop} {d : DefRec} {K : Params → PySem.W.Frag} (hn : l.most = some 63) (hdf : d.params.defaults = [])
    (hY : ∀ (w : World) (h : Heap), YP w h → (K w.params).In h)
    (F : ∀ (w : World) (mg : Str → Option Value) (fa : Addr) (h : Heap), (K w.params).In h → h.Ns mainGlobals mg → mg d.name = some (.ref fa) →
      ∃ fd : FuncData, (∀ (s : Shared) (u : Value), BindsTo s fd ⟨[u], []⟩ [("_law_script", u)]) ∧ ∀ base : Heap, (K w.params).In base → base.Ns mainGlobals mg → FnOk l.prog w (K w.params) mg base CX0 12 fa fd ["_law_script"] (spLaw (K w.params))) :
    PySem.W.WalkO q loose XP YP l.row.toRowW d [] (fun f vs => PySem.call f vs) :=
  L2.walk_of (n := 63) (k := 12) (x := "_law_script") (CX := fun _ => CX0) (sp := fun w => spLaw (K w.params)) hn (by decide) hdf ⟨rfl, by decide, by decide⟩ hY F (fun _ _ a ns hl _ hS => ⟨a, ns, rfl, hS, hl, fun _ => rfl⟩) fun _ _ _ _ _ z => z
end Fs
open PySem PySem.W PyProof.Rows
set_option maxRecDepth 100000 in
set_option maxHeartbeats 0 in
theorem PySem.Challenge.cw_freshsheet_k24_shapes_told_holds : PySem.Challenge.rw_freshsheet_k24_shapes_told.Holds := by
  w_on; o_law; k_head; (case hw => w_witness2)
  k_fill
  refine Fs.walk (l := PySem.Challenge.rw_freshsheet_k24_shapes_told) rfl rfl (fun w h Y => PySem.W.kIn_of Y) ?F
  case F =>
    intro w mg fa h KX G hmg
    refine' Fs.all_mk KX G hmg ?a0 ?l0 ?c0 ?k0 ?a1 ?l1 ?c1 ?k1 ?a2 ?l2 ?c2 ?k2 ?a3 ?l3 ?c3 ?k3 ?a4 ?l4 ?c4 ?k4 ?a5 ?l5 ?c5 ?k5 ?a6 ?l6 ?c6 ?k6 ?a7 ?l7 ?c7 ?k7 ?a8 ?l8 ?c8 ?k8 ?a9 ?l9 ?c9 ?k9 ?a10 ?l10 ?c10 ?k10 ?a11 ?l11 ?c11 ?k11 ?a12 ?l12 ?c12 ?k12 ?a13 ?l13 ?c13 ?k13 ?a14 ?l14 ?c14 ?k14 ?a15 ?l15 ?c15 ?k15 ?a16 ?l16 ?c16 ?k16 ?a17 ?l17 ?c17 ?k17 ?a18 ?l18 ?c18 ?k18 ?a19 ?l19 ?c19 ?k19 ?a20 ?l20 ?c20 ?k20 ?a21 ?l21 ?c21 ?k21 ?z_len ?z_range ?z_isinstance ?z_int ?z_bool ?z_tuple ?z_list ?z_reversed ?z_min ?z_all ?g_PART_PLACES ?h_PART_PLACES ?r_PART_PLACES ?n_PART_PLACES ?g_ONE_PLACE ?h_ONE_PLACE ?r_ONE_PLACE ?kist ?kiit ?kib
    (case a0 => k_is)
    (case l0 => k_is)
    (case c0 => k_is)
    (case k0 => k_is)
    (case a1 => k_is)
    (case l1 => k_is)
    (case c1 => k_is)
    (case k1 => k_is)
    (case a2 => k_is)
    (case l2 => k_is)
    (case c2 => k_is)
    (case k2 => k_is)
    (case a3 => k_is)
    (case l3 => k_is)
    (case c3 => k_is)
    (case k3 => k_is)
    (case a4 => k_is)
    (case l4 => k_is)
    (case c4 => k_is)
    (case k4 => k_is)
    (case a5 => k_is)
    (case l5 => k_is)
    (case c5 => k_is)
    (case k5 => k_is)
    (case a6 => k_is)
    (case l6 => k_is)
    (case c6 => k_is)
    (case k6 => k_is)
    (case a7 => k_is)
    (case l7 => k_is)
    (case c7 => k_is)
    (case k7 => k_is)
    (case a8 => k_is)
    (case l8 => k_is)
    (case c8 => k_is)
    (case k8 => k_is)
    (case a9 => k_is)
    (case l9 => k_is)
    (case c9 => k_is)
    (case k9 => k_is)
    (case a10 => k_is)
    (case l10 => k_is)
    (case c10 => k_is)
    (case k10 => k_is)
    (case a11 => k_is)
    (case l11 => k_is)
    (case c11 => k_is)
    (case k11 => k_is)
    (case a12 => k_is)
    (case l12 => k_is)
    (case c12 => k_is)
    (case k12 => k_is)
    (case a13 => k_is)
    (case l13 => k_is)
    (case c13 => k_is)
    (case k13 => k_is)
    (case a14 => k_is)
    (case l14 => k_is)
    (case c14 => k_is)
    (case k14 => k_is)
    (case a15 => k_is)
    (case l15 => k_is)
    (case c15 => k_is)
    (case k15 => k_is)
    (case a16 => k_is)
    (case l16 => k_is)
    (case c16 => k_is)
    (case k16 => k_is)
    (case a17 => k_is)
    (case l17 => k_is)
    (case c17 => k_is)
    (case k17 => k_is)
    (case a18 => k_is)
    (case l18 => k_is)
    (case c18 => k_is)
    (case k18 => k_is)
    (case a19 => k_is)
    (case l19 => k_is)
    (case c19 => k_is)
    (case k19 => k_is)
    (case a20 => k_is)
    (case l20 => k_is)
    (case c20 => k_is)
    (case k20 => k_is)
    (case a21 => k_is)
    (case l21 => k_is)
    (case c21 => k_is)
    (case k21 => k_is)
    (case z_len => k_is)
    (case z_range => k_is)
    (case z_isinstance => k_is)
    (case z_int => k_is)
    (case z_bool => k_is)
    (case z_tuple => k_is)
    (case z_list => k_is)
    (case z_reversed => k_is)
    (case z_min => k_is)
    (case z_all => k_is)
    (case g_PART_PLACES => k_is)
    (case h_PART_PLACES => k_is)
    (case r_PART_PLACES => exact ⟨[(Sum.inr (Str.ofString "op"), L2.V.ref _), (Sum.inr (Str.ofString "neg"), L2.V.ref _), (Sum.inr (Str.ofString "if"), L2.V.ref _), (Sum.inr (Str.ofString "sum"), L2.V.ref _), (Sum.inr (Str.ofString "count"), L2.V.ref _), (Sum.inr (Str.ofString "least"), L2.V.ref _), (Sum.inr (Str.ofString "most"), L2.V.ref _), (Sum.inr (Str.ofString "sumif"), L2.V.ref _), (Sum.inr (Str.ofString "find"), L2.V.ref _), (Sum.inr (Str.ofString "turn"), L2.V.ref _), (Sum.inr (Str.ofString "stack"), L2.V.ref _), (Sum.inr (Str.ofString "grid"), L2.V.ref _), (Sum.inr (Str.ofString "outer"), L2.V.ref _)], ⟨⟨rfl, rfl, rfl⟩, _, _, rfl, .cons ⟨rfl, rfl, rfl⟩ (.cons ⟨rfl, rfl, rfl⟩ (.cons ⟨rfl, rfl, rfl⟩ (.cons ⟨rfl, rfl, rfl⟩ (.cons ⟨rfl, rfl, rfl⟩ (.cons ⟨rfl, rfl, rfl⟩ (.cons ⟨rfl, rfl, rfl⟩ (.cons ⟨rfl, rfl, rfl⟩ (.cons ⟨rfl, rfl, rfl⟩ (.cons ⟨rfl, rfl, rfl⟩ (.cons ⟨rfl, rfl, rfl⟩ (.cons ⟨rfl, rfl, rfl⟩ (.cons ⟨rfl, rfl, rfl⟩ (.nil))))))))))))), by decide⟩, .cons ⟨rfl, _, rfl, fun _ => .inr ⟨_, _, _, (by k_is), rfl, rfl, by decide, .cons ⟨_, rfl⟩ (.cons ⟨_, rfl⟩ (.nil))⟩⟩ (.cons ⟨rfl, _, rfl, fun _ => .inr ⟨_, _, _, (by k_is), rfl, rfl, by decide, .cons ⟨_, rfl⟩ (.nil)⟩⟩ (.cons ⟨rfl, _, rfl, fun _ => .inr ⟨_, _, _, (by k_is), rfl, rfl, by decide, .cons ⟨_, rfl⟩ (.cons ⟨_, rfl⟩ (.cons ⟨_, rfl⟩ (.nil)))⟩⟩ (.cons ⟨rfl, _, rfl, fun _ => .inr ⟨_, _, _, (by k_is), rfl, rfl, by decide, .cons ⟨_, rfl⟩ (.nil)⟩⟩ (.cons ⟨rfl, _, rfl, fun _ => .inr ⟨_, _, _, (by k_is), rfl, rfl, by decide, .cons ⟨_, rfl⟩ (.nil)⟩⟩ (.cons ⟨rfl, _, rfl, fun _ => .inr ⟨_, _, _, (by k_is), rfl, rfl, by decide, .cons ⟨_, rfl⟩ (.nil)⟩⟩ (.cons ⟨rfl, _, rfl, fun _ => .inr ⟨_, _, _, (by k_is), rfl, rfl, by decide, .cons ⟨_, rfl⟩ (.nil)⟩⟩ (.cons ⟨rfl, _, rfl, fun _ => .inr ⟨_, _, _, (by k_is), rfl, rfl, by decide, .cons ⟨_, rfl⟩ (.cons ⟨_, rfl⟩ (.cons ⟨_, rfl⟩ (.nil)))⟩⟩ (.cons ⟨rfl, _, rfl, fun _ => .inr ⟨_, _, _, (by k_is), rfl, rfl, by decide, .cons ⟨_, rfl⟩ (.cons ⟨_, rfl⟩ (.cons ⟨_, rfl⟩ (.nil)))⟩⟩ (.cons ⟨rfl, _, rfl, fun _ => .inr ⟨_, _, _, (by k_is), rfl, rfl, by decide, .cons ⟨_, rfl⟩ (.nil)⟩⟩ (.cons ⟨rfl, _, rfl, fun _ => .inr ⟨_, _, _, (by k_is), rfl, rfl, by decide, .cons ⟨_, rfl⟩ (.cons ⟨_, rfl⟩ (.nil))⟩⟩ (.cons ⟨rfl, _, rfl, fun _ => .inr ⟨_, _, _, (by k_is), rfl, rfl, by decide, .cons ⟨_, rfl⟩ (.cons ⟨_, rfl⟩ (.nil))⟩⟩ (.cons ⟨rfl, _, rfl, fun _ => .inr ⟨_, _, _, (by k_is), rfl, rfl, by decide, .cons ⟨_, rfl⟩ (.nil)⟩⟩ (.nil)))))))))))))⟩)
    (case n_PART_PLACES => decide)
    (case g_ONE_PLACE => k_is)
    (case h_ONE_PLACE => k_is)
    (case r_ONE_PLACE => exact ⟨rfl, _, _, rfl, by decide, .cons ⟨_, rfl⟩ (.cons ⟨_, rfl⟩ (.nil))⟩)
    (case kist => kit_is)
    (case kiit => kit_is)
    (case kib => kit_is)
