import PyProof.Rows.All
import Wide.All
import OpenK.AllK
import Wide.FinOn
import Lean
import PyProof.EqAt
import PyProof.EqKinds
import PyProof.TupleCall
import PySem.Challenge.RW_freshsheet_k14_parts_of_formulas
set_option Elab.async false
set_option linter.all false
set_option maxRecDepth 100000
set_option maxHeartbeats 4000000
set_option Elab.async false
set_option linter.all false
set_option maxRecDepth 100000
/-! THE HAND LAYER, for ints, bools, texts, own classes, LISTS and tuples (index, slices, in, append, pop ..), calls, loops. Paste it whole ahead of your own text; what your proof does not reach may be deleted. -/
namespace L2
open PySem PySem.Spec PyProof.Rows

/-- a key: an int or a str -/
abbrev Key := Sum Int Str
def keyIs : Key → Value → Bool
  | .inl k, v => Value.isInt k v
  | .inr x, v => Value.isStrOf x v
def keyH (w : World) : Key → Int
  | .inl k => hashInt k
  | .inr x => hashStr w x
theorem keyIs_shape : ∀ {k : Key} {v : Value}, keyIs k v = true → (∃ i t, k = Sum.inl i ∧ v = Value.int i t) ∨ (∃ x t, k = Sum.inr x ∧ v = Value.str x t)
  | .inl i, v, h => by
    obtain ⟨t, e⟩ := Value.isInt_shape (k := i) (v := v) h
    exact .inl ⟨i, t, rfl, e⟩
  | .inr x, v, h => by
    obtain ⟨t, e⟩ := Value.isStrOf_shape (x := x) (v := v) h
    exact .inr ⟨x, t, rfl, e⟩
theorem keyIs_int (i : Int) (t : Tok) : keyIs (.inl i) (.int i t) = true := by simp [keyIs, Value.isInt]
theorem keyIs_str (x : Str) (t : Tok) : keyIs (.inr x) (.str x t) = true := by simp [keyIs, Value.isStrOf]
theorem key_ll (a b : Int) : decide ((Sum.inl a : Key) = Sum.inl b) = (a == b) := by
  by_cases e : a = b
  · subst e; simp
  · have h : ¬ (Sum.inl a : Key) = Sum.inl b := fun q => e (Sum.inl.inj q)
    rw [decide_eq_false h]
    exact (beq_eq_false_iff_ne.mpr e).symm
theorem key_rr (a b : Str) : decide ((Sum.inr a : Key) = Sum.inr b) = decide (a = b) := by
  by_cases e : a = b
  · subst e; simp
  · have h : ¬ (Sum.inr a : Key) = Sum.inr b := fun q => e (Sum.inr.inj q)
    rw [decide_eq_false h, decide_eq_false e]
theorem key_lr (a : Int) (b : Str) : decide ((Sum.inl a : Key) = Sum.inr b) = false := decide_eq_false (fun q => nomatch q)
theorem key_rl (a : Str) (b : Int) : decide ((Sum.inr a : Key) = Sum.inl b) = false := decide_eq_false (fun q => nomatch q)

def mixKind (prog : Program) (w : World) : PySem.KeyKind prog w Key where
  is := keyIs
  hash := keyH w
  inj := fun v a b ha hb => by
    rcases keyIs_shape ha with ⟨i, t, rfl, rfl⟩ | ⟨x, t, rfl, rfl⟩
    · rcases keyIs_shape hb with ⟨j, u, rfl, e⟩ | ⟨y, u, rfl, e⟩
      · injection e with e1 _; rw [e1]
      · exact nomatch e
    · rcases keyIs_shape hb with ⟨j, u, rfl, e⟩ | ⟨y, u, rfl, e⟩
      · exact nomatch e
      · injection e with e1 _; rw [e1]
  byValue := fun k v h => by
    rcases keyIs_shape h with ⟨i, t, rfl, rfl⟩ | ⟨x, t, rfl, rfl⟩ <;> rfl
  pyHash := fun hv h => by
    rcases keyIs_shape hv with ⟨i, t, rfl, rfl⟩ | ⟨x, t, rfl, rfl⟩
    · exact wpAny_pyHash_int h
    · exact wpAny_pyHash_str h
  eqBool := fun hu hv h => by
    rcases keyIs_shape hu with ⟨i, t, rfl, rfl⟩ | ⟨x, t, rfl, rfl⟩
    · rcases keyIs_shape hv with ⟨j, u, rfl, rfl⟩ | ⟨y, u, rfl, rfl⟩
      · rw [key_ll] at h; exact wpAny_eqBool_int h
      · rw [key_lr] at h; exact SeqAt.EqAt.int_str i t y u _ _ _ _ h
    · rcases keyIs_shape hv with ⟨j, u, rfl, rfl⟩ | ⟨y, u, rfl, rfl⟩
      · rw [key_rl] at h; exact SeqAt.EqAt.str_int x t j u _ _ _ _ h
      · rw [key_rr] at h; exact wpAny_eqBool_str h
  «strs» := fun k x t v h => by
    rcases keyIs_shape h with ⟨i, u, rfl, e⟩ | ⟨y, u, rfl, e⟩
    · exact nomatch e
    · injection e with e1 _
      subst e1
      cases v <;> rfl

theorem mixKind_int (prog : Program) (w : World) (i : Int) (t : Tok) : (mixKind prog w).is (.inl i) (.int i t) = true := keyIs_int i t
theorem mixKind_str (prog : Program) (w : World) (x : Str) (t : Tok) : (mixKind prog w).is (.inr x) (.str x t) = true := keyIs_str x t
end L2

namespace L2
open PySem PySem.Spec PyProof.Rows

/-- a value, without the heap -/
inductive V where
  | non | bl (b : Bool) | int (i : Int) | str (x : Str) | byt (b : Array UInt8) | flt (b : UInt64) | ref (a : Addr) | ty (n : String)
  deriving DecidableEq

def RelV : V → Value → Prop
  | .non, u => u = Value.none
  | .bl b, u => u = Value.bool b
  | .int i, u => ∃ t, u = Value.int i t
  | .str x, u => ∃ t, u = Value.str x t
  | .byt b, u => ∃ t, u = Value.bytes b t
  | .flt b, u => ∃ t, u = Value.float b t
  | .ref a, u => u = Value.ref a
  | .ty n, u => u = Value.type n

abbrev Vals : List V → List Value → Prop := Paired RelV
theorem Vals.length {xs : List V} {us : List Value} (r : Vals xs us) : xs.length = us.length := Paired.length r
theorem Vals.get : ∀ {xs : List V} {us : List Value} {i : Nat} {x : V}, Vals xs us → xs[i]? = some x → ∃ u, us[i]? = some u ∧ RelV x u
  | _, _, _, _, .nil, e => by simp at e
  | _, _, 0, _, .cons r _, e => by simp at e; subst e; exact ⟨_, rfl, r⟩
  | _, _, i + 1, x, .cons _ t, e => by
    obtain ⟨u, h1, h2⟩ := Vals.get (i := i) (x := x) t (by simpa using e)
    exact ⟨u, by simpa using h1, h2⟩
theorem Vals.set {x : V} {u : Value} (r : RelV x u) : ∀ {xs : List V} {us : List Value} (i : Nat), Vals xs us → Vals (xs.set i x) (us.set i u)
  | _, _, _, .nil => .nil
  | _, _, 0, .cons _ t => .cons r t
  | _, _, i + 1, .cons q t => .cons q (Vals.set r i t)
theorem Vals.append : ∀ {xs ys : List V} {us ws : List Value}, Vals xs us → Vals ys ws → Vals (xs ++ ys) (us ++ ws)
  | _, _, _, _, .nil, s => s
  | _, _, _, _, .cons r t, s => .cons r (Vals.append t s)
theorem Vals.take : ∀ {xs : List V} {us : List Value} (n : Nat), Vals xs us → Vals (xs.take n) (us.take n)
  | _, _, 0, _ => .nil
  | _, _, _ + 1, .nil => .nil
  | _, _, n + 1, .cons r t => .cons r (Vals.take n t)
theorem Vals.drop : ∀ {xs : List V} {us : List Value} (n : Nat), Vals xs us → Vals (xs.drop n) (us.drop n)
  | _, _, 0, r => r
  | _, _, _ + 1, .nil => .nil
  | _, _, n + 1, .cons _ t => Vals.drop n t
def RelO : Option V → Option Value → Prop
  | some v, some u => RelV v u
  | none, none => True
  | _, _ => False
def KV {κ : Type} : List (κ × V) → List (κ × Value) → Prop := Paired fun (p : κ × V) (q : κ × Value) => p.1 = q.1 ∧ RelV p.2 q.2

/-- a key of a dict (00_mix): an int or a text -/
def kV : Key → V
  | .inl i => .int i
  | .inr x => .str x

/-- what stands at a tracked address -/
inductive HO where
  /-- a list -/
  | lst (xs : List V)
  /-- a tuple (never changes) -/
  | tup (xs : List V)
  /-- a dict whose keys are ints and texts; one whose keys are tuples of ints and texts (the empty one is both) -/
  | dK (kvs : List (Key × V)) | dT (kvs : List (List Key × V))
  /-- a set of ints: its members, its size -/
  | set (S : Int → Bool) (n : Nat)
  /-- an instance of the class at C, its dict at dx, its attributes -/
  | ins (C dx : Addr) (fs : List (Str × V))
  /-- the dict of the instance at x -/
  | own (x : Addr)
  /-- the dict of an exception -/
  | xd (fs : List (Str × V))
  /-- a bound method, f of x -/
  | met (f x : Addr)
  /-- a range object lo, lo + 1, .. below hi -/
  | rng (lo hi : Int)
  /-- a thing that is known to the object (the script; a dict while a loop walks it): read, never written while it is so -/
  | frz (o : Obj) (u : HO)
  /-- a code object's table -/
  | tbl (ps : Array Value)
  /-- any other thing, by what is true of its one object (a def of one's own: SetO a S n := HO.ext fun h => ..) -/
  | ext (φ : Heap → Prop)

abbrev Hp := Addr → Option HO
def upd (H : Hp) (a : Addr) (o : HO) : Hp := fun b => if b = a then some o else H b
theorem upd_same {H : Hp} {a : Addr} {o : HO} : upd H a o a = some o := by unfold upd; rw [if_pos rfl]
theorem upd_ne {H : Hp} {a b : Addr} {o : HO} (h : b ≠ a) : upd H a o b = H b := by unfold upd; rw [if_neg h]
theorem upd_upd {H : Hp} {a : Addr} {o u : HO} : upd (upd H a o) a u = upd H a u := by
  funext b; unfold upd; split <;> rfl
/-- two objects of different content stand apart -/
theorem ne_of {H : Hp} {a b : Addr} {o u : HO} (h : H a = some o) (h' : H b = some u) (d : o ≠ u) : a ≠ b := by
  intro e; subst e; rw [h] at h'; exact d (Option.some.inj h')
theorem ne_of_none {H : Hp} {a b : Addr} {o : HO} (h : H a = some o) (h' : H b = none) : a ≠ b := by
  intro e; subst e; rw [h] at h'; cases h'

section
variable (P : Program) (w : World)
def ObjOk (H : Hp) (h : Heap) (a : Addr) : HO → Prop
  | .lst xs => xs.length ≤ sizeLine ∧ ∃ (its : List Value) (n : Nat), Vals xs its ∧ h.get? a = some { cls := .type "list", data := .seq its.toArray n }
  | .tup xs => xs.length ≤ sizeLine ∧ ∃ its : List Value, Vals xs its ∧ IsTup h a its.toArray
  | .dK kvs => kvs.length ≤ sizeLine ∧ (a == sysModules) = false ∧ ∃ vs, KV kvs vs ∧ h.DictOf (mixKind P w) a vs
  | .dT kvs => kvs.length ≤ sizeLine ∧ (a == sysModules) = false ∧ ∃ xs : List (List Key × Addr × Value),
      Paired (fun (p : List Key × V) (q : List Key × Addr × Value) => p.1 = q.1 ∧ H q.2.1 = some (.tup (p.1.map kV)) ∧ RelV p.2 q.2.2) kvs xs ∧
      ∃ o es ep, h.get? a = some o ∧ o.ExactDict ∧ o.data = .dict es ep ∧ es.toList = xs.map (entryOfKey (tupleKind (mixKind P w))) ∧ (xs.map (·.1)).Nodup
  | .set S n => h.SetOf (intKind P w) a S n
  | .ins C dx fs => H dx = some (.own a) ∧ fs.length ≤ 1000 ∧ dx ≠ a ∧ h.get? a = some (PySem.W.instObj C dx) ∧
      ∃ mA, h.Ns1 dx mA ∧ (∀ f, RelO (fs.lookup f) (mA f)) ∧ PySem.Within mA (fs.map (·.1))
  | .own _ => ∃ o, h.get? a = some o
  | .xd fs => ∃ mA, h.Ns1 a mA ∧ ∀ f, RelO (fs.lookup f) (mA f)
  | .rng lo hi => ∃ t u v, h.get? a = some { cls := .type "range", data := .fields #[.int lo t, .int hi u, .int 1 v] }
  | .frz o u => h.get? a = some o ∧ ObjOk H h a u
  | .tbl ps => h.get? a = some { cls := .none, data := .fields ps }
  | .met f x => h.get? a = some (PySem.W.methodObj (.ref f) (.ref x))
  | .ext φ => φ h ∧ (∃ o, h.get? a = some o) ∧ ∀ h1 h2 : Heap, φ h1 → (∀ o, h1.get? a = some o → h2.get? a = some o) → φ h2
/-- the abstract heap is held -/
def HOk (H : Hp) (h : Heap) : Prop := ∀ a o, H a = some o → ObjOk P w H h a o
end

section
variable {P : Program} {w : World} {H H' : Hp} {h h' : Heap} {a : Addr} {o : HO}
theorem ObjOk.lt (x : ObjOk P w H h a o) : a < h.objs.size := by
  cases o with
  | lst xs => obtain ⟨_, _, _, _, e⟩ := x; exact Heap.lt_size e
  | tup xs => obtain ⟨_, _, _, p⟩ := x; exact p.lt
  | dK kvs => obtain ⟨_, _, _, _, o, _, _, e, _⟩ := x; exact Heap.lt_size e
  | dT kvs => obtain ⟨_, _, _, _, o, _, _, e, _⟩ := x; exact Heap.lt_size e
  | set S n => obtain ⟨o, _, _, _, e, _⟩ := x; exact Heap.lt_size e
  | ins C dx fs => obtain ⟨_, _, _, e, _⟩ := x; exact Heap.lt_size e
  | own y => obtain ⟨_, e⟩ := x; exact Heap.lt_size e
  | xd fs => obtain ⟨_, ⟨_, _, _, e, _⟩, _⟩ := x; exact Heap.lt_size e
  | rng lo hi => obtain ⟨_, _, _, e⟩ := x; exact Heap.lt_size e
  | frz ob u => obtain ⟨e, _⟩ := x; exact Heap.lt_size e
  | tbl ps => exact Heap.lt_size (show h.get? a = some _ from x)
  | met f y => exact Heap.lt_size (show h.get? a = some _ from x)
  | ext φ => obtain ⟨_, ⟨_, e⟩, _⟩ := x; exact Heap.lt_size e
theorem Paired.mapP {α β : Type} {F G : α → β → Prop} : ∀ {l₁ : List α} {l₂ : List β}, Paired F l₁ l₂ → (∀ a b, F a b → G a b) → Paired G l₁ l₂
  | _, _, .nil, _ => .nil
  | _, _, .cons r t, f => .cons (f _ _ r) (Paired.mapP t f)
theorem Paired.imp' {α β : Type} {F G : α → β → Prop} (f : ∀ a b, F a b → G a b) {l₁ : List α} {l₂ : List β} (r : Paired F l₁ l₂) : Paired G l₁ l₂ := Paired.mapP r f
/-- what an object's description leans on: its own object, its own dict, the tuples -/
theorem ObjOk.stay (x : ObjOk P w H h a o) (k : ∀ b u, (b = a ∨ H b = some (.own a)) → h.get? b = some u → h'.get? b = some u)
    (ho : ∀ b, H b = some (.own a) → H' b = some (.own a)) (ht : ∀ b xs, H b = some (.tup xs) → H' b = some (.tup xs)) : ObjOk P w H' h' a o := by
  induction o with
  | lst xs => obtain ⟨z, its, n, r, e⟩ := x; exact ⟨z, its, n, r, k _ _ (.inl rfl) e⟩
  | tup xs => obtain ⟨z, its, r, ob, e, c⟩ := x; exact ⟨z, its, r, ob, k _ _ (.inl rfl) e, c⟩
  | dK kvs => obtain ⟨z, y, vs, r, ob, es, ep, e, c⟩ := x; exact ⟨z, y, vs, r, ob, es, ep, k _ _ (.inl rfl) e, c⟩
  | dT kvs =>
    obtain ⟨z, y, xs, r, ob, es, ep, e, c⟩ := x
    exact ⟨z, y, xs, Paired.mapP r fun p q z => ⟨z.1, ht _ _ z.2.1, z.2.2⟩, ob, es, ep, k _ _ (.inl rfl) e, c⟩
  | set S n => obtain ⟨ob, es, ep, t, e, c⟩ := x; exact ⟨ob, es, ep, t, k _ _ (.inl rfl) e, c⟩
  | ins C dx fs =>
    obtain ⟨d, z, ne, e, mA, ⟨od, es, ep, e2, c⟩, r⟩ := x
    exact ⟨ho _ d, z, ne, k _ _ (.inl rfl) e, mA, ⟨od, es, ep, k _ _ (.inr d) e2, c⟩, r⟩
  | own y => obtain ⟨ob, e⟩ := x; exact ⟨ob, k _ _ (.inl rfl) e⟩
  | xd fs => obtain ⟨mA, ⟨od, es, ep, e, c⟩, r⟩ := x; exact ⟨mA, ⟨od, es, ep, k _ _ (.inl rfl) e, c⟩, r⟩
  | rng lo hi => obtain ⟨t, u, v, e⟩ := x; exact ⟨t, u, v, k _ _ (.inl rfl) e⟩
  | frz ob u ih => obtain ⟨e, q⟩ := x; exact ⟨k _ _ (.inl rfl) e, ih q⟩
  | tbl ps =>
    have e : h.get? a = some { cls := .none, data := .fields ps } := x
    show h'.get? a = some { cls := .none, data := .fields ps }
    exact k a _ (.inl rfl) e
  | met f y =>
    have e : h.get? a = some (PySem.W.methodObj (.ref f) (.ref y)) := x
    show h'.get? a = some (PySem.W.methodObj (.ref f) (.ref y))
    exact k a _ (.inl rfl) e
  | ext φ => obtain ⟨p, ⟨o, e⟩, st⟩ := x; exact ⟨st _ _ p fun o q => k _ _ (.inl rfl) q, ⟨o, k _ _ (.inl rfl) e⟩, st⟩
theorem HOk.lt (x : HOk P w H h) (e : H a = some o) : a < h.objs.size := (x a o e).lt
theorem HOk.fresh (x : HOk P w H h) (e : h.objs.size ≤ a) : H a = none := by
  cases q : H a with
  | none => rfl
  | some u => exact absurd (Nat.lt_of_lt_of_le (x.lt q) e) (Nat.lt_irrefl _)
/-- every object of the heap is kept -/
theorem HOk.kept (x : HOk P w H h) (k : ∀ b u, h.get? b = some u → h'.get? b = some u) : HOk P w H h' := fun a o e =>
  (x a o e).stay (fun b u _ q => k b u q) (fun _ q => q) fun _ _ q => q
/-- a new object is laid and tracked -/
theorem HOk.laid (x : HOk P w H h) (k : ∀ b u, h.get? b = some u → h'.get? b = some u) (hp : h.objs.size ≤ a) (new : ObjOk P w (upd H a o) h' a o) : HOk P w (upd H a o) h' := fun b u e => by
  have hn := x.fresh hp
  by_cases hb : b = a
  · subst hb; rw [upd_same] at e; cases e; exact new
  · rw [upd_ne hb] at e
    exact (x b u e).stay (fun c v _ q => k c v q) (fun c q => by rw [upd_ne (ne_of_none q hn)]; exact q) fun c xs q => by rw [upd_ne (ne_of_none q hn)]; exact q
end

/-- what may be read as u: it is u, or a known u -/
def Rd (H : Hp) (a : Addr) (u : HO) : Prop := H a = some u ∨ ∃ o, H a = some (.frz o u)
theorem Rd.of {H : Hp} {a : Addr} {u : HO} (h : H a = some u) : Rd H a u := .inl h
theorem Rd.ok {P : Program} {w : World} {H : Hp} {h : Heap} {a : Addr} {u : HO} (r : Rd H a u) (x : HOk P w H h) : ObjOk P w H h a u := by
  rcases r with r | ⟨o, r⟩
  · exact x a u r
  · obtain ⟨_, q⟩ := x a _ r
    exact q
/-- what may be written -/
def Mut : Option HO → Prop
  | some (.lst _) => True
  | some (.dK _) => True
  | some (.dT _) => True
  | some (.set _ _) => True
  | some (.ins _ _ _) => True
  | some (.ext _) => True
  | _ => False
section
variable {P : Program} {w : World} {H : Hp} {h h' : Heap} {x e : Addr} {o' : HO}
/-- the object at e is changed: x itself, or the dict of the instance x -/
theorem HOk.write (ok : HOk P w H h) (mu : Mut (H x)) (he : e = x ∨ H e = some (.own x)) (k : ∀ b u, b ≠ e → h.get? b = some u → h'.get? b = some u) (heo : ∃ u, h'.get? e = some u)
    (new : ObjOk P w (upd H x o') h' x o') : HOk P w (upd H x o') h' := fun b u q => by
  have nown : ∀ c y, H c = some (.own y) → c ≠ x := fun c y r z => by subst z; rw [r] at mu; exact mu
  have ntup : ∀ c xs, H c = some (.tup xs) → c ≠ x := fun c xs r z => by subst z; rw [r] at mu; exact mu
  by_cases hb : b = x
  · subst hb; rw [upd_same] at q; cases q; exact new
  · rw [upd_ne hb] at q
    by_cases hbe : b = e
    · have q' : H b = some (.own x) := by
        rcases he with z | z
        · exact absurd (hbe.trans z) hb
        · rw [hbe]; exact z
      rw [q] at q'; cases q'
      obtain ⟨v, hv⟩ := heo
      exact ⟨v, by rw [hbe]; exact hv⟩
    · refine (ok b u q).stay (fun c v hc r => k c v ?_ r) (fun c r => by rw [upd_ne (nown c b r)]; exact r) fun c xs r => by rw [upd_ne (ntup c xs r)]; exact r
      rcases hc with rfl | hc
      · exact hbe
      · rintro rfl
        rcases he with z | z
        · exact nown c b hc z
        · rw [hc] at z; cases z; exact hb rfl
end

/-! ### kept unless tracked; of the frames at fs (the callers') the slots may change (an exception that passes writes there); of the records at ex (iterators) nothing is said -/
structure Un (fs ex : List Addr) (H H' : Hp) (h h' : Heap) : Prop where
  keep : ∀ b o, h.get? b = some o → H b = none → b ∉ fs → b ∉ ex → h'.get? b = some o
  slot : ∀ b o, h.get? b = some o → H b = none → b ∈ fs → b ∉ ex → ∃ sl, h'.get? b = some { o with slots := sl }
  free : ∀ b o, h.get? b = some o → H b = none → b ∉ ex → H' b = none
  there : ∀ b o, h.get? b = some o → b ∉ ex → ∃ o', h'.get? b = some o'
  tups : ∀ b xs, H b = some (.tup xs) → H' b = some (.tup xs)
  frzs : ∀ b o u, H b = some (.frz o u) → H' b = some (.frz o u)
  tbls : ∀ b ps, H b = some (.tbl ps) → ∃ more, H' b = some (.tbl (ps ++ more))
section
variable {fs fs' ex ex' : List Addr} {H H1 H2 : Hp} {h h1 h2 h' : Heap} {a x e : Addr} {o : HO}
theorem Un.any (u : Un fs ex H H1 h h1) {b : Addr} {ob : Obj} (q : h.get? b = some ob) (n : H b = none) (hx : b ∉ ex) : ∃ sl, h1.get? b = some { ob with slots := sl } := by
  by_cases hb : b ∈ fs
  · exact u.slot b ob q n hb hx
  · exact ⟨ob.slots, u.keep b ob q n hb hx⟩
theorem Un.trans (a : Un fs ex H H1 h h1) (b : Un fs ex H1 H2 h1 h2) : Un fs ex H H2 h h2 where
  keep := fun c ob q n hc hx => b.keep c ob (a.keep c ob q n hc hx) (a.free c ob q n hx) hc hx
  slot := fun c ob q n hc hx => by
    obtain ⟨sl, e1⟩ := a.slot c ob q n hc hx
    obtain ⟨sl', e2⟩ := b.slot c _ e1 (a.free c ob q n hx) hc hx
    exact ⟨sl', e2⟩
  free := fun c ob q n hx => by
    obtain ⟨o', e1⟩ := a.there c ob q hx
    exact b.free c o' e1 (a.free c ob q n hx) hx
  there := fun c ob q hx => by
    obtain ⟨o', e1⟩ := a.there c ob q hx
    exact b.there c o' e1 hx
  tups := fun c xs q => b.tups c xs (a.tups c xs q)
  frzs := fun c ob xs q => b.frzs c ob xs (a.frzs c ob xs q)
  tbls := fun c ps q => by
    obtain ⟨m1, e1⟩ := a.tbls c ps q
    obtain ⟨m2, e2⟩ := b.tbls c _ e1
    exact ⟨m1 ++ m2, by rw [e2, Array.append_assoc]⟩
theorem Un.kept (k : ∀ b u, h.get? b = some u → h'.get? b = some u) : Un fs ex H H h h' :=
  ⟨fun b ob q _ _ _ => k b ob q, fun b ob q _ _ _ => ⟨ob.slots, k b ob q⟩, fun _ _ _ n _ => n, fun b ob q _ => ⟨ob, k b ob q⟩, fun _ _ q => q, fun _ _ _ q => q, fun _ ps q => ⟨#[], by rw [q]; simp⟩⟩
theorem Un.refl : Un fs ex H H h h := Un.kept fun _ _ q => q
theorem Un.laid (k : ∀ b u, h.get? b = some u → h'.get? b = some u) (hp : h.objs.size ≤ a) (hn : H a = none) : Un fs ex H (upd H a o) h h' where
  keep := fun b u q _ _ _ => k b u q
  slot := fun b u q _ _ _ => ⟨u.slots, k b u q⟩
  free := fun b u q n _ => by rw [upd_ne (Nat.ne_of_lt (Nat.lt_of_lt_of_le (Heap.lt_size q) hp))]; exact n
  there := fun b u q _ => ⟨u, k b u q⟩
  tups := fun b xs q => by rw [upd_ne (ne_of_none q hn)]; exact q
  frzs := fun b u xs q => by rw [upd_ne (ne_of_none q hn)]; exact q
  tbls := fun b ps q => ⟨#[], by rw [upd_ne (ne_of_none q hn), q]; simp⟩
theorem Un.write (mu : Mut (H x)) (he : e = x ∨ H e = some (.own x)) (k : ∀ b u, b ≠ e → h.get? b = some u → h'.get? b = some u) (heo : ∃ u, h'.get? e = some u) : Un fs ex H (upd H x o) h h' := by
  have hx : ∀ b, H b = none → b ≠ x := fun b n z => by subst z; rw [n] at mu; exact mu
  have hb : ∀ b, H b = none → b ≠ e := fun b n z => by
    subst z
    rcases he with r | r
    · exact hx b n r
    · rw [n] at r; cases r
  have hm : ∀ b u, H b = some u → ¬ Mut (some u) → b ≠ x := fun b u q nm z => by subst z; rw [q] at mu; exact nm mu
  refine ⟨fun b u q n _ _ => k b u (hb b n) q, fun b u q n _ _ => ⟨u.slots, k b u (hb b n) q⟩, fun b u q n _ => by rw [upd_ne (hx b n)]; exact n, fun b u q _ => ?_,
    fun b xs q => by rw [upd_ne (hm b _ q fun z => z)]; exact q, fun b u xs q => by rw [upd_ne (hm b _ q fun z => z)]; exact q, fun b ps q => ⟨#[], by rw [upd_ne (hm b _ q fun z => z), q]; simp⟩⟩
  by_cases hbe : b = e
  · subst hbe; exact heo
  · exact ⟨u, k b u hbe q⟩
theorem Un.mono (u : Un fs ex H H1 h h1) (hs : ∀ b ∈ fs, b ∈ fs') (hx : ∀ b ∈ ex, b ∈ ex') : Un fs' ex' H H1 h h1 :=
  ⟨fun b ob q n hb he => u.keep b ob q n (fun z => hb (hs b z)) fun z => he (hx b z), fun _ _ q n _ he => u.any q n fun z => he (hx _ z), fun b ob q n he => u.free b ob q n fun z => he (hx b z), fun b ob q he => u.there b ob q fun z => he (hx b z), u.tups, u.frzs, u.tbls⟩
end

/-! ### the heap without what is tracked -/
def trk (h : Heap) (H : Hp) : List Addr := (List.range h.objs.size).filter fun a => (H a).isSome
def hidT (h : Heap) (H : Hp) : Heap := PySem.W.hideAll h (trk h H)
theorem hidT_size (h : Heap) (H : Hp) : (hidT h H).objs.size = h.objs.size := PySem.W.hideAll_size _ _
theorem hidT_get {h : Heap} {H : Hp} {b : Addr} {o : Obj} (e : h.get? b = some o) (n : H b = none) : (hidT h H).get? b = some o :=
  PySem.W.hideAll_get _ e fun hm => by
    have q : (H b).isSome = true := (List.mem_filter.mp hm).2
    rw [n] at q; simp at q
theorem of_hidT {h : Heap} {H : Hp} {b : Addr} {o : Obj} (e : (hidT h H).get? b = some o) : h.get? b = some o ∧ H b = none := by
  have e' : h.get? b = some o := PySem.W.of_hideAll (trk h H) e
  refine ⟨e', ?_⟩
  cases q : H b with
  | none => rfl
  | some x =>
    have hm : b ∈ trk h H := List.mem_filter.mpr ⟨List.mem_range.mpr (Heap.lt_size e'), by simp [q]⟩
    have z : (hidT h H).get? b = none := PySem.W.hideAll_none (trk h H) hm
    rw [z] at e; cases e

/-! ### OpenK's ledger, filled with every new object but one -/
def allNews (g h : Heap) (L : Addr) : List (Addr × Obj) := (List.range h.objs.size).filterMap fun a => if a = L ∨ (g.get? a).isSome = true then none else (h.get? a).map fun o => (a, o)
def rest (g h : Heap) (L d : Addr) : List (Addr × Obj) := (allNews g h L).filter fun p => decide (p.1 ≠ d)
end L2

namespace L2
open PySem PySem.Spec PyProof.Rows

/-- the module's facts, over the base: the heap at the law's entry without what is tracked there -/
structure Mod (K : PySem.W.Frag) (mg : Str → Option Value) (base : Heap) : Prop where
  kin : K.In base
  glob : base.Ns mainGlobals mg
  blt : ∃ mb, base.Ns builtinsNs mb ∧ ∀ x : Str, x ≠ "__name__" → mb x = bootBuiltins x
  nolimit : base.NoLimit

/-- the context: a def's body (or a comprehension's block) running. base: fixed through the whole law; s₀, H₀: the entry; outer: the frames whose slots others may change (a def's callers); stack: all frames that run;
   ex: iterators that were made ahead of the entry and are walked here (a comprehension's); fn: the names whose cells were made at the entry (a def: all; a comprehension's block: its own); calm: not within an except suite; pn: pins that every state bears; xe: what is wanted of an exception that leaves the code -/
structure Cx where
  prog : Program
  w : World
  K : PySem.W.Frag
  mg : Str → Option Value
  base : Heap
  A : Around
  N : List Str
  s₀ : Shared
  H₀ : Hp
  env : Env
  outer : List Env
  stack : List Env
  ex : List Addr
  fn : Str → Bool
  calm : Bool
  pn : List (Addr × Obj)
  xe : Value → Shared → Prop
/-- the callers' frames -/
def frs (l : List Env) : List Addr := l.filterMap (·.frame)
abbrev Cx.fs (X : Cx) : List Addr := frs X.outer

def Vis (sc : Scope) (x : Str) : Prop := sc.names.lookup x = some .local ∨ sc.names.lookup x = some .cell ∨ sc.names.lookup x = some .free
def Loc (sc : Scope) (x : Str) : Prop := sc.names.lookup x = some .local ∨ sc.names.lookup x = some .cell
def Look (env : Env) (h : Heap) (m : Str → Option Value) (x : Str) (u : Value) : Prop :=
  (env.kindOf x = some .local ∧ m x = some u) ∨ ((env.kindOf x = some .cell ∨ env.kindOf x = some .free) ∧ ∃ c, env.cells.lookup x = some c ∧ h.IsCell c (some u))

structure Cx.Ok (X : Cx) : Prop where
  mod : Mod X.K X.mg X.base
  kind : X.env.scope.kind = .function
  glob : X.env.globals = mainGlobals
  blt : X.env.builtins = builtinsNs
  above : X.s₀.heap.objs.size ≤ X.env.locals
  inj : ∀ x y c, X.env.cells.lookup x = some c → X.env.cells.lookup y = some c → x = y
  has : ∀ x, (X.env.kindOf x = some .cell ∨ X.env.kindOf x = some .free) → ∃ c, X.env.cells.lookup x = some c
  cab : ∀ x c, X.fn x = true → X.env.cells.lookup x = some c → X.s₀.heap.objs.size ≤ c
  hd : X.calm = true → X.A.handled = none
  frames : X.A.frames = some X.stack
  stk : X.stack = X.outer ∨ (X.stack = X.env :: X.outer ∧ X.env.frame = some X.env.locals)
  exf : ∀ b ∈ X.ex, b ≠ X.env.locals ∧ ∀ x c, X.env.cells.lookup x = some c → c ≠ b
  bs : ∀ b o, X.base.get? b = some o → X.s₀.heap.get? b = some o ∧ X.H₀ b = none
  bsz : X.base.objs.size ≤ X.s₀.heap.objs.size
  noex : ∀ b o, X.base.get? b = some o → b ∉ X.ex
  exfs : ∀ b ∈ X.ex, b ∉ X.fs
  funs : X.s₀.heap.FunFrames X.base X.outer
  frf : ∀ b ∈ X.fs, X.H₀ b = none

structure Inv (X : Cx) (pins : List (Addr × Obj)) (σ : List (Option V)) (H : Hp) (s : Shared) : Prop where
  ok : X.Ok
  os : s.os = X.s₀.os
  bare : AllBare s.gens
  base : Un X.fs X.ex X.H₀ H X.s₀.heap s.heap
  loc : ∃ m, s.heap.Ns X.env.locals m ∧ ∀ (i : Nat) (x : Str) (v : V), X.N[i]? = some x → σ[i]? = some (some v) → Vis X.env.scope x → ∃ u, RelV v u ∧ Look X.env s.heap m x u
  cell : ∀ x c, X.env.cells.lookup x = some c → ∃ v, s.heap.IsCell c v
  free : H X.env.locals = none
  freeC : ∀ x c, X.env.cells.lookup x = some c → H c = none
  pin : ∀ p ∈ X.pn ++ pins, s.heap.get? p.1 = some p.2 ∧ H p.1 = none ∧ p.1 ≠ X.env.locals ∧ p.1 ∉ X.fs ∧ ∀ v, p.2.data ≠ .cell v
  hok : HOk X.prog X.w H s.heap
  len : σ.length = X.N.length

section
variable {X : Cx} {pins : List (Addr × Obj)} {σ : List (Option V)} {H H' : Hp} {s : Shared} {h' : Heap}

theorem Cx.Ok.nofr (ok : X.Ok) {b : Addr} {o : Obj} (e : X.base.get? b = some o) : b ∉ X.fs := fun hb => by
  have := (ok.funs.mem hb).1
  rw [e] at this; cases this
theorem Inv.bs (I : Inv X pins σ H s) : ∀ b o, X.base.get? b = some o → s.heap.get? b = some o ∧ H b = none := fun b o e =>
  ⟨I.base.keep b o (I.ok.bs b o e).1 (I.ok.bs b o e).2 (I.ok.nofr e) (I.ok.noex b o e), I.base.free b o (I.ok.bs b o e).1 (I.ok.bs b o e).2 (I.ok.noex b o e)⟩
theorem Inv.bk (I : Inv X pins σ H s) : ∀ b o, X.base.get? b = some o → s.heap.get? b = some o := fun b o e => (I.bs b o e).1
theorem Inv.mod (I : Inv X pins σ H s) : Mod X.K X.mg X.base := I.ok.mod
theorem Inv.kIn (I : Inv X pins σ H s) : X.K.In s.heap := I.ok.mod.kin.keeps I.bk
theorem Inv.nolimit (I : Inv X pins σ H s) : s.heap.NoLimit := I.ok.mod.nolimit.keeps I.bk
/-- the frame over the base: for OpenK's rules (K.In X.base is I.mod.kin) -/
theorem Inv.fr (I : Inv X pins σ H s) : ∃ m, Fr X.base X.env.locals s.heap m :=
  let ⟨m, hn, _⟩ := I.loc
  ⟨m, hn, I.bk, Nat.le_trans I.ok.bsz I.ok.above⟩
theorem Inv.lt (I : Inv X pins σ H s) : X.env.locals < s.heap.objs.size := let ⟨_, hn, _⟩ := I.loc; hn.lt
theorem Inv.sz (I : Inv X pins σ H s) : X.s₀.heap.objs.size ≤ s.heap.objs.size := Nat.le_trans I.ok.above (Nat.le_of_lt I.lt)
theorem Inv.nofs (I : Inv X pins σ H s) {a : Addr} (h : s.heap.objs.size ≤ a) : a ∉ X.fs := fun hb => by
  obtain ⟨_, o, ho, _⟩ := I.ok.funs.mem hb
  exact absurd (Nat.lt_of_lt_of_le (Heap.lt_size ho) (Nat.le_trans I.sz h)) (Nat.lt_irrefl _)
theorem Inv.cne (I : Inv X pins σ H s) : ∀ x c, X.env.cells.lookup x = some c → c ≠ X.env.locals := fun x c e z => by
  obtain ⟨v, o, ho, hd⟩ := I.cell x c e
  obtain ⟨m, ⟨o', es, ep, ho', hd', _⟩, _⟩ := I.loc
  rw [z, ho'] at ho; cases ho; rw [hd'] at hd; cases hd
theorem Inv.funs (I : Inv X pins σ H s) : s.heap.FunFrames X.base X.outer := by
  have all : ∀ (l : List Env), (∀ b ∈ frs l, b ∈ X.fs) → X.s₀.heap.FunFrames X.base l → s.heap.FunFrames X.base l := by
    intro l
    induction l with
    | nil => intro _ _; trivial
    | cons env r ih =>
      intro hs hl
      obtain ⟨hk, ⟨L, o, hf, hn, ho, hd⟩, hr⟩ := hl
      have hL : L ∈ X.fs := hs L (by unfold frs; rw [List.filterMap_cons, hf]; exact List.mem_cons_self)
      obtain ⟨sl, e⟩ := I.base.slot L o ho (I.ok.frf L hL) hL fun z => I.ok.exfs L z hL
      exact ⟨hk, ⟨L, _, hf, hn, e, hd⟩, ih (fun b hb => hs b (by unfold frs; rw [List.filterMap_cons, hf]; exact List.mem_cons_of_mem _ hb)) hr⟩
  exact all X.outer (fun _ hb => hb) I.ok.funs

/-- the frames that run, for a call -/
theorem Inv.stack (I : Inv X pins σ H s) : s.heap.FunFrames X.base X.stack := by
  rcases I.ok.stk with e | ⟨e, hf⟩
  · rw [e]; exact I.funs
  · rw [e]
    obtain ⟨m, hn, _⟩ := I.loc
    refine .cons (by rw [I.ok.kind]; decide) hf hn ?_ I.funs
    exact Heap.get?_none_of_le (Nat.le_trans I.ok.bsz I.ok.above)
theorem Inv.stkSub (I : Inv X pins σ H s) : ∀ b ∈ frs X.stack, b ∈ X.env.locals :: X.fs := fun b hb => by
  rcases I.ok.stk with e | ⟨e, hf⟩
  · rw [e] at hb; exact List.mem_cons_of_mem _ hb
  · rw [e] at hb
    unfold frs at hb
    rw [List.filterMap_cons, hf] at hb
    exact hb
theorem Inv.stkFree (I : Inv X pins σ H s) : ∀ b ∈ frs X.stack, H b = none := fun b hb => by
  rcases List.mem_cons.mp (I.stkSub b hb) with e | hb
  · rw [e]; exact I.free
  · obtain ⟨_, o, ho, _⟩ := I.ok.funs.mem hb
    exact I.base.free b o ho (I.ok.frf b hb) fun z => I.ok.exfs b z hb

/-- THE STEP: the untracked objects but the frame and the records at ch are kept (the callers' frames up to slots), the frame's map is kept, the new abstract heap is held -/
theorem Inv.step {g' : Array GenState} {t' : Nat} {d' : Drawn} {ch : List Addr} (I : Inv X pins σ H s)
    (hch : ∀ b ∈ ch, (b ∈ X.ex ∨ X.s₀.heap.objs.size ≤ b) ∧ b ≠ X.env.locals ∧ (∀ x c, X.env.cells.lookup x = some c → c ≠ b) ∧ ∀ p ∈ X.pn ++ pins, p.1 ≠ b)
    (keep : ∀ b o, b ≠ X.env.locals → b ∉ X.fs → b ∉ ch → s.heap.get? b = some o → H b = none → h'.get? b = some o)
    (slot : ∀ b o, b ≠ X.env.locals → b ∈ X.fs → b ∉ ch → s.heap.get? b = some o → H b = none → ∃ sl, h'.get? b = some { o with slots := sl }) (free : ∀ b o, b ∉ ch → s.heap.get? b = some o → H b = none → H' b = none)
    (there : ∀ b o, b ∉ ch → s.heap.get? b = some o → ∃ o', h'.get? b = some o')
    (tups : ∀ b xs, H b = some (.tup xs) → H' b = some (.tup xs)) (frzs : ∀ b o u, H b = some (.frz o u) → H' b = some (.frz o u)) (tbls : ∀ b ps, H b = some (.tbl ps) → ∃ more, H' b = some (.tbl (ps ++ more)))
    (ns : ∀ m, s.heap.Ns X.env.locals m → h'.Ns X.env.locals m) (hok : HOk X.prog X.w H' h') (hg : AllBare g') :
    Inv X pins σ H' { s with heap := h', gens := g', drawn := d', toks := t' } := by
  have neL : ∀ b o, X.s₀.heap.get? b = some o → b ≠ X.env.locals := fun b o e => Nat.ne_of_lt (Nat.lt_of_lt_of_le (Heap.lt_size e) I.ok.above)
  have neC : ∀ b o, X.s₀.heap.get? b = some o → b ∉ X.ex → b ∉ ch := fun b o e hx hb => by
    rcases (hch b hb).1 with z | z
    · exact hx z
    · exact absurd (Nat.lt_of_lt_of_le (Heap.lt_size e) z) (Nat.lt_irrefl _)
  have cellK : ∀ x c, X.env.cells.lookup x = some c → ∀ v, s.heap.IsCell c v → h'.IsCell c v := fun x c e v ⟨o, ho, hd⟩ => by
    have nch : c ∉ ch := fun z => (hch c z).2.2.1 x c e rfl
    by_cases hc : c ∈ X.fs
    · obtain ⟨sl, q⟩ := slot c o (I.cne x c e) hc nch ho (I.freeC x c e)
      exact ⟨_, q, hd⟩
    · exact ⟨o, keep c o (I.cne x c e) hc nch ho (I.freeC x c e), hd⟩
  refine ⟨I.ok, I.os, hg, ⟨fun b o e n hb hx => ?_, fun b o e n hb hx => ?_, fun b o e n hx => ?_, fun b o e hx => ?_, fun b xs e => tups b xs (I.base.tups b xs e), fun b o xs e => frzs b o xs (I.base.frzs b o xs e), fun b ps e => ?_⟩, ?_, fun x c e => ?_, ?_, fun x c e => ?_, fun p hp => ?_, hok, I.len⟩
  · exact keep b o (neL b o e) hb (neC b o e hx) (I.base.keep b o e n hb hx) (I.base.free b o e n hx)
  · obtain ⟨sl, e1⟩ := I.base.slot b o e n hb hx
    obtain ⟨sl', e2⟩ := slot b _ (neL b o e) hb (neC b o e hx) e1 (I.base.free b o e n hx)
    exact ⟨sl', e2⟩
  · obtain ⟨o', e1⟩ := I.base.there b o e hx
    exact free b o' (neC b o e hx) e1 (I.base.free b o e n hx)
  · obtain ⟨o', e1⟩ := I.base.there b o e hx
    exact there b o' (neC b o e hx) e1
  · obtain ⟨m1, e1⟩ := I.base.tbls b ps e
    obtain ⟨m2, e2⟩ := tbls b _ e1
    exact ⟨m1 ++ m2, by rw [e2, Array.append_assoc]⟩
  · obtain ⟨m, hn, hl⟩ := I.loc
    refine ⟨m, ns m hn, fun i x v e1 e2 e3 => ?_⟩
    obtain ⟨u, r, l⟩ := hl i x v e1 e2 e3
    refine ⟨u, r, ?_⟩
    rcases l with l | ⟨k, c, e, z⟩
    · exact .inl l
    · exact .inr ⟨k, c, e, cellK x c e _ z⟩
  · obtain ⟨v, z⟩ := I.cell x c e
    exact ⟨v, cellK x c e v z⟩
  · obtain ⟨m, ⟨o, _, _, ho, _⟩, _⟩ := I.loc
    exact free _ o (fun z => (hch _ z).2.1 rfl) ho I.free
  · obtain ⟨v, o, ho, hd⟩ := I.cell x c e
    exact free c o (fun z => (hch c z).2.2.1 x c e rfl) ho (I.freeC x c e)
  · obtain ⟨e, n, ne, nf, d⟩ := I.pin p hp
    have nch : p.1 ∉ ch := fun z => (hch p.1 z).2.2.2 p hp rfl
    exact ⟨keep p.1 p.2 ne nf nch e n, free p.1 p.2 nch e n, ne, nf, d⟩
/-- .. where the frame's own object is kept too -/
theorem Inv.un {t' : Nat} (I : Inv X pins σ H s) (u : Un X.fs [] H H' s.heap h') (hok : HOk X.prog X.w H' h') : Inv X pins σ H' { s with heap := h', toks := t' } := by
  obtain ⟨m, ⟨o, es, ep, ho, r⟩, _⟩ := id I.loc
  obtain ⟨sl, hL⟩ := u.any ho I.free (by simp)
  exact I.step (g' := s.gens) (d' := s.drawn) (ch := []) (fun _ z => nomatch z) (fun b o _ hb _ e n => u.keep b o e n hb (by simp)) (fun b o _ hb _ e n => u.slot b o e n hb (by simp)) (fun b o _ e n => u.free b o e n (by simp)) (fun b o _ e => u.there b o e (by simp)) u.tups u.frzs u.tbls (fun m' hm => by
    obtain ⟨o', es', ep', ho', r'⟩ := hm
    rw [ho] at ho'; cases ho'
    exact ⟨_, es', ep', hL, r'⟩) hok I.bare
/-- behind a call (or a comprehension's block): the slots of this frame may have changed too, the records at ch may have turned -/
theorem Inv.call {g' : Array GenState} {t' : Nat} {d' : Drawn} {ch : List Addr} (I : Inv X pins σ H s) (u : Un (frs X.stack) ch H H' s.heap h') (hok : HOk X.prog X.w H' h') (hg : AllBare g')
    (hch : ∀ b ∈ ch, (b ∈ X.ex ∨ X.s₀.heap.objs.size ≤ b) ∧ b ≠ X.env.locals ∧ (∀ x c, X.env.cells.lookup x = some c → c ≠ b) ∧ ∀ p ∈ X.pn ++ pins, p.1 ≠ b) :
    Inv X pins σ H' { s with heap := h', gens := g', drawn := d', toks := t' } := by
  obtain ⟨m, ⟨o, es, ep, ho, r⟩, _⟩ := id I.loc
  obtain ⟨sl, hL⟩ := u.any ho I.free fun z => (hch _ z).2.1 rfl
  exact I.step (ch := ch) hch (fun b o hL hb hc e n => u.keep b o e n (fun z => (List.mem_cons.mp (I.stkSub b z)).elim hL hb) hc) (fun b o _ _ hc e n => u.any e n hc) (fun b o hc e n => u.free b o e n hc) (fun b o hc e => u.there b o e hc) u.tups u.frzs u.tbls (fun m' hm => by
    obtain ⟨o', es', ep', ho', r'⟩ := hm
    rw [ho] at ho'; cases ho'
    exact ⟨_, es', ep', hL, r'⟩) hok hg
/-- an untracked record of ours (an iterator) has turned -/
theorem Inv.turned {t' : Nat} {it : Addr} (I : Inv X pins σ H s) (k : ∀ b o, b ≠ it → s.heap.get? b = some o → h'.get? b = some o) (hn : H it = none) (hL : it ≠ X.env.locals)
    (h1 : it ∈ X.ex ∨ X.s₀.heap.objs.size ≤ it) (h2 : ∀ x c, X.env.cells.lookup x = some c → c ≠ it) (h3 : ∀ p ∈ X.pn ++ pins, p.1 ≠ it) : Inv X pins σ H { s with heap := h', toks := t' } := by
  have nit : ∀ b u, H b = some u → b ≠ it := fun b u e z => by rw [z, hn] at e; cases e
  refine I.step (g' := s.gens) (d' := s.drawn) (ch := [it]) (fun b hb => ?_) (fun b o _ _ hc e _ => k b o (fun z => hc (by simp [z])) e) (fun b o _ _ hc e _ => ⟨o.slots, k b o (fun z => hc (by simp [z])) e⟩) (fun _ _ _ _ n => n)
    (fun b o hc e => ⟨o, k b o (fun z => hc (by simp [z])) e⟩) (fun _ _ e => e) (fun _ _ _ e => e) (fun b ps e => ⟨#[], by rw [e]; simp⟩) (fun m hm => ?_) (fun b u e => ?_) I.bare
  · have e : b = it := by simpa using hb
    subst e
    exact ⟨h1, hL, h2, h3⟩
  · obtain ⟨o, es, ep, ho, r⟩ := hm
    exact ⟨o, es, ep, k _ o (Ne.symm hL) ho, r⟩
  · refine (I.hok b u e).stay (fun c v hc q => k c v ?_ q) (fun _ q => q) fun _ _ q => q
    rcases hc with z | z
    · rw [z]; exact nit b u e
    · exact nit c _ z
theorem Inv.tok (I : Inv X pins σ H s) (t : Nat) : Inv X pins σ H { s with toks := t } := I.un (h' := s.heap) (t' := t) Un.refl I.hok
/-- all objects kept -/
theorem Inv.kept {t' : Nat} (I : Inv X pins σ H s) (k : ∀ b u, s.heap.get? b = some u → h'.get? b = some u) : Inv X pins σ H { s with heap := h', toks := t' } := I.un (Un.kept k) (I.hok.kept k)
/-- a new object laid and tracked -/
theorem Inv.laid {a : Addr} {o : HO} {t' : Nat} (I : Inv X pins σ H s) (k : ∀ b u, s.heap.get? b = some u → h'.get? b = some u) (hp : s.heap.objs.size ≤ a) (new : ObjOk X.prog X.w (upd H a o) h' a o) :
    Inv X pins σ (upd H a o) { s with heap := h', toks := t' } := I.un (Un.laid k hp (I.hok.fresh hp)) (I.hok.laid k hp new)
/-- an object written -/
theorem Inv.write {x e : Addr} {o : HO} {t' : Nat} (I : Inv X pins σ H s) (mu : Mut (H x)) (he : e = x ∨ H e = some (.own x)) (k : ∀ b u, b ≠ e → s.heap.get? b = some u → h'.get? b = some u) (heo : ∃ u, h'.get? e = some u)
    (new : ObjOk X.prog X.w (upd H x o) h' x o) : Inv X pins σ (upd H x o) { s with heap := h', toks := t' } := I.un (Un.write mu he k heo) (I.hok.write mu he k heo new)
theorem Inv.pins_of {pins' : List (Addr × Obj)} (I : Inv X pins σ H s) (h : ∀ p ∈ pins', s.heap.get? p.1 = some p.2 ∧ H p.1 = none ∧ p.1 ≠ X.env.locals ∧ p.1 ∉ X.fs ∧ ∀ v, p.2.data ≠ .cell v) : Inv X pins' σ H s :=
  ⟨I.ok, I.os, I.bare, I.base, I.loc, I.cell, I.free, I.freeC, fun p hp => (List.mem_append.mp hp).elim (fun z => I.pin p (List.mem_append_left _ z)) (h p), I.hok, I.len⟩

theorem nodup_ix {N : List Str} (hN : N.Nodup) {i j : Nat} {x : Str} (a : N[i]? = some x) (b : N[j]? = some x) : i = j := by
  obtain ⟨h1, e1⟩ := List.getElem?_eq_some_iff.mp a
  obtain ⟨h2, e2⟩ := List.getElem?_eq_some_iff.mp b
  exact (List.getElem_inj hN).mp (e1.trans e2.symm)

/-- a name is stored; what changed -/
theorem store_ok2 {M : Model} {A : Around} {E : Value → Shared → Prop} {i : Nat} {x : Str} {v : V} {u : Value} {Q : Unit → Shared → Prop} (I : Inv X pins σ H s) (hN : X.N.Nodup) (hi : X.N[i]? = some x) (hx : Loc X.env.scope x) (r : RelV v u)
    (h : ∀ s', Inv X pins (σ.set i (some v)) H s' → (∃ a, Heap.SameBut a s.heap s'.heap ∧ (a = X.env.locals ∨ X.env.cells.lookup x = some a)) → Q () s') (hf : X.fn x = true ∨ X.env.scope.names.lookup x = some .local := by first | exact .inl rfl | exact .inr rfl | assumption) : wpAny M A (storeName X.env x u) Q E s := by
  obtain ⟨m, hn, hl⟩ := id I.loc
  have hcls : (X.env.scope.kind == .class || (X.env.scope.kind == .module && X.env.locals != X.env.globals)) = false := by rw [I.ok.kind]; rfl
  have hiσ : i < σ.length := by rw [I.len]; exact (List.getElem?_eq_some_iff.mp hi).1
  have cne := I.cne
  have tracked : ∀ {a : Addr} {h' : Heap}, (∃ o, s.heap.get? a = some o ∧ H a = none) → Heap.SameBut a s.heap h' → HOk X.prog X.w H h' := fun {a h'} ha hs b ob e => by
    obtain ⟨_, _, hfree⟩ := ha
    refine (I.hok b ob e).stay (fun c w' hc q => (hs.2 c ?_).trans q) (fun _ q => q) fun _ _ q => q
    rintro rfl
    rcases hc with rfl | hc
    · rw [hfree] at e; cases e
    · rw [hfree] at hc; cases hc
  rcases hx with hk | hk
  · refine wpAny_storeName_local hk hn (fun h' hn' hs => ?_) hcls
    obtain ⟨oL, _, _, hoL, _⟩ := id hn
    refine h _ ⟨I.ok, I.os, I.bare, ⟨fun b o e n hb hx => ?_, fun b o e n hb hx => ?_, I.base.free, fun b o e hx => ?_, I.base.tups, I.base.frzs, I.base.tbls⟩, ⟨_, hn', fun j y v' e1 e2 e3 => ?_⟩, fun y c e => ?_, I.free, I.freeC, fun p hp => ?_, tracked ⟨oL, hoL, I.free⟩ hs, by simpa using I.len⟩ ⟨_, hs, .inl rfl⟩
    · exact (hs.2 b (Nat.ne_of_lt (Nat.lt_of_lt_of_le (Heap.lt_size e) I.ok.above))).trans (I.base.keep b o e n hb hx)
    · obtain ⟨sl, e1⟩ := I.base.slot b o e n hb hx
      exact ⟨sl, (hs.2 b (Nat.ne_of_lt (Nat.lt_of_lt_of_le (Heap.lt_size e) I.ok.above))).trans e1⟩
    · obtain ⟨o', e1⟩ := I.base.there b o e hx
      exact ⟨o', (hs.2 b (Nat.ne_of_lt (Nat.lt_of_lt_of_le (Heap.lt_size e) I.ok.above))).trans e1⟩
    · by_cases hj : j = i
      · subst hj
        rw [hi] at e1; cases e1
        rw [List.getElem?_set_self hiσ] at e2
        cases e2
        exact ⟨u, r, .inl ⟨hk, by simp⟩⟩
      · rw [List.getElem?_set_ne (Ne.symm hj)] at e2
        obtain ⟨u', r', q⟩ := hl j y v' e1 e2 e3
        refine ⟨u', r', ?_⟩
        rcases q with ⟨k, e⟩ | ⟨k, c, e, z⟩
        · refine .inl ⟨k, ?_⟩
          have : y ≠ x := fun e => hj (nodup_ix hN e1 (e ▸ hi))
          simp [this, e]
        · exact .inr ⟨k, c, e, z.sameBut hs (cne y c e)⟩
    · obtain ⟨w', z⟩ := I.cell y c e
      exact ⟨w', z.sameBut hs (cne y c e)⟩
    · obtain ⟨e, n, ne, nf, d⟩ := I.pin p hp
      exact ⟨(hs.2 p.1 ne).trans e, n, ne, nf, d⟩
  · have hfn : X.fn x = true := by
      rcases hf with z | z
      · exact z
      · rw [z] at hk; cases hk
    obtain ⟨c, hc⟩ := I.ok.has x (.inl hk)
    obtain ⟨w', z⟩ := I.cell x c hc
    refine wpAny_storeName_cell I.ok.kind hk hc z (fun h' hc' hs => ?_)
    obtain ⟨oc, hoc, hocd⟩ := id z
    refine h { s with heap := h' } ⟨I.ok, I.os, I.bare, ⟨fun b o e n hb hx => ?_, fun b o e n hb hx => ?_, I.base.free, fun b o e hx => ?_, I.base.tups, I.base.frzs, I.base.tbls⟩, ⟨m, hn.sameBut hs (Ne.symm (cne x c hc)), fun j y v' e1 e2 e3 => ?_⟩, fun y c' e => ?_, I.free, I.freeC, fun p hp => ?_, tracked ⟨oc, hoc, I.freeC x c hc⟩ hs, by simpa using I.len⟩ ⟨c, hs, .inr hc⟩
    · exact (hs.2 b (Nat.ne_of_lt (Nat.lt_of_lt_of_le (Heap.lt_size e) (I.ok.cab x c hfn hc)))).trans (I.base.keep b o e n hb hx)
    · obtain ⟨sl, e1⟩ := I.base.slot b o e n hb hx
      exact ⟨sl, (hs.2 b (Nat.ne_of_lt (Nat.lt_of_lt_of_le (Heap.lt_size e) (I.ok.cab x c hfn hc)))).trans e1⟩
    · obtain ⟨o', e1⟩ := I.base.there b o e hx
      exact ⟨o', (hs.2 b (Nat.ne_of_lt (Nat.lt_of_lt_of_le (Heap.lt_size e) (I.ok.cab x c hfn hc)))).trans e1⟩
    · by_cases hj : j = i
      · subst hj
        rw [hi] at e1; cases e1
        rw [List.getElem?_set_self hiσ] at e2
        cases e2
        exact ⟨u, r, .inr ⟨.inl hk, c, hc, hc'⟩⟩
      · rw [List.getElem?_set_ne (Ne.symm hj)] at e2
        obtain ⟨u', r', q⟩ := hl j y v' e1 e2 e3
        refine ⟨u', r', ?_⟩
        rcases q with q | ⟨k, c', e, z'⟩
        · exact .inl q
        · refine .inr ⟨k, c', e, z'.sameBut hs ?_⟩
          rintro rfl
          exact hj (nodup_ix hN e1 (I.ok.inj _ _ _ e hc ▸ hi))
    · by_cases hcc : c' = c
      · subst hcc; exact ⟨_, hc'⟩
      · obtain ⟨w2, z2⟩ := I.cell y c' e
        exact ⟨w2, z2.sameBut hs hcc⟩
    · obtain ⟨e, n, ne, nf, d⟩ := I.pin p hp
      refine ⟨(hs.2 p.1 ?_).trans e, n, ne, nf, d⟩
      intro q
      rw [q, hoc] at e
      have q' : oc = p.2 := Option.some.inj e
      exact d w' (by rw [← q']; exact hocd)
theorem store_ok {M : Model} {A : Around} {E : Value → Shared → Prop} {i : Nat} {x : Str} {v : V} {u : Value} {Q : Unit → Shared → Prop} (I : Inv X pins σ H s) (hN : X.N.Nodup) (hi : X.N[i]? = some x) (hx : Loc X.env.scope x) (r : RelV v u)
    (h : ∀ s', Inv X pins (σ.set i (some v)) H s' → Q () s') (hf : X.fn x = true ∨ X.env.scope.names.lookup x = some .local := by first | exact .inl rfl | exact .inr rfl | assumption) : wpAny M A (storeName X.env x u) Q E s :=
  store_ok2 I hN hi hx r (fun s' I' _ => h s' I') hf
/-- behind a call or a block, the state as it is -/
theorem Inv.call' {s' : Shared} {ch : List Addr} (I : Inv X pins σ H s) (ho : s'.os = s.os) (u : Un (frs X.stack) ch H H' s.heap s'.heap) (hok : HOk X.prog X.w H' s'.heap) (hg : AllBare s'.gens)
    (hch : ∀ b ∈ ch, (b ∈ X.ex ∨ X.s₀.heap.objs.size ≤ b) ∧ b ≠ X.env.locals ∧ (∀ x c, X.env.cells.lookup x = some c → c ≠ b) ∧ ∀ p ∈ X.pn ++ pins, p.1 ≠ b) : Inv X pins σ H' s' := by
  obtain ⟨h', g', d', t', o'⟩ := s'
  have e : o' = s.os := ho
  subst e
  exact I.call (g' := g') (t' := t') (d' := d') u hok hg hch
end

/-! ### the judgements -/
/-- an exception: its class, its own dict's address (where it has one), the abstract heap behind it -/
abbrev XK := Value → Option Addr → Hp → Prop
abbrev St := List (Option V)
abbrev VK := V → Hp → Prop
/-- an expression's reading; a test's; an argument list's -/
abbrev TE := St → Hp → VK → Prop
abbrev TT := St → Hp → (Bool → Hp → Prop) → Prop
abbrev TA := St → Hp → (List V → Hp → Prop) → Prop
/-- what is wanted behind a statement -/
structure Ends where
  nx : St → Hp → Prop
  rt : VK
  bk : St → Hp → Prop := fun _ _ => False
  ct : St → Hp → Prop := fun _ _ => False
abbrev TS := Ends → St → Hp → Prop

def EP (X : Cx) (pins : List (Addr × Obj)) (σ : St) (Q : VK) (u : Value) (s' : Shared) : Prop := ∃ v H', Inv X pins σ H' s' ∧ RelV v u ∧ Q v H'
def TP (X : Cx) (pins : List (Addr × Obj)) (σ : St) (Q : Bool → Hp → Prop) (b : Bool) (s' : Shared) : Prop := ∃ H', Inv X pins σ H' s' ∧ Q b H'
def AP (X : Cx) (pins : List (Addr × Obj)) (σ : St) (Q : List V → Hp → Prop) (us : List Value) (s' : Shared) : Prop := ∃ vs H', Inv X pins σ H' s' ∧ Vals vs us ∧ Q vs H'
def SP (X : Cx) (pins : List (Addr × Obj)) (D : Ends) (f : Flow) (s' : Shared) : Prop :=
  match f with
  | .next => ∃ σ' H', Inv X pins σ' H' s' ∧ D.nx σ' H'
  | .brk => ∃ σ' H', Inv X pins σ' H' s' ∧ D.bk σ' H'
  | .cont => ∃ σ' H', Inv X pins σ' H' s' ∧ D.ct σ' H'
  | .ret u => ∃ v σ' H', Inv X pins σ' H' s' ∧ RelV v u ∧ D.rt v H'

def PE (X : Cx) (e : Expr) (t : TE) : Prop :=
  ∀ (pins : List (Addr × Obj)) (s : Shared) (σ : St) (H : Hp) (Q : VK), Inv X pins σ H s → t σ H Q → wpAny (model X.prog X.w) X.A (eval e X.env) (EP X pins σ Q) X.xe s
def PT (X : Cx) (e : Expr) (t : TT) : Prop :=
  ∀ (pins : List (Addr × Obj)) (s : Shared) (σ : St) (H : Hp) (Q : Bool → Hp → Prop), Inv X pins σ H s → t σ H Q → wpAny (model X.prog X.w) X.A (isTrue e X.env (eval e X.env)) (TP X pins σ Q) X.xe s
/-- a test whatever its 'whole' is (and, or) -/
def PW (X : Cx) (e : Expr) (t : TT) : Prop :=
  ∀ (whole : Sem Value) (pins : List (Addr × Obj)) (s : Shared) (σ : St) (H : Hp) (Q : Bool → Hp → Prop), Inv X pins σ H s → t σ H Q → wpAny (model X.prog X.w) X.A (isTrue e X.env whole) (TP X pins σ Q) X.xe s
theorem PW.pt {X : Cx} {e : Expr} {t : TT} (h : PW X e t) : PT X e t := h _
/-- an argument list (no star), from the left -/
def PA (X : Cx) (es : List Expr) (t : TA) : Prop :=
  ∀ (pos : Pos) (pins : List (Addr × Obj)) (s : Shared) (σ : St) (H : Hp) (Q : List V → Hp → Prop), Inv X pins σ H s → t σ H Q → wpAny (model X.prog X.w) X.A (spliced (backTo pos (starEach es X.env))) (AP X pins σ Q) X.xe s
def PS (X : Cx) (st : Stmt) (t : TS) : Prop :=
  ∀ (pins : List (Addr × Obj)) (s : Shared) (σ : St) (H : Hp) (D : Ends), Inv X pins σ H s → t D σ H → wpAny (model X.prog X.w) X.A (exec st X.env) (SP X pins D) X.xe s
def PSs (X : Cx) (st : List Stmt) (t : TS) : Prop :=
  ∀ (pins : List (Addr × Obj)) (s : Shared) (σ : St) (H : Hp) (D : Ends), Inv X pins σ H s → t D σ H → wpAny (model X.prog X.w) X.A (execs st X.env) (SP X pins D) X.xe s
/-- weaken the end -/
theorem thn {α : Type} {t : Sem α} {Q Q' : α → Shared → Prop} {M : Model} {A : Around} {E : Value → Shared → Prop} {s : Shared} (h : wpAny M A t Q E s) (hQ : ∀ a s, Q a s → Q' a s) : wpAny M A t Q' E s := wpAny_mono h hQ fun _ _ x => x
end L2

namespace L2
open PySem PySem.Spec PyProof.Rows
section
variable {X : Cx}

/-! ### names and constants -/
def tVar (i : Nat) : TE := fun σ H Q => ∃ v, σ[i]? = some (some v) ∧ Q v H
def tC (v : V) : TE := fun _ H Q => Q v H
theorem pe_var {i : Nat} {x : Str} {pos : Pos} (hN : X.N[i]? = some x) (hv : Vis X.env.scope x) (hd : (x == ("__debug__" : Str)) = false := by decide) (hcd : (x == ("__classdict__" : Str)) = false := by decide) : PE X (.Name x pos) (tVar i) := by
  intro pins s σ H Q I h
  obtain ⟨v, e, h⟩ := h
  obtain ⟨m, hn, hl⟩ := I.loc
  obtain ⟨u, r, l⟩ := hl i x v hN e hv
  have fin : EP X pins σ Q u s := ⟨v, H, I, r, h⟩
  rcases l with ⟨hk, hm⟩ | ⟨hk, c, hc, hcell⟩
  · exact wpAny_Name (wpAny_loadName_local I.ok.kind hk hn hm fin) hd
  · rcases hk with hk | hk
    · exact wpAny_Name (wpAny_loadName_cell I.ok.kind hk hc hcell fin) hd
    · exact wpAny_Name (wpAny_loadName_free I.ok.kind hk hc hcell fin hcd) hd
theorem pe_int {i j pos} : PE X (.Constant (.int i) j pos) (tC (.int i)) := fun _ _ _ H _ I h => wpAny_Constant_int ⟨.int i, H, I.tok _, ⟨_, rfl⟩, h⟩
theorem pe_bl {b j pos} : PE X (.Constant (.bool b) j pos) (tC (.bl b)) := fun _ _ _ H _ I h => Constant_bool ⟨.bl b, H, I, rfl, h⟩
theorem pe_non {j pos} : PE X (.Constant .none j pos) (tC .non) := fun _ _ _ H _ I h => Constant_none ⟨.non, H, I, rfl, h⟩
theorem pe_str {x j pos} : PE X (.Constant (.str x) j pos) (tC (.str x)) := fun _ _ _ H _ I h => Calls.Constant_str ⟨.str x, H, I.tok _, ⟨_, rfl⟩, h⟩

/-- a global name of the def -/
def Gl (X : Cx) (x : Str) : Prop := X.env.kindOf x = some .globalImplicit
theorem ld_glob {E : Value → Shared → Prop} {pins : List (Addr × Obj)} {s : Shared} {σ : St} {H : Hp} {x : Str} {u : Value} {pos : Pos} {Q : Value → Shared → Prop} (I : Inv X pins σ H s) (hg : Gl X x) (hm : X.mg x = some u) (h : Q u s)
    (hd : (x == ("__debug__" : Str)) = false := by decide) : wpAny (model X.prog X.w) X.A (eval (.Name x pos) X.env) Q E s :=
  Calls.Name_function_global I.ok.kind hg (Calls.loadGlobal_global (by rw [I.ok.glob]; exact I.mod.glob.keeps I.bk) hm h) hd
theorem ld_blt {E : Value → Shared → Prop} {pins : List (Addr × Obj)} {s : Shared} {σ : St} {H : Hp} {x : Str} {u : Value} {pos : Pos} {Q : Value → Shared → Prop} (I : Inv X pins σ H s) (hg : Gl X x) (hm : X.mg x = none) (hv : bootBuiltins x = some u) (h : Q u s)
    (hn : x ≠ "__name__" := by decide) (hd : (x == ("__debug__" : Str)) = false := by decide) : wpAny (model X.prog X.w) X.A (eval (.Name x pos) X.env) Q E s := by
  obtain ⟨mb, h1, h2⟩ := I.mod.blt
  exact Calls.Name_function_global I.ok.kind hg (Calls.loadGlobal_builtin (by rw [I.ok.glob]; exact I.mod.glob.keeps I.bk) hm (by rw [I.ok.blt]; exact h1.keeps I.bk) ((h2 x hn).trans hv) h) hd
theorem pe_bltn {x : Str} {v : V} {u : Value} {pos : Pos} (hg : Gl X x) (hm : X.mg x = none) (hv : bootBuiltins x = some u) (r : RelV v u) (hn : x ≠ "__name__" := by decide) (hd : (x == ("__debug__" : Str)) = false := by decide) : PE X (.Name x pos) (tC v) :=
  fun _ _ _ H _ I h => ld_blt I hg hm hv ⟨v, H, I, r, h⟩ hn hd

/-! ### arithmetic -/
/-- two ints -/
def t2I (ta tb : TE) (k : Int → Int → Hp → Prop) : St → Hp → Prop := fun σ H => ta σ H fun x H1 => tb σ H1 fun y H2 => ∃ i j, x = .int i ∧ y = .int j ∧ k i j H2
def tAdd (ta tb : TE) : TE := fun σ H Q => t2I ta tb (fun i j H2 => Q (.int (i + j)) H2) σ H
def tSub (ta tb : TE) : TE := fun σ H Q => t2I ta tb (fun i j H2 => Q (.int (i - j)) H2) σ H
/-- the left factor below 2^64 -/
def tMul (ta tb : TE) : TE := fun σ H Q => t2I ta tb (fun i j H2 => (-(2 ^ 64) < i ∧ i < 2 ^ 64) ∧ Q (.int (i * j)) H2) σ H
variable {a b : Expr} {ta tb : TE} {pos : Pos}
/-! ### comparisons -/
def PC (X : Cx) (op : CmpOp) (a b : Expr) (t : TE) : Prop :=
  ∀ (pins : List (Addr × Obj)) (s : Shared) (σ : St) (H : Hp) (Q : VK), Inv X pins σ H s → t σ H Q →
    wpAny (model X.prog X.w) X.A (eval a X.env) (fun v s₁ => wpAny (model X.prog X.w) X.A (eval b X.env) (fun u s₂ => wpAny (model X.prog X.w) X.A (compareOp op v u) (EP X pins σ Q) X.xe s₂) X.xe s₁) X.xe s
def tCmp (p : Int → Int → Bool) (ta tb : TE) : TE := fun σ H Q => t2I ta tb (fun i j H2 => Q (.bl (p i j)) H2) σ H
abbrev tLt : TE → TE → TE := tCmp fun i j => decide (i < j)
abbrev tLe : TE → TE → TE := tCmp fun i j => decide (i ≤ j)
abbrev tGt : TE → TE → TE := tCmp fun i j => decide (j < i)
abbrev tGe : TE → TE → TE := tCmp fun i j => decide (j ≤ i)
abbrev tEqI : TE → TE → TE := tCmp fun i j => decide (i = j)
abbrev tNeI : TE → TE → TE := tCmp fun i j => !decide (i = j)
/-- is None -/
def tIsN (ta : TE) : TE := fun σ H Q => ta σ H fun x H1 => Q (.bl (decide (x = .non))) H1
def tNotN (ta : TE) : TE := fun σ H Q => ta σ H fun x H1 => Q (.bl (!decide (x = .non))) H1
/-- a comparison as a value, as a test -/
def tB (t : TE) : TT := fun σ H Q => t σ H fun x H1 => ∃ c, x = .bl c ∧ Q c H1
/-- an expression whose value is a bool, as a test -/
theorem pt_val {e : Expr} {t : TE} (h : PE X e t) (he : ∀ whole, isTrue e X.env whole = (do let v ← whole; standAt e.pos; holding [v] (truthy v)) := by intro _; rfl) : PT X e (tB t) := by
  intro pins s σ H Q I hw
  refine isTrue_plain (thn (h pins s σ H _ I hw) fun v s1 ⟨x, H1, I1, r1, q1⟩ => ?_) (he _)
  obtain ⟨d, rfl, q⟩ := q1
  cases r1
  exact wpAny_truthy_bool ⟨H1, I1, q⟩

/-! ### and, or, not -/
variable {tA tB' : TT} {rest : List Expr}
def tAnd (t u : TT) : TT := fun σ H Q => t σ H fun c H1 => if c = true then u σ H1 Q else Q false H1
def tOr (t u : TT) : TT := fun σ H Q => t σ H fun c H1 => if c = true then Q true H1 else u σ H1 Q
def tNot (t : TT) : TT := fun σ H Q => t σ H fun c H1 => Q (!c) H1
theorem pw_and1 (ha : PT X a tA) : PW X (.BoolOp .And [a] pos) tA := by
  intro wh pins s σ H Q I h
  refine isTrue_and (thn (ha pins s σ H Q I h) fun c s1 e => ?_)
  cases c with
  | true => exact isTrue_and_nil e
  | false => exact e
theorem pw_or1 (ha : PT X a tA) : PW X (.BoolOp .Or [a] pos) tA := by
  intro wh pins s σ H Q I h
  refine isTrue_or (thn (ha pins s σ H Q I h) fun c s1 e => ?_)
  cases c with
  | false => exact isTrue_or_nil e
  | true => exact e
theorem pw_and (ha : PT X a tA) (hb : PW X (.BoolOp .And (b :: rest) pos) tB') : PW X (.BoolOp .And (a :: b :: rest) pos) (tAnd tA tB') := by
  intro wh pins s σ H Q I h
  refine isTrue_and (thn (ha pins s σ H _ I h) fun c s1 ⟨H1, I1, q1⟩ => ?_)
  cases c with
  | true => exact hb wh pins s1 σ H1 Q I1 q1
  | false => exact ⟨H1, I1, q1⟩
theorem pw_or (ha : PT X a tA) (hb : PW X (.BoolOp .Or (b :: rest) pos) tB') : PW X (.BoolOp .Or (a :: b :: rest) pos) (tOr tA tB') := by
  intro wh pins s σ H Q I h
  refine isTrue_or (thn (ha pins s σ H _ I h) fun c s1 ⟨H1, I1, q1⟩ => ?_)
  cases c with
  | true => exact ⟨H1, I1, q1⟩
  | false => exact hb wh pins s1 σ H1 Q I1 q1
theorem pt_not (ha : PT X a tA) : PT X (.UnaryOp .Not a pos) (tNot tA) := by
  intro pins s σ H Q I h
  exact isTrue_not (ha pins s σ H (fun c H1 => Q (!c) H1) I h)
/-- .. as values (bools) -/
def tAndV (ta tb : TE) : TE := fun σ H Q => ta σ H fun x H1 => ∃ c, x = .bl c ∧ if c = true then tb σ H1 Q else Q (.bl false) H1
def tOrV (ta tb : TE) : TE := fun σ H Q => ta σ H fun x H1 => ∃ c, x = .bl c ∧ if c = true then Q (.bl true) H1 else tb σ H1 Q
def tNotV (ta : TE) : TE := fun σ H Q => ta σ H fun x H1 => ∃ c, x = .bl c ∧ Q (.bl (!c)) H1
theorem pe_one {op} {t : TE} (h : PE X a t) : PE X (.BoolOp op [a] pos) t := fun pins s σ H Q I hw => BoolOp_one (h pins s σ H Q I hw)
theorem pe_and (ha : PE X a ta) (hb : PE X (.BoolOp .And (b :: rest) pos) tb) : PE X (.BoolOp .And (a :: b :: rest) pos) (tAndV ta tb) := by
  intro pins s σ H Q I h
  refine BoolOp_and (thn (ha pins s σ H _ I h) fun v s1 ⟨x, H1, I1, r1, q1⟩ => ?_)
  obtain ⟨c, rfl, q1⟩ := q1
  cases r1
  refine wpAny_truthy_bool ?_
  cases c with
  | true => exact hb pins s1 σ H1 Q I1 q1
  | false => exact ⟨.bl false, H1, I1, rfl, q1⟩
theorem pe_not (ha : PE X a ta) : PE X (.UnaryOp .Not a pos) (tNotV ta) := by
  intro pins s σ H Q I h
  refine UnaryOp_ (thn (ha pins s σ H _ I h) fun v s1 ⟨x, H1, I1, r1, q1⟩ => ?_)
  obtain ⟨c, rfl, q1⟩ := q1
  cases r1
  exact not_of (wpAny_truthy_bool ⟨.bl (!c), H1, I1, rfl, q1⟩)
/-- a if t else b -/
def tIf (t : TT) (ta tb : TE) : TE := fun σ H Q => t σ H fun c H1 => if c = true then ta σ H1 Q else tb σ H1 Q
end
end L2

namespace L2
open PySem PySem.Spec PyProof.Rows

/-! ### a list, a tuple that is read: tracked, frozen, or an object of the module -/
def SqL (K : PySem.W.Frag) (H : Hp) (a : Addr) (xs : List V) : Prop :=
  Rd H a (.lst xs) ∨
    ∃ (o : Obj) (its : Array Value) (n : Nat), K.lookup a = some o ∧ o.cls = .type "list" ∧ o.dict = none ∧ o.data = .seq its n ∧ its.size ≤ sizeLine ∧ Vals xs its.toList
def SqT (K : PySem.W.Frag) (H : Hp) (a : Addr) (xs : List V) : Prop :=
  Rd H a (.tup xs) ∨
    ∃ (o : Obj) (its : Array Value) (n : Nat), K.lookup a = some o ∧ o.cls = .type "tuple" ∧ o.data = .seq its n ∧ its.size ≤ sizeLine ∧ Vals xs its.toList
def absV : Value → Option V
  | .none => some .non
  | .bool b => some (.bl b)
  | .int i _ => some (.int i)
  | .str x _ => some (.str x)
  | .bytes b _ => some (.byt b)
  | .float b _ => some (.flt b)
  | .ref a => some (.ref a)
  | .type n => some (.ty n)
  | _ => none
theorem RelV.abs {x : V} {u : Value} (r : RelV x u) : absV u = some x := by
  cases x with
  | non => cases r; rfl
  | bl _ => cases r; rfl
  | int _ => obtain ⟨t, rfl⟩ := r; rfl
  | str _ => obtain ⟨t, rfl⟩ := r; rfl
  | byt _ => obtain ⟨t, rfl⟩ := r; rfl
  | flt _ => obtain ⟨t, rfl⟩ := r; rfl
  | ref _ => cases r; rfl
  | ty _ => cases r; rfl
theorem RelV.inj {x y : V} {u : Value} (r : RelV x u) (q : RelV y u) : x = y := Option.some.inj (r.abs.symm.trans q.abs)
theorem Vals.inj : ∀ {xs ys : List V} {us : List Value}, Vals xs us → Vals ys us → xs = ys
  | _, _, _, .nil, .nil => rfl
  | _, _, _, .cons r t, .cons r' t' => by rw [r.inj r', Vals.inj t t']
section
variable {X : Cx} {pins : List (Addr × Obj)} {σ : St} {H : Hp} {s : Shared} {a : Addr} {xs ys : List V}
theorem SqL.of {K : PySem.W.Frag} (h : H a = some (.lst xs)) : SqL K H a xs := .inl (.inl h)
theorem SqT.of {K : PySem.W.Frag} (h : H a = some (.tup xs)) : SqT K H a xs := .inl (.inl h)
theorem Inv.list (I : Inv X pins σ H s) (h : SqL X.K H a xs) : ∃ its : List Value, Vals xs its ∧ PlainL s.heap a its.toArray ∧ xs.length ≤ sizeLine := by
  rcases h with h | ⟨o, its, n, hk, hc, hd, hs, hz, r⟩
  · obtain ⟨z, its, n, r, e⟩ := h.ok I.hok
    exact ⟨its, r, ⟨_, n, e, rfl, rfl, rfl⟩, z⟩
  · refine ⟨its.toList, r, ⟨o, n, I.kIn a o hk, hc, hd, by simpa using hs⟩, ?_⟩
    have e := r.length
    simp only [Array.length_toList] at e
    omega
theorem Inv.tuple (I : Inv X pins σ H s) (h : SqT X.K H a xs) : ∃ its : List Value, Vals xs its ∧ IsTup s.heap a its.toArray ∧ xs.length ≤ sizeLine := by
  rcases h with h | ⟨o, its, n, hk, hc, hs, hz, r⟩
  · obtain ⟨z, its, r, p⟩ := h.ok I.hok
    exact ⟨its, r, p, z⟩
  · refine ⟨its.toList, r, ⟨o, I.kIn a o hk, hc, n, by simpa using hs⟩, ?_⟩
    have e := r.length
    simp only [Array.length_toList] at e
    omega
theorem Inv.list_inj (I : Inv X pins σ H s) (h : SqL X.K H a xs) (h' : SqL X.K H a ys) : xs = ys := by
  obtain ⟨its, r, ⟨o, n, e, _, _, d⟩, _⟩ := I.list h
  obtain ⟨its', r', ⟨o', n', e', _, _, d'⟩, _⟩ := I.list h'
  rw [e] at e'; cases e'
  rw [d] at d'
  injection d' with d1 _
  have : its = its' := by simpa using congrArg Array.toList d1
  subst this
  exact r.inj r'
theorem Inv.tuple_inj (I : Inv X pins σ H s) (h : SqT X.K H a xs) (h' : SqT X.K H a ys) : xs = ys := by
  obtain ⟨its, r, ⟨o, e, _, n, d⟩, _⟩ := I.tuple h
  obtain ⟨its', r', ⟨o', e', _, n', d'⟩, _⟩ := I.tuple h'
  rw [e] at e'; cases e'
  rw [d] at d'
  injection d' with d1 _
  have : its = its' := by simpa using congrArg Array.toList d1
  subst this
  exact r.inj r'
end

/-! ### another wish about exceptions -/
abbrev Cx.wish (X : Cx) (E : Value → Shared → Prop) : Cx := { X with xe := E }
/-- no exception leaves -/
abbrev Cx.nox (X : Cx) : Cx := X.wish fun _ _ => False
theorem Cx.Ok.wish {X : Cx} (ok : X.Ok) (E : Value → Shared → Prop) : (X.wish E).Ok :=
  ⟨ok.mod, ok.kind, ok.glob, ok.blt, ok.above, ok.inj, ok.has, ok.cab, ok.hd, ok.frames, ok.stk, ok.exf, ok.bs, ok.bsz, ok.noex, ok.exfs, ok.funs, ok.frf⟩
theorem Cx.Ok.unwish {X : Cx} {E : Value → Shared → Prop} (ok : (X.wish E).Ok) : X.Ok :=
  ⟨ok.mod, ok.kind, ok.glob, ok.blt, ok.above, ok.inj, ok.has, ok.cab, ok.hd, ok.frames, ok.stk, ok.exf, ok.bs, ok.bsz, ok.noex, ok.exfs, ok.funs, ok.frf⟩
section
variable {X : Cx} {pins : List (Addr × Obj)} {σ : St} {H : Hp} {s : Shared} {E : Value → Shared → Prop}
theorem Inv.wish (I : Inv X pins σ H s) (E : Value → Shared → Prop) : Inv (X.wish E) pins σ H s := ⟨I.ok.wish E, I.os, I.bare, I.base, I.loc, I.cell, I.free, I.freeC, I.pin, I.hok, I.len⟩
theorem Inv.unwish (I : Inv (X.wish E) pins σ H s) : Inv X pins σ H s := ⟨I.ok.unwish, I.os, I.bare, I.base, I.loc, I.cell, I.free, I.freeC, I.pin, I.hok, I.len⟩
theorem SP.unwish {D : Ends} {f : Flow} {s' : Shared} (h : SP (X.wish E) pins D f s') : SP X pins D f s' := by
  cases f with
  | next => obtain ⟨σ', H', I, q⟩ := h; exact ⟨σ', H', I.unwish, q⟩
  | brk => obtain ⟨σ', H', I, q⟩ := h; exact ⟨σ', H', I.unwish, q⟩
  | cont => obtain ⟨σ', H', I, q⟩ := h; exact ⟨σ', H', I.unwish, q⟩
  | ret u => obtain ⟨v, σ', H', I, r, q⟩ := h; exact ⟨v, σ', H', I.unwish, r, q⟩
theorem PE.nox {e : Expr} {t : TE} (h : PE X.nox e t) : PE X e t := fun pins s σ H Q I hw =>
  wpAny_mono (h pins s σ H Q (I.wish _) hw) (fun _ _ ⟨v, H', I', r, q⟩ => ⟨v, H', I'.unwish, r, q⟩) fun _ _ z => False.elim z
theorem PT.nox {e : Expr} {t : TT} (h : PT X.nox e t) : PT X e t := fun pins s σ H Q I hw =>
  wpAny_mono (h pins s σ H Q (I.wish _) hw) (fun _ _ ⟨H', I', q⟩ => ⟨H', I'.unwish, q⟩) fun _ _ z => False.elim z
theorem PSs.nox {st : List Stmt} {t : TS} (h : PSs X.nox st t) : PSs X st t := fun pins s σ H D I hw =>
  wpAny_mono (h pins s σ H D (I.wish _) hw) (fun _ _ q => q.unwish) fun _ _ z => False.elim z
end

/-! ### blocks and small statements -/
section
variable {X : Cx} {st : Stmt} {rest : List Stmt} {t u : TS} {e : Expr} {te : TE} {pos : Pos}
def tNext : TS := fun D σ H => D.nx σ H
def tSeq (t u : TS) : TS := fun D σ H => t { D with nx := u D } σ H
theorem pss_nil : PSs X [] tNext := fun _ _ σ H _ I h => wpAny_execs_nil ⟨σ, H, I, h⟩
theorem pss_cons (h1 : PS X st t) (h2 : PSs X rest u) : PSs X (st :: rest) (tSeq t u) := by
  intro pins s σ H D I h
  refine wpAny_execs_cons (thn (h1 pins s σ H { D with nx := u D } I h) fun f s1 q => ?_)
  cases f with
  | next =>
    obtain ⟨σ', H', I', q⟩ := q
    exact h2 pins s1 σ' H' D I' q
  | ret v => exact q
  | brk => exact q
  | cont => exact q
theorem pss_one (h1 : PS X st t) : PSs X [st] t := by
  intro pins s σ H D I h
  refine wpAny_execs_cons (thn (h1 pins s σ H D I h) fun f s1 q => ?_)
  cases f with
  | next => exact wpAny_execs_nil q
  | ret v => exact q
  | brk => exact q
  | cont => exact q
def tBreak : TS := fun D σ H => D.bk σ H
def tCont : TS := fun D σ H => D.ct σ H
/-- in a def's body nothing is shown -/
theorem Inv.quiet {pins : List (Addr × Obj)} {σ : St} {H : Hp} {s : Shared} (I : Inv X pins σ H s) : interactive X.env = false := by simp [interactive, I.ok.kind]
/-- an expression whose value is dropped -/
def tDrop (te : TE) : TS := fun D σ H => te σ H fun _ H1 => D.nx σ H1
theorem ps_expr (he : PE X e te) (hs : swapsWith e none pos.line X.env = pure false := by rfl) : PS X (.Expr e pos) (tDrop te) := by
  intro pins s σ H D I h
  exact wpAny_Expr_any (thn (he pins s σ H _ I h) fun v s1 ⟨x, H1, I1, r1, q1⟩ => ⟨σ, H1, I1, q1⟩) I.quiet hs
def tRet (te : TE) : TS := fun D σ H => te σ H D.rt
theorem ps_ret (he : PE X e te) : PS X (.Return (some e) pos) (tRet te) := by
  intro pins s σ H D I h
  exact wpAny_Return_some (thn (he pins s σ H _ I h) fun v s1 ⟨x, H1, I1, r1, q1⟩ => ⟨x, σ, H1, I1, r1, q1⟩)
def tRetN : TS := fun D _ H => D.rt .non H
def tIfS (c : TT) (t u : TS) : TS := fun D σ H => c σ H fun b H1 => if b = true then t D σ H1 else u D σ H1
theorem ps_if {c : Expr} {a b : List Stmt} {tc : TT} (hc : PT X c tc) (ha : PSs X a t) (hb : PSs X b u) : PS X (.If c a b pos) (tIfS tc t u) := by
  intro pins s σ H D I h
  refine wpAny_If (thn (hc pins s σ H _ I h) fun d s1 ⟨H1, I1, q1⟩ => ?_)
  cases d with
  | true => exact ha pins s1 σ H1 D I1 q1
  | false => exact hb pins s1 σ H1 D I1 q1
/-- code that the proof never comes to -/
def tNever : TS := fun _ _ _ => False
theorem ps_never : PS X st tNever := fun _ _ _ _ _ _ h => h.elim
end

/-! ### targets -/
abbrev TG := V → St → Hp → (St → Hp → Prop) → Prop
abbrev TGs := List V → St → Hp → (St → Hp → Prop) → Prop
def PG (X : Cx) (target : Expr) (t : TG) : Prop :=
  ∀ (pins : List (Addr × Obj)) (s : Shared) (σ : St) (H : Hp) (v : V) (u : Value) (Q : St → Hp → Prop), Inv X pins σ H s → RelV v u → t v σ H Q →
    wpAny (model X.prog X.w) X.A (assign target X.env u) (fun _ s' => ∃ σ' H', Inv X pins σ' H' s' ∧ Q σ' H') X.xe s
/-- several targets, one after another -/
def PGs (X : Cx) (ts : List Expr) (t : TGs) : Prop :=
  ∀ (pins : List (Addr × Obj)) (s : Shared) (σ : St) (H : Hp) (vs : List V) (us : List Value) (Q : St → Hp → Prop), Inv X pins σ H s → Vals vs us → t vs σ H Q →
    wpAny (model X.prog X.w) X.A (assignInOrder ((assignEach ts X.env).map (·.2)) us) (fun _ s' => ∃ σ' H', Inv X pins σ' H' s' ∧ Q σ' H') X.xe s
/-- o[i] = v, by values -/
abbrev TSet := V → V → V → Hp → (Hp → Prop) → Prop
def PSet (X : Cx) (t : TSet) : Prop :=
  ∀ (pins : List (Addr × Obj)) (s : Shared) (σ : St) (H : Hp) (o i v : V) (ov iv u : Value) (Q : Hp → Prop), Inv X pins σ H s → RelV o ov → RelV i iv → RelV v u → t o i v H Q →
    wpAny (model X.prog X.w) X.A (setItem ov iv u) (fun _ s' => ∃ H', Inv X pins σ H' s' ∧ Q H') X.xe s
/-- a op= b, by values -/
abbrev TIp := V → V → Hp → VK → Prop
def PIp (X : Cx) (op : Operator) (t : TIp) : Prop :=
  ∀ (pins : List (Addr × Obj)) (s : Shared) (σ : St) (H : Hp) (x y : V) (v u : Value) (Q : VK), Inv X pins σ H s → RelV x v → RelV y u → t x y H Q →
    wpAny (model X.prog X.w) X.A (inplaceOp op v u) (EP X pins σ Q) X.xe s
section
variable {X : Cx} {pos : Pos}
def gName (i : Nat) : TG := fun v σ H Q => Q (σ.set i (some v)) H
theorem pg_name {i : Nat} {x : Str} (hN : X.N.Nodup) (hi : X.N[i]? = some x) (hx : Loc X.env.scope x) (hf : X.fn x = true ∨ X.env.scope.names.lookup x = some .local := by first | exact .inl rfl | exact .inr rfl | assumption) : PG X (.Name x pos) (gName i) := by
  intro pins s σ H v u Q I r h
  exact wpAny_assign_Name (store_ok I hN hi hx r (fun s' I' => ⟨_, H, I', h⟩) hf)
def gNil : TGs := fun vs σ H Q => vs = [] ∧ Q σ H
def gCons (t : TG) (u : TGs) : TGs := fun vs σ H Q => ∃ v r, vs = v :: r ∧ t v σ H fun σ' H' => u r σ' H' Q
theorem pgs_nil : PGs X [] gNil := by
  intro pins s σ H vs us Q I r h
  obtain ⟨e, h⟩ := h
  subst e
  cases r
  exact assignInOrder_nil ⟨σ, H, I, h⟩
theorem pgs_cons {e : Expr} {es : List Expr} {t : TG} {u : TGs} (h1 : PG X e t) (h2 : PGs X es u)
    (hs : (assignEach (e :: es) X.env).map (·.2) = assign e X.env :: (assignEach es X.env).map (·.2) := by rfl) : PGs X (e :: es) (gCons t u) := by
  intro pins s σ H vs us Q I r h
  obtain ⟨v, vr, e1, h⟩ := h
  subst e1
  cases r with
  | cons r rr =>
    rw [hs]
    refine assignInOrder_cons (thn (h1 pins s σ H _ _ _ I r h) fun _ s1 ⟨σ1, H1, I1, q1⟩ => ?_)
    exact h2 pins s1 σ1 H1 _ _ Q I1 rr q1
/-- (a, b, ..) = a tuple of that length -/
def gTup (K : PySem.W.Frag) (n : Nat) (t : TGs) : TG := fun v σ H Q => ∃ a xs, v = .ref a ∧ SqT K H a xs ∧ xs.length = n ∧ t xs σ H Q
theorem pg_tup {es : List Expr} {k : Nat} {t : TGs} {n : Nat} (hc : X.calm = true) (h : PGs X es t)
    (hn : (assignEach es X.env).length = n := by rfl) (hst : (assignEach es X.env).findIdx? (·.1) = none := by rfl) : PG X (.Tuple es k pos) (gTup X.K n t) := by
  intro pins s σ H v u Q I r hw
  obtain ⟨a, xs, e1, hq, hl, hw⟩ := hw
  subst e1
  cases r
  obtain ⟨its, rv, ht, hz⟩ := I.tuple hq
  refine assign_Tuple_tuple (I.ok.hd hc) ht (by simp [hn, ← hl, rv.length]) hst fun h' hx => ?_
  have I1 : Inv X pins σ H { s with heap := h' } := I.kept (t' := s.toks) fun b o e => hx b o (Nat.ne_of_lt (Heap.lt_size e)) e
  exact h pins _ σ H xs _ Q I1 (by simpa using rv) hw
/-- o[i] = .. -/
def gSub (to ti : TE) (t : TSet) : TG := fun v σ H Q => to σ H fun o H1 => ti σ H1 fun i H2 => t o i v H2 fun H3 => Q σ H3
theorem pg_sub {o i : Expr} {to ti : TE} {t : TSet} (ho : PE X o to) (hi : PE X i ti) (hs : PSet X t)
    (ha : ∀ v, assign (.Subscript o i pos) X.env v = (do
      let ov ← holding [v] (eval o X.env)
      let iv ← holding [v, ov] (eval i X.env)
      standAt pos
      holding [v, ov, iv] (setItem ov iv v)
      release [v, ov, iv] []) := by intro _; rfl) : PG X (.Subscript o i pos) (gSub to ti t) := by
  intro pins s σ H v u Q I r h
  rw [ha]
  refine wpAny_bind (wpAny_holding (thn (ho pins s σ H _ I h) fun ov s1 ⟨x, H1, I1, r1, q1⟩ => ?_))
  refine wpAny_bind (wpAny_holding (thn (hi pins s1 σ H1 _ I1 q1) fun iv s2 ⟨y, H2, I2, r2, q2⟩ => ?_))
  refine wpAny_bind (wpAny_standAt (wpAny_bind (wpAny_holding (thn (hs pins s2 σ H2 x y v ov iv u _ I2 r1 r2 r q2) fun _ s3 ⟨H3, I3, q3⟩ => ?_))))
  exact wpAny_release ⟨σ, H3, I3, q3⟩
/-- target = value -/
def tAsg (te : TE) (g : TG) : TS := fun D σ H => te σ H fun x H1 => g x σ H1 D.nx
theorem ps_asg {tg e : Expr} {te : TE} {g : TG} (he : PE X e te) (hg : PG X tg g) (hs : swapsWithSole [tg] e pos.line X.env = pure false := by rfl) (hw : swappedStores [tg] e X.env = pure none := by rfl)
    (h1 : (assignEach [tg] X.env).map (·.2) = [assign tg X.env] := by rfl) : PS X (.Assign [tg] e pos) (tAsg te g) := by
  intro pins s σ H D I h
  refine wpAny_Assign_stores (thn (he pins s σ H _ I h) fun v s1 ⟨x, H1, I1, r1, q1⟩ => ?_) hs hw
  rw [h1]
  exact thn (hg pins s1 σ H1 x v _ I1 r1 q1) fun _ s2 q => q
/-- name = value -/
theorem ps_set {i : Nat} {x : Str} {e : Expr} {te : TE} {pos' : Pos} (hN : X.N.Nodup) (hi : X.N[i]? = some x) (hx : Loc X.env.scope x) (he : PE X e te) (hs : swapsWith e (some (.Name x pos')) pos.line X.env = pure false := by rfl) (hf : X.fn x = true ∨ X.env.scope.names.lookup x = some .local := by first | exact .inl rfl | exact .inr rfl | assumption) :
    PS X (.Assign [.Name x pos'] e pos) (tAsg te (gName i)) := by
  intro pins s σ H D I h
  refine wpAny_Assign_Name (thn (he pins s σ H _ I h) fun v s1 ⟨y, H1, I1, r1, q1⟩ => ?_) hs
  exact store_ok I1 hN hi hx r1 (fun s2 I2 => ⟨_, H1, I2, q1⟩) hf
/-- a, b = x, y with plain local names: stored from the right; the pair itself is not tracked (the opening rows as in PyProof/Rows/TupAssign.lean:23) -/
def tPar (i j : Nat) (ta : TA) : TS := fun D σ H => ta σ H fun vs H1 => ∃ v w, vs = [v, w] ∧ D.nx ((σ.set i (some v)).set j (some w)) H1
/-- name op= e -/
def tAug (i : Nat) (te : TE) (ti : TIp) : TS := fun D σ H => ∃ x, σ[i]? = some (some x) ∧ te σ H fun y H1 => ti x y H1 fun z H2 => D.nx (σ.set i (some z)) H2
theorem ps_aug {i : Nat} {x : Str} {e : Expr} {te : TE} {op : Operator} {ti : TIp} {pos' : Pos} (hN : X.N.Nodup) (hi : X.N[i]? = some x) (hx : Loc X.env.scope x) (he : PE X e te) (ho : PIp X op ti) (hf : X.fn x = true ∨ X.env.scope.names.lookup x = some .local := by first | exact .inl rfl | exact .inr rfl | assumption) :
    PS X (.AugAssign (.Name x pos') op e pos) (tAug i te ti) := by
  intro pins s σ H D I h
  obtain ⟨v, e1, h⟩ := h
  obtain ⟨m, hn, hl⟩ := I.loc
  have vis : Vis X.env.scope x := by rcases hx with k | k; exact .inl k; exact .inr (.inl k)
  obtain ⟨u, r, l⟩ := hl i x v hi e1 vis
  refine wpAny_AugAssign_Name ?_
  have go : wpAny (model X.prog X.w) X.A (eval e X.env) (fun w s₂ => wpAny (model X.prog X.w) X.A (inplaceOp op u w) (fun r s₃ => wpAny (model X.prog X.w) X.A (storeName X.env x r) (fun _ => SP X pins D .next) X.xe s₃) X.xe s₂) X.xe s := by
    refine thn (he pins s σ H _ I h) fun w s1 ⟨y, H1, I1, r1, q1⟩ => ?_
    refine thn (ho pins s1 σ H1 v y u w _ I1 r r1 q1) fun z s2 ⟨zv, H2, I2, r2, q2⟩ => ?_
    exact store_ok I2 hN hi hx r2 (fun s3 I3 => ⟨_, H2, I3, q2⟩) hf
  rcases l with ⟨hk, hm⟩ | ⟨hk, c, hc, hcell⟩
  · exact wpAny_loadName_local I.ok.kind hk hn hm go
  · rcases hk with hk | hk
    · exact wpAny_loadName_cell I.ok.kind hk hc hcell go
    · rcases hx with k | k
      · have : X.env.scope.names.lookup x = some .free := hk
        rw [k] at this; cases this
      · have : X.env.scope.names.lookup x = some .free := hk
        rw [k] at this; cases this
/-- o[i] op= e -/
def tAugS (to ti te : TE) (tget : V → V → Hp → VK → Prop) (tip : TIp) (tset : TSet) : TS := fun D σ H => to σ H fun o H1 => ti σ H1 fun i H2 => tget o i H2 fun x H3 => te σ H3 fun y H4 => tip x y H4 fun z H5 => tset o i z H5 fun H6 => D.nx σ H6
/-- o[i], by values -/
def PGet (X : Cx) (t : V → V → Hp → VK → Prop) : Prop :=
  ∀ (pins : List (Addr × Obj)) (s : Shared) (σ : St) (H : Hp) (o i : V) (ov iv : Value) (Q : VK), Inv X pins σ H s → RelV o ov → RelV i iv → t o i H Q →
    wpAny (model X.prog X.w) X.A (getItem ov iv) (EP X pins σ Q) X.xe s
/-- ints -/
def ipI (f : Int → Int → Int) : TIp := fun x y H Q => ∃ i j, x = .int i ∧ y = .int j ∧ Q (.int (f i j)) H
theorem ip_add : PIp X .Add (ipI fun i j => i + j) := by
  intro pins s σ H x y v u Q I r1 r2 h
  obtain ⟨i, j, e1, e2, q⟩ := h
  subst e1; subst e2
  obtain ⟨t, rfl⟩ := r1
  obtain ⟨t', rfl⟩ := r2
  exact iadd_int ⟨.int _, H, I.tok _, ⟨_, rfl⟩, q⟩
end

/-! ### while -/
section
variable {X : Cx} {pos : Pos}
/-- the invariant W with its measure -/
def tWhile (c : TT) (tb : TS) : TS := fun D σ H => ∃ W : Nat → St → Hp → Prop, (∃ m, W m σ H) ∧ ∀ m σ H, W m σ H →
  c σ H fun b H1 => if b = true then ∃ N : St → Hp → Prop, (∀ σ' H', N σ' H' → ∃ m', m' < m ∧ W m' σ' H') ∧ tb { D with nx := N, ct := N, bk := D.nx } σ H1 else D.nx σ H1
theorem ps_while {c : Expr} {body : List Stmt} {tc : TT} {tb : TS} (hp : PassesOwn (model X.prog X.w) X.A X.env X.xe) (hc : PT X c tc) (hb : PSs X body tb) : PS X (.While c body [] pos) (tWhile tc tb) := by
  intro pins s σ H D I h
  obtain ⟨W, ⟨m0, w0⟩, turn⟩ := h
  refine wpAny_While (codeAny_whileLoop (fun n s' => ∃ σ' H', Inv X pins σ' H' s' ∧ W n σ' H') ?_ m0 ⟨σ, H, I, w0⟩)
  rintro n s1 ⟨σ1, H1, I1, w1⟩
  refine wpAny_passesOwn hp (thn (hc pins s1 σ1 H1 _ I1 (turn n σ1 H1 w1)) fun b s2 ⟨H2, I2, q2⟩ => ?_)
  cases b with
  | true =>
    obtain ⟨N, hN, q2⟩ := q2
    rw [if_pos rfl]
    refine wpAny_passesOwn hp (thn (hb pins s2 σ1 H2 _ I2 q2) fun f s3 q3 => ?_)
    cases f with
    | next =>
      obtain ⟨σ3, H3, I3, n3⟩ := q3
      obtain ⟨m', hm, w3⟩ := hN σ3 H3 n3
      exact ⟨m', hm, σ3, H3, I3, w3⟩
    | cont =>
      obtain ⟨σ3, H3, I3, n3⟩ := q3
      obtain ⟨m', hm, w3⟩ := hN σ3 H3 n3
      exact ⟨m', hm, σ3, H3, I3, w3⟩
    | brk => exact q3
    | ret v => exact q3
  | false =>
    rw [if_neg Bool.false_ne_true]
    exact wpAny_execs_nil ⟨σ1, H2, I2, q2⟩
end

/-! ### what a loop or a comprehension walks -/
/-- at turn i: it yields x (the heap may grow), or it stops -/
structure It where
  go : Nat → Hp → Prop
  yld : Nat → Hp → V → Hp → Prop
  stop : Nat → Hp → Prop
/-- the iterator's own objects may turn: they are not the frame's, not pinned, younger than the entry (or a comprehension's own) -/
def FpOk (X : Cx) (pins : List (Addr × Obj)) (H : Hp) (b : Addr) : Prop :=
  H b = none ∧ b ≠ X.env.locals ∧ b ∉ X.fs ∧ (b ∈ X.ex ∨ X.s₀.heap.objs.size ≤ b) ∧ (∀ x c, X.env.cells.lookup x = some c → c ≠ b) ∧ ∀ p ∈ X.pn ++ pins, p.1 ≠ b
theorem Inv.fpOk {X : Cx} {pins : List (Addr × Obj)} {σ : St} {H H' : Hp} {s : Shared} {b : Addr} (I : Inv X pins σ H s) (hb : s.heap.objs.size ≤ b) (hn : H' b = none) : FpOk X pins H' b := by
  refine ⟨hn, Nat.ne_of_gt (Nat.lt_of_lt_of_le I.lt hb), I.nofs hb, .inr (Nat.le_trans I.sz hb), fun x c e z => ?_, fun p hp z => ?_⟩
  · obtain ⟨v, q⟩ := I.cell x c e
    exact absurd (Nat.lt_of_lt_of_le q.lt (by rw [z]; exact hb)) (Nat.lt_irrefl _)
  · exact absurd (Nat.lt_of_lt_of_le (Heap.lt_size (I.pin p hp).1) (by rw [z]; exact hb)) (Nat.lt_irrefl _)
structure Turn (P : Program) (w : World) (K : PySem.W.Frag) (tg : Expr) (J : It) (fp : List Addr) (it : Addr) (tn : Nat → Heap → Prop) : Prop where
  mem : it ∈ fp
  obj : ∀ i h, tn i h → ∀ b ∈ fp, ∃ o, h.get? b = some o ∧ ∀ v, o.data ≠ .cell v
  keep : ∀ i h h', tn i h → (∀ b ∈ fp, ∀ o, h.get? b = some o → h'.get? b = some o) → tn i h'
  item : ∀ (X : Cx), X.prog = P → X.w = w → X.K = K → X.calm = true → ∀ (i : Nat) (pins : List (Addr × Obj)) (s : Shared) (σ : St) (H : Hp) (E : Value → Shared → Prop), Inv X pins σ H s → (∀ b ∈ fp, FpOk X pins H b) → tn i s.heap → J.go i H →
    wpAny (model P w) X.A (pyNext (.ref it)) (fun r s1 => ∃ u, r = some u ∧
      wpAny (model P w) X.A (letOwnedTupleGo tg (.ref it) u) (fun _ s2 => ∃ x H', Inv X pins σ H' s2 ∧ RelV x u ∧ J.yld i H x H' ∧ tn (i + 1) s2.heap ∧ ∀ b ∈ fp, H' b = none) E s1) E s
  done : ∀ (X : Cx), X.prog = P → X.w = w → X.K = K → X.calm = true → ∀ (i : Nat) (pins : List (Addr × Obj)) (s : Shared) (σ : St) (H : Hp) (E : Value → Shared → Prop), Inv X pins σ H s → (∀ b ∈ fp, FpOk X pins H b) → tn i s.heap → J.stop i H →
    wpAny (model P w) X.A (pyNext (.ref it)) (fun r s1 => r = none ∧ Inv X pins σ H s1) E s
  self : ∀ (A : Around) (i : Nat) (s : Shared) (Q : Value → Shared → Prop) (E : Value → Shared → Prop), tn i s.heap → Q (.ref it) s → wpAny (model P w) A (pyIter (.ref it)) Q E s
abbrev TI := St → Hp → (It → Hp → Prop) → Prop
/-- an iterator has come -/
def PIE (X : Cx) (pins : List (Addr × Obj)) (σ : St) (tg : Expr) (R : It → Hp → Prop) (itv : Value) (s2 : Shared) : Prop :=
  ∃ (it : Addr) (fp : List Addr) (tn : Nat → Heap → Prop) (J : It) (H' : Hp), itv = .ref it ∧ Inv X pins σ H' s2 ∧ Turn X.prog X.w X.K tg J fp it tn ∧ tn 0 s2.heap ∧ (∀ b ∈ fp, FpOk X pins H' b) ∧ R J H'
def PI (X : Cx) (tg iter : Expr) (wi : TI) : Prop :=
  ∀ (pins : List (Addr × Obj)) (s : Shared) (σ : St) (H : Hp) (R : It → Hp → Prop), Inv X pins σ H s → wi σ H R →
    wpAny (model X.prog X.w) X.A (eval iter X.env) (fun v s1 => wpAny (model X.prog X.w) X.A (pyIter v) (PIE X pins σ tg R) X.xe s1) X.xe s

/-- the step ahead of the store is nothing for an iterator that keeps no tuple -/
theorem go_of {M : Model} {A : Around} {E : Value → Shared → Prop} {s : Shared} {tg : Expr} {it : Addr} {u : Value} {o : Obj} {n : String} {vs : Array Value} {Q : Unit → Shared → Prop} (ho : s.heap.get? it = some o) (hc : o.cls = .type n) (hd : o.data = .fields vs)
    (hn : ["enumerate", "zip", "dict_itemiterator", "dict_reverseitemiterator", "odict_iterator", "itertools.zip_longest", "itertools.pairwise"].contains n = false) (hQ : Q () s) : wpAny M A (letOwnedTupleGo tg (.ref it) u) Q E s := by
  unfold letOwnedTupleGo
  cases tg <;> first
    | exact wpAny_pure hQ
    | (cases u <;> first
        | exact wpAny_pure hQ
        | (refine wpAny_bind (wpAny_load ho ?_)
           rw [hc, hd]
           show wpAny M A (if (["enumerate", "zip", "dict_itemiterator", "dict_reverseitemiterator", "odict_iterator", "itertools.zip_longest", "itertools.pairwise"].contains n && vs[0]? == some (rawInt _)) = true then _ else _) Q E s
           rw [if_neg (by intro h; rw [hn, Bool.false_and] at h; cases h)]
           exact wpAny_pure hQ))

/-- the list at a, as it stands at each turn (a loop may append to it) -/
def Itl (K : PySem.W.Frag) (a : Addr) : It :=
  ⟨fun i H => ∃ xs x, SqL K H a xs ∧ xs[i]? = some x, fun i H x H' => H' = H ∧ ∀ xs, SqL K H a xs → xs[i]? = some x, fun i H => ∃ xs, SqL K H a xs ∧ xs.length ≤ i⟩
def Itt (K : PySem.W.Frag) (a : Addr) : It :=
  ⟨fun i H => ∃ xs x, SqT K H a xs ∧ xs[i]? = some x, fun i H x H' => H' = H ∧ ∀ xs, SqT K H a xs → xs[i]? = some x, fun i H => ∃ xs, SqT K H a xs ∧ xs.length ≤ i⟩
/-- lo, lo + 1, .. (n of them) -/
def Itr (lo : Int) (n : Nat) : It := ⟨fun i _ => i < n, fun i H x H' => H' = H ∧ x = .int (lo + i), fun i _ => n ≤ i⟩
theorem turn_list {P : Program} {w : World} {K : PySem.W.Frag} {tg : Expr} (a it : Addr) : Turn P w K tg (Itl K a) [it] it (fun i h => h.IsListIter it a i) where
  mem := by simp
  obj := fun i h st b hb => by
    have e : b = it := by simpa using hb
    subst e
    obtain ⟨o, e, c, d⟩ := st
    exact ⟨o, e, fun v z => by rw [d] at z; cases z⟩
  keep := fun i h h' st k => st.at fun o e => k it (by simp) o e
  item := by
    intro X hP hw hK hc i pins s σ H E I hf st hg
    subst hP hw hK
    obtain ⟨xs, x, hq, hx⟩ := hg
    obtain ⟨its, rv, p, hz⟩ := I.list hq
    obtain ⟨u, hu, ru⟩ := rv.get hx
    obtain ⟨f0, f1, f2, f3, f4, f5⟩ := hf it (by simp)
    refine wpAny_pyNext_list_item st p.isList (x := u) (by simpa using hu) fun h' st' sb => ?_
    have I1 : Inv X pins σ H { s with heap := h' } := I.turned (t' := s.toks) (fun b o hb e => (sb.2 b hb).trans e) f0 f1 f3 f4 f5
    obtain ⟨o, e, c, d⟩ := id st'
    exact ⟨u, rfl, go_of (s := { s with heap := h' }) e c d (by decide) ⟨x, H, I1, ru, ⟨rfl, fun ys hy => by rw [I.list_inj hy hq]; exact hx⟩, st', fun b hb => (hf b hb).1⟩⟩
  done := by
    intro X hP hw hK hc i pins s σ H E I hf st hg
    subst hP hw hK
    obtain ⟨xs, hq, hx⟩ := hg
    obtain ⟨its, rv, p, hz⟩ := I.list hq
    obtain ⟨f0, f1, f2, f3, f4, f5⟩ := hf it (by simp)
    have hl := rv.length
    exact wpAny_pyNext_list_end (I.ok.hd hc) st p.isList (by simp; omega) fun h' eb => ⟨rfl, I.turned (t' := s.toks) (fun b o hb e => eb b o hb e) f0 f1 f3 f4 f5⟩
  self := fun _ _ _ _ _ st h => wpAny_pyIter_listiter st h
theorem turn_tuple {P : Program} {w : World} {K : PySem.W.Frag} {tg : Expr} (a it : Addr) : Turn P w K tg (Itt K a) [it] it (fun i h => h.IsTupleIter it a i) where
  mem := by simp
  obj := fun i h st b hb => by
    have e : b = it := by simpa using hb
    subst e
    obtain ⟨o, e, c, d⟩ := st
    exact ⟨o, e, fun v z => by rw [d] at z; cases z⟩
  keep := fun i h h' st k => st.at fun o e => k it (by simp) o e
  item := by
    intro X hP hw hK hc i pins s σ H E I hf st hg
    subst hP hw hK
    obtain ⟨xs, x, hq, hx⟩ := hg
    obtain ⟨its, rv, p, hz⟩ := I.tuple hq
    obtain ⟨u, hu, ru⟩ := rv.get hx
    obtain ⟨f0, f1, f2, f3, f4, f5⟩ := hf it (by simp)
    refine wpAny_pyNext_tuple_item st (show s.heap.IsTuple a its.toArray from p) (x := u) (by simpa using hu) fun h' st' sb => ?_
    have I1 : Inv X pins σ H { s with heap := h' } := I.turned (t' := s.toks) (fun b o hb e => (sb.2 b hb).trans e) f0 f1 f3 f4 f5
    obtain ⟨o, e, c, d⟩ := id st'
    exact ⟨u, rfl, go_of (s := { s with heap := h' }) e c d (by decide) ⟨x, H, I1, ru, ⟨rfl, fun ys hy => by rw [I.tuple_inj hy hq]; exact hx⟩, st', fun b hb => (hf b hb).1⟩⟩
  done := by
    intro X hP hw hK hc i pins s σ H E I hf st hg
    subst hP hw hK
    obtain ⟨xs, hq, hx⟩ := hg
    obtain ⟨its, rv, p, hz⟩ := I.tuple hq
    obtain ⟨f0, f1, f2, f3, f4, f5⟩ := hf it (by simp)
    have hl := rv.length
    exact wpAny_pyNext_tuple_end (I.ok.hd hc) st (show s.heap.IsTuple a its.toArray from p) (by simp; omega) fun h' eb => ⟨rfl, I.turned (t' := s.toks) (fun b o hb e => eb b o hb e) f0 f1 f3 f4 f5⟩
  self := fun _ _ _ _ _ st h => wpAny_pyIter_tupleiter st h
theorem turn_range {P : Program} {w : World} {K : PySem.W.Frag} {tg : Expr} (it : Addr) (lo : Int) (n : Nat) : Turn P w K tg (Itr lo n) [it] it (fun i h => IsRangeIter h it (lo + (i : Nat) * 1) ((n : Int) - (i : Nat)) 1) where
  mem := by simp
  obj := fun i h st b hb => by
    have e : b = it := by simpa using hb
    subst e
    exact ⟨_, st, fun v z => by
      have z' : Data.fields _ = Data.cell v := z
      cases z'⟩
  keep := fun i h h' st k => k it (by simp) _ st
  item := by
    intro X hP hw hK hc i pins s σ H E I hf st hg
    subst hP hw hK
    obtain ⟨f0, f1, f2, f3, f4, f5⟩ := hf it (by simp)
    have W := Walks.range (prog := X.prog) (w := X.w) (I.ok.hd hc) it lo 1 n
    refine W.item i s _ _ hg st fun v h' tk hv st' kk => ?_
    obtain ⟨t, rfl⟩ := hv
    have I1 : Inv X pins σ H { s with heap := h', toks := tk } := I.turned (fun b o hb e => kk b o (by simpa using hb) e) f0 f1 f3 f4 f5
    refine ⟨_, rfl, go_of (s := { s with heap := h', toks := tk }) (n := "range_iterator") st' rfl rfl (by decide) ⟨.int (lo + i), H, I1, ⟨t, ?_⟩, ⟨rfl, rfl⟩, st', fun b hb => (hf b hb).1⟩⟩
    rw [Int.mul_one]
  done := by
    intro X hP hw hK hc i pins s σ H E I hf st hg
    subst hP hw hK
    obtain ⟨f0, f1, f2, f3, f4, f5⟩ := hf it (by simp)
    exact wpAny_pyNext_range_end (I.ok.hd hc) st (by have : n ≤ i := hg; omega) fun h' eb => ⟨rfl, I.turned (t' := s.toks) (fun b o hb e => eb b o hb e) f0 f1 f3 f4 f5⟩
  self := fun _ _ _ _ _ st h => wpAny_pyIter_rangeiter st h
end L2

namespace L2
open PySem PySem.Spec PyProof.Rows
section
variable {X : Cx} {tg : Expr}
def iList (K : PySem.W.Frag) (tl : TE) : TI := fun σ H R => tl σ H fun x H1 => ∃ a, x = .ref a ∧ (∃ xs, SqL K H1 a xs) ∧ R (Itl K a) H1
def iTup (K : PySem.W.Frag) (tl : TE) : TI := fun σ H R => tl σ H fun x H1 => ∃ a, x = .ref a ∧ (∃ xs, SqT K H1 a xs) ∧ R (Itt K a) H1
theorem pi_list {l : Expr} {tl : TE} (hl : PE X l tl) : PI X tg l (iList X.K tl) := by
  intro pins s σ H R I h
  refine thn (hl pins s σ H _ I h) fun v s1 ⟨x, H1, I1, r1, q1⟩ => ?_
  obtain ⟨a, e, ⟨xs, hq⟩, q⟩ := q1
  subst e
  cases r1
  obtain ⟨its, rv, p, hz⟩ := I1.list hq
  refine wpAny_pyIter_list p.isList ?_
  refine ⟨s1.heap.objs.size, [s1.heap.objs.size], _, _, H1, rfl, I1.kept (t' := s1.toks) fun b o e => Heap.get?_push_of_some _ e, turn_list a _, ⟨_, Heap.get?_push_size _ rfl, rfl, rfl⟩, fun b hb => ?_, q⟩
  have e : b = s1.heap.objs.size := by simpa using hb
  subst e
  exact I1.fpOk (Nat.le_refl _) (I1.hok.fresh (Nat.le_refl _))
theorem pi_tup {l : Expr} {tl : TE} (hl : PE X l tl) : PI X tg l (iTup X.K tl) := by
  intro pins s σ H R I h
  refine thn (hl pins s σ H _ I h) fun v s1 ⟨x, H1, I1, r1, q1⟩ => ?_
  obtain ⟨a, e, ⟨xs, hq⟩, q⟩ := q1
  subst e
  cases r1
  obtain ⟨its, rv, p, hz⟩ := I1.tuple hq
  refine wpAny_pyIter_tuple (show s1.heap.IsTuple a its.toArray from p) ?_
  refine ⟨s1.heap.objs.size, [s1.heap.objs.size], _, _, H1, rfl, I1.kept (t' := s1.toks) fun b o e => Heap.get?_push_of_some _ e, turn_tuple a _, ⟨_, Heap.get?_push_size _ rfl, rfl, rfl⟩, fun b hb => ?_, q⟩
  have e : b = s1.heap.objs.size := by simpa using hb
  subst e
  exact I1.fpOk (Nat.le_refl _) (I1.hok.fresh (Nat.le_refl _))
/-- a range object just made, walked -/
theorem range_it {pins : List (Addr × Obj)} {σ : St} {H : Hp} {s : Shared} {R : It → Hp → Prop} {E : Value → Shared → Prop} {lo hi : Int} {t u v : Tok} {tk : Nat} (I : Inv X pins σ H s) (h1 : -(2 ^ 62) ≤ lo) (h2 : lo < 2 ^ 62) (h3 : -(2 ^ 62) ≤ hi) (h4 : hi < 2 ^ 62)
    (q : R (Itr lo (hi - lo).toNat) H) : wpAny (model X.prog X.w) X.A (pyIter (.ref s.heap.objs.size)) (PIE X pins σ tg R) E { s with heap := s.heap.push { cls := .type "range", data := .fields #[.int lo t, .int hi u, .int 1 v] }, toks := tk } := by
  refine wpAny_pyIter_range (IsRange.new ..) (small_one h1 h2 h3 h4) ?_
  have I1 : Inv X pins σ H { s with heap := s.heap.push { cls := .type "range", data := .fields #[.int lo t, .int hi u, .int 1 v] }, toks := tk } := I.kept fun b o e => Heap.get?_push_of_some _ e
  refine ⟨(s.heap.push { cls := .type "range", data := .fields #[.int lo t, .int hi u, .int 1 v] }).objs.size, [(s.heap.push { cls := .type "range", data := .fields #[.int lo t, .int hi u, .int 1 v] }).objs.size], _, _, H, rfl,
    I1.kept (t' := tk) fun b o e => Heap.get?_push_of_some _ e, turn_range _ lo (hi - lo).toNat, ?_, fun b hb => ?_, q⟩
  · have e1 : lo + ((0 : Nat) : Int) * 1 = lo := by simp
    have e2 : (((hi - lo).toNat : Nat) : Int) - ((0 : Nat) : Int) = Builtin.Range.rangeSize lo hi 1 := by rw [rangeSize_one]; split <;> omega
    show IsRangeIter _ _ (lo + ((0 : Nat) : Int) * 1) ((((hi - lo).toNat : Nat) : Int) - ((0 : Nat) : Int)) 1
    rw [e1, e2]
    exact Heap.get?_push_size _ rfl
  · have e : b = (s.heap.push { cls := .type "range", data := .fields #[.int lo t, .int hi u, .int 1 v] }).objs.size := by simpa using hb
    subst e
    exact I1.fpOk (Nat.le_refl _) (I1.hok.fresh (Nat.le_refl _))
def iRng1 (ta : TA) : TI := fun σ H R => ta σ H fun vs H1 => ∃ j : Int, vs = [.int j] ∧ -(2 ^ 62) ≤ j ∧ j < 2 ^ 62 ∧ R (Itr 0 j.toNat) H1
def iRng2 (ta : TA) : TI := fun σ H R => ta σ H fun vs H1 => ∃ i j : Int, vs = [.int i, .int j] ∧ (-(2 ^ 62) ≤ i ∧ i < 2 ^ 62 ∧ -(2 ^ 62) ≤ j ∧ j < 2 ^ 62) ∧ R (Itr i (j - i).toNat) H1
theorem pi_range1 {a : Expr} {ta : TA} {p pos : Pos} (hg : Gl X "range") (hm : X.mg "range" = none) (ha : PA X [a] ta) (hs : starEach [a] X.env = [(false, eval a X.env)] := by rfl) : PI X tg (.Call (.Name "range" p) [a] [] pos) (iRng1 ta) := by
  intro pins s σ H R I h
  refine Call_ (ld_blt I hg hm boot_range (PyProof.Rows.callWith_type1 (thn (ha pos pins s σ H _ I h) fun us s1 ⟨vs, H1, I1, r1, q1⟩ => ?_) hs rfl))
  obtain ⟨j, e, q1, q2, q⟩ := q1
  subst e
  cases r1 with
  | cons r rr =>
    cases rr
    obtain ⟨t, rfl⟩ := r
    exact call_range_1 (range_it I1 (by omega) (by omega) q1 q2 (by simpa using q))
/-! ### for -/
/-- W: the invariant by the turn and a measure; N: what the body is to reach -/
def tFor (wi : TI) (g : TG) (tb : TS) : TS := fun D σ H => wi σ H fun J H1 => ∃ W : Nat → Nat → St → Hp → Prop, (∃ m, W 0 m σ H1) ∧ ∀ i m σ H, W i m σ H →
  (J.stop i H ∧ D.nx σ H) ∨ (J.go i H ∧ ∃ N : St → Hp → Prop, (∀ σ' H', N σ' H' → ∃ m', m' < m ∧ W (i + 1) m' σ' H') ∧ ∀ x H', J.yld i H x H' → g x σ H' fun σ2 H2 => tb { D with nx := N, ct := N, bk := D.nx } σ2 H2)
/-- the records at fp as they stand -/
def pinsAt (fp : List Addr) (h : Heap) : List (Addr × Obj) := fp.filterMap fun b => (h.get? b).map fun o => (b, o)
theorem mem_pinsAt {fp : List Addr} {h : Heap} {b : Addr} {o : Obj} (hb : b ∈ fp) (e : h.get? b = some o) : (b, o) ∈ pinsAt fp h := List.mem_filterMap.mpr ⟨b, hb, by rw [e]; rfl⟩
theorem of_pinsAt {fp : List Addr} {h : Heap} {p : Addr × Obj} (hp : p ∈ pinsAt fp h) : p.1 ∈ fp ∧ h.get? p.1 = some p.2 := by
  obtain ⟨b, hb, e⟩ := List.mem_filterMap.mp hp
  cases q : h.get? b with
  | none => rw [q] at e; cases e
  | some o =>
    rw [q] at e
    have e' : (b, o) = p := Option.some.inj e
    subst e'
    exact ⟨hb, q⟩
theorem Inv.pinned {pins : List (Addr × Obj)} {σ : St} {H : Hp} {s : Shared} {fp : List Addr} (I : Inv X pins σ H s) (hf : ∀ b ∈ fp, FpOk X pins H b) (ho : ∀ b ∈ fp, ∃ o, s.heap.get? b = some o ∧ ∀ v, o.data ≠ .cell v) : Inv X (pins ++ pinsAt fp s.heap) σ H s :=
  I.pins_of fun p hp => (List.mem_append.mp hp).elim (fun z => I.pin p (List.mem_append_right _ z)) fun z => by
    obtain ⟨hb, e⟩ := of_pinsAt z
    obtain ⟨f0, f1, f2, _⟩ := hf p.1 hb
    obtain ⟨o, e', d⟩ := ho p.1 hb
    rw [e] at e'; cases e'
    exact ⟨e, f0, f1, f2, d⟩
theorem Inv.unpinned {pins pl : List (Addr × Obj)} {σ : St} {H : Hp} {s : Shared} (I : Inv X (pins ++ pl) σ H s) : Inv X pins σ H s := I.pins_of fun p hp => I.pin p (List.mem_append_right _ (List.mem_append_left _ hp))
theorem ps_for {iter : Expr} {body : List Stmt} {wi : TI} {g : TG} {tb : TS} {pos : Pos} (hp : PassesOwn (model X.prog X.w) X.A X.env X.xe) (hc : X.calm = true) (hi : PI X tg iter wi) (hg : PG X tg g) (hb : PSs X body tb)
    (hs : ∀ x, foldedSetIterable iter X.env x = pure x := by intro _; rfl) : PS X (.For tg iter body [] pos) (tFor wi g tb) := by
  intro pins s σ H D I h
  refine wpAny_For (thn (hi pins s σ H _ I h) fun v s1 h1 => thn h1 fun itv s2 h2 => ?_) hs
  obtain ⟨it, fp, tn, J, H2, e, I2, T, st2, f2, W, ⟨m0, w0⟩, turn⟩ := h2
  subst e
  -- what stays true of the iterator's objects through the loop
  have stat : ∀ {H' : Hp}, (∀ b ∈ fp, H' b = none) → ∀ b ∈ fp, FpOk X pins H' b := fun hn b hb => ⟨hn b hb, (f2 b hb).2⟩
  refine codeAny_forLoop_any (fun n s' => ∃ i σ' H', Inv X pins σ' H' s' ∧ tn i s'.heap ∧ (∀ b ∈ fp, H' b = none) ∧ W i n σ' H') ?_ m0 ⟨0, σ, H2, I2, st2, fun b hb => (f2 b hb).1, w0⟩
  rintro n s3 ⟨i, σ3, H3, I3, st3, fr3, w3⟩
  rcases turn i n σ3 H3 w3 with ⟨stop, qn⟩ | ⟨go, N, hN, step⟩
  · refine wpAny_passesOwn hp (thn (T.done X rfl rfl rfl hc i pins s3 σ3 H3 X.xe I3 (stat fr3) st3 stop) fun r s4 ⟨hr, I4⟩ => ?_)
    subst hr
    exact wpAny_execs_nil ⟨σ3, H3, I4, qn⟩
  · refine wpAny_passesOwn hp (thn (T.item X rfl rfl rfl hc i pins s3 σ3 H3 X.xe I3 (stat fr3) st3 go) fun r s4 ⟨u, hr, h4⟩ => ?_)
    subst hr
    refine wpAny_passesOwn hp (thn h4 fun _ s5 ⟨x, H5, I5, r5, y5, st5, fr5⟩ => ?_)
    have I5' := I5.pinned (stat fr5) (T.obj _ _ st5)
    refine wpAny_passesOwn hp (thn (hg _ s5 σ3 H5 x u _ I5' r5 (step x H5 y5)) fun _ s6 ⟨σ6, H6, I6, q6⟩ => ?_)
    refine wpAny_passesOwn hp (thn (hb _ s6 σ6 H6 _ I6 q6) fun f s7 q7 => ?_)
    have again : ∀ {σ7 : St} {H7 : Hp}, Inv X (pins ++ pinsAt fp s5.heap) σ7 H7 s7 → N σ7 H7 → ∃ m, m < n ∧ ∃ i σ' H', Inv X pins σ' H' s7 ∧ tn i s7.heap ∧ (∀ b ∈ fp, H' b = none) ∧ W i m σ' H' := fun {σ7 H7} I7 n7 => by
      obtain ⟨m', hm, w7⟩ := hN σ7 H7 n7
      refine ⟨m', hm, i + 1, σ7, H7, I7.unpinned, T.keep _ _ _ st5 fun b hb o e => (I7.pin (b, o) (List.mem_append_right _ (List.mem_append_right _ (mem_pinsAt hb e)))).1, fun b hb => ?_, w7⟩
      obtain ⟨o, e, d⟩ := T.obj _ _ st5 b hb
      exact (I7.pin (b, o) (List.mem_append_right _ (List.mem_append_right _ (mem_pinsAt hb e)))).2.1
    cases f with
    | next => obtain ⟨σ7, H7, I7, n7⟩ := q7; exact again I7 n7
    | cont => obtain ⟨σ7, H7, I7, n7⟩ := q7; exact again I7 n7
    | brk => obtain ⟨σ7, H7, I7, q7⟩ := q7; exact ⟨σ7, H7, I7.unpinned, q7⟩
    | ret v => obtain ⟨x7, σ7, H7, I7, r7, q7⟩ := q7; exact ⟨x7, σ7, H7, I7.unpinned, r7, q7⟩
end

/-! ### the forms one uses -/
/-- over a list that the body leaves as it is -/
theorem for_list {K : PySem.W.Frag} {a : Addr} {xs : List V} {g : TG} {tb : TS} {D : Ends} {σ : St} {H : Hp} (Pv : Nat → St → Hp → Prop) (h0 : Pv 0 σ H) (hl : ∀ i σ H, i ≤ xs.length → Pv i σ H → SqL K H a xs)
    (hs : ∀ i x σ H, xs[i]? = some x → Pv i σ H → g x σ H fun σ2 H2 => tb { D with nx := Pv (i + 1), ct := Pv (i + 1), bk := D.nx } σ2 H2) (hd : ∀ σ H, Pv xs.length σ H → D.nx σ H) :
    ∃ W : Nat → Nat → St → Hp → Prop, (∃ m, W 0 m σ H) ∧ ∀ i m σ H, W i m σ H →
      ((Itl K a).stop i H ∧ D.nx σ H) ∨ ((Itl K a).go i H ∧ ∃ N : St → Hp → Prop, (∀ σ' H', N σ' H' → ∃ m', m' < m ∧ W (i + 1) m' σ' H') ∧ ∀ x H', (Itl K a).yld i H x H' → g x σ H' fun σ2 H2 => tb { D with nx := N, ct := N, bk := D.nx } σ2 H2) := by
  refine ⟨fun i m σ H => m = xs.length - i ∧ i ≤ xs.length ∧ Pv i σ H, ⟨xs.length, by simp, Nat.zero_le _, h0⟩, ?_⟩
  rintro i m σ H ⟨rfl, hi, p⟩
  have q := hl i σ H hi p
  by_cases hlt : i < xs.length
  · refine .inr ⟨⟨xs, xs[i], q, by simp [hlt]⟩, Pv (i + 1), fun σ' H' p' => ⟨xs.length - (i + 1), by omega, rfl, hlt, p'⟩, fun x H' y => ?_⟩
    obtain ⟨e, y⟩ := y
    subst e
    exact hs i x σ _ (y xs q) p
  · have e : i = xs.length := by omega
    subst e
    exact .inl ⟨⟨xs, q, Nat.le_refl _⟩, hd σ H p⟩
theorem for_tup {K : PySem.W.Frag} {a : Addr} {xs : List V} {g : TG} {tb : TS} {D : Ends} {σ : St} {H : Hp} (Pv : Nat → St → Hp → Prop) (h0 : Pv 0 σ H) (hl : ∀ i σ H, i ≤ xs.length → Pv i σ H → SqT K H a xs)
    (hs : ∀ i x σ H, xs[i]? = some x → Pv i σ H → g x σ H fun σ2 H2 => tb { D with nx := Pv (i + 1), ct := Pv (i + 1), bk := D.nx } σ2 H2) (hd : ∀ σ H, Pv xs.length σ H → D.nx σ H) :
    ∃ W : Nat → Nat → St → Hp → Prop, (∃ m, W 0 m σ H) ∧ ∀ i m σ H, W i m σ H →
      ((Itt K a).stop i H ∧ D.nx σ H) ∨ ((Itt K a).go i H ∧ ∃ N : St → Hp → Prop, (∀ σ' H', N σ' H' → ∃ m', m' < m ∧ W (i + 1) m' σ' H') ∧ ∀ x H', (Itt K a).yld i H x H' → g x σ H' fun σ2 H2 => tb { D with nx := N, ct := N, bk := D.nx } σ2 H2) := by
  refine ⟨fun i m σ H => m = xs.length - i ∧ i ≤ xs.length ∧ Pv i σ H, ⟨xs.length, by simp, Nat.zero_le _, h0⟩, ?_⟩
  rintro i m σ H ⟨rfl, hi, p⟩
  have q := hl i σ H hi p
  by_cases hlt : i < xs.length
  · refine .inr ⟨⟨xs, xs[i], q, by simp [hlt]⟩, Pv (i + 1), fun σ' H' p' => ⟨xs.length - (i + 1), by omega, rfl, hlt, p'⟩, fun x H' y => ?_⟩
    obtain ⟨e, y⟩ := y
    subst e
    exact hs i x σ _ (y xs q) p
  · have e : i = xs.length := by omega
    subst e
    exact .inl ⟨⟨xs, q, Nat.le_refl _⟩, hd σ H p⟩
theorem for_range {lo : Int} {n : Nat} {g : TG} {tb : TS} {D : Ends} {σ : St} {H : Hp} (Pv : Nat → St → Hp → Prop) (h0 : Pv 0 σ H)
    (hs : ∀ i σ H, i < n → Pv i σ H → g (.int (lo + i)) σ H fun σ2 H2 => tb { D with nx := Pv (i + 1), ct := Pv (i + 1), bk := D.nx } σ2 H2) (hd : ∀ σ H, Pv n σ H → D.nx σ H) :
    ∃ W : Nat → Nat → St → Hp → Prop, (∃ m, W 0 m σ H) ∧ ∀ i m σ H, W i m σ H →
      ((Itr lo n).stop i H ∧ D.nx σ H) ∨ ((Itr lo n).go i H ∧ ∃ N : St → Hp → Prop, (∀ σ' H', N σ' H' → ∃ m', m' < m ∧ W (i + 1) m' σ' H') ∧ ∀ x H', (Itr lo n).yld i H x H' → g x σ H' fun σ2 H2 => tb { D with nx := N, ct := N, bk := D.nx } σ2 H2) := by
  refine ⟨fun i m σ H => m = n - i ∧ i ≤ n ∧ Pv i σ H, ⟨n, by simp, Nat.zero_le _, h0⟩, ?_⟩
  rintro i m σ H ⟨rfl, hi, p⟩
  by_cases hlt : i < n
  · refine .inr ⟨hlt, Pv (i + 1), fun σ' H' p' => ⟨n - (i + 1), by omega, rfl, hlt, p'⟩, fun x H' y => ?_⟩
    obtain ⟨e, y⟩ := y
    subst e y
    exact hs i σ _ hlt p
  · have e : i = n := by omega
    subst e
    exact .inl ⟨Nat.le_refl _, hd σ H p⟩
end L2

namespace L2
open PySem PySem.Spec PyProof.Rows

abbrev R2 := V → V → Hp → VK → Prop
/-- a two-place operation on values: f is binaryOp op, inplaceOp op or compareOp op -/
def OpR (X : Cx) (f : Value → Value → Sem Value) (r : R2) : Prop :=
  ∀ (pins : List (Addr × Obj)) (s : Shared) (σ : St) (H : Hp) (x y : V) (v u : Value) (Q : VK), Inv X pins σ H s → RelV x v → RelV y u → r x y H Q →
    wpAny (model X.prog X.w) X.A (f v u) (EP X pins σ Q) X.xe s
/-- a one-place operation -/
def UnR (X : Cx) (f : Value → Sem Value) (r : V → Hp → VK → Prop) : Prop :=
  ∀ (pins : List (Addr × Obj)) (s : Shared) (σ : St) (H : Hp) (x : V) (v : Value) (Q : VK), Inv X pins σ H s → RelV x v → r x H Q →
    wpAny (model X.prog X.w) X.A (f v) (EP X pins σ Q) X.xe s
/-- a call of a value that is known (a builtin, a type) with values -/
def CallR (X : Cx) (f : Value) (r : List V → Hp → VK → Prop) : Prop :=
  ∀ (pins : List (Addr × Obj)) (s : Shared) (σ : St) (H : Hp) (xs : List V) (us : List Value) (Q : VK), Inv X pins σ H s → Vals xs us → r xs H Q →
    wpAny (model X.prog X.w) X.A (call f us) (EP X pins σ Q) X.xe s
/-- a value's truth -/
def TruR (X : Cx) (r : V → Hp → (Bool → Hp → Prop) → Prop) : Prop :=
  ∀ (pins : List (Addr × Obj)) (s : Shared) (σ : St) (H : Hp) (x : V) (v : Value) (Q : Bool → Hp → Prop), Inv X pins σ H s → RelV x v → r x H Q →
    wpAny (model X.prog X.w) X.A (truthy v) (TP X pins σ Q) X.xe s

def tOp (r : R2) (ta tb : TE) : TE := fun σ H Q => ta σ H fun x H1 => tb σ H1 fun y H2 => r x y H2 Q
def tUn (r : V → Hp → VK → Prop) (ta : TE) : TE := fun σ H Q => ta σ H fun x H1 => r x H1 Q
/-- ints in, under C, and a value out -/
def rI (C : Int → Int → Prop) (g : Int → Int → V) : R2 := fun x y H Q => ∃ i j, x = .int i ∧ y = .int j ∧ C i j ∧ Q (g i j) H
def rI0 (g : Int → Int → V) : R2 := fun x y H Q => ∃ i j, x = .int i ∧ y = .int j ∧ Q (g i j) H
def rU (g : Int → V) : V → Hp → VK → Prop := fun x H Q => ∃ i, x = .int i ∧ Q (g i) H

section
variable {X : Cx} {a b c : Expr} {ta tb tc : TE} {pos : Pos}

theorem binT (ha : PE X a ta) (hb : PE X b tb) {pins : List (Addr × Obj)} {s : Shared} {σ : St} {H : Hp} {R : V → V → Hp → Prop} (I : Inv X pins σ H s)
    (h : ta σ H fun x H1 => tb σ H1 fun y H2 => R x y H2) {Q : Value → Shared → Prop} {f : Value → Value → Sem Value}
    (hf : ∀ v u s2 x y H2, Inv X pins σ H2 s2 → RelV x v → RelV y u → R x y H2 → wpAny (model X.prog X.w) X.A (f v u) Q X.xe s2) :
    wpAny (model X.prog X.w) X.A (eval a X.env) (fun v s₁ => wpAny (model X.prog X.w) X.A (eval b X.env) (fun u s₂ => wpAny (model X.prog X.w) X.A (f v u) Q X.xe s₂) X.xe s₁) X.xe s := by
  refine thn (ha pins s σ H _ I h) fun v s1 ⟨x, H1, I1, r1, q1⟩ => ?_
  refine thn (hb pins s1 σ H1 _ I1 q1) fun u s2 ⟨y, H2, I2, r2, q2⟩ => ?_
  exact hf v u s2 x y H2 I2 r1 r2 q2

theorem pe_op {op : Operator} {r : R2} (ho : OpR X (binaryOp op) r) (ha : PE X a ta) (hb : PE X b tb) : PE X (.BinOp a op b pos) (tOp r ta tb) := by
  intro pins s σ H Q I h
  exact wpAny_BinOp (binT ha hb I h fun v u s2 x y H2 I2 rx ry q => ho pins s2 σ H2 x y v u Q I2 rx ry q)
/-! ### ints -/
theorem opI {f : Value → Value → Sem Value} {C : Int → Int → Prop} {g : Int → Int → Int}
    (rule : ∀ (i j : Int) (t u : Tok) (s : Shared) (Q : Value → Shared → Prop) (E : Value → Shared → Prop), C i j → Q (.int (g i j) s.toks) { s with toks := s.toks + 1 } → wpAny (model X.prog X.w) X.A (f (.int i t) (.int j u)) Q E s) :
    OpR X f (rI C fun i j => .int (g i j)) := by
  intro pins s σ H x y v u Q I rx ry h
  obtain ⟨i, j, rfl, rfl, hc, q⟩ := h
  obtain ⟨t, rfl⟩ := rx
  obtain ⟨t', rfl⟩ := ry
  exact rule i j t t' s _ _ hc ⟨.int (g i j), H, I.tok _, ⟨_, rfl⟩, q⟩
theorem opI0 {f : Value → Value → Sem Value} {g : Int → Int → Int}
    (rule : ∀ (i j : Int) (t u : Tok) (s : Shared) (Q : Value → Shared → Prop) (E : Value → Shared → Prop), Q (.int (g i j) s.toks) { s with toks := s.toks + 1 } → wpAny (model X.prog X.w) X.A (f (.int i t) (.int j u)) Q E s) :
    OpR X f (rI0 fun i j => .int (g i j)) := by
  intro pins s σ H x y v u Q I rx ry h
  obtain ⟨i, j, rfl, rfl, q⟩ := h
  obtain ⟨t, rfl⟩ := rx
  obtain ⟨t', rfl⟩ := ry
  exact rule i j t t' s _ _ ⟨.int (g i j), H, I.tok _, ⟨_, rfl⟩, q⟩
theorem opB0 {f : Value → Value → Sem Value} {g : Int → Int → Bool}
    (rule : ∀ (i j : Int) (t u : Tok) (s : Shared) (Q : Value → Shared → Prop) (E : Value → Shared → Prop), Q (.bool (g i j)) s → wpAny (model X.prog X.w) X.A (f (.int i t) (.int j u)) Q E s) :
    OpR X f (rI0 fun i j => .bl (g i j)) := by
  intro pins s σ H x y v u Q I rx ry h
  obtain ⟨i, j, rfl, rfl, q⟩ := h
  obtain ⟨t, rfl⟩ := rx
  obtain ⟨t', rfl⟩ := ry
  exact rule i j t t' s _ _ ⟨.bl (g i j), H, I, rfl, q⟩

def CDiv (i j : Int) : Prop := 0 < j ∧ j < 1073741824
def CDivN (i j : Int) : Prop := j ≠ 0 ∧ j.natAbs < 1073741824
def CPow (i j : Int) : Prop := 0 ≤ j ∧ j ≤ 1000000 ∧ i.natAbs < 2 ^ 64
def CMul (i j : Int) : Prop := (-(2 ^ 64) < i ∧ i < 2 ^ 64) ∨ (-(2 ^ 64) < j ∧ j < 2 ^ 64)
theorem CMul.ok {i j : Int} (h : CMul i j) : IntMulOk i j := by
  rcases h with ⟨h1, h2⟩ | ⟨h1, h2⟩
  · exact .of_left (intBits_le_64 h1 h2)
  · exact .of_right (intBits_le_64 h1 h2)
theorem op_add : OpR X (binaryOp .Add) (rI0 fun i j => .int (i + j)) := opI0 fun _ _ _ _ _ _ _ q => add_int q
theorem op_sub : OpR X (binaryOp .Sub) (rI0 fun i j => .int (i - j)) := opI0 fun _ _ _ _ _ _ _ q => sub_int q
/-- // by a positive divisor -/
theorem op_fdiv : OpR X (binaryOp .FloorDiv) (rI CDiv fun i j => .int (i / j)) := opI fun i j _ _ _ _ _ hc q => by
  have h1 : (0 : Int) < j := hc.1
  have h2 : j < 1073741824 := hc.2
  exact floordiv_int (by omega) (by rw [Int.fdiv_eq_ediv_of_nonneg i (by omega)]; exact q) (.inl (PyProof.noPylong_small (by omega)))
/-- % by a positive divisor of any size -/
theorem op_mod : OpR X (binaryOp .Mod) (rI (fun _ j => 0 < j) fun i j => .int (i % j)) := opI fun i j _ _ _ _ _ hc q => by
  have h1 : (0 : Int) < j := hc
  exact mod_int' (by omega) (by rw [Int.fmod_eq_emod_of_nonneg i (by omega)]; exact q)
/-! ### bools among ints: n += (a < b) -/
end

/-! ### comparisons -/
/-- the scalars that == tells apart as data does -/
def scal : V → V → Bool
  | .non, .non => true | .non, .int _ => true | .int _, .non => true | .non, .bl _ => true | .bl _, .non => true | .non, .str _ => true | .str _, .non => true
  | .int _, .int _ => true | .bl _, .bl _ => true | .str _, .str _ => true | .byt _, .byt _ => true
  | .int _, .str _ => true | .str _, .int _ => true | .bl _, .str _ => true | .str _, .bl _ => true
  | _, _ => false
def rEq : R2 := fun x y H Q => scal x y = true ∧ Q (.bl (decide (x = y))) H
def rNe : R2 := fun x y H Q => scal x y = true ∧ Q (.bl (!decide (x = y))) H

theorem dec_int {i j : Int} : decide (V.int i = V.int j) = (i == j) := by
  rw [Bool.eq_iff_iff]
  simp
theorem dec_bl {i j : Bool} : decide (V.bl i = V.bl j) = (i == j) := by
  rw [Bool.eq_iff_iff]
  simp
theorem dec_str {i j : Str} : decide (V.str i = V.str j) = (i == j) := by
  rw [Bool.eq_iff_iff]
  simp
theorem dec_byt {i j : Array UInt8} : decide (V.byt i = V.byt j) = (i.toList == j.toList) := by
  rw [Bool.eq_iff_iff]
  cases i
  cases j
  simp

section
variable {X : Cx} {a b c : Expr} {ta tb tc : TE} {pos : Pos}
theorem fin_bl {pins : List (Addr × Obj)} {σ : St} {H : Hp} {s : Shared} {Q : VK} {k k' : Bool} (I : Inv X pins σ H s) (q : Q (.bl k) H) (e : k = k') : EP X pins σ Q (.bool k') s := by
  subst e
  exact ⟨.bl k, H, I, rfl, q⟩
theorem op_eq : OpR X (compareOp .Eq) rEq := by
  intro pins s σ H x y v u Q I rx ry h
  obtain ⟨hs, q⟩ := h
  cases x with
  | non =>
    cases rx
    cases y with
    | non => cases ry; exact PySem.EqNone.eq_none_none (fin_bl I q (by simp))
    | bl j => cases ry; exact PySem.EqNone.eq_none_bool (fin_bl I q (by simp))
    | int j => obtain ⟨t', rfl⟩ := ry; exact PySem.EqNone.eq_none_int (fin_bl I q (by simp))
    | str j => obtain ⟨t', rfl⟩ := ry; exact PySem.EqNone.eq_none_str (fin_bl I q (by simp))
    | _ => exact absurd (show false = true from hs) Bool.false_ne_true
  | bl i =>
    cases rx
    cases y with
    | non => cases ry; exact PySem.EqNone.eq_bool_none (fin_bl I q (by simp))
    | bl j => cases ry; exact eq_bool (fin_bl I q dec_bl)
    | str j => obtain ⟨t', rfl⟩ := ry; exact PySem.EqMixed.eq_bool_str (fin_bl I q (by simp))
    | _ => exact absurd (show false = true from hs) Bool.false_ne_true
  | int i =>
    obtain ⟨t, rfl⟩ := rx
    cases y with
    | non => cases ry; exact PySem.EqNone.eq_int_none (fin_bl I q (by simp))
    | int j => obtain ⟨t', rfl⟩ := ry; exact eq_int (fin_bl I q dec_int)
    | str j => obtain ⟨t', rfl⟩ := ry; exact PySem.EqMixed.eq_int_str (fin_bl I q (by simp))
    | _ => exact absurd (show false = true from hs) Bool.false_ne_true
  | str i =>
    obtain ⟨t, rfl⟩ := rx
    cases y with
    | non => cases ry; exact PySem.EqNone.eq_str_none (fin_bl I q (by simp))
    | bl j => cases ry; exact PySem.EqMixed.eq_str_bool (fin_bl I q (by simp))
    | int j => obtain ⟨t', rfl⟩ := ry; exact PySem.EqMixed.eq_str_int (fin_bl I q (by simp))
    | str j => obtain ⟨t', rfl⟩ := ry; exact eq_str (fin_bl I q dec_str)
    | _ => exact absurd (show false = true from hs) Bool.false_ne_true
  | byt i =>
    obtain ⟨t, rfl⟩ := rx
    cases y with
    | byt j => obtain ⟨t', rfl⟩ := ry; exact PySem.W.eq_bytes (fin_bl I q dec_byt)
    | _ => exact absurd (show false = true from hs) Bool.false_ne_true
  | _ => cases y <;> exact absurd (show false = true from hs) Bool.false_ne_true
theorem op_lt : OpR X (compareOp .Lt) (rI0 fun i j => .bl (decide (i < j))) := opB0 fun _ _ _ _ _ _ _ q => lt_int q
theorem op_gt : OpR X (compareOp .Gt) (rI0 fun i j => .bl (decide (j < i))) := opB0 fun _ _ _ _ _ _ _ q => gt_int q
theorem op_notN : OpR X (compareOp .IsNot) (fun x y H Q => y = .non ∧ Q (.bl (!decide (x = .non))) H) := by
  intro pins s σ H x y v u Q I rx ry h
  obtain ⟨rfl, q⟩ := h
  cases ry
  refine isnot_none_gen (fin_bl I q ?_)
  cases x <;> first
    | (cases rx; rfl)
    | (obtain ⟨t, rfl⟩ := rx; rfl)

/-- is, is not of two objects that are tracked lists or instances -/
def isObj : HO → Bool
  | .lst _ => true
  | .ins _ _ _ => true
  | _ => false
/-- two rules for one operation: by cases -/
theorem OpR.or {f : Value → Value → Sem Value} {r r' : R2} (h : OpR X f r) (h' : OpR X f r') : OpR X f (fun x y H Q => r x y H Q ∨ r' x y H Q) := by
  intro pins s σ H x y v u Q I rx ry q
  rcases q with q | q
  · exact h pins s σ H x y v u Q I rx ry q
  · exact h' pins s σ H x y v u Q I rx ry q

theorem nomark (b : Expr) {op : CmpOp} (h : op ≠ .In := by decide) (h2 : op ≠ .NotIn := by decide) : behindInMarks op b = false := by
  have e1 : (op == CmpOp.In) = false := by cases op <;> first | rfl | exact absurd rfl h
  have e2 : (op == CmpOp.NotIn) = false := by cases op <;> first | rfl | exact absurd rfl h2
  cases b <;> simp [behindInMarks, e1, e2]
/-- a comparison as a value; hm: nomark b, or (for in, not in) by with_unfolding_all rfl -/
theorem pe_cmpR {op : CmpOp} {r : R2} (ho : OpR X (compareOp op) r) (ha : PE X a ta) (hb : PE X b tb) (hm : behindInMarks op b = false) : PE X (.Compare a [op] [b] pos) (tOp r ta tb) := by
  intro pins s σ H Q I h
  exact wpAny_Compare1 (binT ha hb I h fun v u s2 x y H2 I2 rx ry q => ho pins s2 σ H2 x y v u Q I2 rx ry q) hm
/-- a reading of a value as a test -/
def tTest (t : TE) : TT := fun σ H Q => t σ H fun x H' => ∃ k, x = .bl k ∧ Q k H'
theorem pt_cmpR {op : CmpOp} {r : R2} (ho : OpR X (compareOp op) r) (ha : PE X a ta) (hb : PE X b tb) (hm : behindInMarks op b = false) : PT X (.Compare a [op] [b] pos) (tTest (tOp r ta tb)) := by
  intro pins s σ H Q I h
  refine wpAny_isTrue_Compare1 (thn (ha pins s σ H _ I h) fun v s1 ⟨x, H1, I1, r1, q1⟩ => thn (hb pins s1 σ H1 _ I1 q1) fun u s2 ⟨y, H2, I2, r2, q2⟩ =>
    thn (ho pins s2 σ H2 x y v u _ I2 r1 r2 q2) fun c s3 ⟨z, H3, I3, r3, k, e, q3⟩ => ?_) hm
  subst e
  cases r3
  exact wpAny_truthy_bool ⟨H3, I3, q3⟩
/-- a op1 b op2 c -/
def tChain (r r' : R2) (ta tb tc : TE) : TE := fun σ H Q => ta σ H fun x H1 => tb σ H1 fun y H2 => r x y H2 fun z H3 => ∃ k, z = .bl k ∧
  (if k = true then tc σ H3 fun w' H4 => r' y w' H4 Q else Q (.bl false) H3)
theorem pt_chain {op op' : CmpOp} {r r' : R2} (ho : OpR X (compareOp op) r) (ho' : OpR X (compareOp op') r') (ha : PE X a ta) (hb : PE X b tb) (hc : PE X c tc)
    (hm : lastMarks [op, op'] [b, c] = false := by with_unfolding_all rfl) : PT X (.Compare a [op, op'] [b, c] pos) (tTest (tChain r r' ta tb tc)) := by
  intro pins s σ H Q I h
  refine isTrue_chain (thn (ha pins s σ H _ I h) fun v s1 ⟨x, H1, I1, r1, q1⟩ => test_link (thn (hb pins s1 σ H1 _ I1 q1) fun u s2 ⟨y, H2, I2, r2, q2⟩ =>
    thn (ho pins s2 σ H2 x y v u _ I2 r1 r2 q2) fun d s3 ⟨z, H3, I3, r3, k, e, q3⟩ => ?_)) hm
  subst e
  cases r3
  refine wpAny_truthy_bool ?_
  cases k with
  | false =>
    obtain ⟨k', e', q'⟩ := q3
    cases e'
    exact ite_ff ⟨H3, I3, q'⟩
  | true =>
    refine ite_tt (test_last (thn (hc pins s3 σ H3 _ I3 q3) fun w' s4 ⟨z', H4, I4, r4, q4⟩ => thn (ho' pins s4 σ H4 y z' u w' _ I4 r2 r4 q4) fun d' s5 ⟨z2, H5, I5, r5, k2, e2, q5⟩ => ?_))
    subst e2
    cases r5
    exact wpAny_truthy_bool ⟨H5, I5, q5⟩

/-! ### truth -/
/-- a value's truth by the abstract heap -/
def TruV (K : PySem.W.Frag) (x : V) (H : Hp) (k : Bool) : Prop :=
  match x with
  | .non => k = false
  | .bl b => k = b
  | .int i => k = (i != 0)
  | .str y => y.length ≤ sizeLine ∧ k = ((y.length : Int) != 0)
  | .byt y => y.size ≤ sizeLine ∧ k = ((y.size : Int) != 0)
  | .ref p => (∃ xs, SqL K H p xs ∧ k = !xs.isEmpty) ∨ (∃ xs, SqT K H p xs ∧ k = !xs.isEmpty) ∨ ∃ kvs, H p = some (.dK kvs) ∧ k = !kvs.isEmpty
  | _ => False
theorem line63 : (sizeLine : Nat) < 2 ^ 63 := by rw [sizeLine_eq]; decide
/-! ### strs and bytes -/
theorem op_add_str : OpR X (binaryOp .Add) (fun x y H Q => ∃ i j, x = .str i ∧ y = .str j ∧ i.length + j.length ≤ sizeLine ∧ Q (.str (i ++ j)) H) := by
  intro pins s σ H x y v u Q I rx ry h
  obtain ⟨i, j, rfl, rfl, hz, q⟩ := h
  obtain ⟨t, rfl⟩ := rx
  obtain ⟨t', rfl⟩ := ry
  exact add_str (fun t' tk => ⟨.str (i ++ j), H, I.tok _, ⟨_, rfl⟩, q⟩) hz
def PlainIxT (b : Expr) : Prop := ∀ o i, subscripted b false o i = operate [o, i] (getItem o i)
/-! ### scalar builtins, by CallR -/
theorem vals1 {x : V} {us : List Value} (r : Vals [x] us) : ∃ u, us = [u] ∧ RelV x u := by
  cases r with
  | cons r1 r2 => cases r2; exact ⟨_, rfl, r1⟩
theorem vals2 {x y : V} {us : List Value} (r : Vals [x, y] us) : ∃ u w', us = [u, w'] ∧ RelV x u ∧ RelV y w' := by
  cases r with
  | cons r1 r2 =>
    cases r2 with
    | cons r3 r4 => cases r4; exact ⟨_, _, rfl, r1, r3⟩
theorem call_int1 : CallR X (.type "int") (fun xs H Q => (∃ i, xs = [.int i] ∧ Q (.int i) H) ∨ ∃ k, xs = [.bl k] ∧ Q (.int (if k then 1 else 0)) H) := by
  intro pins s σ H xs us Q I r h
  rcases h with ⟨i, rfl, q⟩ | ⟨k, rfl, q⟩
  · obtain ⟨u, rfl, t, rfl⟩ := vals1 r
    exact call_int_int ⟨.int i, H, I, ⟨_, rfl⟩, q⟩
  · obtain ⟨u, rfl, r1⟩ := vals1 r
    cases r1
    exact call_int_bool ⟨.int (if k then 1 else 0), H, I.tok _, ⟨_, rfl⟩, q⟩
theorem call_str_int : CallR X (.type "str") (fun xs H Q => ∃ i, xs = [.int i] ∧ i.natAbs.log2 < 1920 ∧ Q (.str (toString i)) H) := by
  intro pins s σ H xs us Q I r h
  obtain ⟨i, rfl, hz, q⟩ := h
  obtain ⟨u, rfl, t, rfl⟩ := vals1 r
  exact PySem.P.str_of_int hz ⟨.str _, H, I.tok _, ⟨_, rfl⟩, q⟩
/-- len of a str, a bytes, a list, a tuple -/
def LenV (K : PySem.W.Frag) (x : V) (H : Hp) (n : Nat) : Prop :=
  match x with
  | .str y => y.length ≤ sizeLine ∧ n = y.length
  | .byt y => y.size ≤ sizeLine ∧ n = y.size
  | .ref p => (∃ xs, SqL K H p xs ∧ n = xs.length) ∨ ∃ xs, SqT K H p xs ∧ n = xs.length
  | _ => False
end
end L2

namespace L2
open PySem PySem.Spec PyProof.Rows

/-! ### an instance, its attributes a map -/
structure ObjM (h : Heap) (x dx C : Addr) (mA : Str → Option Value) : Prop where
  obj : h.get? x = some (PySem.W.instObj C dx)
  ns : h.Ns1 dx mA
  ne : dx ≠ x

theorem lookIn_ns {h : Heap} {dx : Addr} {mA : Str → Option Value} (n : h.Ns1 dx mA) : ∃ od, h.get? dx = some od ∧ ∀ name, PySem.W.lookIn name od = some (mA name) := by
  obtain ⟨o, es, ep, ho, hd, hk, _, hm⟩ := n
  refine ⟨o, ho, fun name => ?_⟩
  have e := hm name
  unfold nsFind findBy at e
  rw [← Array.find?_toList] at e
  unfold PySem.W.lookIn
  rw [hd]
  dsimp only
  split
  · rename_i y q
    rw [q] at e
    exact congrArg some e
  · rename_i q
    rw [q] at e
    have a : es.toList.any (·.refKey) = false := by
      rw [List.any_eq_false]
      intro y hy
      obtain ⟨z, t, hkey⟩ := hk y (Array.mem_toList_iff.mp hy)
      simp [DictEntry.refKey, hkey]
    have a' : ¬ es.toList.any (·.refKey) = true := by rw [a]; exact Bool.false_ne_true
    rw [if_neg a']
    exact congrArg some e

theorem ObjM.look {h : Heap} {x dx C : Addr} {mA : Str → Option Value} (I : ObjM h x dx C mA) : ∃ od, PySem.W.InstAt h x (PySem.W.instObj C dx) C (some od) ∧ ∀ name, PySem.W.lookIn name od = some (mA name) :=
  let ⟨od, ho, hl⟩ := lookIn_ns I.ns
  ⟨od, ⟨I.obj, rfl, rfl, ho⟩, hl⟩

section
variable {prog : Program} {w : World} {A : Around} {E : Value → Shared → Prop} {s : Shared} {K : PySem.W.Frag} {x dx C f : Addr} {mA : Str → Option Value} {name : Str} {v : Value}

end

/-! ### the attributes as a list of pairs -/
def putF (f : Str) (v : V) : List (Str × V) → List (Str × V)
  | [] => [(f, v)]
  | (g, x) :: r => if g = f then (g, v) :: r else (g, x) :: putF f v r
theorem RelO.some_of {v : V} {o : Option Value} (r : RelO (some v) o) : ∃ u, o = some u ∧ RelV v u := by
  cases o with
  | none => exact (show False from r).elim
  | some u => exact ⟨u, rfl, r⟩
section
variable {P : Program} {w : World} {H H' : Hp} {h h' : Heap} {a C dx : Addr} {fs fs' : List (Str × V)}
theorem ins_get (hok : HOk P w H h) (e : H a = some (.ins C dx fs)) : ∃ mA, ObjM h a dx C mA ∧ (∀ f, RelO (fs.lookup f) (mA f)) ∧ PySem.Within mA (fs.map (·.1)) ∧ fs.length ≤ 1000 ∧ H dx = some (.own a) := by
  obtain ⟨d, z, ne, ob, mA, n, r, q⟩ := (show ObjOk P w H h a (.ins C dx fs) from hok a _ e)
  exact ⟨mA, ⟨ob, n, ne⟩, r, q, z, d⟩
end

/-! ### what of the text a class must have -/
structure Cls (K : PySem.W.Frag) (C : Addr) : Prop where
  pg : PySem.W.plainGet K C Str.empty = true
  hd : PySem.W.hasDictIn K C = true
  po : PySem.W.plainOver K C = true
  sa : PySem.W.findIn K (.ref C) "__setattr__" = some (some (.builtin "object.__setattr__"))
theorem Cls.get {K : PySem.W.Frag} {C : Addr} (c : Cls K C) (f : Str) : PySem.W.plainGet K C f = true := c.pg
/-- no class of it has the name -/
def NoAttr (K : PySem.W.Frag) (C : Addr) (f : Str) : Prop := PySem.W.findIn K (.ref C) f = some none
/-- a constant of the class -/
structure Con (K : PySem.W.Frag) (C : Addr) (f : Str) (v : V) (u : Value) : Prop where
  at_ : PySem.W.findIn K (.ref C) f = some (some u)
  rel : RelV v u
  get : PySem.W.specialIn K u "__get__" = some none
  cp : PySem.W.copiedNames.contains f = false
/-- a method: a plain def of the class or of one above it -/
structure Meth (K : PySem.W.Frag) (C : Addr) (m : Str) (f : Addr) : Prop where
  at_ : PySem.W.findIn K (.ref C) m = some (some (.ref f))
  fn : PySem.W.isFn K (.ref f) = true
  kp : PySem.W.keepIn K (.ref f) = true

section
variable {X : Cx} {pins : List (Addr × Obj)} {σ : St} {H : Hp} {s : Shared} {a C dx : Addr} {fs : List (Str × V)} {f : Str} {v : V} {A : Around} {E : Value → Shared → Prop}

end

/-! ### readings and rules -/
/-- e.f, an attribute of the instance -/
def tFld (K : PySem.W.Frag) (ta : TE) (f : Str) : TE := fun σ H Q => ta σ H fun x H1 => ∃ a C dx fs v, x = .ref a ∧ H1 a = some (.ins C dx fs) ∧ Cls K C ∧ NoAttr K C f ∧ fs.lookup f = some v ∧ Q v H1
/-- e.f, a constant of the class -/
def tCon (K : PySem.W.Frag) (ta : TE) (f : Str) : TE := fun σ H Q => ta σ H fun x H1 => ∃ a C dx fs v u, x = .ref a ∧ H1 a = some (.ins C dx fs) ∧ Cls K C ∧ Con K C f v u ∧ fs.lookup f = none ∧ Q v H1
/-- e.f = value -/
def sFld (K : PySem.W.Frag) (ta tv : TE) (f : Str) : TS := fun D σ H => tv σ H fun y H1 => ta σ H1 fun x H2 => ∃ a C dx fs, x = .ref a ∧ H2 a = some (.ins C dx fs) ∧ Cls K C ∧ NoAttr K C f ∧ fs.length < 1000 ∧
  D.nx σ (upd H2 a (.ins C dx (putF f y fs)))
/-- an augmented operator on two values -/
def InOp (X : Cx) (op : Operator) (rd : V → V → Hp → VK → Prop) : Prop :=
  ∀ (pins : List (Addr × Obj)) (s : Shared) (σ : St) (H : Hp) (x y : V) (u v : Value) (Q : VK), Inv X pins σ H s → RelV x u → RelV y v → rd x y H Q → wpAny (model X.prog X.w) X.A (inplaceOp op u v) (EP X pins σ Q) X.xe s
/-- e.f op= value -/
def sFldAug (K : PySem.W.Frag) (ta tv : TE) (rd : V → V → Hp → VK → Prop) (f : Str) : TS := fun D σ H => ta σ H fun x H1 => ∃ a C dx fs v, x = .ref a ∧ H1 a = some (.ins C dx fs) ∧ Cls K C ∧ NoAttr K C f ∧ fs.lookup f = some v ∧
  tv σ H1 fun y H2 => rd v y H2 fun z H3 => ∃ dx' fs', H3 a = some (.ins C dx' fs') ∧ fs'.length < 1000 ∧ D.nx σ (upd H3 a (.ins C dx' (putF f z fs')))

section
variable {X : Cx} {o e value : Expr} {f : Str} {pos pos' tpos : Pos} {ta tv : TE}
def rAdd : V → V → Hp → VK → Prop := fun x y H Q => ∃ i j, x = .int i ∧ y = .int j ∧ Q (.int (i + j)) H
def rSub : V → V → Hp → VK → Prop := fun x y H Q => ∃ i j, x = .int i ∧ y = .int j ∧ Q (.int (i - j)) H
end

/-! ### isinstance -/
section
variable {X : Cx} {pins : List (Addr × Obj)} {σ : St} {H : Hp} {s : Shared} {A : Around} {E : Value → Shared → Prop} {Q : Value → Shared → Prop} {c : Value} {b : Bool}
/-- the type of a value, as the fragment's deciders take it; for an instance its class -/
inductive TyOf (K : PySem.W.Frag) (H : Hp) : V → Value → Prop where
  | non : TyOf K H .non (.type "NoneType")
  | bl (x : Bool) : TyOf K H (.bl x) (.type "bool")
  | int (i : Int) : TyOf K H (.int i) (.type "int")
  | str (x : Str) : TyOf K H (.str x) (.type "str")
  | flt (x : UInt64) : TyOf K H (.flt x) (.type "float")
  | lst {a : Addr} {xs : List V} (e : H a = some (.lst xs)) : TyOf K H (.ref a) (.type "list")
  | frz {a : Addr} {o : Obj} {xs : List V} (e : H a = some (.frz o (.lst xs))) : TyOf K H (.ref a) (.type "list")
  | tup {a : Addr} {xs : List V} (e : H a = some (.tup xs)) : TyOf K H (.ref a) (.type "tuple")
  | dK {a : Addr} {kvs : List (Key × V)} (e : H a = some (.dK kvs)) : TyOf K H (.ref a) (.type "dict")
  | dT {a : Addr} {kvs : List (List Key × V)} (e : H a = some (.dT kvs)) : TyOf K H (.ref a) (.type "dict")
  | ins {a C dx : Addr} {fs : List (Str × V)} (e : H a = some (.ins C dx fs)) (cl : Cls K C) (ha : PySem.W.findIn K (.ref C) "__class__" = some (some (.builtin "object.__class__")))
      (hn : PySem.W.specialIn K (.builtin "object.__class__") "__get__" = some (some (.builtin "getset_descriptor.__get__"))) (htk : PySem.W.takesIn K (.builtin "object.__class__") = some true)
      (hm : PySem.W.mroIn K C (.type "object") = some true) : TyOf K H (.ref a) (.ref C)
/-- isinstance(x, c) for one class c, a built-in or an own one: kitOne's answer -/
theorem isinst_ok {x : V} {u t : Value} (I : Inv X pins σ H s) (rx : RelV x u) (ty : TyOf X.K H x t) (e : PySem.W.kitOne X.K t c = some b) (h : ∀ tk, Q (.bool b) { s with toks := tk }) :
    wpAny (model X.prog X.w) A (call (.builtin "isinstance") [u, c]) Q E s := by
  cases ty with
  | non => cases (show u = Value.none from rx); exact PySem.W.kia_one PySem.W.kitx_none I.kIn True.intro e (fun z => nomatch z) h
  | bl y => cases (show u = Value.bool y from rx); exact PySem.W.kia_one PySem.W.kitx_bool I.kIn True.intro e (fun z => nomatch z) h
  | int i => obtain ⟨t, q⟩ := (show ∃ t, u = Value.int i t from rx); cases q; exact PySem.W.kia_one PySem.W.kitx_int I.kIn True.intro e (fun z => nomatch z) h
  | str y => obtain ⟨t, q⟩ := (show ∃ t, u = Value.str y t from rx); cases q; exact PySem.W.kia_one PySem.W.kitx_str I.kIn True.intro e (fun z => nomatch z) h
  | flt y => obtain ⟨t, q⟩ := (show ∃ t, u = Value.float y t from rx); cases q; exact PySem.W.kia_one PySem.W.kitx_float I.kIn True.intro e (fun z => nomatch z) h
  | @lst a xs ea =>
    cases (show u = Value.ref a from rx)
    obtain ⟨_, _, n, _, h1⟩ := (show ObjOk X.prog X.w H s.heap a (.lst xs) from I.hok a _ ea)
    exact PySem.W.kia_one PySem.W.kitx_list I.kIn ⟨_, h1, rfl⟩ e (fun z => nomatch z) h
  | @frz a ob xs ea =>
    cases (show u = Value.ref a from rx)
    obtain ⟨_, _, _, n, _, h1⟩ := (show ObjOk X.prog X.w H s.heap a (.frz ob (.lst xs)) from I.hok a _ ea)
    exact PySem.W.kia_one PySem.W.kitx_list I.kIn ⟨_, h1, rfl⟩ e (fun z => nomatch z) h
  | @tup a xs ea =>
    cases (show u = Value.ref a from rx)
    obtain ⟨_, _, _, p⟩ := (show ObjOk X.prog X.w H s.heap a (.tup xs) from I.hok a _ ea)
    obtain ⟨o, h1, h2, _⟩ := p
    exact PySem.W.kia_one PySem.W.kitx_tuple I.kIn ⟨o, h1, h2⟩ e (fun z => nomatch z) h
  | @dK a kvs ea =>
    cases (show u = Value.ref a from rx)
    obtain ⟨_, _, vs, _, p⟩ := (show ObjOk X.prog X.w H s.heap a (.dK kvs) from I.hok a _ ea)
    obtain ⟨o, es, ep, h1, h2, _⟩ := p
    exact PySem.W.kia_one PySem.W.kitx_dict I.kIn ⟨o, h1, h2.1⟩ e (fun z => nomatch z) h
  | @dT a kvs ea =>
    cases (show u = Value.ref a from rx)
    obtain ⟨_, _, xs, _, o, es, ep, h1, h2, _⟩ := (show ObjOk X.prog X.w H s.heap a (.dT kvs) from I.hok a _ ea)
    exact PySem.W.kia_one PySem.W.kitx_dict I.kIn ⟨o, h1, h2.1⟩ e (fun z => nomatch z) h
  | @ins a C dx fs ea cl ha hn htk hm =>
    cases (show u = Value.ref a from rx)
    obtain ⟨mA, O, _⟩ := ins_get I.hok ea
    obtain ⟨od, J, _⟩ := O.look
    exact PySem.W.kia_one (PySem.W.kitx_own (cl.get _) cl.hd ha hn htk hm) I.kIn J e (fun z => nomatch z) h
end
end L2

namespace L2
open PySem PySem.Spec PyProof.Rows

/-! ### room -/
structure Room (k : Nat) (A : Around) : Prop where
  hd : A.handled = none
  dp : A.depth + 3 * k + 5 < recursionLimit
  un : A.units + 16 * k + 200 < cLine
theorem Room.mono {j k : Nat} {A : Around} (r : Room k A) (h : j ≤ k) : Room j A := ⟨r.hd, by have := r.dp; omega, by have := r.un; omega⟩
theorem Room.deeper {k : Nat} {A : Around} (r : Room (k + 1) A) (env : Env) : Room k (A.deeper env) :=
  ⟨r.hd, by have := r.dp; show A.depth + 1 + 3 * k + 5 < _; omega, by have := r.un; show A.units + 3 + 16 * k + 200 < _; omega⟩
theorem Room.in1 {k : Nat} {A : Around} (r : Room (k + 1) A) : Room k A.in1 :=
  ⟨r.hd, by have := r.dp; show A.depth + 3 * k + 5 < _; omega, by have := r.un; show A.units + 1 + 16 * k + 200 < _; omega⟩
theorem Room.depth {k : Nat} {A : Around} (r : Room k A) : A.depth < recursionLimit := by have := r.dp; omega
theorem Room.units {k : Nat} {A : Around} (r : Room k A) : A.units + 64 < cLine := by have := r.un; omega
theorem Room.units0 {k : Nat} {A : Around} (r : Room k A) : A.units < cLine := by have := r.un; omega

/-! ### argument lists and displays -/
def tNil : TA := fun _ H Q => Q [] H
def tCons (ta : TE) (tr : TA) : TA := fun σ H Q => ta σ H fun x H1 => tr σ H1 fun xs H2 => Q (x :: xs) H2
section
variable {X : Cx} {e : Expr} {es : List Expr} {te : TE} {t : TA} {pos : Pos}
theorem pa_nil : PA X [] tNil := fun _ _ _ _ H Q I h => Calls.spliced_nil ⟨[], H, I, .nil, h⟩
theorem pa_cons (ha : PE X e te) (hr : PA X es t) (hs : starEach (e :: es) X.env = (false, eval e X.env) :: starEach es X.env := by rfl) : PA X (e :: es) (tCons te t) := by
  intro pos pins s σ H Q I h
  rw [hs]
  show wpAny _ _ (spliced ((false, eval e X.env) :: backTo pos (starEach es X.env))) _ _ s
  refine Calls.spliced_cons (thn (ha pins s σ H _ I h) fun u s1 ⟨x, H1, I1, r1, q1⟩ => ?_)
  exact thn (hr pos pins s1 σ H1 _ I1 q1) fun us s2 ⟨xs, H2, I2, r2, q2⟩ => ⟨x :: xs, H2, I2, .cons r1 r2, q2⟩

/-- a tuple, a list of written items -/
def tTup (t : TA) : TE := fun σ H Q => t σ H fun xs H1 => xs.length ≤ sizeLine ∧ ∀ p, H1 p = none → Q (.ref p) (upd H1 p (.tup xs))
def tLst (t : TA) : TE := fun σ H Q => t σ H fun xs H1 => xs.length ≤ sizeLine ∧ ∀ p, H1 p = none → Q (.ref p) (upd H1 p (.lst xs))
theorem pe_tup {x1} (h : PA X es t) : PE X (.Tuple es x1 pos) (tTup t) := by
  intro pins s σ H Q I hq
  refine wpAny_Tuple_spliced (thn (h pos pins s σ H _ I hq) fun us s1 ⟨xs, H1, I1, r, z, q⟩ => ⟨by rw [← r.length]; exact z, ?_⟩)
  have hf : H1 s1.heap.objs.size = none := I1.hok.fresh (Nat.le_refl _)
  refine ⟨.ref s1.heap.objs.size, upd H1 s1.heap.objs.size (.tup xs), I1.laid (t' := s1.toks) (fun b u e => Heap.get?_push_of_some _ e) (Nat.le_refl _) ?_, rfl, q _ hf⟩
  exact ⟨z, us, r, ⟨_, Heap.get?_push_size _ rfl, rfl, _, rfl⟩⟩
theorem pe_lst (h : PA X es t) : PE X (.List es pos) (tLst t) := by
  intro pins s σ H Q I hq
  refine wpAny_List_spliced (thn (h pos pins s σ H _ I hq) fun us s1 ⟨xs, H1, I1, r, z, q⟩ => ⟨by rw [← r.length]; exact z, ?_⟩)
  have hf : H1 s1.heap.objs.size = none := I1.hok.fresh (Nat.le_refl _)
  refine ⟨.ref s1.heap.objs.size, upd H1 s1.heap.objs.size (.lst xs), I1.laid (t' := s1.toks) (fun b u e => Heap.get?_push_of_some _ e) (Nat.le_refl _) ?_, rfl, q _ hf⟩
  exact ⟨z, us, 0, r, Heap.get?_push_size _ rfl⟩
end

/-! ### what a def promises -/
/-- a def's promise: the bound arguments in the parameters' order, the heap, the wanted end, the wanted exception -/
abbrev Sp := List V → Hp → VK → XK → Prop
/-- how an exception lies behind a call (file 08 gives it): the callers' frames, abstract heap and state ahead of the call, the wish, the exception, the state -/
abbrev CXT := List Env → Hp → Shared → XK → Value → Shared → Prop

/-- the state at a call -/
structure Env0 (P : Program) (w : World) (K : PySem.W.Frag) (mg : Str → Option Value) (base : Heap) (A : Around) (outer : List Env) (s : Shared) (H : Hp) : Prop where
  frames : A.frames = some outer
  mod : Mod K mg base
  bs : ∀ b o, base.get? b = some o → s.heap.get? b = some o ∧ H b = none
  bsz : base.objs.size ≤ s.heap.objs.size
  funs : s.heap.FunFrames base outer
  frf : ∀ b ∈ frs outer, H b = none
  hok : HOk P w H s.heap
  bare : AllBare s.gens
/-- a call's end -/
def CE (outer : List Env) (P : Program) (w : World) (H : Hp) (s : Shared) (Q : VK) (u : Value) (s' : Shared) : Prop :=
  ∃ v H', s'.os = s.os ∧ AllBare s'.gens ∧ Un (frs outer) [] H H' s.heap s'.heap ∧ HOk P w H' s'.heap ∧ RelV v u ∧ Q v H'
def CR (CX : CXT) (outer : List Env) (P : Program) (w : World) (H : Hp) (s : Shared) (Q : VK) (E : XK) (r : Result) (s' : Shared) : Prop :=
  match r with
  | .ok (.ret u) => CE outer P w H s Q u s'
  | .ok _ => False
  | .error e => CX outer H s E e s'
structure FnOk (P : Program) (w : World) (K : PySem.W.Frag) (mg : Str → Option Value) (base : Heap) (CX : CXT) (k : Nat) (f : Addr) (fd : FuncData) (ps : List Str) (sp : Sp) : Prop where
  len : ∀ vs H Q E, sp vs H Q E → vs.length = ps.length
  run : ∀ (A : Around) (outer : List Env) (s : Shared) (H : Hp) (args : Args) (us : List Value) (vs : List V) (Q : VK) (E : XK), Room k A → Env0 P w K mg base A outer s H → BindsTo s fd args (ps.zip us) → Vals vs us → sp vs H Q E →
    codeAny (model P w) A (.call (.ref f) args) (CR CX outer P w H s Q E) s
theorem FnOk.mono {P : Program} {w : World} {K : PySem.W.Frag} {mg : Str → Option Value} {base : Heap} {CX : CXT} {j k : Nat} {f : Addr} {fd : FuncData} {ps : List Str} {sp : Sp} (F : FnOk P w K mg base CX j f fd ps sp) (h : j ≤ k) :
    FnOk P w K mg base CX k f fd ps sp := ⟨F.len, fun A outer s H args us vs Q E hr => F.run A outer s H args us vs Q E (hr.mono h)⟩
/-- a weaker promise -/
theorem FnOk.imp {P : Program} {w : World} {K : PySem.W.Frag} {mg : Str → Option Value} {base : Heap} {CX : CXT} {k : Nat} {f : Addr} {fd : FuncData} {ps : List Str} {sp sp' : Sp} (F : FnOk P w K mg base CX k f fd ps sp)
    (h : ∀ vs H Q E, sp' vs H Q E → sp vs H Q E) : FnOk P w K mg base CX k f fd ps sp' :=
  ⟨fun vs H Q E q => F.len vs H Q E (h _ _ _ _ q), fun A outer s H args us vs Q E hr he hb hv hs => F.run A outer s H args us vs Q E hr he hb hv (h _ _ _ _ hs)⟩

theorem Env0.in1 {P : Program} {w : World} {K : PySem.W.Frag} {mg : Str → Option Value} {base : Heap} {A : Around} {outer : List Env} {s : Shared} {H : Hp} (e : Env0 P w K mg base A outer s H) :
    Env0 P w K mg base A.in1 outer s H := ⟨e.frames, e.mod, e.bs, e.bsz, e.funs, e.frf, e.hok, e.bare⟩

section
variable {X : Cx} {pins : List (Addr × Obj)} {σ : St} {H : Hp} {s s' : Shared}
/-- from a body: what a callee wants -/
theorem Inv.env0 (I : Inv X pins σ H s) : Env0 X.prog X.w X.K X.mg X.base X.A X.stack s H :=
  ⟨I.ok.frames, I.ok.mod, I.bs, Nat.le_trans I.ok.bsz I.sz, I.stack, I.stkFree, I.hok, I.bare⟩
/-- behind a call -/
theorem Inv.after {Q : VK} {u : Value} (I : Inv X pins σ H s) (h : CE X.stack X.prog X.w H s Q u s') : EP X pins σ Q u s' := by
  obtain ⟨v, H', os, bare, un, hok, r, q⟩ := h
  obtain ⟨hh, g, d, t, os'⟩ := s'
  obtain rfl : os' = s.os := os
  exact ⟨v, H', I.call (h' := hh) (g' := g) (d' := d) (t' := t) (ch := []) un hok bare (fun b z => absurd z (by simp)), r, q⟩
end

/-! ### calls -/
/-- f(..): the written arguments, then the defaults dvs; E: what is wanted of an exception -/
def tCall (sp : Sp) (dvs : List V) (E : XK) (t : TA) : TE := fun σ H Q => t σ H fun vs H1 => sp (vs ++ dvs) H1 Q E
/-- o.m(..) of an instance of the class at C -/
def tMeth (C : Addr) (m : Str) (sp : Sp) (dvs : List V) (E : XK) (ta : TE) (t : TA) : TE := fun σ H Q => ta σ H fun x H1 => ∃ a dx fs, x = .ref a ∧ H1 a = some (.ins C dx fs) ∧ fs.lookup m = none ∧
  t σ H1 fun vs H2 => sp (x :: (vs ++ dvs)) H2 Q E
/-- C(..): a new instance and its dict, then __init__ -/
def tMake (C : Addr) (sp : Sp) (dvs : List V) (E : XK) (t : TA) : TE := fun σ H Q => t σ H fun vs H1 => ∀ x dx, H1 x = none → H1 dx = none → dx ≠ x →
  sp (.ref x :: (vs ++ dvs)) (upd (upd H1 dx (.own x)) x (.ins C dx [])) (fun v H2 => v = .non ∧ Q (.ref x) H2) E

/-- how the parameters are bound: us the positional arguments, kw the keywords' values by name, ds the defaults that fill up -/
def Binds (K : PySem.W.Frag) (fd : FuncData) (ps : List Str) (ds : List Value) : Prop :=
  ∀ (s : Shared) (us : List Value), K.In s.heap → (us ++ ds).length = ps.length → BindsTo s fd ⟨us, []⟩ (ps.zip (us ++ ds))
/-- every parameter is given -/
theorem Binds.all {K : PySem.W.Frag} {fd : FuncData} {ps : List Str} (h : ∀ us : List Value, us.length = ps.length → bindArgs fd ⟨us, []⟩ = pure (ps.zip us)) : Binds K fd ps [] := fun s us _ hl => by
  rw [List.append_nil] at hl ⊢
  exact .of_eq (h us hl)

/-- an exception of a callee reaches what this body wants of exceptions -/
def Passes (CX : CXT) (X : Cx) (E : XK) : Prop := ∀ (pins : List (Addr × Obj)) (σ : St) (H : Hp) (s : Shared) (e : Value) (s' : Shared), Inv X pins σ H s → CX X.stack H s E e s' → X.xe e s'

section
variable {X : Cx} {CX : CXT} {k : Nat} {f C : Addr} {fd : FuncData} {ps : List Str} {sp : Sp} {dvs : List V} {ds : List Value} {E : XK} {x m : Str} {p pos apos : Pos} {e o : Expr} {es : List Expr} {ta : TE} {t : TA}

/-- the callee runs -/
theorem run_fn {pins : List (Addr × Obj)} {σ : St} {H : Hp} {s : Shared} {Q : VK} {us : List Value} {vs : List V} (F : FnOk X.prog X.w X.K X.mg X.base CX k f fd ps sp) (hr : Room k X.A) (hb : Binds X.K fd ps ds) (hd : Vals dvs ds) (hx : Passes CX X E)
    (I : Inv X pins σ H s) (r : Vals vs us) (h : sp (vs ++ dvs) H Q E) : wpAny (model X.prog X.w) X.A (call (.ref f) us) (EP X pins σ Q) X.xe s := by
  have r2 : Vals (vs ++ dvs) (us ++ ds) := r.append hd
  have hl : (us ++ ds).length = ps.length := by rw [← r2.length]; exact F.len _ _ _ _ h
  refine wpAny_call (codeAny_mono (F.run X.A X.stack s H ⟨us, []⟩ (us ++ ds) (vs ++ dvs) Q E hr I.env0 (hb s us I.kIn hl) r2 h) fun r s' hq => ?_)
  cases r with
  | error e => exact hx pins σ H s e s' I hq
  | ok fl =>
    cases fl with
    | ret u => exact I.after hq
    | next => exact False.elim hq
    | brk => exact False.elim hq
    | cont => exact False.elim hq

theorem pe_call (F : FnOk X.prog X.w X.K X.mg X.base CX k f fd ps sp) (hr : Room k X.A) (hg : Gl X x) (hm : X.mg x = some (.ref f)) (hk : PySem.W.keepIn X.K (.ref f) = true) (hb : Binds X.K fd ps ds) (hd : Vals dvs ds) (hx : Passes CX X E)
    (ha : PA X (e :: es) t) (hdb : (x == ("__debug__" : Str)) = false := by decide) (he : starEach (e :: es) X.env = (false, eval e X.env) :: starEach es X.env := by rfl) (hpl : (backTo pos (starEach es X.env)).any (·.1) = false := by rfl) :
    PE X (.Call (.Name x p) (e :: es) [] pos) (tCall sp dvs E t) := by
  intro pins s σ H Q I h
  refine wpAny_Call_Name_kw (ld_glob I hg hm ?_ hdb)
  refine PySem.W.callWith_K (h₀ := X.base) I.ok.mod.kin hk (thn (ha pos pins s σ H _ I h) fun us s1 ⟨vs, H1, I1, r, q⟩ => ⟨I1.kIn, ?_⟩) he hpl
  exact run_fn F hr hb hd hx I1 r q
/-- what a class must have to be made -/
structure Mk (K : PySem.W.Frag) (C f : Addr) : Prop where
  makes : PySem.W.makesIn K C = true
  init : PySem.W.findIn K (.ref C) "__init__" = some (some (.ref f))
  fn : PySem.W.isFn K (.ref f) = true
  kp : PySem.W.keepIn K (.ref C) = true

end

/-! ### keywords -/
/-- the values of the keywords, from the left -/
def PK (X : Cx) (kws : List Keyword) (t : TA) : Prop :=
  ∀ (pos : Pos) (pins : List (Addr × Obj)) (s : Shared) (σ : St) (H : Hp) (Q : List V → Hp → Prop), Inv X pins σ H s → t σ H Q → wpAny (model X.prog X.w) X.A (evalAll ((backToKw pos (keywordEach kws X.env)).map (·.2))) (AP X pins σ Q) X.xe s
section
variable {X : Cx} {CX : CXT} {k : Nat} {f C : Addr} {fd : FuncData} {ps ks : List Str} {sp : Sp} {E : XK} {x m : Str} {p pos apos kpos : Pos} {e o : Expr} {es : List Expr} {kws : List Keyword} {te ta : TE} {t tk : TA} {nm : Option Str}
/-- how a call with keywords binds: g puts the positional values us and the keywords' values ws (names ks) in the parameters' order, defaults among them -/
structure KBinds (K : PySem.W.Frag) (fd : FuncData) (ps ks : List Str) (g : List Value → List Value → List Value) (gV : List V → List V → List V) : Prop where
  to : ∀ (s : Shared) (us ws : List Value), K.In s.heap → (g us ws).length = ps.length → BindsTo s fd ⟨us, ks.zip ws⟩ (ps.zip (g us ws))
  rel : ∀ {vs : List V} {us : List Value} {zs : List V} {ws : List Value}, Vals vs us → Vals zs ws → Vals (gV vs zs) (g us ws)
def tCallK (sp : Sp) (gV : List V → List V → List V) (E : XK) (t tk : TA) : TE := fun σ H Q => t σ H fun vs H1 => tk σ H1 fun zs H2 => sp (gV vs zs) H2 Q E
variable {g : List Value → List Value → List Value} {gV : List V → List V → List V}
end

/-! ### a def's body keeps its promise -/
/-- names: the parameters first -/
structure FnScope (N P : List Str) (sc : Scope) : Prop where
  kind : sc.kind = .function
  co : sc.isCoroutine = false
  gen : sc.isGenerator = false
  nd : N.Nodup
  pre : N.take P.length = P
  par : ∀ x ∈ P, sc.names.lookup x = some .local ∨ sc.names.lookup x = some .cell
  nofree : ∀ y ∈ sc.names, y.2 ≠ .free

theorem bindL_out {kindOf : Str → Option NameKind} {x : Str} : ∀ {binds : List (Str × Value)} {m : Str → Option Value}, (∀ v, (x, v) ∉ binds) → bindL kindOf binds m x = m x
  | [], _, _ => rfl
  | (n, v) :: r, m, h => by
    unfold bindL
    rw [bindL_out fun w hw => h w (List.mem_cons_of_mem _ hw)]
    split
    · have : x ≠ n := by rintro rfl; exact h v List.mem_cons_self
      simp [this]
    · rfl
theorem bindC_out {kindOf : Str → Option NameKind} {x : Str} : ∀ {binds : List (Str × Value)} {m : Str → Option Value}, (∀ v, (x, v) ∉ binds) → bindC kindOf binds m x = m x
  | [], _, _ => rfl
  | (n, v) :: r, m, h => by
    unfold bindC
    rw [bindC_out fun w hw => h w (List.mem_cons_of_mem _ hw)]
    split
    · rfl
    · have : x ≠ n := by rintro rfl; exact h v List.mem_cons_self
      simp [this]
theorem bindL_get {kindOf : Str → Option NameKind} {x : Str} {v : Value} : ∀ {P : List Str} {vs : List Value} {i : Nat} {m : Str → Option Value}, P.Nodup → P[i]? = some x → vs[i]? = some v → kindOf x = some .local →
    bindL kindOf (P.zip vs) m x = some v
  | [], _, _, _, _, h, _, _ => by simp at h
  | _ :: _, [], _, _, _, _, h, _ => by simp at h
  | p :: P, w :: vs, 0, m, nd, h1, h2, hk => by
    simp at h1 h2; subst h1; subst h2
    show bindL kindOf ((p, w) :: P.zip vs) m p = _
    unfold bindL
    rw [bindL_out fun v hv => (List.nodup_cons.mp nd).1 (List.of_mem_zip hv).1, if_pos hk]
    simp
  | p :: P, w :: vs, i + 1, m, nd, h1, h2, hk => by
    show bindL kindOf ((p, w) :: P.zip vs) m x = _
    unfold bindL
    exact bindL_get (i := i) (List.nodup_cons.mp nd).2 (by simpa using h1) (by simpa using h2) hk
theorem bindC_get {kindOf : Str → Option NameKind} {x : Str} {v : Value} : ∀ {P : List Str} {vs : List Value} {i : Nat} {m : Str → Option Value}, P.Nodup → P[i]? = some x → vs[i]? = some v → kindOf x ≠ some .local →
    bindC kindOf (P.zip vs) m x = some v
  | [], _, _, _, _, h, _, _ => by simp at h
  | _ :: _, [], _, _, _, _, h, _ => by simp at h
  | p :: P, w :: vs, 0, m, nd, h1, h2, hk => by
    simp at h1 h2; subst h1; subst h2
    show bindC kindOf ((p, w) :: P.zip vs) m p = _
    unfold bindC
    rw [bindC_out fun v hv => (List.nodup_cons.mp nd).1 (List.of_mem_zip hv).1, if_neg hk]
    simp
  | p :: P, w :: vs, i + 1, m, nd, h1, h2, hk => by
    show bindC kindOf ((p, w) :: P.zip vs) m x = _
    unfold bindC
    exact bindC_get (i := i) (List.nodup_cons.mp nd).2 (by simpa using h1) (by simpa using h2) hk

/-- the names' values at the entry -/
def start (N : List Str) (vs : List V) : St := vs.map some ++ List.replicate (N.length - vs.length) none

/-- the context of a def's body, at its entry; an exception leaves the frame, then lies as CX says -/
def cxOf (CX : CXT) (P : Program) (w : World) (K : PySem.W.Frag) (mg : Str → Option Value) (base : Heap) (N : List Str) (qual : Str) (scope : Scope) (f : Addr) (cd : Value) (A : Around) (outer : List Env) (s : Shared) (H : Hp) (E : XK) : Cx where
  prog := P
  w := w
  K := K
  mg := mg
  base := base
  A := A.deeper (envOfC qual scope s.heap.objs.size f cd)
  N := N
  s₀ := s
  H₀ := H
  env := envOfC qual scope s.heap.objs.size f cd
  outer := outer
  stack := envOfC qual scope s.heap.objs.size f cd :: outer
  ex := []
  calm := true
  fn := fun _ => true
  pn := []
  xe := fun e s' => wpAny (model P w) (A.deeper (envOfC qual scope s.heap.objs.size f cd)) (leaving (envOfC qual scope s.heap.objs.size f cd) e) (fun _ s'' => CX outer H s E e s'') (fun e' s'' => CX outer H s E e' s'') s'

theorem cell_has {sc : Scope} {n : Nat} {x : Str} (h : sc.names.lookup x = some .cell) : ∃ c, (cellsFrom n sc.names []).lookup x = some c := by
  have q := PySem.W.cellsFrom_some sc.names n [] (.inl h)
  exact Option.isSome_iff_exists.mp q

theorem inv_start {CX : CXT} {P : Program} {w : World} {K : PySem.W.Frag} {mg : Str → Option Value} {base : Heap} {N ps : List Str} {qual : Str} {scope : Scope} {f : Addr} {cd : Value} {A : Around} {outer : List Env} {s s1 : Shared} {H : Hp} {E : XK} {us : List Value} {vs : List V}
    (S : FnScope N ps scope) (hd : A.handled = none) (e0 : Env0 P w K mg base A outer s H) (hl : vs.length = ps.length) (r : Vals vs us)
    (x : InCallC s s.heap.objs.size (bindL (envOfC qual scope s.heap.objs.size f cd).kindOf (ps.zip us) fun _ => none) (cellsFrom (s.heap.objs.size + 1) scope.names []) (bindC (envOfC qual scope s.heap.objs.size f cd).kindOf (ps.zip us) fun _ => none) s1) :
    Inv (cxOf CX P w K mg base N qual scope f cd A outer s H E) [] (start N vs) H s1 := by
  have hpl : ps.length ≤ N.length := by have := congrArg List.length S.pre; rw [List.length_take] at this; omega
  obtain ⟨h1, tk, rfl, hk⟩ := x.done
  have noA : ∀ b : Addr, b ∉ (cxOf CX P w K mg base N qual scope f cd A outer s H E).ex := fun b z => absurd (show b ∈ ([] : List Addr) from z) (by simp)
  refine ⟨⟨e0.mod, S.kind, rfl, rfl, Nat.le_refl _, fun y z c h1 h2 => ?_, fun y hy => ?_, fun y c _ h => ?_, fun _ => hd, Around.frames_deeper e0.frames, .inr ⟨rfl, rfl⟩, fun b z => absurd z (noA b), e0.bs, e0.bsz, fun b _ _ => noA b, fun b z => absurd z (noA b), e0.funs, e0.frf⟩,
    rfl, e0.bare, Un.kept hk, ⟨_, x.toInCall.ns, fun i y v h1 h2 h3 => ?_⟩, fun y c h => ⟨_, x.cell y c h⟩, e0.hok.fresh (Nat.le_refl _), fun y c h => ?_, fun p hp => absurd (show p ∈ ([] : List (Addr × Obj)) from hp) (by simp), e0.hok.kept hk, ?_⟩
  · exact name_of_addr x.apart (PySem.mem_of_lookup h1) (PySem.mem_of_lookup h2)
  · have hy : scope.names.lookup y = some .cell ∨ scope.names.lookup y = some .free := hy
    rcases hy with hy | hy
    · exact cell_has hy
    · exact absurd rfl (S.nofree _ (PySem.mem_of_lookup hy))
  · exact Nat.le_of_lt (x.above y c (PySem.mem_of_lookup h))
  · have hi : i < vs.length := by
      unfold start at h2
      by_cases hi : i < vs.length
      · exact hi
      · rw [List.getElem?_append_right (by simpa using hi)] at h2
        rw [List.getElem?_replicate] at h2
        split at h2 <;> cases h2
    have ha : vs[i]? = some v := by
      unfold start at h2
      rw [List.getElem?_append_left (by simpa using hi), List.getElem?_map] at h2
      cases e : vs[i]? with
      | none => rw [e] at h2; cases h2
      | some a => rw [e] at h2; cases h2; rfl
    obtain ⟨u, hu, rv⟩ := r.get ha
    have hp : ps[i]? = some y := by
      rw [← S.pre, List.getElem?_take_of_lt (by omega)]; exact h1
    have ndP : ps.Nodup := by rw [← S.pre]; exact S.nd.sublist (List.take_sublist _ _)
    refine ⟨u, rv, ?_⟩
    rcases S.par y (List.mem_of_getElem? hp) with k | k
    · exact .inl ⟨k, bindL_get ndP hp hu k⟩
    · obtain ⟨c, e⟩ := cell_has (n := s.heap.objs.size + 1) k
      refine .inr ⟨.inl k, c, e, ?_⟩
      have q := x.cell y c e
      rw [bindC_get ndP hp hu (by show scope.names.lookup y ≠ _; rw [k]; decide)] at q
      exact q
  · exact e0.hok.fresh (Nat.le_of_lt (x.above y c (PySem.mem_of_lookup h)))
  · unfold start
    show _ = N.length
    rw [List.length_append, List.length_map, List.length_replicate]
    omega

/-- THE RULE: a def (or a method) of the text, by its body. The body's reading t is chosen for each entry; it is run at the parameters' values -/
theorem fn_of {CX : CXT} {P : Program} {w : World} {K : PySem.W.Frag} {mg : Str → Option Value} {base : Heap} {k : Nat} {f : Addr} {name qual : Str} {params : Arguments} {body : List Stmt} {scope : Scope} {dV kV doc pm cdv ct oc : Value} {an od : Option Addr}
    {osl : Array (Option Value)} {N ps : List Str} {sp : Sp} (lk : K.lookup f = some ⟨oc, od, .func (PySem.W.fnOf name qual params body scope dV kV doc pm an cdv ct), osl⟩) (hcd : PySem.W.codeIn K cdv qual = true) (S : FnScope N ps scope)
    (len : ∀ vs H Q E, sp vs H Q E → vs.length = ps.length)
    (hbody : ∀ (A : Around) (outer : List Env) (s : Shared) (H : Hp) (vs : List V) (Q : VK) (E : XK), Room k (A.deeper (envOfC qual scope s.heap.objs.size f cdv)) → sp vs H Q E →
      ∃ t, PSs (cxOf CX P w K mg base N qual scope f cdv A outer s H E) body t ∧ t { nx := fun _ H' => Q .non H', rt := Q } (start N vs) H) :
    FnOk P w K mg base CX (k + 1) f (PySem.W.fnOf name qual params body scope dV kV doc pm an cdv ct) ps sp := by
  refine ⟨len, fun A outer s H args us vs Q E hr e0 hb r hsp => ?_⟩
  have hl := len _ _ _ _ hsp
  have KX : K.In s.heap := e0.mod.kin.keeps fun b o e => (e0.bs b o e).1
  have lim : s.heap.NoLimit := e0.mod.nolimit.keeps fun b o e => (e0.bs b o e).1
  have hkind : ∀ y ∈ ps.zip us, scope.names.lookup y.1 = some .local ∨ (scope.names.lookup y.1 = some .cell ∧ ((cellsFrom (s.heap.objs.size + 1) scope.names []).lookup y.1).isSome = true) := fun ⟨n, v⟩ hy => by
    rcases S.par n (List.of_mem_zip hy).1 with q | q
    · exact .inl q
    · exact .inr ⟨q, PySem.W.cellsFrom_some _ _ _ (.inl q)⟩
  refine codeAny_call_function hr.depth (KX _ _ lk) rfl S.co S.gen rfl (PySem.W.codeRec_of KX hcd) (hb _ _ _ _ ?_)
  refine wpAny_newFunctionEnv_cells S.kind hkind fun env he s1 x => ?_
  subst he
  refine ⟨lim.keeps x.toInCall.keep, codeAny_func ?_⟩
  obtain ⟨t, ht, hq⟩ := hbody A outer s H vs Q E (hr.deeper _) hsp
  have I : Inv (cxOf CX P w K mg base N qual scope f cdv A outer s H E) [] (start N vs) H s1 := inv_start S hr.hd e0 hl r x
  refine wpAny_mono (ht [] s1 (start N vs) H _ I hq) (fun fl s' hs => ?_) fun e s' hs => hs
  have fin : ∀ {σ' : St} {H' : Hp} {v : V} {u : Value}, Inv (cxOf CX P w K mg base N qual scope f cdv A outer s H E) [] σ' H' s' → RelV v u → Q v H' → CE outer P w H s Q u s' :=
    fun {σ' H' v u} J rv q => ⟨v, H', J.os, J.bare, J.base, J.hok, rv, q⟩
  cases fl with
  | ret u =>
    obtain ⟨v, σ', H', J, rv, q⟩ := hs
    exact fin J rv q
  | next =>
    obtain ⟨σ', H', J, q⟩ := hs
    exact fin (v := V.non) (u := Value.none) J rfl q
  | brk =>
    obtain ⟨_, _, _, q⟩ := hs
    exact False.elim q
  | cont =>
    obtain ⟨_, _, _, q⟩ := hs
    exact False.elim q
end L2

namespace L2
open PySem PySem.Spec PyProof.Rows
section
variable {X : Cx} {x : Str} {p pos : Pos} {e : Expr} {es : List Expr} {t : TA} {id T : String} {r : List V → Hp → VK → Prop}

def tCB (r : List V → Hp → VK → Prop) (t : TA) : TE := fun σ H Q => t σ H fun vs H1 => r vs H1 Q
/-- f(e, ..), f a built-in function -/
theorem pe_callB (hc : CallR X (.builtin id) r) (hg : Gl X x) (hm : X.mg x = none) (hv : bootBuiltins x = some (.builtin id)) (ha : PA X (e :: es) t) (hn : x ≠ "__name__" := by decide) (hdb : (x == ("__debug__" : Str)) = false := by decide)
    (he : starEach (e :: es) X.env = (false, eval e X.env) :: starEach es X.env := by rfl) (hpl : (backTo pos (starEach es X.env)).any (·.1) = false := by rfl) : PE X (.Call (.Name x p) (e :: es) [] pos) (tCB r t) := by
  intro pins s σ H Q I h
  refine wpAny_Call_Name_kw (ld_blt I hg hm hv ?_ hn hdb)
  exact PyProof.Rows.callWith_builtin1 (thn (ha pos pins s σ H _ I h) fun us s1 ⟨vs, H1, I1, r1, q1⟩ => hc pins s1 σ H1 vs us Q I1 r1 q1) he hpl
/-- T(e, ..), T a built-in type -/
theorem pe_callTy (hc : CallR X (.type T) r) (hg : Gl X x) (hm : X.mg x = none) (hv : bootBuiltins x = some (.type T)) (ha : PA X (e :: es) t) (hn : x ≠ "__name__" := by decide) (hdb : (x == ("__debug__" : Str)) = false := by decide)
    (he : starEach (e :: es) X.env = (false, eval e X.env) :: starEach es X.env := by rfl) (hpl : (backTo pos (starEach es X.env)).any (·.1) = false := by rfl) : PE X (.Call (.Name x p) (e :: es) [] pos) (tCB r t) := by
  intro pins s σ H Q I h
  refine wpAny_Call_Name_kw (ld_blt I hg hm hv ?_ hn hdb)
  exact PyProof.Rows.callWith_type1 (thn (ha pos pins s σ H _ I h) fun us s1 ⟨vs, H1, I1, r1, q1⟩ => hc pins s1 σ H1 vs us Q I1 r1 q1) he hpl
end
end L2

namespace HT
open PySem PyProof.Rows

/-- t < u of tuples of ints -/
def lexLt : List Int → List Int → Bool
  | [], [] => false
  | [], _ :: _ => true
  | _ :: _, [] => false
  | x :: xs, y :: ys => if x = y then lexLt xs ys else decide (x < y)
section
open PySem.SeqAt
open PySem.AutoSeq1 (wpAny_loadPart')
open PySem.MeetsSeq PySem.MeetsSeq2 PySem.MeetsSeq3

end

section
variable {prog : Program} {w : World} {A : Around} {E : Value → Shared → Prop} {s : Shared}

/-- t + u, t not empty -/
theorem cat_tup {t b : Addr} {vs ws : List Value} {Q : Value → Shared → Prop} (ht : IsTup s.heap t vs.toArray) (hb : IsTup s.heap b ws.toArray) (hv : vs ≠ [])
    (h1 : ws = [] → Q (.ref t) s) (h2 : ws ≠ [] → Q (.ref s.heap.objs.size) { s with heap := s.heap.push { cls := .type "tuple", data := .seq (vs ++ ws).toArray } })
    (hsz : vs.length + ws.length ≤ sizeLine) : wpAny (model prog w) A (binaryOp .Add (.ref t) (.ref b)) Q E s := by
  obtain ⟨⟨cls, dd, data, sl⟩, ho, hc, n, hd⟩ := id ht
  obtain ⟨⟨cls2, dd2, data2, sl2⟩, ho2, hc2, n2, hd2⟩ := id hb
  simp only at hc hd hc2 hd2
  subst hc hd hc2 hd2
  have e : vs.toArray ++ ws.toArray = (vs ++ ws).toArray := by simp
  by_cases hw : ws = []
  · exact concat_meets ⟨_, ho, rfl⟩ ⟨_, ho2, rfl⟩ noFill_tuple_add seq_tuple_add PySem.F.slot_tuple_add PySem.F.entry_tuple_add (PySem.F.args_tuple_add_2 _ _)
      (tuple_addW1 t b vs.toArray ws.toArray n n2 dd dd2 sl sl2 (by simpa using hv) (by simp [hw])) ⟨ho, ho2, h1 hw⟩
  · refine concat_meets ⟨_, ho, rfl⟩ ⟨_, ho2, rfl⟩ noFill_tuple_add seq_tuple_add PySem.F.slot_tuple_add PySem.F.entry_tuple_add (PySem.F.args_tuple_add_2 _ _)
      (tuple_addW2 t b vs.toArray ws.toArray n n2 dd dd2 sl sl2 (by simpa using hv) (by simpa using hw) (by rw [List.size_toArray, List.size_toArray]; exact hsz)) ⟨ho, ho2, ?_⟩
    rw [e]
    exact h2 hw

/-! ### t[a:b], not the whole -/
/-- a slice's bound as a place among n (d where it is left out) -/
def sIx (n d : Nat) : Option Int → Nat
  | none => d
  | some v => if v < 0 then (v + (n : Int)).toNat else min v.toNat n
theorem sIx_le (n d : Nat) (hd : d ≤ n) (o : Option Int) : sIx n d o ≤ n := by
  cases o with
  | none => exact hd
  | some v =>
    show (if v < 0 then (v + (n : Int)).toNat else min v.toNat n) ≤ n
    by_cases hv : v < 0
    · rw [if_pos hv]; omega
    · rw [if_neg hv]; exact Nat.min_le_right _ _
theorem clip_eq (v : Int) (n d : Nat) : (if v < 0 then max (v + (n : Int)) 0 else min v (n : Int)) = ((sIx n d (some v) : Nat) : Int) := by
  show (if v < 0 then max (v + (n : Int)) 0 else min v (n : Int)) = (((if v < 0 then (v + (n : Int)).toNat else min v.toNat n) : Nat) : Int)
  by_cases hv : v < 0
  · simp only [if_pos hv]; omega
  · simp only [if_neg hv]; omega
theorem adjust_gen (lo hi : Option Int) (n : Nat) : Builtin.Slice.sliceAdjust lo hi 1 (n : Int) = (((sIx n 0 lo : Nat) : Int), ((sIx n n hi : Nat) : Int)) := by
  have h1 : ¬ ((1 : Int) < 0) := by omega
  unfold Builtin.Slice.sliceAdjust
  simp only [h1, if_false]
  refine Prod.ext ?_ ?_
  · cases lo with
    | none => rfl
    | some v => exact clip_eq v n 0
  · cases hi with
    | none => rfl
    | some v => exact clip_eq v n n
theorem places_gen (i j : Nat) : Builtin.Slice.slicePlaces (i : Int) (j : Int) 1 = j - i := by
  unfold Builtin.Slice.slicePlaces
  have h1 : (1 : Int) > 0 := by omega
  simp only [h1, if_true, Int.ediv_one]
  split <;> omega
theorem slicePart_ {v : Value} {o : Option Int} {Q : Option Int → Shared → Prop} (p : IsPart v o) (h : Q o s) : wpAny (model prog w) A (Builtin.Slice.slicePartIndex v) Q E s := by
  cases p with
  | none => exact slicePart_none h
  | int i t => exact slicePart_int h
theorem sliceApplied_gen {sl : Addr} {vl vu : Value} {lo hi : Option Int} {n : Nat} {Q : Int × Int × Nat → Shared → Prop} (hs : s.heap.IsSliceOf sl vl vu .none) (pl : IsPart vl lo) (pu : IsPart vu hi)
    (h : Q (((sIx n 0 lo : Nat) : Int), 1, sIx n n hi - sIx n 0 lo) s) : wpAny (model prog w) A (Builtin.Slice.sliceApplied (.ref sl) (pure (n : Int))) Q E s := by
  obtain ⟨os, hos, hcs, hds⟩ := id hs
  unfold Builtin.Slice.sliceApplied Builtin.Slice.sliceFields
  refine wpAny_bind (wpAny_bind (wpAny_field hos hds (x := vl) rfl (wpAny_bind (wpAny_field hos hds (x := vu) rfl (wpAny_bind (wpAny_field hos hds (x := .none) rfl (wpAny_pure ?_)))))))
  refine wpAny_bind (slicePart_none ?_)
  show wpAny _ _ (if ((1 : Int) == 0) = true then _ else _) _ _ s
  rw [if_neg (by decide)]
  refine wpAny_bind (slicePart_ pl (wpAny_bind (slicePart_ pu (wpAny_bind (wpAny_pure ?_)))))
  show wpAny _ _ (match Builtin.Slice.sliceAdjust lo hi 1 (n : Int) with | (lo, hi) => pure (lo, (1 : Int), Builtin.Slice.slicePlaces lo hi 1)) _ _ s
  rw [adjust_gen lo hi n]
  show wpAny _ _ (pure (((sIx n 0 lo : Nat) : Int), (1 : Int), Builtin.Slice.slicePlaces ((sIx n 0 lo : Nat) : Int) ((sIx n n hi : Nat) : Int) 1)) _ _ s
  rw [places_gen]
  exact wpAny_pure h
theorem pick_gen (xs : Array Value) (i k : Nat) : ((List.range k).filterMap fun (m : Nat) => xs[((i : Int) + (m : Int) * 1).toNat]?).toArray = ((xs.toList.drop i).take k).toArray := by
  have e : (fun (m : Nat) => xs[((i : Int) + (m : Int) * 1).toNat]?) = fun m => xs[i + m]? := by
    funext m
    have : ((i : Int) + (m : Int) * 1).toNat = i + m := by omega
    rw [this]
  rw [e]
  have := pick_run xs i k
  rw [List.filterMap_map] at this
  have e2 : ((fun x => xs[x]?) ∘ fun x => i + x) = fun m => xs[i + m]? := rfl
  rw [e2] at this
  rw [this]

theorem getItem_tuple_cut {t sl : Addr} {items : Array Value} {vl vu : Value} {lo hi : Option Int} {Q : Value → Shared → Prop} (ht : IsTup s.heap t items) (hs : s.heap.IsSliceOf sl vl vu .none) (pl : IsPart vl lo) (pu : IsPart vu hi)
    (hw : ¬ (sIx items.size 0 lo = 0 ∧ sIx items.size items.size hi = items.size))
    (h : Q (.ref s.heap.objs.size) { s with heap := s.heap.push { cls := .type "tuple", data := .seq ((items.toList.drop (sIx items.size 0 lo)).take (sIx items.size items.size hi - sIx items.size 0 lo)).toArray } })
    (hsz : items.size ≤ sizeLine) : wpAny (model prog w) A (getItem (.ref t) (.ref sl)) Q E s := by
  have htake : sizeOk (.seq ((items.toList.drop (sIx items.size 0 lo)).take (sIx items.size items.size hi - sIx items.size 0 lo)).toArray) := by
    show ((items.toList.drop (sIx items.size 0 lo)).take (sIx items.size items.size hi - sIx items.size 0 lo)).toArray.size ≤ sizeLine
    rw [List.size_toArray, List.length_take, List.length_drop, Array.length_toList]
    omega
  have hj : sIx items.size items.size hi ≤ items.size := sIx_le _ _ (Nat.le_refl _) hi
  obtain ⟨os, hos, hcs, hds⟩ := id hs
  have hTs : s.TypeIs (.ref sl) "slice" := ⟨os, hos, hcs⟩
  unfold getItem
  try with_reducible refine wpAny_holding ?_
  first | refine wpAny_bind (wpAny_pure ?_) | skip
  refine wpAny_bind (wpAny_sequenceKey ht.typeIs (by decide) ?_)
  refine wpAny_bind (wpAny_callSpecial?_slot (name := Str.ofString "__getitem__") ht.typeIs PyProof.Rows.slot_tuple_getitem
    (wpAny_call_entry PyProof.Rows.slot_tuple_getitem ht.typeIs entry_tuple_getitem ?_ (args_tuple_getitem _ _)))
  show wpAny _ _ (Builtin.Tuple.tupleItemsOf (.ref t) >>= _) _ _ s
  refine wpAny_bind (tupleItemsOf_ ht ?_)
  refine wpAny_bind (wpAny_typeOf hTs ?_)
  rw [if_pos (by decide)]
  refine wpAny_bind (sliceApplied_gen hs pl pu ?_)
  have hno : ¬ ((((sIx items.size 0 lo : Nat) : Int) == 0 && (1 : Int) == 1 && (sIx items.size items.size hi - sIx items.size 0 lo) == items.size) = true) := by
    intro q
    rw [Bool.and_eq_true, Bool.and_eq_true] at q
    have q1 : ((sIx items.size 0 lo : Nat) : Int) = 0 := eq_of_beq q.1.1
    have q2 : sIx items.size items.size hi - sIx items.size 0 lo = items.size := eq_of_beq q.2
    exact hw ⟨by omega, by omega⟩
  show wpAny _ _ (if (((sIx items.size 0 lo : Nat) : Int) == 0 && (1 : Int) == 1 && (sIx items.size items.size hi - sIx items.size 0 lo) == items.size) = true then _ else _) _ _ s
  rw [if_neg hno, pick_gen]
  first
    | exact wpAny_bind (m := Builtin.Tuple.tupleExact _) (wpAny_newObj_type (wpAny_pure ⟨_, rfl, wpAny_pure h⟩) htake)
    | exact wpAny_bind (m := Builtin.Tuple.tupleExact _) (wpAny_newObj_type (wpAny_bind (wpAny_pure (wpAny_pure ⟨_, rfl, wpAny_pure h⟩))) htake)
    | exact wpAny_bind (wpAny_bind (m := Builtin.Tuple.tupleExact _) (wpAny_newObj_type (wpAny_pure (wpAny_pure ⟨_, rfl, wpAny_pure h⟩)) htake))
    | exact wpAny_bind (wpAny_bind (m := Builtin.Tuple.tupleExact _) (wpAny_newObj_type (wpAny_pure ⟨_, rfl, wpAny_pure h⟩) htake))
end
end HT

namespace L2
open PySem PySem.Spec PyProof.Rows

/-! ### the parts of a slice -/
abbrev TO := St → Hp → (Option Int → Hp → Prop) → Prop
/-- a slice's part (left out, or an int) -/
def PO (X : Cx) (e : Option Expr) (t : TO) : Prop :=
  ∀ (pins : List (Addr × Obj)) (s : Shared) (σ : St) (H : Hp) (Q : Option Int → Hp → Prop), Inv X pins σ H s → t σ H Q →
    wpAny (model X.prog X.w) X.A (evalPart e X.env) (fun u s' => ∃ o H', Inv X pins σ H' s' ∧ IsPart u o ∧ Q o H') X.xe s
def tNoPart : TO := fun _ H Q => Q none H
def tPart (t : TE) : TO := fun σ H Q => t σ H fun x H1 => ∃ i, x = .int i ∧ Q (some i) H1

section
variable {X : Cx} {e : Expr} {te : TE} {lo hi : Option Expr} {tl th : TO} {pos p2 : Pos}

theorem po_none : PO X none tNoPart := by
  intro pins s σ H Q I h
  rw [evalPart_none]
  exact wpAny_pure ⟨none, H, I, .none, h⟩
theorem po_some (h : PE X e te) : PO X (some e) (tPart te) := by
  intro pins s σ H Q I hw
  rw [evalPart_some]
  refine thn (h pins s σ H _ I hw) fun u s1 ⟨x, H1, I1, r1, q1⟩ => ?_
  obtain ⟨i, rfl, q⟩ := q1
  obtain ⟨t, rfl⟩ := r1
  exact ⟨some i, H1, I1, .int i t, q⟩

/-- what a slice of a value is, by values: the slice object stands at sl -/
def SlR (X : Cx) (r : V → Option Int → Option Int → Hp → VK → Prop) : Prop :=
  ∀ (pins : List (Addr × Obj)) (s : Shared) (σ : St) (H : Hp) (x : V) (v vl vu : Value) (lo hi : Option Int) (sl : Addr) (Q : VK), Inv X pins σ H s → RelV x v → s.heap.IsSliceOf sl vl vu .none → IsPart vl lo → IsPart vu hi → r x lo hi H Q →
    ∃ T id, typeLookup (.type T) "__getitem__" = pure (some (.builtin id)) ∧ s.TypeIs v T ∧ wpAny (model X.prog X.w) X.A (getItem v (.ref sl)) (EP X pins σ Q) X.xe s
theorem SlR.or {r r' : V → Option Int → Option Int → Hp → VK → Prop} (h : SlR X r) (h' : SlR X r') : SlR X (fun x lo hi H Q => r x lo hi H Q ∨ r' x lo hi H Q) := by
  intro pins s σ H x v vl vu lo hi sl Q I rx hs pl pu q
  rcases q with q | q
  · exact h pins s σ H x v vl vu lo hi sl Q I rx hs pl pu q
  · exact h' pins s σ H x v vl vu lo hi sl Q I rx hs pl pu q
def tSl (r : V → Option Int → Option Int → Hp → VK → Prop) (te : TE) (tl th : TO) : TE := fun σ H Q => te σ H fun x H1 => tl σ H1 fun l H2 => th σ H2 fun u H3 => r x l u H3 Q
/-- a[lo:hi], any a -/
theorem pe_slice {r : V → Option Int → Option Int → Hp → VK → Prop} (hr : SlR X r) (he : PE X e te) (hl : PO X lo tl) (hu : PO X hi th) : PE X (.Subscript e (.Slice lo hi none p2) pos) (tSl r te tl th) := by
  intro pins s σ H Q I h
  refine Subscript_ (thn (he pins s σ H _ I h) fun v s1 ⟨x, H1, I1, r1, q1⟩ => ?_)
  refine wpAny_Slice (thn (hl pins s1 σ H1 _ I1 q1) fun vl s2 ⟨l, H2, I2, pl, q2⟩ => thn (hu pins s2 σ H2 _ I2 q2) fun vu s3 ⟨u, H3, I3, pu, q3⟩ => ?_)
  rw [evalPart_none]
  refine wpAny_pure ?_
  have I4 : Inv X pins σ H3 { s3 with heap := s3.heap.push { cls := .type "slice", data := .fields #[vl, vu, .none] } } := I3.kept (t' := s3.toks) fun b ob q => Heap.get?_push_of_some _ q
  obtain ⟨T, id, hT, ht, hg⟩ := hr pins { s3 with heap := s3.heap.push { cls := .type "slice", data := .fields #[vl, vu, .none] } } σ H3 x v vl vu l u s3.heap.objs.size Q I4 r1 (Heap.IsSliceOf.new ..) pl pu q3
  show wpAny (model X.prog X.w) X.A (subscriptTail e (.Slice lo hi none p2) v (.ref s3.heap.objs.size)) (EP X pins σ Q) X.xe { s3 with heap := s3.heap.push { cls := .type "slice", data := .fields #[vl, vu, .none] } }
  exact tail_any (ops := [.ref s3.heap.objs.size, v]) ht hT hg (by with_unfolding_all rfl)

/-- the items of xs[lo:hi] -/
def cutV (xs : List V) (lo hi : Option Int) : List V := (xs.drop (HT.sIx xs.length 0 lo)).take (HT.sIx xs.length xs.length hi - HT.sIx xs.length 0 lo)
theorem cutV_length (xs : List V) (lo hi : Option Int) : (cutV xs lo hi).length ≤ xs.length := by
  unfold cutV
  rw [List.length_take, List.length_drop]
  omega
/-- t[lo:hi], not the whole of it (the whole would be t itself) -/
def rSlT (K : PySem.W.Frag) : V → Option Int → Option Int → Hp → VK → Prop := fun x lo hi H Q => ∃ a xs, x = .ref a ∧ SqT K H a xs ∧
  ¬ (HT.sIx xs.length 0 lo = 0 ∧ HT.sIx xs.length xs.length hi = xs.length) ∧ ∀ p, H p = none → Q (.ref p) (upd H p (.tup (cutV xs lo hi)))
theorem sl_tup : SlR X (rSlT X.K) := by
  intro pins s σ H x v vl vu lo hi sl Q I rx hs pl pu h
  obtain ⟨a, xs, rfl, hx, hw, q⟩ := h
  cases rx
  obtain ⟨its, r, ht, hz⟩ := I.tuple hx
  have hlen : its.toArray.size = xs.length := by rw [List.size_toArray]; exact r.length.symm
  refine ⟨"tuple", _, PyProof.Rows.slot_tuple_getitem.lookup, ht.typeIs, ?_⟩
  refine HT.getItem_tuple_cut ht hs pl pu (by rw [hlen]; exact hw) ?_ (by rw [hlen]; exact hz)
  rw [hlen]
  refine ⟨.ref s.heap.objs.size, _, I.laid (t' := s.toks) (o := .tup (cutV xs lo hi)) (fun b ob q => Heap.get?_push_of_some _ q) (Nat.le_refl _) ?_, rfl, q _ (I.hok.fresh (Nat.le_refl _))⟩
  exact ⟨Nat.le_trans (cutV_length xs lo hi) hz, _, (r.drop (HT.sIx xs.length 0 lo)).take (HT.sIx xs.length xs.length hi - HT.sIx xs.length 0 lo), IsTup.new _ _⟩

/-! ### t < u, t + u -/
def rLtT (K : PySem.W.Frag) : R2 := fun x y H Q => ∃ a b ns ms, x = .ref a ∧ y = .ref b ∧ SqT K H a (ns.map V.int) ∧ SqT K H b (ms.map V.int) ∧ Q (.bl (HT.lexLt ns ms)) H
/-- t + u, t not empty: u empty gives t itself -/
def rCatT (K : PySem.W.Frag) : R2 := fun x y H Q => ∃ a b xs ys, x = .ref a ∧ y = .ref b ∧ SqT K H a xs ∧ SqT K H b ys ∧ xs ≠ [] ∧ xs.length + ys.length ≤ sizeLine ∧
  (ys = [] → Q (.ref a) H) ∧ (ys ≠ [] → ∀ p, H p = none → Q (.ref p) (upd H p (.tup (xs ++ ys))))
theorem Vals.nil_iff {xs : List V} {us : List Value} (r : Vals xs us) : us = [] ↔ xs = [] := by
  cases r with
  | nil => simp
  | cons _ _ => simp
theorem op_catT : OpR X (binaryOp .Add) (rCatT X.K) := by
  intro pins s σ H x y v u Q I rx ry h
  obtain ⟨a, b, xs, ys, rfl, rfl, ha, hb, hx, hz, q1, q2⟩ := h
  cases rx
  cases ry
  obtain ⟨its, r1, p1, _⟩ := I.tuple ha
  obtain ⟨its2, r2, p2, _⟩ := I.tuple hb
  refine HT.cat_tup p1 p2 (fun z => hx (r1.nil_iff.mp z)) (fun z => ⟨.ref a, H, I, rfl, q1 (r2.nil_iff.mp z)⟩) (fun z => ?_) (by rw [← r1.length, ← r2.length]; exact hz)
  refine ⟨.ref s.heap.objs.size, _, I.laid (t' := s.toks) (o := .tup (xs ++ ys)) (fun b ob q => Heap.get?_push_of_some _ q) (Nat.le_refl _) ?_, rfl, q2 (fun w => z (r2.nil_iff.mpr w)) _ (I.hok.fresh (Nat.le_refl _))⟩
  exact ⟨by rw [List.length_append]; exact hz, _, r1.append r2, IsTup.new _ _⟩
end
end L2

namespace L2
open PySem PySem.Spec PyProof.Rows

/-! ### places -/
/-- the place that an index of any sign means -/
def ixN (n : Nat) (i : Int) : Option Nat := if 0 ≤ i then (if i < n then some i.toNat else none) else if -(n : Int) ≤ i then some (i + n).toNat else none
def atI {α : Type} (xs : List α) (i : Int) : Option α := (ixN xs.length i).bind fun j => xs[j]?
theorem ixN_seq {n : Nat} {i : Int} {j : Nat} (h : ixN n i = some j) : seqIndex? i n = some j ∧ j < n ∧ -(n : Int) ≤ i ∧ i < n := by
  unfold ixN at h
  by_cases h0 : 0 ≤ i
  · rw [if_pos h0] at h
    by_cases h1 : i < n
    · rw [if_pos h1] at h
      have e : i.toNat = j := Option.some.inj h
      exact ⟨by rw [seqIndex_of h0 h1, e], by omega, by omega, h1⟩
    · rw [if_neg h1] at h; cases h
  · rw [if_neg h0] at h
    by_cases h1 : -(n : Int) ≤ i
    · rw [if_pos h1] at h
      have e : (i + n).toNat = j := Option.some.inj h
      exact ⟨by rw [seqIndex_neg (by omega) h1, e], by omega, h1, by omega⟩
    · rw [if_neg h1] at h; cases h
theorem atI_get {α : Type} {xs : List α} {i : Int} {v : α} (h : atI xs i = some v) : ∃ j, seqIndex? i xs.length = some j ∧ xs[j]? = some v ∧ j < xs.length ∧ -(xs.length : Int) ≤ i ∧ i < xs.length := by
  unfold atI at h
  cases e : ixN xs.length i with
  | none => rw [e] at h; cases h
  | some j =>
    rw [e] at h
    obtain ⟨h1, h2, h3, h4⟩ := ixN_seq e
    exact ⟨j, h1, h, h2, h3, h4⟩
theorem atI_nat {α : Type} {xs : List α} {j : Nat} {v : α} (h : xs[j]? = some v) : atI xs (j : Int) = some v := by
  have hj : j < xs.length := (List.getElem?_eq_some_iff.mp h).1
  have e : ixN xs.length (j : Int) = some j := by
    unfold ixN
    rw [if_pos (by omega), if_pos (by omega)]; simp
  unfold atI; rw [e]; exact h
/-! ### what may be subscripted -/
/-- what stands as an index of a plain subscript -/
def PlainIx (b : Expr) : Prop := ∀ o i, subscripted b false o i = operate [o, i] (getItem o i)
/-- a subscript by values -/
def IxR (X : Cx) (r : R2) : Prop :=
  ∀ (value slice : Expr) (pins : List (Addr × Obj)) (s : Shared) (σ : St) (H : Hp) (x y : V) (v u : Value) (Q : VK), Inv X pins σ H s → RelV x v → RelV y u → r x y H Q →
    subscripted slice false v u = operate [v, u] (getItem v u) → wpAny (model X.prog X.w) X.A (subscriptTail value slice v u) (EP X pins σ Q) X.xe s
/-- a call of a builtin's method by values: the receiver, the arguments -/
def MtR (X : Cx) (id : String) (r : V → List V → Hp → VK → Prop) : Prop :=
  ∀ (pins : List (Addr × Obj)) (s : Shared) (σ : St) (H : Hp) (x : V) (xs : List V) (v : Value) (us : List Value) (Q : VK), Inv X pins σ H s → RelV x v → Vals xs us → r x xs H Q →
    wpAny (model X.prog X.w) X.A (call (.builtin id) (v :: us)) (EP X pins σ Q) X.xe s
section
variable {X : Cx} {a b : Expr} {ta tb : TE} {pos : Pos}
theorem IxR.or {r r' : R2} (h : IxR X r) (h' : IxR X r') : IxR X (fun x y H Q => r x y H Q ∨ r' x y H Q) := by
  intro value slice pins s σ H x y v u Q I rx ry q hs
  rcases q with q | q
  · exact h value slice pins s σ H x y v u Q I rx ry q hs
  · exact h' value slice pins s σ H x y v u Q I rx ry q hs
theorem MtR.or {id : String} {r r' : V → List V → Hp → VK → Prop} (h : MtR X id r) (h' : MtR X id r') : MtR X id (fun x xs H Q => r x xs H Q ∨ r' x xs H Q) := by
  intro pins s σ H x xs v us Q I rx rs q
  rcases q with q | q
  · exact h pins s σ H x xs v us Q I rx rs q
  · exact h' pins s σ H x xs v us Q I rx rs q
/-- a[b] -/
theorem pe_ix {r : R2} (hr : IxR X r) (ha : PE X a ta) (hb : PE X b tb) (hs : PlainIx b) : PE X (.Subscript a b pos) (tOp r ta tb) := by
  intro pins s σ H Q I h
  exact Subscript_ (binT ha hb I h fun v u s2 x y H2 I2 rx ry q => hr a b pins s2 σ H2 x y v u Q I2 rx ry q (hs _ _))

def rIxL (K : PySem.W.Frag) : R2 := fun x y H Q => ∃ p xs i v, x = .ref p ∧ y = .int i ∧ SqL K H p xs ∧ atI xs i = some v ∧ Q v H
def rIxT (K : PySem.W.Frag) : R2 := fun x y H Q => ∃ p xs i v, x = .ref p ∧ y = .int i ∧ SqT K H p xs ∧ atI xs i = some v ∧ Q v H
def rIxS : R2 := fun x y H Q => ∃ z i c, x = .str z ∧ y = .int i ∧ z.length ≤ sizeLine ∧ atI z.cps.toList i = some c ∧ Q (.str ⟨#[c]⟩) H
theorem ix_list : IxR X (rIxL X.K) := by
  intro value slice pins s σ H x y v u Q I rx ry h hs
  obtain ⟨p, xs, i, z, rfl, rfl, hq, he, q⟩ := h
  cases rx
  obtain ⟨t, rfl⟩ := ry
  obtain ⟨its, r, pl, hz⟩ := I.list hq
  obtain ⟨j, h1, h2, h3, h4, h5⟩ := atI_get he
  obtain ⟨w, ew, rw'⟩ := r.get h2
  have hl := r.length
  have hn := line63
  have fin : EP X pins σ Q w s := ⟨z, H, I, rw', q⟩
  by_cases h0 : 0 ≤ i
  · have hj : i.toNat = j := by
      rw [seqIndex_of h0 h5] at h1
      exact Option.some.inj h1
    exact item_listR pl.isList h0 (by omega) (by rw [hj]; simpa using ew) fin hs
  · have hj : (i + (its.toArray.size : Int)).toNat = j := by
      rw [seqIndex_neg (by omega) h4] at h1
      rw [List.size_toArray, ← hl]
      exact Option.some.inj h1
    exact subscriptTail_builtinR (x := w) pl.isList.typeIs slot_list_getitem.lookup
      (wpAny_getItem_list_neg (Q := fun r s' => r = w ∧ EP X pins σ Q r s') pl.isList (by omega) (by rw [List.size_toArray] <;> omega) (by omega) (by rw [hj]; simpa using ew) ⟨rfl, fin⟩) hs
theorem ix_tup : IxR X (rIxT X.K) := by
  intro value slice pins s σ H x y v u Q I rx ry h hs
  obtain ⟨p, xs, i, z, rfl, rfl, hq, he, q⟩ := h
  cases rx
  obtain ⟨t, rfl⟩ := ry
  obtain ⟨its, r, pl, hz⟩ := I.tuple hq
  obtain ⟨j, h1, h2, h3, h4, h5⟩ := atI_get he
  obtain ⟨w, ew, rw'⟩ := r.get h2
  have hl := r.length
  have hn := line63
  have fin : EP X pins σ Q w s := ⟨z, H, I, rw', q⟩
  exact subscriptTail_builtinR (x := w) pl.typeIs slot_tuple_getitem.lookup
    (getItem_tuple (j := j) (Q := fun r s' => r = w ∧ EP X pins σ Q r s') pl (by omega) (by omega) (by rw [List.size_toArray, ← hl]; exact h1) (by simpa using ew) ⟨rfl, fin⟩) hs
theorem ix_str : IxR X rIxS := by
  intro value slice pins s σ H x y v u Q I rx ry h hs
  obtain ⟨z, i, c, rfl, rfl, hz, he, q⟩ := h
  obtain ⟨t, rfl⟩ := rx
  obtain ⟨t', rfl⟩ := ry
  obtain ⟨j, h1, h2, h3, h4, h5⟩ := atI_get he
  have hl : z.cps.toList.length = z.length := by simp [Str.length]
  rw [hl] at h1 h4 h5
  have hn := line63
  exact tail_any (typeIs_str s z t) slot_str_getitem.lookup (getItem_str (c := c) (by
    have e1 : decide (i < -(2 ^ 63 : Int)) = false := decide_eq_false (by omega)
    have e2 : decide (i ≥ 2 ^ 63) = false := decide_eq_false (by omega)
    rw [e1, e2, Bool.or_false]) (by rw [h1]; simpa using h2) ⟨.str ⟨#[c]⟩, H, I.tok _, ⟨_, rfl⟩, q⟩) hs
/-- list, tuple or str -/
def rIx (K : PySem.W.Frag) : R2 := fun x y H Q => rIxL K x y H Q ∨ rIxT K x y H Q ∨ rIxS x y H Q
/-! ### xs[i] = v, any sign -/
/-- the list's object behind a store -/
theorem mapSeq_set (its : List Value) (n j : Nat) (u : Value) : Obj.mapSeq (·.setIfInBounds j u) { cls := .type "list", data := .seq its.toArray n } = { cls := .type "list", data := .seq (its.set j u).toArray n } := by
  simp [Obj.mapSeq]
theorem Inv.lst {pins : List (Addr × Obj)} {σ : St} {H : Hp} {s : Shared} {p : Addr} {xs : List V} (I : Inv X pins σ H s) (h : H p = some (.lst xs)) :
    ∃ (its : List Value) (n : Nat), Vals xs its ∧ s.heap.get? p = some { cls := .type "list", data := .seq its.toArray n } ∧ xs.length ≤ sizeLine := by
  obtain ⟨z, its, n, r, e⟩ := I.hok p _ h
  exact ⟨its, n, r, e, z⟩
/-- the list at p is written by an update of its object -/
theorem Inv.lstUpd {pins : List (Addr × Obj)} {σ : St} {H : Hp} {s : Shared} {p : Addr} {xs ys : List V} {its its' : List Value} {n n' : Nat} {f : Obj → Obj} (I : Inv X pins σ H s) (h : H p = some (.lst xs))
    (ho : s.heap.get? p = some { cls := .type "list", data := .seq its.toArray n }) (hf : f { cls := .type "list", data := .seq its.toArray n } = { cls := .type "list", data := .seq its'.toArray n' }) (r : Vals ys its') (hz : ys.length ≤ sizeLine) (t : Nat) :
    Inv X pins σ (upd H p (.lst ys)) { s with heap := s.heap.update p f, toks := t } := by
  have e : (s.heap.update p f).get? p = some { cls := .type "list", data := .seq its'.toArray n' } := by
    rw [Heap.get?_update_self f ho (by rw [hf] <;> rfl), hf]
  refine I.write (x := p) (e := p) (by rw [h]; trivial) (.inl rfl) (fun b u hb q => (Heap.get?_update_other _ _ (Ne.symm hb)).trans q) ⟨_, e⟩ ?_
  exact ⟨hz, its', n', r, e⟩
def rSetL : V → V → V → Hp → (Hp → Prop) → Prop := fun o i v H Q => ∃ p xs k j, o = .ref p ∧ i = .int k ∧ H p = some (.lst xs) ∧ ixN xs.length k = some j ∧ Q (upd H p (.lst (xs.set j v)))
theorem set_list : PSet X rSetL := by
  intro pins s σ H o i v ov iv u Q I ro ri rv h
  obtain ⟨p, xs, k, j, rfl, rfl, hp, hj, q⟩ := h
  cases ro
  obtain ⟨t, rfl⟩ := ri
  obtain ⟨its, n, r, ho, hz⟩ := I.lst hp
  obtain ⟨h1, h2, h3, h4⟩ := ixN_seq hj
  have hl := r.length
  have hn := line63
  have I' : Inv X pins σ (upd H p (.lst (xs.set j v))) { s with heap := s.heap.update p (Obj.mapSeq (·.setIfInBounds j u)) } :=
    I.lstUpd hp ho (mapSeq_set its n j u) (r.set rv j) (by rw [List.length_set]; exact hz) s.toks
  by_cases h0 : 0 ≤ k
  · have hk : k.toNat = j := by
      rw [seqIndex_of h0 h4] at h1
      exact Option.some.inj h1
    exact PySem.W.ki_setAt ho h0 (by omega) (by rw [List.size_toArray, ← hl]; exact h4) (by rw [hk]; exact ⟨_, I', q⟩)
  · have hk : (k + (its.toArray.size : Int)).toNat = j := by
      rw [seqIndex_neg (by omega) h3] at h1
      rw [List.size_toArray, ← hl]
      exact Option.some.inj h1
    exact PySem.W.ki_setBack ho (by omega) (by rw [List.size_toArray, ← hl]; exact h3) (by omega) (by rw [hk]; exact ⟨_, I', q⟩)

/-! ### slices -/
theorem slice_bounds (lo hi : Option Int) (n : Nat) : (sliceBounds lo hi none n).1 = ((HT.sIx n 0 lo : Nat) : Int) ∧ (sliceBounds lo hi none n).2.1 = ((HT.sIx n n hi : Nat) : Int) ∧ (sliceBounds lo hi none n).2.2 = 1 := by
  refine ⟨?_, ?_, rfl⟩
  · cases lo with
    | none => simp [sliceBounds, HT.sIx]
    | some i =>
      simp only [sliceBounds, HT.sIx, Option.getD_none, show (1 : Int) > 0 by decide, if_true]
      by_cases h : i < 0
      · simp only [h, if_true] <;> omega
      · simp only [h, if_false] <;> omega
  · cases hi with
    | none => simp [sliceBounds, HT.sIx]
    | some i =>
      simp only [sliceBounds, HT.sIx, Option.getD_none, show (1 : Int) > 0 by decide, if_true]
      by_cases h : i < 0
      · simp only [h, if_true] <;> omega
      · simp only [h, if_false] <;> omega
theorem slicePick_cut (its : List Value) (lo hi : Option Int) : slicePick its.toArray lo hi none = ((its.drop (HT.sIx its.length 0 lo)).take (HT.sIx its.length its.length hi - HT.sIx its.length 0 lo)).toArray := by
  obtain ⟨h1, h2, h3⟩ := slice_bounds lo hi its.toArray.size
  unfold slicePick
  rw [h1, h2, h3]
  simp only [sliceRange_one, pick_run, List.size_toArray] <;> rfl
/-- xs[lo:hi] of a list: a new list -/
def rSlL (K : PySem.W.Frag) : V → Option Int → Option Int → Hp → VK → Prop := fun x lo hi H Q => ∃ a xs, x = .ref a ∧ SqL K H a xs ∧ ∀ p, H p = none → Q (.ref p) (upd H p (.lst (cutV xs lo hi)))
theorem sl_list : SlR X (rSlL X.K) := by
  intro pins s σ H x v vl vu lo hi sl Q I rx hs pl pu h
  obtain ⟨a, xs, rfl, hx, q⟩ := h
  cases rx
  obtain ⟨its, r, ht, hz⟩ := I.list hx
  have hlen := r.length
  refine ⟨"list", _, slot_list_getitem.lookup, ht.isList.typeIs, ?_⟩
  refine wpAny_getItem_list_slice ht.isList hs pl pu .none (by simp) ?_ (by rw [List.size_toArray] <;> omega)
  rw [slicePick_cut, ← hlen]
  refine ⟨.ref s.heap.objs.size, _, I.laid (t' := s.toks) (o := .lst (cutV xs lo hi)) (fun b ob q => Heap.get?_push_of_some _ q) (Nat.le_refl _) ?_, rfl, q _ (I.hok.fresh (Nat.le_refl _))⟩
  exact ⟨Nat.le_trans (cutV_length xs lo hi) hz, _, 0, (r.drop (HT.sIx xs.length 0 lo)).take (HT.sIx xs.length xs.length hi - HT.sIx xs.length 0 lo), Heap.get?_push_size _ rfl⟩

/-! ### in, not in: flat items -/
def flatV : V → Bool
  | .non => true
  | .bl _ => true
  | .int _ => true
  | .str _ => true
  | _ => false
/-- == of flat values -/
def eqV : V → V → Bool
  | .non, .non => true
  | .bl a, .bl b => a == b
  | .bl a, .int b => (if a then 1 else 0) == b
  | .int a, .bl b => a == (if b then 1 else 0)
  | .int a, .int b => a == b
  | .str a, .str b => a == b
  | _, _ => false
theorem eqAt_V {A : Around} {s : Shared} {y x : V} {u v : Value} (ry : RelV y u) (rx : RelV x v) (fy : flatV y = true) (fx : flatV x = true) : SeqAt.EqAt A s u v (eqV y x) := by
  cases y with
  | non =>
    cases ry
    cases x with
    | non => cases rx; exact SeqAt.EqAt.same _
    | bl b => cases rx; exact SeqAt.EqAt.none_bool b
    | int b => obtain ⟨t, rfl⟩ := rx; exact SeqAt.EqAt.none_int b t
    | str b => obtain ⟨t, rfl⟩ := rx; exact SeqAt.EqAt.none_str b t
    | _ => exact absurd (show false = true from fx) Bool.false_ne_true
  | bl a =>
    cases ry
    cases x with
    | non => cases rx; exact SeqAt.EqAt.bool_none a
    | bl b => cases rx; exact SeqAt.EqAt.bool_bool a b
    | int b => obtain ⟨t, rfl⟩ := rx; exact SeqAt.EqAt.bool_int a b t
    | str b => obtain ⟨t, rfl⟩ := rx; exact SeqAt.EqAt.bool_str a b t
    | _ => exact absurd (show false = true from fx) Bool.false_ne_true
  | int a =>
    obtain ⟨t', rfl⟩ := ry
    cases x with
    | non => cases rx; exact SeqAt.EqAt.int_none a t'
    | bl b => cases rx; exact SeqAt.EqAt.int_bool a t' b
    | int b => obtain ⟨t, rfl⟩ := rx; exact SeqAt.EqAt.int_int a t' b t
    | str b => obtain ⟨t, rfl⟩ := rx; exact SeqAt.EqAt.int_str a t' b t
    | _ => exact absurd (show false = true from fx) Bool.false_ne_true
  | str a =>
    obtain ⟨t', rfl⟩ := ry
    cases x with
    | non => cases rx; exact SeqAt.EqAt.str_none a t'
    | bl b => cases rx; exact SeqAt.EqAt.str_bool a t' b
    | int b => obtain ⟨t, rfl⟩ := rx; exact SeqAt.EqAt.str_int a t' b t
    | str b => obtain ⟨t, rfl⟩ := rx; exact SeqAt.EqAt.str_str a t' b t
    | _ => exact absurd (show false = true from fx) Bool.false_ne_true
  | _ => exact absurd (show false = true from fy) Bool.false_ne_true
/-- the items' answers, read off the values (a value's own answer does not lean on its token) -/
def eqU (x : V) (u : Value) : Bool := match u with
  | .none => eqV .non x
  | .bool b => eqV (.bl b) x
  | .int i _ => eqV (.int i) x
  | .str z _ => eqV (.str z) x
  | _ => false
theorem eqU_of {x y : V} {u : Value} (r : RelV y u) (f : flatV y = true) : eqU x u = eqV y x := by
  cases y with
  | non => cases r; rfl
  | bl b => cases r; rfl
  | int i => obtain ⟨t, rfl⟩ := r; rfl
  | str z => obtain ⟨t, rfl⟩ := r; rfl
  | _ => exact absurd (show false = true from f) Bool.false_ne_true
theorem any_eqU {x : V} : ∀ {xs : List V} {us : List Value}, Vals xs us → xs.all flatV = true → us.any (eqU x) = xs.any fun y => eqV y x
  | _, _, .nil, _ => rfl
  | y :: xs, u :: us, .cons r t, f => by
    rw [List.all_cons, Bool.and_eq_true] at f
    rw [List.any_cons, List.any_cons, eqU_of r f.1, any_eqU t f.2]
theorem mem_eqAt {A : Around} {s : Shared} {x : V} {v : Value} (rx : RelV x v) (fx : flatV x = true) : ∀ {xs : List V} {us : List Value}, Vals xs us → xs.all flatV = true → ∀ u ∈ us, SeqAt.EqAt A s u v (eqU x u)
  | _, _, .nil, _ => fun u hu => by cases hu
  | y :: xs, u :: us, .cons r t, f => fun u' hu => by
    rw [List.all_cons, Bool.and_eq_true] at f
    rcases List.mem_cons.mp hu with rfl | hu
    · rw [eqU_of r f.1]; exact eqAt_V r rx f.1 fx
    · exact mem_eqAt rx fx t f.2 u' hu
def inV (x : V) (xs : List V) : Bool := xs.any fun y => eqV y x
/-- x in a list or tuple of flat items -/
def rIn (K : PySem.W.Frag) (neg : Bool) : R2 := fun x y H Q => ∃ p xs, y = .ref p ∧ (SqL K H p xs ∨ SqT K H p xs) ∧ flatV x = true ∧ xs.all flatV = true ∧ Q (.bl (if neg then !inV x xs else inV x xs)) H
theorem op_in_seq : OpR X (compareOp .In) (rIn X.K false) := by
  intro pins s σ H x y v u Q I rx ry h
  obtain ⟨p, xs, rfl, hq, fx, fs, q⟩ := h
  cases ry
  rcases hq with hq | hq
  · obtain ⟨its, r, pl, hz⟩ := I.list hq
    refine SeqAt.in_listAt (eqU x) pl.isList (fun w hw => mem_eqAt rx fx r fs w (by simpa using hw)) ⟨.bl _, H, I, rfl, ?_⟩
    rw [show its.toArray.any (eqU x) = its.any (eqU x) by simp, any_eqU r fs]
    exact q
  · obtain ⟨its, r, pl, hz⟩ := I.tuple hq
    refine SeqAt.in_tupleAt (eqU x) pl (fun w hw => mem_eqAt rx fx r fs w (by simpa using hw)) ⟨.bl _, H, I, rfl, ?_⟩
    rw [show its.toArray.any (eqU x) = its.any (eqU x) by simp, any_eqU r fs]
    exact q
/-! ### len, list(x), tuple(x) of any list or tuple that is read -/
theorem call_len_seq : CallR X (.builtin "len") (fun xs H Q => ∃ p ys, xs = [.ref p] ∧ (SqL X.K H p ys ∨ SqT X.K H p ys) ∧ Q (.int ys.length) H) := by
  intro pins s σ H xs us Q I r h
  obtain ⟨p, ys, rfl, hq, q⟩ := h
  obtain ⟨u, rfl, rx⟩ := vals1 r
  cases rx
  have hn := line63
  rcases hq with hq | hq
  · obtain ⟨its, r', pl, hz⟩ := I.list hq
    have hlen := r'.length
    exact Calls.call_len_list pl.isList (by simp only [List.size_toArray] <;> omega) ⟨.int ys.length, H, I.tok _, ⟨s.toks + 1, by rw [List.size_toArray, hlen]⟩, q⟩
  · obtain ⟨its, r', pl, hz⟩ := I.tuple hq
    have hlen := r'.length
    exact len_tuple pl (by simp only [List.size_toArray] <;> omega) ⟨.int ys.length, H, I.tok _, ⟨s.toks + 1, by rw [List.size_toArray, hlen]⟩, q⟩
theorem call_len_str : CallR X (.builtin "len") (fun xs H Q => ∃ z, xs = [.str z] ∧ z.length ≤ sizeLine ∧ Q (.int z.length) H) := by
  intro pins s σ H xs us Q I r h
  obtain ⟨z, rfl, hz, q⟩ := h
  obtain ⟨u, rfl, t, rfl⟩ := vals1 r
  have hn := line63
  exact len_str (by omega) ⟨.int z.length, H, I.tok _, ⟨_, rfl⟩, q⟩
theorem CallR.or {f : Value} {r r' : List V → Hp → VK → Prop} (h : CallR X f r) (h' : CallR X f r') : CallR X f (fun xs H Q => r xs H Q ∨ r' xs H Q) := by
  intro pins s σ H xs us Q I rs q
  rcases q with q | q
  · exact h pins s σ H xs us Q I rs q
  · exact h' pins s σ H xs us Q I rs q
theorem call_list_of : CallR X (.type "list") (fun xs H Q => ∃ p ys, xs = [.ref p] ∧ (SqL X.K H p ys ∨ SqT X.K H p ys) ∧ ∀ l, H l = none → Q (.ref l) (upd H l (.lst ys))) := by
  intro pins s σ H xs us Q I r h
  obtain ⟨p, ys, rfl, hq, q⟩ := h
  obtain ⟨u, rfl, rx⟩ := vals1 r
  cases rx
  have fin : ∀ (its : List Value), Vals ys its → ys.length ≤ sizeLine → ∀ (h' : Heap) (c' : Nat), (∀ b o', s.heap.get? b = some o' → h'.get? b = some o') →
      h'.get? s.heap.objs.size = some { cls := .type "list", dict := none, data := .seq its.toArray c', slots := #[] } → EP X pins σ Q (.ref s.heap.objs.size) { s with heap := h' } := fun its r' hz h' c' kp e =>
    ⟨.ref s.heap.objs.size, _, I.laid (t' := s.toks) kp (Nat.le_refl _) (show ObjOk X.prog X.w _ h' _ (.lst ys) from ⟨hz, its, c', r', e⟩), rfl, q _ (I.hok.fresh (Nat.le_refl _))⟩
  rcases hq with hq | hq
  · obtain ⟨its, r', pl, hz⟩ := I.list hq
    have hlen := r'.length
    obtain ⟨o, ho, hc, n, hd⟩ := pl.isList
    exact call_list_seq p (.inl rfl) ho hc hd (fun h' c' kp e => fin its r' hz h' c' kp e) (by simp only [List.size_toArray] <;> omega)
  · obtain ⟨its, r', pl, hz⟩ := I.tuple hq
    have hlen := r'.length
    obtain ⟨o, ho, hc, n, hd⟩ := pl
    exact call_list_seq p (.inr rfl) ho hc hd (fun h' c' kp e => fin its r' hz h' c' kp e) (by simp only [List.size_toArray] <;> omega)
theorem call_tuple_of : CallR X (.type "tuple") (fun xs H Q => ∃ p ys, xs = [.ref p] ∧ ((SqL X.K H p ys ∧ ∀ l, H l = none → Q (.ref l) (upd H l (.tup ys))) ∨ (SqT X.K H p ys ∧ Q (.ref p) H))) := by
  intro pins s σ H xs us Q I r h
  obtain ⟨p, ys, rfl, h⟩ := h
  obtain ⟨u, rfl, rx⟩ := vals1 r
  cases rx
  rcases h with ⟨hq, q⟩ | ⟨hq, q⟩
  · obtain ⟨its, r', pl, hz⟩ := I.list hq
    have hlen := r'.length
    refine call_tuple_list pl.isList (fun h' kp => ?_) (by simp only [List.size_toArray] <;> omega)
    have I1 : Inv X pins σ H { s with heap := h' } := I.kept (t' := s.toks) kp
    have I2 : Inv X pins σ (upd H h'.objs.size (.tup ys)) { s with heap := h'.push { cls := .type "tuple", data := .seq its.toArray } } :=
      I1.laid (t' := s.toks) (fun b o e => Heap.get?_push_of_some _ e) (Nat.le_refl _) (show ObjOk X.prog X.w _ _ _ (.tup ys) from ⟨hz, its, r', IsTup.new _ _⟩)
    exact ⟨.ref h'.objs.size, _, I2, rfl, q _ (I1.hok.fresh (Nat.le_refl _))⟩
  · obtain ⟨its, r', pl, hz⟩ := I.tuple hq
    exact call_tuple_same pl ⟨.ref p, H, I, rfl, q⟩

/-! ### the call of a builtin's method: o.m(..) -/
/-- the value is of that builtin type -/
def tyV (K : PySem.W.Frag) (T : String) (x : V) (H : Hp) : Prop := match x with
  | .str _ => T = "str"
  | .int _ => T = "int"
  | .ref p => (T = "list" ∧ ∃ xs, SqL K H p xs) ∨ (T = "tuple" ∧ ∃ o, K.lookup p = some o ∧ o.cls = .type "tuple" ∧ o.dict = none) ∨
      (T = "dict" ∧ ((∃ kvs, H p = some (.dK kvs)) ∨ ∃ kvs, H p = some (.dT kvs))) ∨ (T = "set" ∧ ∃ S n, H p = some (.set S n))
  | _ => False
theorem tyV_is {pins : List (Addr × Obj)} {σ : St} {H : Hp} {s : Shared} {T : String} {x : V} {v : Value} (I : Inv X pins σ H s) (r : RelV x v) (ty : tyV X.K T x H) :
    s.TypeIs v T ∧ ∀ a, v = .ref a → ∃ ob, s.heap.get? a = some ob ∧ ob.dict = none := by
  cases x with
  | str z =>
    obtain ⟨t, rfl⟩ := r
    cases (show T = "str" from ty)
    exact ⟨typeIs_str s z t, fun _ e => nomatch e⟩
  | int i =>
    obtain ⟨t, rfl⟩ := r
    cases (show T = "int" from ty)
    exact ⟨typeIs_int s i t, fun _ e => nomatch e⟩
  | ref p =>
    cases r
    rcases ty with ⟨rfl, xs, hq⟩ | ⟨rfl, o, hk, hc, hd⟩ | ⟨rfl, hk⟩ | ⟨rfl, S, n, hk⟩
    · obtain ⟨its, _, pl, _⟩ := I.list hq
      refine ⟨pl.isList.typeIs, fun a e => ?_⟩
      cases e
      obtain ⟨o, n, e, c, hd, _⟩ := pl
      exact ⟨o, e, hd⟩
    · refine ⟨⟨o, I.kIn p o hk, hc⟩, fun a e => ?_⟩
      cases e
      exact ⟨o, I.kIn _ o hk, hd⟩
    · have z : ∃ o, s.heap.get? p = some o ∧ o.ExactDict := by
        rcases hk with ⟨kvs, hk⟩ | ⟨kvs, hk⟩
        · obtain ⟨_, _, _, _, o, _, _, e, ex, _⟩ := I.hok p _ hk
          exact ⟨o, e, ex⟩
        · obtain ⟨_, _, _, _, o, _, _, e, ex, _⟩ := I.hok p _ hk
          exact ⟨o, e, ex⟩
      obtain ⟨o, e, ex⟩ := z
      refine ⟨⟨o, e, ex.1⟩, fun a e2 => ?_⟩
      cases e2
      exact ⟨o, e, ex.2.1⟩
    · obtain ⟨o, _, _, _, e, ex, _⟩ := I.hok p _ hk
      refine ⟨⟨o, e, ex.1⟩, fun a e2 => ?_⟩
      cases e2
      exact ⟨o, e, ex.2.1⟩
  | _ => exact False.elim ty
def tBM0 (K : PySem.W.Frag) (T : String) (r : V → List V → Hp → VK → Prop) (to : TE) : TE := fun σ H Q => to σ H fun x H1 => tyV K T x H1 ∧ r x [] H1 Q
def tBM (K : PySem.W.Frag) (T : String) (r : V → List V → Hp → VK → Prop) (to : TE) (t : TA) : TE := fun σ H Q => to σ H fun x H1 => tyV K T x H1 ∧ t σ H1 fun xs H2 => r x xs H2 Q
variable {o e : Expr} {es : List Expr} {to : TE} {t : TA} {name : Str} {apos cpos : Pos} {T id : String} {r : V → List V → Hp → VK → Prop}
theorem pe_bm0 (pa : PlainAttrs T) (slot : Slot T name id) (hty : typeOf (.builtin id) = pure (.type "method_descriptor")) (hm : MtR X id r) (ho : PE X o to)
    (hbase : attributeBase o name X.env (eval o X.env) = eval o X.env := by rfl) (hline : (apos.endLine == cpos.line) = true := by rfl) : PE X (.Call (.Attribute o name apos) [] [] cpos) (tBM0 X.K T r to) := by
  intro pins s σ H Q I h
  refine wpAny_Call_method0_late hbase hline (thn (ho pins s σ H _ I h) fun v s1 ⟨x, H1, I1, r1, ty, q1⟩ => ?_)
  obtain ⟨h1, h2⟩ := tyV_is I1 r1 ty
  exact ⟨T, id, pa, slot, hty, h1, h2, Calls.callWith_builtin rfl (PySem.evalArgs_none (hm pins s1 σ H1 x [] v [] Q I1 r1 .nil q1))⟩
theorem pe_bm (pa : PlainAttrs T) (slot : Slot T name id) (hty : typeOf (.builtin id) = pure (.type "method_descriptor")) (hm : MtR X id r) (ho : PE X o to) (ha : PA X (e :: es) t)
    (hbase : attributeBase o name X.env (eval o X.env) = eval o X.env := by rfl)
    (hfew : ((backTo cpos (starEach (e :: es) X.env)).all (fun x => !x.1) && (backToKw cpos (keywordEach [] X.env)).all (fun x => x.1.isSome)
      && decide ((e :: es).length + ([] : List Keyword).length + (if ([] : List Keyword).isEmpty then 0 else 1) < 30)) = true := by rfl)
    (hline : (apos.endLine == cpos.line) = true := by rfl) (hs : starEach (e :: es) X.env = (false, eval e X.env) :: starEach es X.env := by rfl) (hplain : (backTo cpos (starEach es X.env)).any (·.1) = false := by rfl) :
    PE X (.Call (.Attribute o name apos) (e :: es) [] cpos) (tBM X.K T r to t) := by
  intro pins s σ H Q I h
  refine wpAny_Call_method_late hbase hfew hline rfl (thn (ho pins s σ H _ I h) fun v s1 ⟨x, H1, I1, r1, ty, q1⟩ => ?_)
  obtain ⟨h1, h2⟩ := tyV_is I1 r1 ty
  refine ⟨T, id, pa, slot, hty, h1, h2, ?_⟩
  have hA := ha cpos pins s1 σ H1 _ I1 q1
  rw [hs] at hA ⊢
  refine Calls.callWith_builtin (by show (false || (backTo cpos (starEach es X.env)).any (·.1)) = false; rw [hplain] <;> rfl) (Calls.evalArgs_plain ?_)
  exact thn hA fun us s2 ⟨vs, H2, I2, r2, q2⟩ => hm pins s2 σ H2 x vs v us Q I2 r1 r2 q2
/- xs.append(e), list.index on a module's tuple .. are MtR facts of 06m -/
end
end L2

namespace L2
open PySem PySem.Spec PyProof.Rows

def MtM (X : Cx) (id : String) (r : V → List V → Hp → VK → Prop) : Prop :=
  ∀ (pins : List (Addr × Obj)) (s : Shared) (σ : St) (H : Hp) (x : V) (xs : List V) (v : Value) (us : List Value) (Q : VK), Inv X pins σ H s → RelV x v → Vals xs us → r x xs H Q →
    wpAny (model X.prog X.w) X.A (call (.builtin id) (v :: us)) (EP X pins σ Q) X.xe s

/-! ### lists of values -/
theorem Vals.one : ∀ {x : V} {us : List Value}, Vals [x] us → ∃ u, us = [u] ∧ RelV x u
  | _, _, .cons r .nil => ⟨_, rfl, r⟩
theorem Vals.two : ∀ {x y : V} {us : List Value}, Vals [x, y] us → ∃ u v, us = [u, v] ∧ RelV x u ∧ RelV y v
  | _, _, _, .cons r (.cons q .nil) => ⟨_, _, rfl, r, q⟩
theorem Vals.zero : ∀ {us : List Value}, Vals [] us → us = []
  | _, .nil => rfl
theorem Vals.dropLast {xs : List V} {us : List Value} (h : Vals xs us) : Vals xs.dropLast us.dropLast := by
  induction h with
  | nil => exact .nil
  | cons r t ih =>
    cases t with
    | nil => exact .nil
    | cons q t' => exact .cons r ih
theorem Vals.eraseIdx : ∀ {xs : List V} {us : List Value} (i : Nat), Vals xs us → Vals (xs.eraseIdx i) (us.eraseIdx i)
  | _, _, _, .nil => .nil
  | _, _, 0, .cons _ t => t
  | _, _, i + 1, .cons r t => .cons r (Vals.eraseIdx i t)
theorem Vals.reverse {xs : List V} {us : List Value} (h : Vals xs us) : Vals xs.reverse us.reverse := by
  induction h with
  | nil => exact .nil
  | cons r t ih => rw [List.reverse_cons, List.reverse_cons]; exact Vals.append ih (.cons r .nil)
theorem erase_last {α : Type} (l : List α) : l.eraseIdx (l.length - 1) = l.dropLast := by
  induction l with
  | nil => rfl
  | cons a r ih =>
    cases r with
    | nil => rfl
    | cons b r =>
      have e : (a :: b :: r).length - 1 = ((b :: r).length - 1) + 1 := by
        have h1 : (a :: b :: r).length = r.length + 2 := rfl
        have h2 : (b :: r).length = r.length + 1 := rfl
        omega
      rw [e, List.eraseIdx_cons_succ, ih]
      all_goals rfl
theorem len_erase {α : Type} : ∀ (l : List α) (i : Nat), (l.eraseIdx i).length ≤ l.length
  | [], _ => Nat.le_refl _
  | _ :: _, 0 => Nat.le_succ _
  | _ :: r, i + 1 => Nat.succ_le_succ (len_erase r i)
section
variable {X : Cx} {pins : List (Addr × Obj)} {σ : St} {H : Hp} {s : Shared} {l b : Addr} {xs ys zs : List V}

/-! ### the two steps: a tracked list is rewritten, a new list is laid -/
theorem Inv.lset {its its' : List Value} {n : Nat} {f : Array Value → Array Value} {t' : Nat} (I : Inv X pins σ H s) (hH : H l = some (.lst xs))
    (e : s.heap.get? l = some { cls := .type "list", data := .seq its.toArray n }) (hf : f its.toArray = its'.toArray) (hv : Vals ys its') (hz : ys.length ≤ sizeLine) :
    Inv X pins σ (upd H l (.lst ys)) { s with heap := s.heap.update l (Obj.mapSeq f), toks := t' } := by
  have q := PySem.IsL.update e f
  rw [hf] at q
  refine I.write (x := l) (e := l) (by rw [hH]; exact trivial) (.inl rfl) (fun b' u hb hu => (Heap.get?_update_other s.heap (Obj.mapSeq f) (Ne.symm hb)).trans hu) ⟨_, q⟩ ?_
  exact ⟨hz, its', _, hv, q⟩
theorem Inv.lnew {its : List Value} {t' : Nat} (I : Inv X pins σ H s) (hv : Vals ys its) (hz : ys.length ≤ sizeLine) :
    Inv X pins σ (upd H s.heap.objs.size (.lst ys)) { s with heap := s.heap.push { cls := .type "list", data := .seq its.toArray }, toks := t' } :=
  I.laid (fun _ _ q => Heap.get?_push_of_some _ q) (Nat.le_refl _) ⟨hz, its, 0, hv, Heap.get?_push_size _ rfl⟩
theorem Inv.fresh (I : Inv X pins σ H s) : H s.heap.objs.size = none := I.hok.fresh (Nat.le_refl _)
theorem Inv.lstM (I : Inv X pins σ H s) (hH : H l = some (.lst xs)) : xs.length ≤ sizeLine ∧ ∃ (its : List Value) (n : Nat), Vals xs its ∧ xs.length = its.length ∧ s.heap.get? l = some { cls := .type "list", data := .seq its.toArray n } := by
  obtain ⟨z, its, n, r, e⟩ := I.hok l _ hH
  exact ⟨z, its, n, r, r.length, e⟩

theorem notLongL {n : Nat} (h : n ≤ sizeLine) : Builtin.List.listTooLong n = false := by
  unfold Builtin.List.listTooLong
  exact decide_eq_false (by omega)
end

section
variable {X : Cx}

/-! ### methods -/
def rAppend : V → List V → Hp → VK → Prop := fun x vs H Q => ∃ l xs y, x = .ref l ∧ vs = [y] ∧ H l = some (.lst xs) ∧ xs.length < sizeLine ∧ Q .non (upd H l (.lst (xs ++ [y])))
theorem mt_append : MtM X "list.append" rAppend := by
  intro pins s σ H x vs v us Q I rx rv h
  obtain ⟨l, xs, y, rfl, rfl, hH, hz, q⟩ := h
  cases rx
  obtain ⟨u, rfl, ru⟩ := rv.one
  obtain ⟨z, its, n, r, hl, e⟩ := I.lstM hH
  refine call_meets F.slot_list_append ⟨_, e, rfl⟩ F.entry_list_append (F.args_list_append_2 _ _) (PySem.list_append l its.toArray n u (by rw [List.size_toArray]; omega)) ⟨e, ?_⟩
  refine ⟨.non, _, I.lset (its' := its ++ [u]) hH e (by simp) (r.append (.cons ru .nil)) ?_, rfl, q⟩
  rw [List.length_append, List.length_singleton]
  omega

def rExtend : V → List V → Hp → VK → Prop := fun x vs H Q => ∃ l b xs zs, x = .ref l ∧ vs = [.ref b] ∧ H l = some (.lst xs) ∧ H b = some (.lst zs) ∧ xs.length + zs.length ≤ sizeLine ∧ Q .non (upd H l (.lst (xs ++ zs)))
theorem mt_extend : MtM X "list.extend" rExtend := by
  intro pins s σ H x vs v us Q I rx rv h
  obtain ⟨l, b, xs, zs, rfl, rfl, hH, hB, hz, q⟩ := h
  cases rx
  obtain ⟨u, rfl, ru⟩ := rv.one
  cases ru
  obtain ⟨z, its, n, r, hl, e⟩ := I.lstM hH
  obtain ⟨z2, its2, n2, r2, hl2, e2⟩ := I.lstM hB
  have hsz : its.toArray.size + its2.toArray.size ≤ sizeLine := by rw [List.size_toArray, List.size_toArray]; omega
  have hlong : ¬ (!its.toArray.isEmpty && Builtin.List.listTooLong (its.toArray.size + its2.toArray.size)) = true := by
    rw [notLongL hsz, Bool.and_false]
    exact Bool.false_ne_true
  refine call_meets F.slot_list_extend ⟨_, e, rfl⟩ F.entry_list_extend (F.args_list_extend_2 _ _)
    (AutoSeq1.list_extend_list_list_0 l its.toArray n b its2.toArray n2 hlong (by rw [List.size_toArray]; omega) (by omega)) ⟨e, e2, ?_⟩
  refine ⟨.non, _, I.lset (its' := its ++ its2) hH e (by simp) (r.append r2) ?_, rfl, q⟩
  rw [List.length_append]
  omega

def rPop : V → List V → Hp → VK → Prop := fun x vs H Q => ∃ l xs y, x = .ref l ∧ vs = [] ∧ H l = some (.lst xs) ∧ xs[xs.length - 1]? = some y ∧ Q y (upd H l (.lst xs.dropLast))
theorem mt_pop : MtM X "list.pop" rPop := by
  intro pins s σ H x vs v us Q I rx rv h
  obtain ⟨l, xs, y, rfl, rfl, hH, hy, q⟩ := h
  cases rx
  have hus := rv.zero
  subst hus
  obtain ⟨z, its, n, r, hl, e⟩ := I.lstM hH
  obtain ⟨u, hu, ru⟩ := r.get hy
  have hy' : its.toArray[its.toArray.size - 1]? = some u := by
    show its.toArray[its.length - 1]? = some u
    rw [← Array.getElem?_toList, ← hl]
    exact hu
  refine call_meets F.slot_list_pop ⟨_, e, rfl⟩ F.entry_list_pop (F.args_list_pop_1 _) (MeetsSeq.list_pop_last l its.toArray n u hy' (by rw [List.size_toArray]; omega)) ⟨e, ?_⟩
  refine ⟨y, _, I.lset (its' := its.dropLast) hH e ?_ r.dropLast ?_, ru, q⟩
  · show its.toArray.eraseIdxIfInBounds (its.toArray.size - 1) = its.dropLast.toArray
    rw [List.size_toArray, List.eraseIdxIfInBounds_toArray, erase_last]
  · rw [List.length_dropLast]
    omega

def rPopAt : V → List V → Hp → VK → Prop := fun x vs H Q => ∃ l xs i k y, x = .ref l ∧ vs = [.int i] ∧ H l = some (.lst xs) ∧ -(2 ^ 63) ≤ i ∧ i < 2 ^ 63 ∧ seqIndex? i xs.length = some k ∧ xs[k]? = some y ∧ Q y (upd H l (.lst (xs.eraseIdx k)))
theorem mt_popAt : MtM X "list.pop" rPopAt := by
  intro pins s σ H x vs v us Q I rx rv h
  obtain ⟨l, xs, i, k, y, rfl, rfl, hH, h1, h2, hk, hy, q⟩ := h
  cases rx
  obtain ⟨u, rfl, ru⟩ := rv.one
  obtain ⟨t, rfl⟩ := ru
  obtain ⟨z, its, n, r, hl, e⟩ := I.lstM hH
  obtain ⟨w, hw, rw'⟩ := r.get hy
  refine call_meets F.slot_list_pop ⟨_, e, rfl⟩ F.entry_list_pop (F.args_list_pop_2 _ _)
    (MeetsSeq.list_pop_at l its.toArray n i t k w (fitsIndex_both h1 h2) (by rw [List.size_toArray, ← hl]; exact hk) (by rw [← Array.getElem?_toList]; exact hw) (by rw [List.size_toArray]; omega)) ⟨e, ?_⟩
  refine ⟨y, _, I.lset (its' := its.eraseIdx k) hH e ?_ (r.eraseIdx k) ?_, rw', q⟩
  · show its.toArray.eraseIdxIfInBounds k = (its.eraseIdx k).toArray
    rw [List.eraseIdxIfInBounds_toArray]
  · have := len_erase xs k
    omega

def rReverse : V → List V → Hp → VK → Prop := fun x vs H Q => ∃ l xs, x = .ref l ∧ vs = [] ∧ H l = some (.lst xs) ∧ Q .non (upd H l (.lst xs.reverse))
def rClear : V → List V → Hp → VK → Prop := fun x vs H Q => ∃ l xs, x = .ref l ∧ vs = [] ∧ H l = some (.lst xs) ∧ Q .non (upd H l (.lst []))
/-! ### list + list, list += list, list * int -/
def rCat : R2 := fun x y H Q => ∃ l b xs zs, x = .ref l ∧ y = .ref b ∧ H l = some (.lst xs) ∧ H b = some (.lst zs) ∧ xs.length + zs.length ≤ sizeLine ∧ ∀ p, H p = none → Q (.ref p) (upd H p (.lst (xs ++ zs)))
theorem op_cat : OpR X (binaryOp .Add) rCat := by
  intro pins s σ H x y v u Q I rx ry h
  obtain ⟨l, b, xs, zs, rfl, rfl, hH, hB, hz, q⟩ := h
  cases rx
  cases ry
  obtain ⟨z, its, n, r, hl, e⟩ := I.lstM hH
  obtain ⟨z2, its2, n2, r2, hl2, e2⟩ := I.lstM hB
  refine PySem.P.add_list e e2 ?_ (by rw [List.size_toArray, List.size_toArray]; omega)
  have ea : its.toArray ++ its2.toArray = (its ++ its2).toArray := by simp
  rw [ea]
  exact ⟨.ref _, _, I.lnew (t' := s.toks) (r.append r2) (by rw [List.length_append]; omega), rfl, q _ I.fresh⟩
/-- a list times an int (a negative one is nothing) -/
def rRep : R2 := fun x y H Q => ∃ l k xs, x = .ref l ∧ y = .int k ∧ H l = some (.lst xs) ∧ -(2 ^ 63) ≤ k ∧ k < 2 ^ 63 ∧ xs.length * k.toNat ≤ sizeLine ∧
  ∀ p, H p = none → Q (.ref p) (upd H p (.lst (List.replicate k.toNat xs).flatten))
/-! ### del xs[i] -/
end

/-! ### xs[a:b] = ys -/
section
variable {prog : Program} {w : World} {A : Around} {E : Value → Shared → Prop} {s : Shared}
end

section
variable {X : Cx}
end
end L2

namespace Att
open PySem PySem.W PySem.Calls PyProof.Rows

/-! ### the script -/
theorem ints_of_wellAll {P : Params} {h : Heap} : ∀ (ns : List Int) (vs : List Value), WellAll P h vs (ns.map WData.int) → IntsAre vs ns := by
  intro ns
  induction ns with
  | nil =>
    intro vs w
    rw [List.map_nil] at w
    cases w
    exact .nil
  | cons n ns ih =>
    intro vs w
    rw [List.map_cons] at w
    cases w with
    | cons a b =>
      cases a
      exact .cons _ _ (ih _ b)

theorem script_of {l : OpenLaw} {n : Nat} (hn : l.most = some n) {P : Params} {h : Heap} {args : List WData} {vals : List Value}
    (hpre : l.row.toRowW.claim.pre args = true) (hwl : WellAll P h vals args) :
    ∃ a vs ns, vals = [Value.ref a] ∧ args = [WData.list (ns.map WData.int)] ∧ h.get? a = some { cls := .type "list", data := .seq vs.toArray } ∧ IntsAre vs ns ∧ ns.length ≤ n := by
  have hsh : WShape.hasAll [] args [.list .int] = true := (pre_splitW hpre).1
  have hc : l.pre.holds [] { args := args } = true := (pre_splitW hpre).2
  obtain ⟨d, r, rfl, h1, h2⟩ := hasAllW_cons hsh
  obtain rfl := hasAllW_nil h2
  obtain ⟨xs, rfl, h3⟩ := hasW_list h1
  obtain ⟨ns, rfl⟩ := items_int h3
  have hlen : ns.length ≤ n := by
    unfold OpenLaw.pre at hc
    have h4 : (WTm.not (.lt (.lit (.int (n : Int))) (.len (.arg 0)))).holds [] { args := [.list (ns.map .int)] } = true := by
      have h4 := (holds_andW hc).1
      rw [hn] at h4
      exact h4
    have h5 := condW_of h4 (w_not (w_lt w_lit (w_len_list (w_arg rfl))))
    rw [List.length_map] at h5
    refine Nat.le_of_not_lt fun q => ?_
    have q' : (n : Int) < ((ns.length : Nat) : Int) := by omega
    first
      | (rw [decide_eq_true q'] at h5; exact absurd h5 (by decide))
      | (simp at h5; omega)
  cases hwl with
  | cons w1 w2 =>
    cases w2
    cases w1 with
    | list ho hall => exact ⟨_, _, ns, rfl, rfl, ho, ints_of_wellAll ns _ hall, hlen⟩

theorem post_true (l : OpenLaw) (args : List WData) : l.row.toRowW.claim.post args (.bool true) args = true :=
  postW_of (r := l.row.toRowW) (X := (true == true))
    (show WShape.has [] (.bool true) .bool = true by first | rfl | decide | simp [WShape.has, WShape.arms, WShape.armsAll])
    (show (WTm.eq .res (.lit (.bool true))).value [] { args := args, res := some (.bool true), after := args } = some (.bool (true == true)) from w_eq_bool (w_res rfl) w_lit) rfl

/-! ### the attachment: holds_open's last premise (the goal 'hc' behind k_head) from a wpAny of the law's body -/
/-- the same from a codeAny of the CALL (for a layer whose function contracts speak of calls) -/
theorem attach_call {l : OpenLaw} {n : Nat} {q : Program} {loose : List Str} {XP : (Str → Option Value) → Heap → Prop} {YP : World → Heap → Prop} {d : DefRec}
    (hn : l.most = some n) (hdf : d.params.defaults = [])
    (call : ∀ (w : World) (s₀ s₁ : Shared) (mg mb : Str → Option Value) (fa : Addr) (o : Obj) (pm cd doc : Value) (a : Addr) (vs : List Value) (ns : List Int),
      Ground q loose [] XP w s₀ mg mb s₁.heap → YP w s₁.heap →
      s₁.heap.get? fa = some o → o.data = .func (docDef d.name d.params d.body d.scope pm cd doc) → s₁.heap.CodeRec cd d.name → mg d.name = some (.ref fa) →
      s₁.heap.get? a = some { cls := .type "list", data := .seq vs.toArray } → IntsAre vs ns → ns.length ≤ n → s₁.gens = #[] →
      codeAny (model l.prog w) callerA (.call (.ref fa) ⟨[.ref a], []⟩) (fun r s' => r = .ok (.ret (.bool true)) ∧ OldK s₁.heap s'.heap ∧ s'.os = s₁.os ∧ AllBare s'.gens) s₁) :
    WalkO q loose XP YP l.row.toRowW d [] (fun f vs => PySem.call f vs) := by
  intro w s₀ s₁ mg mb G Y fa o pm cd doc dV kV ho hd hcd hD hmg hg args vals as hpre hlay hrd hwl hlo
  obtain rfl : dV = .none := Dflts.none hD hdf
  obtain rfl : kV = .none := Dflts.noKw hD
  obtain ⟨a, vs, ns, rfl, rfl, hobj, hints, hlen⟩ := script_of hn hpre hwl
  refine enter_call (codeAny_mono (call w s₀ s₁ mg mb fa o pm cd doc a vs ns G Y ho (fd_plain hd) hcd hmg hobj hints hlen hg) fun r s' hq => ?_)
  obtain ⟨rfl, h2, h3, h4⟩ := hq
  exact ⟨.inl ⟨.bool true, .bool true, [], rfl, fun _ => rfl, .bool true, post_true l _, fun _ => ⟨List.Pairwise.nil, fun _ hm => (nomatch hm)⟩⟩, h2, h3, h4⟩

/-! ### rules over ANY heap (no ledger) from facts about the written part K: the library's own take a ledger (News) for what they write -/
section
variable {prog : Program} {w : World} {A : Around} {E : Value → Shared → Prop} {s : Shared} {K : Frag}

/-! the whole heap as the ledger: makes every rule that writes through a ledger a rule over any heap -/
def noObjs (h : Heap) : Heap := { h with objs := #[] }
def ledger (h : Heap) (L d : Addr) : List (Addr × Obj) := (List.range h.objs.size).filterMap fun a => if a = L ∨ a = d then none else (h.get? a).map fun o => (a, o)
end
end Att

namespace L2
open PySem PySem.Spec PyProof.Rows

theorem vals_ints : ∀ {vs : List Value} {ns : List Int}, IntsAre vs ns → Vals (ns.map V.int) vs
  | _, _, .nil => .nil
  | _, _, .cons n t h => .cons ⟨t, rfl⟩ (vals_ints h)

/-- nothing is tracked but the script, known to the object (or it is an object of the module) -/
def Only (H : Hp) : Prop := ∀ b, H b = none ∨ ∃ o xs, H b = some (.frz o (.lst xs))

/-- THE HEAD: the law's promise, at the heap behind the top. F, the promise of the law's def, may use that base is part of the heap (so K.In base, base.Ns mainGlobals mg stand in Mod) -/
theorem law_call {P : Program} {w : World} {K : PySem.W.Frag} {mg mb : Str → Option Value} {CX : CXT} {k : Nat} {fa a : Addr} {fd : FuncData} {x : Str} {sp : Sp} {s₁ : Shared} {vs : List Value} {ns : List Int}
    (KX : K.In s₁.heap) (hns : s₁.heap.Ns mainGlobals mg) (hb : s₁.heap.Ns builtinsNs mb) (hbb : ∀ x : Str, x ≠ "__name__" → mb x = bootBuiltins x) (hlim : s₁.heap.NoLimit) (hg : s₁.gens = #[])
    (ha : s₁.heap.get? a = some { cls := .type "list", data := .seq vs.toArray }) (hi : IntsAre vs ns) (hl : ns.length ≤ sizeLine) (hr : Room k callerA)
    (F : ∀ base : Heap, K.In base → base.Ns mainGlobals mg → FnOk P w K mg base CX k fa fd [x] sp) (hbind : ∀ (s : Shared) (u : Value), BindsTo s fd ⟨[u], []⟩ [(x, u)])
    (hsp : ∀ H : Hp, Only H → SqL K H a (ns.map V.int) → sp [.ref a] H (fun v _ => v = .bl true) fun _ _ _ => False)
    (hCX : ∀ H e s', CX [] H s₁ (fun _ _ _ => False) e s' → False) :
    codeAny (model P w) callerA (.call (.ref fa) ⟨[.ref a], []⟩) (fun r s' => r = .ok (.ret (.bool true)) ∧ OldK s₁.heap s'.heap ∧ s'.os = s₁.os ∧ AllBare s'.gens) s₁ := by
  have rv := vals_ints hi
  have lenV := hi.length
  -- from an abstract heap in which nothing but the script may be tracked
  have core : ∀ H : Hp, Only H → SqL K H a (ns.map V.int) → HOk P w H s₁.heap → (∀ b, H b ≠ none → b = a) → (H a ≠ none → K.lookup a = none) →
      codeAny (model P w) callerA (.call (.ref fa) ⟨[.ref a], []⟩) (fun r s' => r = .ok (.ret (.bool true)) ∧ OldK s₁.heap s'.heap ∧ s'.os = s₁.os ∧ AllBare s'.gens) s₁ := by
    intro H hO hS hok hA hK
    have base_of : ∀ {b : Addr} {o : Obj}, s₁.heap.get? b = some o → H b = none → (hidT s₁.heap H).get? b = some o := fun e n => hidT_get e n
    have noA : ∀ {b : Addr} {o : Obj} {es : Array DictEntry} {ep : Nat}, s₁.heap.get? b = some o → o.data = .dict es ep → H b = none := fun {b o es ep} e d => by
      cases q : H b with
      | none => rfl
      | some u =>
        have e' : b = a := hA b (by rw [q]; simp)
        subst e'
        rw [ha] at e; cases e
        have d' : Data.seq vs.toArray _ = Data.dict es ep := d
        cases d'
    have nsK : ∀ {b : Addr} {m : Str → Option Value}, s₁.heap.Ns b m → (hidT s₁.heap H).Ns b m := fun {b m} ⟨o, es, ep, e, d, r⟩ => ⟨o, es, ep, base_of e (noA e d), d, r⟩
    have hKb : K.In (hidT s₁.heap H) := fun b o e => base_of (KX b o e) (by
      cases q : H b with
      | none => rfl
      | some u =>
        have e' : b = a := hA b (by rw [q]; simp)
        subst e'
        rw [hK (by rw [q]; simp)] at e; cases e)
    have hM : Mod K mg (hidT s₁.heap H) := ⟨hKb, nsK hns, ⟨mb, nsK hb, hbb⟩, let ⟨mc, h1, h2⟩ := hlim; ⟨mc, nsK h1, h2⟩⟩
    have e0 : Env0 P w K mg (hidT s₁.heap H) callerA [] s₁ H := ⟨rfl, hM, fun b o e => of_hidT e, Nat.le_of_eq (hidT_size _ _), trivial, fun b hb => absurd (show b ∈ ([] : List Addr) from hb) (by simp), hok, .of_eq hg⟩
    refine codeAny_mono ((F _ hKb (nsK hns)).run callerA [] s₁ H ⟨[.ref a], []⟩ [.ref a] [.ref a] _ _ hr e0 (hbind s₁ (.ref a)) (.cons rfl .nil) (hsp H hO hS)) fun r s' h => ?_
    cases r with
    | error e => exact (hCX H e s' h).elim
    | ok fl =>
      cases fl with
      | next => exact False.elim h
      | brk => exact False.elim h
      | cont => exact False.elim h
      | ret u =>
        obtain ⟨v, H', os, bare, un, hok', r', q⟩ := h
        have q' : v = .bl true := q
        subst q'
        obtain rfl : u = Value.bool true := r'
        refine ⟨rfl, OldK.of_keep fun b o e => ?_, os, bare⟩
        cases q : H b with
        | none => exact un.keep b o e q (by intro z; exact absurd (show b ∈ ([] : List Addr) from z) (by simp)) (by simp)
        | some u =>
          rcases hO b with z | ⟨ob, xs, z⟩
          · rw [q] at z; cases z
          · have z2 := un.frzs b ob _ z
            obtain ⟨e1, _⟩ := hok b _ z
            obtain ⟨e2, _⟩ := hok' b _ z2
            rw [e] at e1; cases e1
            exact e2
  cases hk : K.lookup a with
  | some o =>
    -- the script is one of the module's own objects
    have e := KX a o hk
    rw [ha] at e
    cases e
    refine core (fun _ => none) (fun _ => .inl rfl) (.inr ⟨_, vs.toArray, _, hk, rfl, rfl, rfl, by rw [List.size_toArray, lenV]; exact hl, by simpa using rv⟩) (fun b u z => by have z' : (none : Option HO) = some u := z; cases z') (fun b z => absurd rfl z) fun z => absurd rfl z
  | none =>
    refine core (fun b => if b = a then some (.frz { cls := .type "list", data := .seq vs.toArray } (.lst (ns.map V.int))) else none) (fun b => ?_) (.inl (.inr ⟨{ cls := .type "list", data := .seq vs.toArray }, if_pos rfl⟩)) (fun b u z => ?_) (fun b z => ?_) fun _ => hk
    · by_cases hb : b = a
      · exact .inr ⟨_, _, if_pos hb⟩
      · exact .inl (if_neg hb)
    · by_cases hb : b = a
      · have z' := (if_pos hb).symm.trans z
        cases z'
        subst hb
        exact ⟨ha, by rw [List.length_map]; exact hl, vs, _, rv, ha⟩
      · have z' := (if_neg hb).symm.trans z
        cases z'
    · by_cases hb : b = a
      · exact hb
      · exact absurd (if_neg hb) z
end L2

namespace L2
open PySem PySem.Spec PyProof.Rows

abbrev KOf {K : PySem.W.Frag} {h : Heap} (_ : K.In h) : PySem.W.Frag := K

/-- the goal that k_head leaves (case hc), from the law's promise. F gives the function object fd (K's own) once, then the promise over every base -/
theorem walk_of {l : PySem.W.OpenLaw} {n k : Nat} {q : Program} {loose : List Str} {XP : (Str → Option Value) → Heap → Prop} {YP : World → Heap → Prop} {d : DefRec} {K : Params → PySem.W.Frag} {CX : World → CXT} {sp : World → Sp} {x : Str}
    (hn : l.most = some n) (hn2 : n ≤ sizeLine) (hdf : d.params.defaults = []) (hr : Room k callerA)
    (hY : ∀ (w : World) (h : Heap), YP w h → (K w.params).In h)
    (F : ∀ (w : World) (mg : Str → Option Value) (fa : Addr) (h : Heap), (K w.params).In h → h.Ns mainGlobals mg → mg d.name = some (.ref fa) →
      ∃ fd : FuncData, (∀ (s : Shared) (u : Value), BindsTo s fd ⟨[u], []⟩ [(x, u)]) ∧
        ∀ base : Heap, (K w.params).In base → base.Ns mainGlobals mg → FnOk l.prog w (K w.params) mg base (CX w) k fa fd [x] (sp w))
    (hsp : ∀ (w : World) (H : Hp) (a : Addr) (ns : List Int), ns.length ≤ n → Only H → SqL (K w.params) H a (ns.map V.int) → sp w [.ref a] H (fun v _ => v = .bl true) fun _ _ _ => False)
    (hCX : ∀ (w : World) (H : Hp) (s : Shared) (e : Value) (s' : Shared), CX w [] H s (fun _ _ _ => False) e s' → False) :
    PySem.W.WalkO q loose XP YP l.row.toRowW d [] (fun f vs => PySem.call f vs) := by
  refine Att.attach_call hn hdf fun w s₀ s₁ mg mb fa o pm cd doc a vs ns G Y ho hd hcd hmg hobj hints hlen hg => ?_
  have KX := hY w _ Y
  obtain ⟨fd, hb, hF⟩ := F w mg fa _ KX G.T.g hmg
  exact law_call KX G.T.g G.T.b G.T.builtins G.T.nolimit hg hobj hints (Nat.le_trans hlen hn2) hr hF hb (fun H hO hS => hsp w H a ns hlen hO hS) fun H e s' => hCX w H s₁ e s'
end L2

/- THE LAST THEOREM (shape; LID, My.* are yours):
   My.Adr: a structure of the addresses that your layer names (classes, functions); My.Txt K t: a structure (Prop) of the equations over K;
   My.txt_mk : {K} {implicit addresses ..} (e1 : nsIn K mainGlobals "law" = some (some (.ref f))) (e2 : K.lookup f = some ⟨oc, od, .func (fnOf "law" "law" params body scope dV kV doc pm an cdv ct), sl⟩) (e3 : codeIn K cdv "law" = true) .. : ∃ t, My.Txt K t

set_option maxRecDepth 100000 in
set_option maxHeartbeats 0 in
theorem PySem.Challenge.cw_LID_holds : PySem.Challenge.rw_LID.Holds := by
  w_on; o_law; k_head; (case hw => w_witness2)
  k_fill
  refine L2.walk_of (l := PySem.Challenge.rw_LID) (n := 63) (k := 40) (x := "script") (CX := fun w => ..) (sp := fun _ => My.sp_law) rfl (by decide) rfl ⟨rfl, by decide, by decide⟩ (fun w h Y => PySem.W.kIn_of Y) ?F ?S ?C
  case F =>
    intro w mg fa h KX G hmg
    have T : ∃ t, My.Txt (L2.KOf KX) t := by
      dsimp only [L2.KOf]                          -- K must stand as «<heap const> w.params» for k_is
      refine' My.txt_mk ?e1 ?e2 ?e3 ..
      (case e1 => PySem.W.k_is)                    -- in the order: a name -> its address -> its object -> its parts
      (case e2 => PySem.W.k_is)
      ..
    obtain ⟨t, T⟩ := T
    have e0 := hmg.symm.trans (PySem.W.mg_of KX G T.law)
    cases e0                                       -- fa is the law's own address
    exact ⟨_, fun s u => .of_eq rfl, fun base kb nb => My.law_fn T kb nb⟩     -- if «.of_eq rfl» comes too early: refine' ⟨_, ?b, fun base kb nb => My.law_fn T kb nb⟩; exact fun s u => .of_eq rfl
  case S => exact fun w H a ns hl hO hS => ..
  case C => exact ..
(the tactic k_is has no namespace: write k_is) -/

/-! SHORT WORDS over the layer: a def of the text, its body, what a loop and a test want. -/
namespace L2
open PySem PySem.Spec PyProof.Rows

/-! ### the text by places -/
/-- the j-th statement of a class's body -/
def inClass (s : Stmt) (j : Nat) : Stmt := match s with
  | .ClassDef _ _ _ body _ _ _ _ _ _ _ => body.getD j (.Pass ⟨0, 0, 0, 0⟩)
  | _ => .Pass ⟨0, 0, 0, 0⟩
def defArgs (s : Stmt) : Arguments := match s with
  | .FunctionDef _ a _ _ _ _ _ _ _ _ => a
  | _ => { posonlyargs := [], args := [], vararg := none, kwonlyargs := [], kw_defaults := [], kwarg := none, defaults := [] }
def defBody (s : Stmt) : List Stmt := match s with
  | .FunctionDef _ _ b _ _ _ _ _ _ _ => b
  | _ => []
def defScope (s : Stmt) : Scope := match s with
  | .FunctionDef _ _ _ _ _ _ sc _ _ _ => sc
  | _ => { kind := .function, names := [], isGenerator := false, isCoroutine := false }

/-! ### no exception leaves a def -/
abbrev CX0 : CXT := fun _ _ _ _ _ _ => False
abbrev E0 : XK := fun _ _ _ => False
theorem pass0 {X : Cx} : Passes CX0 X E0 := fun _ _ _ _ _ _ _ h => h.elim

/-! ### a def (or method) of the text as it stands behind the top -/
structure Fun (K : PySem.W.Frag) (x qual : Str) (st : Stmt) (f : Addr) (fd : FuncData) : Prop where
  ex : ∃ (oc : Value) (od : Option Addr) (kV doc pm : Value) (an : Option Addr) (cdv ct : Value) (osl : Array (Option Value)),
    fd = PySem.W.fnOf x qual (defArgs st) (defBody st) (defScope st) .none kV doc pm an cdv ct ∧ K.lookup f = some ⟨oc, od, .func fd, osl⟩ ∧ PySem.W.codeIn K cdv qual = true
  kp : PySem.W.keepIn K (.ref f) = true
section
variable {P : Program} {w : World} {K : PySem.W.Frag} {mg : Str → Option Value} {base : Heap}
/-- THE RULE for a def: its body as a term of rules, and the reading of that term -/
theorem Fun.ok {x qual : Str} {st : Stmt} {f : Addr} {fd : FuncData} {N ps : List Str} {k : Nat} {sp : Sp} (F : Fun K x qual st f fd) (S : FnScope N ps (defScope st)) (len : ∀ vs H Q E, sp vs H Q E → vs.length = ps.length)
    (hbody : ∀ (cdv : Value) (A : Around) (outer : List Env) (s : Shared) (H : Hp) (vs : List V) (Q : VK) (E : XK), Room k (A.deeper (envOfC qual (defScope st) s.heap.objs.size f cdv)) → sp vs H Q E →
      ∃ t, PSs (cxOf CX0 P w K mg base N qual (defScope st) f cdv A outer s H E).nox (defBody st) t ∧ t { nx := fun _ H' => Q .non H', rt := Q } (start N vs) H) : FnOk P w K mg base CX0 (k + 1) f fd ps sp := by
  obtain ⟨oc, od, kV, doc, pm, an, cdv, ct, osl, rfl, lk, hcd⟩ := F.ex
  refine fn_of lk hcd S len fun A outer s H vs Q E hr hsp => ?_
  obtain ⟨t, h, q⟩ := hbody cdv A outer s H vs Q E hr hsp
  exact ⟨t, h.nox, q⟩
/-- how its arguments bind (no defaults): h is «fun _ _ _ _ _ _ us hl => match us, hl with | [_, _], _ => rfl», one _ a parameter -/
theorem Fun.binds {x qual : Str} {st : Stmt} {f : Addr} {fd : FuncData} {ps : List Str} (F : Fun K x qual st f fd)
    (h : ∀ (kV doc pm : Value) (an : Option Addr) (cdv ct : Value) (us : List Value), us.length = ps.length → bindArgs (PySem.W.fnOf x qual (defArgs st) (defBody st) (defScope st) .none kV doc pm an cdv ct) ⟨us, []⟩ = pure (ps.zip us)) : Binds K fd ps [] := by
  obtain ⟨oc, od, kV, doc, pm, an, cdv, ct, osl, rfl, lk, hcd⟩ := F.ex
  exact .all (h kV doc pm an cdv ct)
theorem fun_mk {x qual : Str} {st : Stmt} {f : Addr} {oc : Value} {od an : Option Addr} {osl : Array (Option Value)} {kV doc pm cdv ct : Value} (l : K.lookup f = some ⟨oc, od, .func (PySem.W.fnOf x qual (defArgs st) (defBody st) (defScope st) .none kV doc pm an cdv ct), osl⟩)
    (c : PySem.W.codeIn K cdv qual = true) (k : PySem.W.keepIn K (.ref f) = true) : Fun K x qual st f (PySem.W.fnOf x qual (defArgs st) (defBody st) (defScope st) .none kV doc pm an cdv ct) := ⟨⟨oc, od, kV, doc, pm, an, cdv, ct, osl, rfl, l, c⟩, k⟩
end
theorem hu_of {A : Around} {k : Nat} (hr : Room k A) : A.units + 1 < cLine := Nat.lt_of_le_of_lt (Nat.add_le_add_left (by decide : 1 ≤ 64) _) hr.units
theorem small1000 {n : Nat} (h : n ≤ 1000) : n < sizeLine := Nat.lt_of_le_of_lt h (by decide)

/-! ### expressions in short: the name that stands in the i-th slot -/
section
variable {X : Cx}
theorem pv (i : Nat) {x : Str} {pos : Pos} (hN : X.N[i]? = some x := by rfl) (hv : Vis X.env.scope x := by first | exact Or.inl rfl | exact Or.inr (Or.inl rfl) | exact Or.inr (Or.inr rfl)) (hd : (x == ("__debug__" : Str)) = false := by decide)
    (hcd : (x == ("__classdict__" : Str)) = false := by decide) : PE X (.Name x pos) (tVar i) := pe_var hN hv hd hcd
end

/-! ### tests -/
theorem iteF {A B : Prop} (h : B) : if false = true then A else B := by
  rw [if_neg Bool.false_ne_true]
  exact h
theorem iteT {A B : Prop} (h : A) : if true = true then A else B := by
  rw [if_pos rfl]
  exact h
theorem ite2 {c A B : Prop} [Decidable c] (h1 : c → A) (h2 : ¬ c → B) : if c then A else B := by
  by_cases h : c
  · rw [if_pos h]
    exact h1 h
  · rw [if_neg h]
    exact h2 h
/-! ### heaps -/
/-- all that was tracked is as it was -/
def Same (H H' : Hp) : Prop := ∀ b o, H b = some o → H' b = some o
theorem Same.refl (H : Hp) : Same H H := fun _ _ h => h
theorem Same.trans {H H1 H2 : Hp} (a : Same H H1) (b : Same H1 H2) : Same H H2 := fun c o h => b c o (a c o h)
theorem Same.free {H H' : Hp} (e : Same H H') {l : Addr} (h : H' l = Option.none) : H l = Option.none := by
  cases q : H l with
  | none => rfl
  | some o =>
    rw [e l o q] at h
    cases h
theorem Same.seq {K : PySem.W.Frag} {H H' : Hp} {a : Addr} {xs : List V} (e : Same H H') (h : SqL K H a xs) : SqL K H' a xs := by
  rcases h with (h | ⟨o, h⟩) | h
  · exact .inl (.inl (e _ _ h))
  · exact .inl (.inr ⟨o, e _ _ h⟩)
  · exact .inr h

end L2
/-! EXTENSION A: wide products and quotients, == of tuples, a list unpacked, isinstance -/
namespace L2
open PySem PySem.Spec PyProof.Rows
/-- below 2 ^ n in size -/
def Sz (n : Nat) (x : Int) : Prop := x.natAbs < 2 ^ n
theorem Sz.mono {m n : Nat} {x : Int} (h : Sz m x) (hn : m ≤ n) : Sz n x := Nat.lt_of_lt_of_le h (Nat.pow_le_pow_right (by decide) hn)
theorem Sz.mul {m n : Nat} {x y : Int} (h : Sz m x) (g : Sz n y) : Sz (m + n) (x * y) := by
  unfold Sz at *
  rw [Int.natAbs_mul, Nat.pow_add]
  exact Nat.mul_lt_mul_of_lt_of_lt h g
theorem Sz.neg {n : Nat} {x : Int} (h : Sz n x) : Sz n (-x) := by
  unfold Sz at *
  omega
theorem Sz.of_le {n : Nat} {x y : Int} (h : Sz n y) (g : x.natAbs ≤ y.natAbs) : Sz n x := Nat.lt_of_le_of_lt g h
section
variable {X : Cx}
def CMulW (i j : Int) : Prop := Sz 4000 i ∧ Sz 4000 j
theorem CMulW.ok {i j : Int} (h : CMulW i j) : IntMulOk i j := IntMulOk.of_le (m := 4000) (n := 4000) (intBits_le_iff.mpr h.1) (intBits_le_iff.mpr h.2) (by decide)
theorem op_mulW : OpR X (binaryOp .Mult) (rI CMulW fun i j => .int (i * j)) := opI fun _ _ _ _ _ _ _ hc q => mul_int q hc.ok
def CDivW (_ j : Int) : Prop := j ≠ 0 ∧ Sz 4000 j
theorem CDivW.ok {i j : Int} (h : CDivW i j) : Builtin.divisionGoesByPylong i j = false := by
  refine PyProof.noPylong_of_log2 ?_
  have h0 : j.natAbs ≠ 0 := by have := h.1; omega
  exact Nat.lt_trans ((Nat.log2_lt h0).mpr h.2) (by decide)
theorem op_fdivW : OpR X (binaryOp .FloorDiv) (rI CDivW fun i j => .int (i.fdiv j)) := opI fun _ _ _ _ _ _ _ hc q => floordiv_int hc.1 q (.inl hc.ok)

/-! ### == and != of two tuples of flat items -/
def eqVs : List V → List V → Bool
  | [], [] => true
  | x :: xs, y :: ys => eqV x y && eqVs xs ys
  | _, _ => false
theorem all_range_succ (n : Nat) (e : Nat → Bool) : (List.range (n + 1)).all e = (e 0 && (List.range n).all fun i => e (i + 1)) := by
  rw [List.range_succ_eq_map, List.all_cons, List.all_map]
  rfl
/-- the answer at each place -/
def eqAtI (xs ys : List V) (j : Nat) : Bool := match xs[j]?, ys[j]? with
  | some x, some y => eqV x y
  | _, _ => false
theorem eqVs_range : ∀ (xs ys : List V), ((List.range (min xs.length ys.length)).all (eqAtI xs ys) && xs.length == ys.length) = eqVs xs ys
  | [], [] => by simp [eqVs]
  | [], y :: ys => by simp [eqVs]
  | x :: xs, [] => by simp [eqVs]
  | x :: xs, y :: ys => by
    have ih := eqVs_range xs ys
    have e : min (x :: xs).length (y :: ys).length = min xs.length ys.length + 1 := by simp only [List.length_cons]; omega
    rw [e, all_range_succ]
    have e2 : (fun i => eqAtI (x :: xs) (y :: ys) (i + 1)) = eqAtI xs ys := by
      funext i; simp [eqAtI]
    rw [e2]
    have e3 : ((x :: xs).length == (y :: ys).length) = (xs.length == ys.length) := by simp
    have e4 : eqAtI (x :: xs) (y :: ys) 0 = eqV x y := by simp [eqAtI]
    rw [e3, e4, Bool.and_assoc, ih, eqVs]
def rEqT (K : PySem.W.Frag) (neg : Bool) : R2 := fun x y H Q => ∃ a b xs ys, x = .ref a ∧ y = .ref b ∧ SqT K H a xs ∧ SqT K H b ys ∧ xs.all flatV = true ∧ ys.all flatV = true ∧ Q (.bl (if neg then !eqVs xs ys else eqVs xs ys)) H
theorem tup_eqAt {pins : List (Addr × Obj)} {σ : St} {H : Hp} {s : Shared} {A : Around} {xs ys : List V} {us vs : List Value} (r1 : Vals xs us) (r2 : Vals ys vs) (f1 : xs.all flatV = true) (f2 : ys.all flatV = true) :
    ∀ j (h1 : j < us.toArray.size) (h2 : j < vs.toArray.size), SeqAt.EqAt A s us.toArray[j] vs.toArray[j] (eqAtI xs ys j) := by
  intro j h1 h2
  have l1 := r1.length
  have l2 := r2.length
  rw [List.size_toArray] at h1 h2
  have hx : xs[j]? = some (xs[j]'(by omega)) := List.getElem?_eq_getElem _
  have hy : ys[j]? = some (ys[j]'(by omega)) := List.getElem?_eq_getElem _
  obtain ⟨u, hu, ru⟩ := r1.get hx
  obtain ⟨v, hv, rv⟩ := r2.get hy
  have eu : us.toArray[j]'(by simpa using h1) = u := by
    rw [List.getElem?_eq_getElem h1] at hu
    simpa using Option.some.inj hu
  have ev : vs.toArray[j]'(by simpa using h2) = v := by
    rw [List.getElem?_eq_getElem h2] at hv
    simpa using Option.some.inj hv
  rw [eu, ev]
  have e : eqAtI xs ys j = eqV (xs[j]'(by omega)) (ys[j]'(by omega)) := by unfold eqAtI; rw [hx, hy]
  rw [e]
  exact eqAt_V ru rv (List.all_eq_true.mp f1 _ (List.getElem_mem _)) (List.all_eq_true.mp f2 _ (List.getElem_mem _))
/-! ### (a, b, ..) = a list of that length -/
def gLst (K : PySem.W.Frag) (n : Nat) (t : TGs) : TG := fun v σ H Q => ∃ a xs, v = .ref a ∧ SqL K H a xs ∧ xs.length = n ∧ t xs σ H Q
/-! ### isinstance -/
def rIs (K : PySem.W.Frag) : List V → Hp → VK → Prop := fun xs H Q => ∃ x c t u b, xs = [x, c] ∧ TyOf K H x t ∧ RelV c u ∧ (∀ p, c ≠ .ref p ∨ True) ∧ PySem.W.kitOne K t u = some b ∧ Q (.bl b) H
theorem call_isinst : CallR X (.builtin "isinstance") (rIs X.K) := by
  intro pins s σ H xs us Q I r h
  obtain ⟨x, c, t, u', b, rfl, ty, rc, _, hk, q⟩ := h
  obtain ⟨u, w', rfl, r1, r2⟩ := vals2 r
  have e : w' = u' ∨ ∃ T, c = .ty T := by
    cases c with
    | non => left; cases rc; cases r2; rfl
    | bl _ => left; cases rc; cases r2; rfl
    | int i => obtain ⟨z, rfl⟩ := rc; exact absurd hk (by simp [PySem.W.kitOne, PySem.W.kitCls]; cases ty <;> simp)
    | str i => obtain ⟨z, rfl⟩ := rc; exact absurd hk (by simp [PySem.W.kitOne, PySem.W.kitCls]; cases ty <;> simp)
    | byt i => obtain ⟨z, rfl⟩ := rc; exact absurd hk (by simp [PySem.W.kitOne, PySem.W.kitCls]; cases ty <;> simp)
    | flt i => obtain ⟨z, rfl⟩ := rc; exact absurd hk (by simp [PySem.W.kitOne, PySem.W.kitCls]; cases ty <;> simp)
    | ref _ => left; cases rc; cases r2; rfl
    | ty _ => left; cases rc; cases r2; rfl
  rcases e with rfl | ⟨T, rfl⟩
  · exact isinst_ok I r1 ty hk fun tk => ⟨.bl b, H, I.tok tk, rfl, q⟩
  · cases rc; cases r2
    exact isinst_ok I r1 ty hk fun tk => ⟨.bl b, H, I.tok tk, rfl, q⟩
end
end L2
/-! EXTENSION B: a list comprehension of one clause -/
namespace L2
open PySem PySem.Spec PyProof.Rows
/-- the context of a comprehension's block: C its names, s₀ and H₀ the entry, ex the iterator's records, pn the pins about it; no exception leaves -/
def cxComp (X : Cx) (scope : Scope) (cl : List (Str × Addr)) (C : Addr) (N : List Str) (s₀ : Shared) (H₀ : Hp) (ex : List Addr) (pn : List (Addr × Obj)) : Cx where
  prog := X.prog
  w := X.w
  K := X.K
  mg := X.mg
  base := X.base
  A := X.A
  N := N
  s₀ := s₀
  H₀ := H₀
  env := compEnvC scope cl C X.env
  outer := X.stack
  stack := X.stack
  ex := ex
  fn := fun _ => false
  calm := X.calm
  pn := pn
  xe := fun _ _ => False
/-- the block's names: x its own, fv those of the def's that it reads, in the def's slots js -/
structure CompScope (X : Cx) (scope : Scope) (cl : List (Str × Addr)) (x : Str) (fv : List Str) (js : List Nat) : Prop where
  kind : scope.kind = .function
  nc : ∀ y ∈ scope.names, y.2 ≠ .cell
  nm : ∀ y ∈ scope.names, y.2 = .local → scope.names.lookup y.1 = some .local
  hx : scope.names.lookup x = some .local
  fr : ∀ y ∈ scope.names, y.2 = .free → y.1 ∈ fv
  nd : (x :: fv).Nodup
  vis : ∀ y ∈ fv, scope.names.lookup y = some .free ∧ X.env.scope.names.lookup y = some .cell ∧ (cl.lookup y).isSome = true
  cls : ∀ p ∈ cl, X.env.cells.lookup p.1 = some p.2
  sl : Paired (fun y j => X.N[j]? = some y) fv js
def frv (js : List Nat) (σ : St) : St := js.map fun j => (σ[j]?).getD none
theorem lookup_relabel_free {env : Env} (hk : env.scope.kind = .function) : ∀ {names : List (Str × NameKind)} {y : Str}, names.lookup y = some .free → env.kindOf y = some .cell →
    (names.map fun (n, k) => if (k == NameKind.free && env.scope.kind == .function && env.kindOf n == some .cell) then (n, NameKind.cell) else (n, k)).lookup y = some .cell
  | [], _, h, _ => by simp at h
  | (n, k) :: r, y, h, hy => by
    have ih := @lookup_relabel_free env hk r y
    show List.lookup y ((if (k == NameKind.free && env.scope.kind == .function && env.kindOf n == some .cell) = true then (n, NameKind.cell) else (n, k)) :: _) = _
    cases hx : y == n with
    | true =>
      have e : y = n := eq_of_beq hx
      subst e
      simp only [List.lookup_cons, hx] at h
      cases h
      rw [if_pos (by rw [hk, hy]; rfl)]
      simp [List.lookup_cons]
    | false =>
      simp only [List.lookup_cons, hx] at h
      split
      · simp only [List.lookup_cons, hx]; exact ih h hy
      · simp only [List.lookup_cons, hx]; exact ih h hy
theorem lookup_relabel_back {env : Env} : ∀ {names : List (Str × NameKind)} {y : Str} {k' : NameKind},
    (names.map fun (n, k) => if (k == NameKind.free && env.scope.kind == .function && env.kindOf n == some .cell) then (n, NameKind.cell) else (n, k)).lookup y = some k' →
    names.lookup y = some k' ∨ (names.lookup y = some .free ∧ k' = .cell)
  | [], _, _, h => by simp at h
  | (n, k) :: r, y, k', h => by
    have ih := @lookup_relabel_back env r y k'
    have h : List.lookup y ((if (k == NameKind.free && env.scope.kind == .function && env.kindOf n == some .cell) = true then (n, NameKind.cell) else (n, k)) :: (r.map fun (n, k) => if (k == NameKind.free && env.scope.kind == .function && env.kindOf n == some .cell) then (n, NameKind.cell) else (n, k))) = some k' := h
    cases hx : y == n with
    | true =>
      by_cases hc : (k == NameKind.free && env.scope.kind == .function && env.kindOf n == some .cell) = true
      · rw [if_pos hc] at h
        simp only [List.lookup_cons, hx] at h
        cases h
        right
        have hk : k = .free := by
          rw [Bool.and_eq_true, Bool.and_eq_true] at hc
          exact eq_of_beq hc.1.1
        subst hk
        exact ⟨by simp [List.lookup_cons, hx], rfl⟩
      · rw [if_neg hc] at h
        simp only [List.lookup_cons, hx] at h
        left
        simp only [List.lookup_cons, hx]
        exact h
    | false =>
      have h' : (r.map fun (n, k) => if (k == NameKind.free && env.scope.kind == .function && env.kindOf n == some .cell) then (n, NameKind.cell) else (n, k)).lookup y = some k' := by
        by_cases hc : (k == NameKind.free && env.scope.kind == .function && env.kindOf n == some .cell) = true
        · rw [if_pos hc] at h
          simp only [List.lookup_cons, hx] at h
          exact h
        · rw [if_neg hc] at h
          simp only [List.lookup_cons, hx] at h
          exact h
      simp only [List.lookup_cons, hx]
      exact ih h'
section
variable {X : Cx} {scope : Scope} {cl : List (Str × Addr)} {x : Str} {fv : List Str} {js : List Nat}
theorem CompScope.cell_of (S : CompScope X scope cl x fv js) {y : Str} {c : Addr} (h : cl.lookup y = some c) : X.env.cells.lookup y = some c := S.cls (y, c) (PySem.mem_of_lookup h)
theorem CompScope.own (S : CompScope X scope cl x fv js) {C : Addr} {y : Str} {k : NameKind} (h : (compEnvC scope cl C X.env).kindOf y = some k) (hk : k = .cell ∨ k = .free) : y ∈ fv := by
  have h' : (scope.names.map fun (n, k) => if (k == NameKind.free && X.env.scope.kind == .function && X.env.kindOf n == some .cell) then (n, NameKind.cell) else (n, k)).lookup y = some k := h
  rcases lookup_relabel_back h' with q | ⟨q, _⟩
  · rcases hk with rfl | rfl
    · exact absurd rfl (S.nc _ (PySem.mem_of_lookup q))
    · exact S.fr _ (PySem.mem_of_lookup q) rfl
  · exact S.fr _ (PySem.mem_of_lookup q) rfl
theorem paired_get {F : Str → Nat → Prop} : ∀ {ys : List Str} {js : List Nat} {i : Nat} {y : Str}, Paired F ys js → ys[i]? = some y → ∃ j, js[i]? = some j ∧ F y j
  | _, _, _, _, .nil, e => by simp at e
  | _, _, 0, _, .cons r _, e => by simp at e; subst e; exact ⟨_, rfl, r⟩
  | _, _, i + 1, y, .cons _ t, e => by
    obtain ⟨j, h1, h2⟩ := paired_get (i := i) (y := y) t (by simpa using e)
    exact ⟨j, by simpa using h1, h2⟩
/-- the block begins -/
theorem comp_start {pins : List (Addr × Obj)} {σ : St} {H : Hp} {s : Shared} {h₁ : Heap} {ex : List Addr} {tk : Nat} (S : CompScope X scope cl x fv js) (I : Inv X pins σ H s)
    (hf : ∀ b ∈ ex, FpOk X pins H b) (hlt : ∀ b ∈ ex, b < s.heap.objs.size) (hns : h₁.Ns s.heap.objs.size (fun _ => none)) (hk : ∀ b o, s.heap.get? b = some o → h₁.get? b = some o) :
    Inv (cxComp X scope cl s.heap.objs.size (x :: fv) s H ex (X.pn ++ pins)) [] (none :: frv js σ) H { s with heap := h₁, toks := tk } := by
  have nstk : ∀ b ∈ ex, b ∉ frs X.stack := fun b hb z => by
    rcases List.mem_cons.mp (I.stkSub b z) with e | e
    · exact (hf b hb).2.1 e
    · exact (hf b hb).2.2.1 e
  have ok : (cxComp X scope cl s.heap.objs.size (x :: fv) s H ex (X.pn ++ pins)).Ok := by
    refine ⟨I.ok.mod, S.kind, I.ok.glob, I.ok.blt, Nat.le_refl _, fun y z c h1 h2 => I.ok.inj y z c (S.cell_of h1) (S.cell_of h2), fun y hy => ?_, fun y c h _ => absurd h (by exact Bool.false_ne_true), I.ok.hd, I.ok.frames, .inl rfl,
      fun b hb => ⟨Nat.ne_of_lt (hlt b hb), fun y c h => (hf b hb).2.2.2.2.1 y c (S.cell_of h)⟩, I.bs, Nat.le_trans I.ok.bsz I.sz, fun b o e hb => ?_, nstk, I.stack, I.stkFree⟩
    · have hm : y ∈ fv := by
        rcases hy with hy | hy
        · exact S.own hy (.inl rfl)
        · exact S.own hy (.inr rfl)
      exact Option.isSome_iff_exists.mp (S.vis y hm).2.2
    · obtain ⟨f0, f1, f2, f3, f4, f5⟩ := hf b hb
      rcases f3 with z | z
      · exact I.ok.noex b o e z
      · exact absurd (Nat.lt_of_lt_of_le (Heap.lt_size e) (Nat.le_trans I.ok.bsz z)) (Nat.lt_irrefl _)
  refine ⟨ok, rfl, I.bare, Un.kept hk, ⟨_, hns, fun i y v e1 e2 e3 => ?_⟩, fun y c h => ?_, I.hok.fresh (Nat.le_refl _), fun y c h => I.freeC y c (S.cell_of h), fun p hp => ?_, I.hok.kept hk, ?_⟩
  · cases i with
    | zero => have z : (some (none : Option V)) = some (some v) := e2; cases z
    | succ i =>
      have hy : fv[i]? = some y := by simpa [cxComp] using e1
      obtain ⟨j, hj, hN⟩ := paired_get S.sl hy
      have hv : σ[j]? = some (some v) := by
        have z : (frv js σ)[i]? = some (some v) := by simpa using e2
        unfold frv at z
        rw [List.getElem?_map, hj] at z
        have z' : (σ[j]?).getD none = some v := Option.some.inj z
        cases q : σ[j]? with
        | none => rw [q] at z'; cases z'
        | some o => rw [q] at z'; exact congrArg some z'
      obtain ⟨hfree, hcell, hsome⟩ := S.vis y (List.mem_of_getElem? hy)
      obtain ⟨m, hn, hl⟩ := I.loc
      obtain ⟨u, ru, look⟩ := hl j y v hN hv (.inr (.inl hcell))
      refine ⟨u, ru, .inr ⟨.inl (lookup_relabel_free I.ok.kind hfree hcell), ?_⟩⟩
      obtain ⟨c', hc'⟩ := Option.isSome_iff_exists.mp hsome
      rcases look with ⟨k, _⟩ | ⟨_, c, ec, z⟩
      · have k' : X.env.scope.names.lookup y = some .local := k
        rw [hcell] at k'; cases k'
      · have e := S.cell_of hc'
        rw [ec] at e
        cases e
        exact ⟨_, hc', by obtain ⟨o, ho, hd⟩ := z; exact ⟨o, hk _ _ ho, hd⟩⟩
  · obtain ⟨v, o, ho, hd⟩ := I.cell y c (S.cell_of h)
    exact ⟨v, o, hk _ _ ho, hd⟩
  · have hp' : p ∈ X.pn ++ pins := by simpa [cxComp] using hp
    obtain ⟨e, n, ne, nf, d⟩ := I.pin p hp'
    refine ⟨hk _ _ e, n, Nat.ne_of_lt (Heap.lt_size e), fun z => ?_, d⟩
    rcases List.mem_cons.mp (I.stkSub p.1 z) with q | q
    · exact ne q
    · exact nf q
  · show (none :: frv js σ).length = (x :: fv).length
    have : fv.length = js.length := Paired.length S.sl
    simp [frv, this]
/-- the block ends: all but its own names -/
theorem comp_end {pins pins' : List (Addr × Obj)} {σ σ' : St} {H H' : Hp} {s s' : Shared} {h'' : Heap} {ex : List Addr} {N : List Str} {pn : List (Addr × Obj)} (I : Inv X pins σ H s) (hf : ∀ b ∈ ex, FpOk X pins H b)
    (J : Inv (cxComp X scope cl s.heap.objs.size N s H ex pn) pins' σ' H' s') (sb : Heap.SameBut s.heap.objs.size s'.heap h'') : Inv X pins σ H' { s' with heap := h'' } := by
  have neC : ∀ b o, s.heap.get? b = some o → b ≠ s.heap.objs.size := fun b o e => Nat.ne_of_lt (Heap.lt_size e)
  have u : Un (frs X.stack) ex H H' s.heap s'.heap := J.base
  have fr : H' s.heap.objs.size = none := J.free
  refine I.call' (s' := { s' with heap := h'' }) (ch := ex) J.os ⟨fun b o e n hb hx => ?_, fun b o e n hb hx => ?_, u.free, fun b o e hx => ?_, u.tups, u.frzs, u.tbls⟩ (fun b o e => ?_) J.bare (fun b hb => ?_)
  · exact (sb.2 b (neC b o e)).trans (u.keep b o e n hb hx)
  · obtain ⟨sl, q⟩ := u.slot b o e n hb hx
    exact ⟨sl, (sb.2 b (neC b o e)).trans q⟩
  · obtain ⟨o', q⟩ := u.there b o e hx
    exact ⟨o', (sb.2 b (neC b o e)).trans q⟩
  · refine (J.hok b o e).stay (fun c v hc q => (sb.2 c ?_).trans q) (fun _ q => q) fun _ _ q => q
    rcases hc with rfl | hc
    · intro z; rw [z, fr] at e; cases e
    · intro z; rw [z, fr] at hc; cases hc
  · obtain ⟨f0, f1, f2, f3, f4, f5⟩ := hf b hb
    exact ⟨f3, f1, f4, f5⟩
end

/-! ### the tests of a clause -/
def PF (X : Cx) (ifs : List Expr) (t : TT) : Prop :=
  ∀ (pins : List (Addr × Obj)) (s : Shared) (σ : St) (H : Hp) (Q : Bool → Hp → Prop), Inv X pins σ H s → t σ H Q →
    wpAny (model X.prog X.w) X.A (forIn ifs true fun c r => if r = true then do let ok ← isTrue c X.env (eval c X.env); pure (ForInStep.yield ok) else pure (ForInStep.yield r)) (TP X pins σ Q) X.xe s
def tYes : TT := fun _ H Q => Q true H
theorem pf_nil {X : Cx} : PF X [] tYes := by
  intro pins s σ H Q I h
  rw [List.forIn_nil]
  exact wpAny_pure ⟨H, I, h⟩
theorem pf_one {X : Cx} {c : Expr} {t : TT} (h : PT X c t) : PF X [c] t := by
  intro pins s σ H Q I hq
  rw [List.forIn_cons]
  refine wpAny_bind ?_
  rw [if_pos rfl]
  refine wpAny_bind (thn (h pins s σ H Q I hq) fun b s1 q => wpAny_pure ?_)
  dsimp only
  rw [List.forIn_nil]
  exact wpAny_pure q

section
variable {prog : Program} {w : World} {A : Around} {R : Result → Shared → Prop} {s : Shared}
theorem compLoop_go {elt target iter : Expr} {ifs : List Expr} {scope : Scope} {pos : Pos} {it acc : Value} {env : Env} (I : Nat → Shared → Prop)
    (turn : ∀ n s, I n s → wpAny (model prog w) A (pyNext it) (fun r s₁ => match r with
      | none => R (.ok .next) s₁
      | some v => wpAny (model prog w) A (letOwnedTupleGo target it v) (fun _ s₁' => wpAny (model prog w) A (assign target env v) (fun _ s₂ =>
          wpAny (model prog w) A (forIn ifs true fun c r => if r = true then do let ok ← isTrue c env (eval c env); pure (ForInStep.yield ok) else pure (ForInStep.yield r)) (fun ok s₃ =>
            if ok = true then wpAny (model prog w) A (eval elt env) (fun x s₄ =>
              wpAny (model prog w) A (call (.builtin "list.append") [acc, x]) (fun _ s₅ => ∃ m, m < n ∧ I m s₅) (fun _ _ => False) s₄) (fun _ _ => False) s₃
            else ∃ m, m < n ∧ I m s₃) (fun _ _ => False) s₂) (fun _ _ => False) s₁') (fun _ _ => False) s₁) (fun _ _ => False) s)
    (n : Nat) (h : I n s) :
    codeAny (model prog w) A (.compLoop (.ListComp elt [⟨target, iter, ifs, 0⟩] scope pos) 0 it acc env) R s := by
  refine codeAny_loop rfl I (fun n s hI => ?_) n h
  show wpAny _ A ((compTurn (.ListComp elt [⟨target, iter, ifs, 0⟩] scope pos) 0 it acc env).onRaise (fun x => do noteFrame x env; theTreesLotGoes x)) _ _ s
  refine wpAny_noted ?_
  rw [compTurn_list]
  refine wpAny_bind (wpAny_standAt (wpAny_bind (wpAny_mono (turn n s hI) (fun r s₁ h₁ => ?_) fun _ _ h' => h'.elim)))
  cases r with
  | none => exact wpAny_pure h₁
  | some v =>
    refine wpAny_bind (wpAny_mono h₁ (fun _ s₁' h₁' => ?_) fun _ _ h' => h'.elim)
    refine wpAny_bind (wpAny_mono h₁' (fun _ s₂ h₂ => wpAny_bind (wpAny_mono h₂ (fun ok s₃ h₃ => ?_) fun _ _ h' => h'.elim)) fun _ _ h' => h'.elim)
    cases ok with
    | false => exact wpAny_pure ⟨rfl, h₃⟩
    | true =>
      exact wpAny_bind (wpAny_bind (wpAny_mono h₃ (fun x s₄ h₄ => wpAny_bind (wpAny_mono h₄ (fun _ s₅ h₅ => wpAny_pure (wpAny_pure ⟨rfl, h₅⟩)) fun _ _ h' => h'.elim)) fun _ _ h' => h'.elim))
end

/-! ### the rule -/
/-- D: the new list. W: the invariant by the turn and a measure -/
def tComp (wi : TI) (js : List Nat) (tt : TT) (te : TE) : TE := fun σ H Q => wi σ H fun J H1 => ∀ D, H1 D = none → ∃ W : Nat → Nat → Hp → Prop, (∃ m, W 0 m (upd H1 D (.lst []))) ∧ ∀ i m H, W i m H →
  (J.stop i H ∧ Q (.ref D) H) ∨ (J.go i H ∧ ∀ x H', J.yld i H x H' → tt (some x :: frv js σ) H' fun b H2 =>
    if b = true then te (some x :: frv js σ) H2 fun v H3 => ∃ xs, H3 D = some (.lst xs) ∧ xs.length < sizeLine ∧ ∃ m', m' < m ∧ W (i + 1) m' (upd H3 D (.lst (xs ++ [v])))
    else ∃ m', m' < m ∧ W (i + 1) m' H2)
theorem pe_comp {X : Cx} {elt iter : Expr} {ifs : List Expr} {x : Str} {px pos : Pos} {scope : Scope} {cl : List (Str × Addr)} {fv : List Str} {js : List Nat} {wi : TI} {tt : TT} {te : TE} (hc : X.calm = true) (hclos : closureFor scope X.env = pure cl)
    (S : CompScope X scope cl x fv js) (hi : PI X (.Name x px) iter wi)
    (ht : ∀ (C : Addr) (s₀ : Shared) (H₀ : Hp) (ex : List Addr) (pn : List (Addr × Obj)), PF (cxComp X scope cl C (x :: fv) s₀ H₀ ex pn) ifs tt)
    (he : ∀ (C : Addr) (s₀ : Shared) (H₀ : Hp) (ex : List Addr) (pn : List (Addr × Obj)), PE (cxComp X scope cl C (x :: fv) s₀ H₀ ex pn) elt te)
    (hs : ∀ x, foldedSetIterable iter X.env x = pure x := by intro _; rfl) : PE X (.ListComp elt [⟨.Name x px, iter, ifs, 0⟩] scope pos) (tComp wi js tt te) := by
  intro pins s σ H Q I h
  rw [eval_ListComp]
  refine wpAny_comprehension_free (use := none) rfl hs hclos S.kind S.nm (thn (hi pins s σ H _ I h) fun v s1 h1 => thn h1 fun itv s2 h2 => ?_)
  obtain ⟨it, fp, tn, J, H2, e, I2, T, st2, f2, hW⟩ := h2
  subst e
  have hD : H2 s2.heap.objs.size = none := I2.hok.fresh (Nat.le_refl _)
  obtain ⟨W, ⟨m0, w0⟩, turn⟩ := hW s2.heap.objs.size hD
  have lt2 : ∀ b ∈ fp, b < s2.heap.objs.size := fun b hb => by
    obtain ⟨o, e, _⟩ := T.obj _ _ st2 b hb
    exact Heap.lt_size e
  -- the new list
  refine wpAny_newObj_type (wpAny_newFunctionEnv S.nc (by intro y hy; simp at hy) (fun h₁ hns₁ hsb₁ => ?_) S.kind)
  dsimp only at hns₁ hsb₁ ⊢
  have I3 : Inv X pins σ (upd H2 s2.heap.objs.size (.lst [])) { s2 with heap := s2.heap.push { cls := .type "list", dict := none, data := .seq ([] : List Value).toArray } } := I2.lnew (t' := s2.toks) .nil (Nat.zero_le _)
  generalize hS3 : ({ s2 with heap := s2.heap.push { cls := .type "list", dict := none, data := .seq ([] : List Value).toArray } } : Shared) = s3 at I3
  have eh : s3.heap = s2.heap.push { cls := .type "list", dict := none, data := .seq ([] : List Value).toArray } := by rw [← hS3]
  rw [← eh] at hns₁ hsb₁ ⊢
  have hsz : s3.heap.objs.size = s2.heap.objs.size + 1 := by rw [eh, Heap.size_push]
  have k23 : ∀ b o, s2.heap.get? b = some o → s3.heap.get? b = some o := fun b o e => by rw [eh]; exact Heap.get?_push_of_some _ e
  have k34 : ∀ b o, s3.heap.get? b = some o → h₁.get? b = some o := fun b o e => hsb₁.extBut b o (Nat.ne_of_lt (Heap.lt_size e)) (Heap.get?_push_of_some _ e)
  have f3 : ∀ b ∈ fp, FpOk X pins (upd H2 s2.heap.objs.size (.lst [])) b := fun b hb => ⟨by rw [upd_ne (Nat.ne_of_lt (lt2 b hb))]; exact (f2 b hb).1, (f2 b hb).2⟩
  have lt3 : ∀ b ∈ fp, b < s3.heap.objs.size := fun b hb => by rw [hsz]; exact Nat.lt_succ_of_lt (lt2 b hb)
  have I4 := comp_start (tk := s3.toks) S I3 f3 lt3 (h₁ := h₁) (by simpa using hns₁) k34
  generalize hY : cxComp X scope cl s3.heap.objs.size (x :: fv) s3 (upd H2 s2.heap.objs.size (.lst [])) fp (X.pn ++ pins) = Y at I4
  have hYp : Y.prog = X.prog := by rw [← hY]; rfl
  have hYw : Y.w = X.w := by rw [← hY]; rfl
  have hYK : Y.K = X.K := by rw [← hY]; rfl
  have hYA : Y.A = X.A := by rw [← hY]; rfl
  have hYc : Y.calm = true := by rw [← hY]; exact hc
  have hYe : Y.env = compEnvC scope cl s3.heap.objs.size X.env := by rw [← hY]; rfl
  have hYx : Y.xe = fun _ _ => False := by rw [← hY]; rfl
  have hYN : Y.N = x :: fv := by rw [← hY]; rfl
  have heY : PE Y elt te := by rw [← hY]; exact he _ _ _ _ _
  have htY : PF Y ifs tt := by rw [← hY]; exact ht _ _ _ _ _
  have stat : ∀ {H' : Hp}, (∀ b ∈ fp, H' b = none) → ∀ b ∈ fp, FpOk Y [] H' b := fun {H'} hn b hb => by
    obtain ⟨g0, g1, g2, g3, g4, g5⟩ := f3 b hb
    rw [← hY]
    refine ⟨hn b hb, Nat.ne_of_lt (lt3 b hb), fun z => ?_, .inl hb, fun y c e => g4 y c (S.cell_of e), fun p hp => g5 p (by simpa [cxComp] using hp)⟩
    rcases List.mem_cons.mp (I3.stkSub b z) with q | q
    · exact g1 q
    · exact g2 q
  have fin : ∀ {i : Nat} {m : Nat} {σ' : St} {H' : Hp} {s' : Shared}, Inv Y [] σ' H' s' → Q (.ref s2.heap.objs.size) H' → compPost (model X.prog X.w) X.A X.xe none (EP X pins σ Q) (.ref s2.heap.objs.size) s3.heap.objs.size (.ok .next) s' := fun {i m σ' H' s'} J q => by
    obtain ⟨mm, hn, _⟩ := J.loc
    rw [← hY] at J hn
    refine ⟨mm, hn, fun h'' sb => ?_⟩
    exact ⟨.ref _, H', comp_end I3 f3 J sb, rfl, q⟩
  have st4 : ∀ s4 : Shared, s4 = { s3 with heap := h₁, toks := s3.toks } → tn 0 s4.heap := fun s4 e => by
    subst e
    exact T.keep _ _ _ st2 fun b hb o e => k34 b o (k23 b o e)
  have loop : codeAny (model X.prog X.w) X.A (.compLoop (.ListComp elt [⟨.Name x px, iter, ifs, 0⟩] scope pos) 0 (.ref it) (.ref s2.heap.objs.size) (compEnvC scope cl s3.heap.objs.size X.env))
      (compPost (model X.prog X.w) X.A X.xe none (EP X pins σ Q) (.ref s2.heap.objs.size) s3.heap.objs.size) { s3 with heap := h₁, toks := s3.toks } := by
    refine compLoop_go (fun n s' => ∃ (i : Nat) (o : Option V) (H' : Hp), Inv Y [] (o :: frv js σ) H' s' ∧ tn i s'.heap ∧ (∀ b ∈ fp, H' b = none) ∧ W i n H') ?_ m0 ⟨0, none, _, I4, st4 _ rfl, fun b hb => (f3 b hb).1, w0⟩
    rintro n s5 ⟨i, o, H5, I5, st5, fr5, w5⟩
    rcases turn i n H5 w5 with ⟨stop, q⟩ | ⟨go, step⟩
    · have r := T.done Y hYp hYw hYK hYc i [] s5 _ H5 (fun _ _ => False) I5 (stat fr5) st5 stop
      rw [hYA] at r
      refine thn r fun r s6 ⟨hr, I6⟩ => ?_
      subst hr
      exact fin (i := i) (m := n) I6 q
    · have r := T.item Y hYp hYw hYK hYc i [] s5 _ H5 (fun _ _ => False) I5 (stat fr5) st5 go
      rw [hYA] at r
      refine thn r fun r s6 ⟨u, hr, h6⟩ => ?_
      subst hr
      refine thn h6 fun _ s7 ⟨y, H7, I7, r7, y7, st7, fr7⟩ => ?_
      have I7' := I7.pinned (stat fr7) (T.obj _ _ st7)
      have hname : PG Y (.Name x px) (gName 0) := pg_name (X := Y) (i := 0) (by rw [hYN]; exact S.nd) (by rw [hYN]; rfl) (.inl (by rw [hYe]; exact lookup_relabel_local S.hx)) (.inr (by rw [hYe]; exact lookup_relabel_local S.hx))
      have r8 := hname _ s7 _ H7 y u (fun σ' H' => σ' = some y :: frv js σ ∧ H' = H7) I7' r7 ⟨rfl, rfl⟩
      rw [hYp, hYw, hYA, hYe, hYx] at r8
      refine thn r8 fun _ s8 ⟨σ8, H8, I8, e1, e2⟩ => ?_
      subst e1 e2
      have r9 := htY _ s8 _ _ _ I8 (step y _ y7)
      rw [hYp, hYw, hYA, hYe, hYx] at r9
      refine thn r9 fun b s9 ⟨H9, I9, q9⟩ => ?_
      have again : ∀ {σ' : St} {H' : Hp} {s' : Shared}, Inv Y ([] ++ pinsAt fp s7.heap) (some y :: frv js σ) H' s' → (∃ m', m' < n ∧ W (i + 1) m' H') →
          ∃ m, m < n ∧ ∃ (i : Nat) (o : Option V) (H' : Hp), Inv Y [] (o :: frv js σ) H' s' ∧ tn i s'.heap ∧ (∀ b ∈ fp, H' b = none) ∧ W i m H' := fun {σ' H' s'} K7 ⟨m', hm, w7⟩ => by
        refine ⟨m', hm, i + 1, some y, H', K7.unpinned, T.keep _ _ _ st7 fun b hb o e => (K7.pin (b, o) (List.mem_append_right _ (List.mem_append_right _ (mem_pinsAt hb e)))).1, fun b hb => ?_, w7⟩
        obtain ⟨o, e, d⟩ := T.obj _ _ st7 b hb
        exact (K7.pin (b, o) (List.mem_append_right _ (List.mem_append_right _ (mem_pinsAt hb e)))).2.1
      cases b with
      | false =>
        rw [if_neg Bool.false_ne_true] at q9 ⊢
        exact again (σ' := []) I9 q9
      | true =>
        rw [if_pos rfl] at q9 ⊢
        have r10 := heY _ s9 _ _ _ I9 q9
        rw [hYp, hYw, hYA, hYe, hYx] at r10
        refine thn r10 fun v s10 ⟨y10, H10, I10, ry, xs, hxs, hlen, m', hm, w10⟩ => ?_
        have r11 := mt_append (X := Y) _ s10 _ H10 (.ref s2.heap.objs.size) [y10] (.ref s2.heap.objs.size) [v] (fun _ H' => H' = upd H10 s2.heap.objs.size (.lst (xs ++ [y10]))) I10 rfl (.cons ry .nil) ⟨_, xs, y10, rfl, rfl, hxs, hlen, rfl⟩
        rw [hYp, hYw, hYA, hYx] at r11
        refine thn r11 fun _ s11 ⟨_, H11, I11, _, e11⟩ => ?_
        subst e11
        exact again (σ' := []) I11 ⟨m', hm, w10⟩
  have loop' : ∀ s4 : Shared, s4 = { s3 with heap := h₁, toks := s3.toks } → codeAny (model X.prog X.w) X.A (.compLoop (.ListComp elt [⟨.Name x px, iter, ifs, 0⟩] scope pos) 0 (.ref it) (.ref s2.heap.objs.size) (compEnvC scope cl s3.heap.objs.size X.env))
      (compPost (model X.prog X.w) X.A X.xe none (EP X pins σ Q) (.ref s2.heap.objs.size) s3.heap.objs.size) s4 := fun s4 e => by subst e; exact loop
  have e4 : ∀ t, t = s3.toks → ({ s3 with heap := h₁, toks := t } : Shared) = { s3 with heap := h₁, toks := s3.toks } := fun t e => by rw [e]
  have fin4 : ∀ s4 : Shared, s4 = { s3 with heap := h₁, toks := s3.toks } → codeAny (model X.prog X.w) X.A (.compStart (.ListComp elt [⟨.Name x px, iter, ifs, 0⟩] scope pos) 0 (.ref it) (.ref s2.heap.objs.size) (compEnvC scope cl s3.heap.objs.size X.env))
      (compPost (model X.prog X.w) X.A X.xe none (EP X pins σ Q) (.ref s2.heap.objs.size) s3.heap.objs.size) s4 := fun s4 e =>
    codeAny_compStart_list (loop' s4 e) (T.self X.A 0 s4 _ _ (st4 s4 e) (loop' s4 e))
  have es : ({ s2 with heap := s2.heap.push { cls := .type "list", dict := none, data := .seq ([] : List Value).toArray } } : Shared) = s3 := hS3
  refine fin4 _ ?_
  rw [← es]
  rfl
end L2
/-! EXTENSION C: exceptions of own classes: raised, passed on, caught at a call -/
namespace L2
open PySem PySem.Spec PyProof.Rows
section
variable {P : Program} {w : World} {H : Hp} {h : Heap} {a : Addr} {o : HO}
theorem ObjOk.there (x : ObjOk P w H h a o) : ∃ ob, h.get? a = some ob := by
  cases o with
  | lst xs => obtain ⟨_, _, _, _, e⟩ := x; exact ⟨_, e⟩
  | tup xs => obtain ⟨_, _, _, ob, e, _⟩ := x; exact ⟨_, e⟩
  | dK kvs => obtain ⟨_, _, _, _, o, _, _, e, _⟩ := x; exact ⟨_, e⟩
  | dT kvs => obtain ⟨_, _, _, _, o, _, _, e, _⟩ := x; exact ⟨_, e⟩
  | set S n => obtain ⟨o, _, _, _, e, _⟩ := x; exact ⟨_, e⟩
  | ins C dx fs => obtain ⟨_, _, _, e, _⟩ := x; exact ⟨_, e⟩
  | own y => exact x
  | xd fs => obtain ⟨_, ⟨_, _, _, e, _⟩, _⟩ := x; exact ⟨_, e⟩
  | rng lo hi => obtain ⟨_, _, _, e⟩ := x; exact ⟨_, e⟩
  | frz ob u => obtain ⟨e, _⟩ := x; exact ⟨_, e⟩
  | tbl ps => exact ⟨_, (show h.get? a = some _ from x)⟩
  | met f y => exact ⟨_, (show h.get? a = some _ from x)⟩
  | ext φ => obtain ⟨_, e, _⟩ := x; exact e
end
/-- what is kept while an exception flies over the frames l (h, H: ahead of the call; B: all that stood at the raise but the frames) -/
structure FliesB (P : Program) (w : World) (l : List Env) (H H' : Hp) (h h' B : Heap) : Prop where
  inB : ∀ b o, h.get? b = some o → b ∉ frs l → ∃ o1, B.get? b = some o1 ∧ (H b = none → o1 = o)
  trk : ∀ b u, H' b = some u → ∃ o, B.get? b = some o
  st : B.StaysIn h'
  fr : ∀ b ∈ frs l, H b = none ∧ ∃ o, h.get? b = some o ∧ ∀ vs, o.data ≠ .fields vs
  slot : ∀ b o, h.get? b = some o → b ∈ frs l → ∃ sl, h'.get? b = some { o with slots := sl }
  free : ∀ b o, h.get? b = some o → H b = none → H' b = none
  tups : ∀ b xs, H b = some (.tup xs) → H' b = some (.tup xs)
  frzs : ∀ b o u, H b = some (.frz o u) → H' b = some (.frz o u)
  tbls : ∀ b ps, H b = some (.tbl ps) → ∃ more, H' b = some (.tbl (ps ++ more))
  hok : HOk P w H' h'
section
variable {P : Program} {w : World} {l : List Env} {H H' : Hp} {h h' h'' B : Heap}
theorem FliesB.step (F : FliesB P w l H H' h h' B) (st : B.StaysIn h'') (up : h'.UpToSlots h'') : FliesB P w l H H' h h'' B := by
  refine ⟨F.inB, F.trk, st, F.fr, fun b o e hb => ?_, F.free, F.tups, F.frzs, F.tbls, fun b u e => ?_⟩
  · obtain ⟨sl, e1⟩ := F.slot b o e hb
    obtain ⟨_, o', e', nd⟩ := F.fr b hb
    rw [e] at e'
    cases e'
    obtain ⟨sl2, e2⟩ := up b _ e1 nd
    exact ⟨sl2, e2⟩
  · refine (F.hok b u e).stay (fun c v hc q => ?_) (fun _ q => q) fun _ _ q => q
    obtain ⟨u', hu'⟩ : ∃ u', H' c = some u' := by
      rcases hc with z | z
      · rw [z]; exact ⟨u, e⟩
      · exact ⟨_, z⟩
    obtain ⟨o2, e2⟩ := F.trk c u' hu'
    have e3 := F.st c o2 e2
    rw [q] at e3
    cases e3
    exact st c _ e2
theorem FliesB.un (F : FliesB P w l H H' h h' B) : Un (frs l) [] H H' h h' where
  keep := fun b o e n hb _ => by
    obtain ⟨o1, e1, z⟩ := F.inB b o e hb
    rw [z n] at e1
    exact F.st b o e1
  slot := fun b o e _ hb _ => F.slot b o e hb
  free := fun b o e n _ => F.free b o e n
  there := fun b o e _ => by
    by_cases hb : b ∈ frs l
    · obtain ⟨sl, e1⟩ := F.slot b o e hb
      exact ⟨_, e1⟩
    · obtain ⟨o1, e1, _⟩ := F.inB b o e hb
      exact ⟨o1, F.st b o1 e1⟩
  tups := F.tups
  frzs := F.frzs
  tbls := F.tbls
end
/-- an exception of the class cls lies behind a call -/
def CXe (P : Program) (w : World) : CXT := fun outer H s E e s' => ∃ (a : Addr) (cls : Value) (H' : Hp) (B : Heap) (a0 : Value), e = .ref a ∧ s'.os = s.os ∧ AllBare s'.gens ∧ s.heap.get? a = none ∧ H' a = none ∧
  FliesB P w outer H H' s.heap s'.heap B ∧ Heap.FlyingW B outer a cls a0 s'.heap ∧ E cls none H'
theorem CXe.none {P : Program} {w : World} {outer : List Env} {H : Hp} {s : Shared} {e : Value} {s' : Shared} (h : CXe P w outer H s (fun _ _ _ => False) e s') : False := by
  obtain ⟨_, _, _, _, _, _, _, _, _, _, _, _, q⟩ := h
  exact q
/-! ### a def that may raise -/
section
variable {P : Program} {w : World} {K : PySem.W.Frag} {mg : Str → Option Value} {base : Heap}
end
section
variable {P : Program} {w : World} {K : PySem.W.Frag} {mg : Str → Option Value} {base : Heap} {N : List Str} {qual : Str} {scope : Scope} {f : Addr} {cd : Value} {A : Around} {outer : List Env} {s : Shared} {H : Hp} {E : XK}
/-- an own class of exceptions, as the top has made it -/
structure ExcC (K : PySem.W.Frag) (x : Str) (C : Addr) : Prop where
  ns : PySem.W.nsIn K mainGlobals x = some (some (.ref C))
  ex : PySem.W.excIn K C [.type "ValueError", .type "Exception", .type "BaseException", .type "object"] "ValueError.__new__" = true
/-- raise C(e) -/
def tRaise (C : Addr) (E : XK) (te : TE) : TS := fun _ σ H => te σ H fun _ H1 => E (.ref C) none H1
end
end L2
/-! EXTENSION D: a call in a try, its exception caught by an own class; isinstance of what was caught -/
namespace L2
open PySem PySem.Spec PyProof.Rows
/-- within an except suite -/
def cxMark (X : Cx) (a : Addr) : Cx := { X with A := X.A.mark (some (.ref a)), calm := false, xe := fun _ _ => False }
/-- an exception that was caught -/
def ExcAt (a : Addr) (cls : Value) (h : Heap) : Prop := ∃ o vs, h.get? a = some o ∧ o.cls = cls ∧ o.data = .fields vs
def excO (a : Addr) (cls : Value) : HO := .ext (ExcAt a cls)
section
variable {X : Cx} {pins : List (Addr × Obj)} {σ : St} {H : Hp} {s : Shared} {a : Addr}
theorem Cx.Ok.mark (ok : X.Ok) (a : Addr) : (cxMark X a).Ok :=
  ⟨ok.mod, ok.kind, ok.glob, ok.blt, ok.above, ok.inj, ok.has, ok.cab, fun z => absurd (show false = true from z) Bool.false_ne_true, ok.frames, ok.stk, ok.exf, ok.bs, ok.bsz, ok.noex, ok.exfs, ok.funs, ok.frf⟩
theorem Inv.mark (I : Inv X pins σ H s) (a : Addr) : Inv (cxMark X a) pins σ H s := ⟨I.ok.mark a, I.os, I.bare, I.base, I.loc, I.cell, I.free, I.freeC, I.pin, I.hok, I.len⟩
end

/-! ### try: f(..) except C as n: suite -/
/-- the wish of a suite: behind it the name in slot i is gone -/
def tTry1 (K : PySem.W.Frag) (sp : Sp) (t : TA) (Dc : Addr) (i : Nat) (ts : TS) : TS := fun D σ H => t σ H fun vs H1 => sp (vs ++ []) H1 (fun _ H2 => D.nx σ H2) fun cls _ H2 =>
  PySem.W.exmOne K cls (.ref Dc) = some true ∧ ∀ a, H2 a = none → ts { nx := fun σ' H' => D.nx (σ'.set i none) H', rt := fun _ _ => False } (σ.set i (some (.ref a))) (upd H2 a (excO a cls))
/-! ### isinstance of an exception that was caught -/
section
open Builtin Builtin.ObjectAttr Builtin.Getset_descriptor
variable {prog : Program} {w : World} {A : Around} {E : Value → Shared → Prop} {s : Shared} {K : PySem.W.Frag} {a C : Addr} {o : Obj}
/-- what an own class of exceptions must have -/
structure ExcK (K : PySem.W.Frag) (C : Addr) : Prop where
  cl : (PySem.W.clsIn K C).isSome = true
  ga : PySem.W.findIn K (.ref C) "__getattribute__" = some (some (.builtin "BaseException.__getattribute__"))
  gh : PySem.W.findIn K (.ref C) "__getattr__" = some none
  at_ : PySem.W.findIn K (.ref C) "__class__" = some (some (.builtin "object.__class__"))
  ob : PySem.W.mroIn K C (.type "object") = some true
  be : PySem.W.mroIn K C (.type "BaseException") = some true
end
end L2
/-! EXTENSION E: isinstance of an exception that was caught -/
namespace L2
open PySem PySem.Spec PyProof.Rows
section
open Builtin Builtin.ObjectAttr Builtin.Getset_descriptor PySem.W
variable {prog : Program} {w : World} {A : Around} {E : Value → Shared → Prop} {s : Shared} {K : PySem.W.Frag} {a C : Addr} {o : Obj}
end
section
variable {X : Cx}
/-- isinstance(e, D), isinstance(e, (D, ..)) of an exception that was caught -/
def rIsE (K : PySem.W.Frag) : List V → Hp → VK → Prop := fun xs H Q => ∃ (a C : Addr) (c : V) (b : Bool), xs = [.ref a, c] ∧ H a = some (excO a (.ref C)) ∧ ExcK K C ∧ Q (.bl b) H ∧
  ((∃ u, RelV c u ∧ (∀ i, c ≠ .int i) ∧ (∀ i, c ≠ .str i) ∧ (∀ i, c ≠ .byt i) ∧ (∀ i, c ≠ .flt i) ∧ PySem.W.kitOne K (.ref C) u = some b) ∨ ∃ p cs us, c = .ref p ∧ H p = some (.tup cs) ∧ Vals cs us ∧ (∀ vs, Vals cs vs → vs = us) ∧ PySem.W.kitAny K (.ref C) us = some b)
end
end L2
/-! EXTENSION F0: argument lists by the head's kind (a generic rfl, not one over the whole text) -/
namespace L2
open PySem PySem.Spec PyProof.Rows
section
variable {X : Cx} {es : List Expr} {te : TE} {t : TA} {pos : Pos}
theorem pa_consT {a0 : List Expr} {a1 : Nat} (ha : PE X (Expr.Tuple a0 a1 pos) te) (hr : PA X es t) : PA X ((Expr.Tuple a0 a1 pos) :: es) (tCons te t) := pa_cons ha hr rfl
theorem pa_consB {a0 : Expr} {a1 : Operator} {a2 : Expr} (ha : PE X (Expr.BinOp a0 a1 a2 pos) te) (hr : PA X es t) : PA X ((Expr.BinOp a0 a1 a2 pos) :: es) (tCons te t) := pa_cons ha hr rfl
theorem pa_consC {a0 : Expr} {a1 : List Expr} {a2 : List Keyword} (ha : PE X (Expr.Call a0 a1 a2 pos) te) (hr : PA X es t) : PA X ((Expr.Call a0 a1 a2 pos) :: es) (tCons te t) := pa_cons ha hr rfl
theorem pa_consN {a0 : Str} (ha : PE X (Expr.Name a0 pos) te) (hr : PA X es t) : PA X ((Expr.Name a0 pos) :: es) (tCons te t) := pa_cons ha hr rfl
theorem pa_consK {a0 : Const} {a1 : Nat} (ha : PE X (Expr.Constant a0 a1 pos) te) (hr : PA X es t) : PA X ((Expr.Constant a0 a1 pos) :: es) (tCons te t) := pa_cons ha hr rfl
theorem pa_consS {a0 : Expr} {a1 : Expr} (ha : PE X (Expr.Subscript a0 a1 pos) te) (hr : PA X es t) : PA X ((Expr.Subscript a0 a1 pos) :: es) (tCons te t) := pa_cons ha hr rfl
theorem pa_consM {a0 : Expr} {a1 : List CmpOp} {a2 : List Expr} (ha : PE X (Expr.Compare a0 a1 a2 pos) te) (hr : PA X es t) : PA X ((Expr.Compare a0 a1 a2 pos) :: es) (tCons te t) := pa_cons ha hr rfl
theorem pa_consH {a0 : Expr} {a1 : List Comprehension} {a2 : Scope} (ha : PE X (Expr.ListComp a0 a1 a2 pos) te) (hr : PA X es t) : PA X ((Expr.ListComp a0 a1 a2 pos) :: es) (tCons te t) := pa_cons ha hr rfl
end
end L2
/-! EXTENSION F1: a power of two written numbers, a sum and a difference -/
namespace L2
open PySem PySem.Spec PyProof.Rows
section
variable {X : Cx}
abbrev rPow : R2 := rI CPow fun i j => .int (i ^ j.toNat)
abbrev rSubI : R2 := rI0 fun i j => .int (i - j)
end
end L2
/-! EXTENSION F: texts -/
namespace L2
open PySem PySem.Spec PyProof.Rows
/-! ### a walk over a text's signs -/
def Its (z : Str) : It := ⟨fun i _ => i < z.cps.size, fun i H x H' => H' = H ∧ ∃ c, z.cps[i]? = some c ∧ x = .str ⟨#[c]⟩, fun i _ => i = z.cps.size⟩
section
variable {X : Cx} {tg : Expr}
def iStr (tl : TE) : TI := fun σ H R => tl σ H fun x H1 => ∃ z, x = .str z ∧ R (Its z) H1
end

/-! ### all of a list of truths -/
theorem Vals.bools : ∀ {bs : List Bool} {us : List Value} {i : Nat} {v : Value}, Vals (bs.map V.bl) us → us[i]? = some v → v = .bool (bs.getD i true)
  | [], _, _, _, .nil, e => by simp at e
  | b :: bs, _, 0, _, .cons r _, e => by
    have e' := Option.some.inj e
    subst e'
    exact r
  | b :: bs, _, i + 1, v, .cons _ t, e => by
    have := Vals.bools (i := i) (v := v) t (by simpa using e)
    simpa using this
section
variable {X : Cx}
/-! ### f-strings -/
def PJ (X : Cx) (es : List Expr) (t : Str → TE) : Prop :=
  ∀ (acc : Str) (pins : List (Addr × Obj)) (s : Shared) (σ : St) (H : Hp) (Q : VK), Inv X pins σ H s → t acc σ H Q → wpAny (model X.prog X.w) X.A (joinParts acc (evalEach es X.env)) (EP X pins σ Q) X.xe s
def jNil : Str → TE := fun acc _ H Q => acc.length ≤ sizeLine ∧ Q (.str acc) H
def jStr (y : Str) (t : Str → TE) : Str → TE := fun acc σ H Q => (acc ++ y).length ≤ sizeLine ∧ t (acc ++ y) σ H Q
/-- what a value's place in an f-string is filled with -/
def FmtOf : V → Str → Prop
  | .str z, y => y = z ∧ z.length ≤ sizeLine
  | .int i, y => y = toString i ∧ i.natAbs.log2 < 1920
  | _, _ => False
def jFmt (te : TE) (t : Str → TE) : Str → TE := fun acc σ H Q => te σ H fun x H1 => ∃ y, FmtOf x y ∧ (acc ++ y).length ≤ sizeLine ∧ t (acc ++ y) σ H1 Q
def tFmt1 (te : TE) : TE := fun σ H Q => te σ H fun x H1 => ∃ y, FmtOf x y ∧ Q (.str y) H1
/-! ### methods of texts -/
theorem Vals.strs : ∀ {ts : List Str} {us : List Value}, Vals (ts.map V.str) us → ∃ l : List (Str × Tok), us = strValues l ∧ l.map (·.1) = ts
  | [], _, .nil => ⟨[], rfl, rfl⟩
  | t :: ts, _, .cons r h => by
    obtain ⟨l, e1, e2⟩ := Vals.strs h
    obtain ⟨tk, e⟩ := r
    subst e
    exact ⟨(t, tk) :: l, by rw [e1]; rfl, by rw [List.map_cons, e2]⟩
theorem mt_join : MtR X "str.join" (fun x xs H Q => ∃ (z : Str) (p : Addr) (ts : List Str), x = .str z ∧ xs = [.ref p] ∧ SqL X.K H p (ts.map V.str) ∧ JoinOk z ts = true ∧ Q (.str (Txt.join z ts)) H) := by
  intro pins s σ H x xs v us Q I rx rs h
  obtain ⟨z, p, ts, rfl, rfl, hq, hok, q⟩ := h
  obtain ⟨t, rfl⟩ := rx
  obtain ⟨u, rfl, rp⟩ := vals1 rs
  cases rp
  obtain ⟨its, rv, pl, hz⟩ := I.list hq
  obtain ⟨l, e1, e2⟩ := Vals.strs rv
  subst e1
  exact SC.join pl.isList e2 hok fun t' k => ⟨.str _, H, I.tok _, ⟨_, rfl⟩, q⟩

/-! ### slices of texts, int(text), is True -/
def rSlS : V → Option Int → Option Int → Hp → VK → Prop := fun x lo hi H Q => ∃ z, x = .str z ∧ z.length ≤ sizeLine ∧ Q (.str (Txt.slice z lo hi)) H
/-! ### within a comprehension's block -/
theorem ixc_tup {scope : Scope} {cl : List (Str × Addr)} {C : Addr} {N : List Str} {s₀ : Shared} {H₀ : Hp} {ex : List Addr} {pn : List (Addr × Obj)} : IxR (cxComp X scope cl C N s₀ H₀ ex pn) (rIxT X.K) := ix_tup

/-! ### != of two lists of flat items -/
def rNeL (K : PySem.W.Frag) : R2 := fun x y H Q => ∃ a b xs ys, x = .ref a ∧ y = .ref b ∧ SqL K H a xs ∧ SqL K H b ys ∧ xs.all flatV = true ∧ ys.all flatV = true ∧ Q (.bl (!eqVs xs ys)) H
theorem op_neL (hu : X.A.units < cLine) : OpR X (compareOp .NotEq) (rNeL X.K) := by
  intro pins s σ H x y v u Q I rx ry h
  obtain ⟨a, b, xs, ys, rfl, rfl, ha, hb, f1, f2, q⟩ := h
  cases rx
  cases ry
  obtain ⟨its, r1, p1, _⟩ := I.list ha
  obtain ⟨its2, r2, p2, _⟩ := I.list hb
  have l1 := r1.length
  have l2 := r2.length
  have hv := eqVs_range xs ys
  by_cases hs : xs.length = ys.length
  · have hsz : its.toArray.size = its2.toArray.size := by rw [List.size_toArray, List.size_toArray]; omega
    refine SeqAt.RcNeAt.lists (e := eqAtI xs ys) p1.isList p2.isList hsz hu (tup_eqAt (pins := pins) (σ := σ) (H := H) r1 r2 f1 f2) X.prog X.w X.xe _ ⟨.bl _, H, I, rfl, ?_⟩
    have e : min xs.length ys.length = xs.length := by omega
    have e2 : (xs.length == ys.length) = true := by simp [hs]
    rw [e, e2, Bool.and_true] at hv
    rw [List.size_toArray, ← l1, hv]
    exact q
  · have hne : (its.toArray.size != its2.toArray.size) = true := by
      rw [List.size_toArray, List.size_toArray]
      simp; omega
    refine SeqAt.RcNeAt.lists_lengths p1.isList p2.isList hne hu X.prog X.w X.xe _ ⟨.bl true, H, I, rfl, ?_⟩
    have e2 : (xs.length == ys.length) = false := by simp [hs]
    rw [e2, Bool.and_false] at hv
    rw [← hv] at q
    exact q
end
end L2
/-! EXTENSION I: == of tuples whose items are flat or tuples of flat ones; None in a list of tuples; a call of a function that was picked -/
namespace L2
open PySem PySem.Spec PyProof.Rows
def eqL {α : Type} (f : α → α → Bool) : List α → List α → Bool
  | [], [] => true
  | x :: xs, y :: ys => f x y && eqL f xs ys
  | _, _ => false
def eqLat {α : Type} (f : α → α → Bool) (xs ys : List α) (j : Nat) : Bool := match xs[j]?, ys[j]? with
  | some x, some y => f x y
  | _, _ => false
/-- an item: flat, or a tuple of flat ones -/
inductive Itm where
  | fl (x : V) | tp (xs : List V)
def ItAt (H : Hp) : V → Itm → Prop
  | x, .fl y => x = y ∧ flatV y = true
  | x, .tp xs => ∃ q, x = .ref q ∧ H q = some (.tup xs) ∧ xs.all flatV = true
def eqItm : Itm → Itm → Bool
  | .fl x, .fl y => eqV x y
  | .tp xs, .tp ys => eqVs xs ys
  | _, _ => false
section
variable {X : Cx} {pins : List (Addr × Obj)} {σ : St} {H : Hp} {s : Shared}
/-- t == u -/
def rEqN (neg : Bool) : R2 := fun x y H Q => ∃ a b xs ys is js, x = .ref a ∧ y = .ref b ∧ H a = some (.tup xs) ∧ H b = some (.tup ys) ∧ Paired (ItAt H) xs is ∧ Paired (ItAt H) ys js ∧ Q (.bl (if neg then !eqL eqItm is js else eqL eqItm is js)) H
theorem paired_at {α β : Type} {F : α → β → Prop} : ∀ {xs : List α} {ys : List β}, Paired F xs ys → ∀ {j : Nat} {x : α}, xs[j]? = some x → ∃ y, ys[j]? = some y ∧ F x y
  | _, _, .nil, _, _, e => by simp at e
  | _, _, .cons r _, 0, _, e => by simp at e; subst e; exact ⟨_, rfl, r⟩
  | _, _, .cons _ t, j + 1, x, e => by
    obtain ⟨y, h1, h2⟩ := paired_at t (j := j) (x := x) (by simpa using e)
    exact ⟨y, by simpa using h1, h2⟩
/-- None in a list of tuples -/
def rInN : R2 := fun x y H Q => ∃ p us, x = .non ∧ y = .ref p ∧ H p = some (.lst us) ∧ (∀ u ∈ us, ∃ q xs, u = .ref q ∧ H q = some (.tup xs)) ∧ Q (.bl false) H
/-- f(e, ..), f a value -/
def tCallV (tf : TE) (ok : Addr → Sp → Prop) (t : TA) : TE := fun σ H Q => tf σ H fun x H1 => ∃ f sp, x = .ref f ∧ ok f sp ∧ t σ H1 fun vs H2 => sp (vs ++ []) H2 Q E0
end
end L2
/-! EXTENSION J: name = [.. for ..] (the value is stored ahead of the block's end) -/
namespace L2
open PySem PySem.Spec PyProof.Rows
theorem comp_gen {X : Cx} {elt iter : Expr} {ifs : List Expr} {x : Str} {px pos : Pos} {scope : Scope} {cl : List (Str × Addr)} {fv : List Str} {js : List Nat} {wi : TI} {tt : TT} {te : TE} (hc : X.calm = true) (hclos : closureFor scope X.env = pure cl)
    (S : CompScope X scope cl x fv js) (hi : PI X (.Name x px) iter wi)
    (ht : ∀ (C : Addr) (s₀ : Shared) (H₀ : Hp) (ex : List Addr) (pn : List (Addr × Obj)), PF (cxComp X scope cl C (x :: fv) s₀ H₀ ex pn) ifs tt)
    (he : ∀ (C : Addr) (s₀ : Shared) (H₀ : Hp) (ex : List Addr) (pn : List (Addr × Obj)), PE (cxComp X scope cl C (x :: fv) s₀ H₀ ex pn) elt te)
    (hs : ∀ x, foldedSetIterable iter X.env x = pure x) {use : Option (Value → Sem Unit)} {QQ : Value → Shared → Prop} {pins : List (Addr × Obj)} {s : Shared} {σ : St} {H : Hp} {Q : VK} (I : Inv X pins σ H s) (h : tComp wi js tt te σ H Q)
    (hfin : ∀ (D : Addr) (s3 : Shared) (H3 : Hp) (fp : List Addr) (pn : List (Addr × Obj)) (N : List Str) (pins' : List (Addr × Obj)) (σ' : St) (H' : Hp) (s' : Shared), Inv X pins σ H3 s3 → (∀ b ∈ fp, FpOk X pins H3 b) →
      Inv (cxComp X scope cl s3.heap.objs.size N s3 H3 fp pn) pins' σ' H' s' → Q (.ref D) H' → compPost (model X.prog X.w) X.A X.xe use QQ (.ref D) s3.heap.objs.size (.ok .next) s') :
    wpAny (model X.prog X.w) X.A (comprehension (.ListComp elt [⟨.Name x px, iter, ifs, 0⟩] scope pos) scope X.env (firstIterPos [⟨.Name x px, iter, ifs, 0⟩] pos) (newList []) (firstAsync [⟨.Name x px, iter, ifs, 0⟩]) (firstIter [⟨.Name x px, iter, ifs, 0⟩] X.env) use) QQ X.xe s := by
  refine wpAny_comprehension_free (use := use) rfl hs hclos S.kind S.nm (thn (hi pins s σ H _ I h) fun v s1 h1 => thn h1 fun itv s2 h2 => ?_)
  obtain ⟨it, fp, tn, J, H2, e, I2, T, st2, f2, hW⟩ := h2
  subst e
  have hD : H2 s2.heap.objs.size = none := I2.hok.fresh (Nat.le_refl _)
  obtain ⟨W, ⟨m0, w0⟩, turn⟩ := hW s2.heap.objs.size hD
  have lt2 : ∀ b ∈ fp, b < s2.heap.objs.size := fun b hb => by
    obtain ⟨o, e, _⟩ := T.obj _ _ st2 b hb
    exact Heap.lt_size e
  -- the new list
  refine wpAny_newObj_type (wpAny_newFunctionEnv S.nc (by intro y hy; simp at hy) (fun h₁ hns₁ hsb₁ => ?_) S.kind)
  dsimp only at hns₁ hsb₁ ⊢
  have I3 : Inv X pins σ (upd H2 s2.heap.objs.size (.lst [])) { s2 with heap := s2.heap.push { cls := .type "list", dict := none, data := .seq ([] : List Value).toArray } } := I2.lnew (t' := s2.toks) .nil (Nat.zero_le _)
  generalize hS3 : ({ s2 with heap := s2.heap.push { cls := .type "list", dict := none, data := .seq ([] : List Value).toArray } } : Shared) = s3 at I3
  have eh : s3.heap = s2.heap.push { cls := .type "list", dict := none, data := .seq ([] : List Value).toArray } := by rw [← hS3]
  rw [← eh] at hns₁ hsb₁ ⊢
  have hsz : s3.heap.objs.size = s2.heap.objs.size + 1 := by rw [eh, Heap.size_push]
  have k23 : ∀ b o, s2.heap.get? b = some o → s3.heap.get? b = some o := fun b o e => by rw [eh]; exact Heap.get?_push_of_some _ e
  have k34 : ∀ b o, s3.heap.get? b = some o → h₁.get? b = some o := fun b o e => hsb₁.extBut b o (Nat.ne_of_lt (Heap.lt_size e)) (Heap.get?_push_of_some _ e)
  have f3 : ∀ b ∈ fp, FpOk X pins (upd H2 s2.heap.objs.size (.lst [])) b := fun b hb => ⟨by rw [upd_ne (Nat.ne_of_lt (lt2 b hb))]; exact (f2 b hb).1, (f2 b hb).2⟩
  have lt3 : ∀ b ∈ fp, b < s3.heap.objs.size := fun b hb => by rw [hsz]; exact Nat.lt_succ_of_lt (lt2 b hb)
  have I4 := comp_start (tk := s3.toks) S I3 f3 lt3 (h₁ := h₁) (by simpa using hns₁) k34
  generalize hY : cxComp X scope cl s3.heap.objs.size (x :: fv) s3 (upd H2 s2.heap.objs.size (.lst [])) fp (X.pn ++ pins) = Y at I4
  have hYp : Y.prog = X.prog := by rw [← hY]; rfl
  have hYw : Y.w = X.w := by rw [← hY]; rfl
  have hYK : Y.K = X.K := by rw [← hY]; rfl
  have hYA : Y.A = X.A := by rw [← hY]; rfl
  have hYc : Y.calm = true := by rw [← hY]; exact hc
  have hYe : Y.env = compEnvC scope cl s3.heap.objs.size X.env := by rw [← hY]; rfl
  have hYx : Y.xe = fun _ _ => False := by rw [← hY]; rfl
  have hYN : Y.N = x :: fv := by rw [← hY]; rfl
  have heY : PE Y elt te := by rw [← hY]; exact he _ _ _ _ _
  have htY : PF Y ifs tt := by rw [← hY]; exact ht _ _ _ _ _
  have stat : ∀ {H' : Hp}, (∀ b ∈ fp, H' b = none) → ∀ b ∈ fp, FpOk Y [] H' b := fun {H'} hn b hb => by
    obtain ⟨g0, g1, g2, g3, g4, g5⟩ := f3 b hb
    rw [← hY]
    refine ⟨hn b hb, Nat.ne_of_lt (lt3 b hb), fun z => ?_, .inl hb, fun y c e => g4 y c (S.cell_of e), fun p hp => g5 p (by simpa [cxComp] using hp)⟩
    rcases List.mem_cons.mp (I3.stkSub b z) with q | q
    · exact g1 q
    · exact g2 q
  have fin : ∀ {i : Nat} {m : Nat} {σ' : St} {H' : Hp} {s' : Shared}, Inv Y [] σ' H' s' → Q (.ref s2.heap.objs.size) H' → compPost (model X.prog X.w) X.A X.xe use QQ (.ref s2.heap.objs.size) s3.heap.objs.size (.ok .next) s' := fun {i m σ' H' s'} J q => by
    rw [← hY] at J
    exact hfin _ _ _ _ _ _ _ _ _ _ I3 f3 J q
  have st4 : ∀ s4 : Shared, s4 = { s3 with heap := h₁, toks := s3.toks } → tn 0 s4.heap := fun s4 e => by
    subst e
    exact T.keep _ _ _ st2 fun b hb o e => k34 b o (k23 b o e)
  have loop : codeAny (model X.prog X.w) X.A (.compLoop (.ListComp elt [⟨.Name x px, iter, ifs, 0⟩] scope pos) 0 (.ref it) (.ref s2.heap.objs.size) (compEnvC scope cl s3.heap.objs.size X.env))
      (compPost (model X.prog X.w) X.A X.xe use QQ (.ref s2.heap.objs.size) s3.heap.objs.size) { s3 with heap := h₁, toks := s3.toks } := by
    refine compLoop_go (fun n s' => ∃ (i : Nat) (o : Option V) (H' : Hp), Inv Y [] (o :: frv js σ) H' s' ∧ tn i s'.heap ∧ (∀ b ∈ fp, H' b = none) ∧ W i n H') ?_ m0 ⟨0, none, _, I4, st4 _ rfl, fun b hb => (f3 b hb).1, w0⟩
    rintro n s5 ⟨i, o, H5, I5, st5, fr5, w5⟩
    rcases turn i n H5 w5 with ⟨stop, q⟩ | ⟨go, step⟩
    · have r := T.done Y hYp hYw hYK hYc i [] s5 _ H5 (fun _ _ => False) I5 (stat fr5) st5 stop
      rw [hYA] at r
      refine thn r fun r s6 ⟨hr, I6⟩ => ?_
      subst hr
      exact fin (i := i) (m := n) I6 q
    · have r := T.item Y hYp hYw hYK hYc i [] s5 _ H5 (fun _ _ => False) I5 (stat fr5) st5 go
      rw [hYA] at r
      refine thn r fun r s6 ⟨u, hr, h6⟩ => ?_
      subst hr
      refine thn h6 fun _ s7 ⟨y, H7, I7, r7, y7, st7, fr7⟩ => ?_
      have I7' := I7.pinned (stat fr7) (T.obj _ _ st7)
      have hname : PG Y (.Name x px) (gName 0) := pg_name (X := Y) (i := 0) (by rw [hYN]; exact S.nd) (by rw [hYN]; rfl) (.inl (by rw [hYe]; exact lookup_relabel_local S.hx)) (.inr (by rw [hYe]; exact lookup_relabel_local S.hx))
      have r8 := hname _ s7 _ H7 y u (fun σ' H' => σ' = some y :: frv js σ ∧ H' = H7) I7' r7 ⟨rfl, rfl⟩
      rw [hYp, hYw, hYA, hYe, hYx] at r8
      refine thn r8 fun _ s8 ⟨σ8, H8, I8, e1, e2⟩ => ?_
      subst e1 e2
      have r9 := htY _ s8 _ _ _ I8 (step y _ y7)
      rw [hYp, hYw, hYA, hYe, hYx] at r9
      refine thn r9 fun b s9 ⟨H9, I9, q9⟩ => ?_
      have again : ∀ {σ' : St} {H' : Hp} {s' : Shared}, Inv Y ([] ++ pinsAt fp s7.heap) (some y :: frv js σ) H' s' → (∃ m', m' < n ∧ W (i + 1) m' H') →
          ∃ m, m < n ∧ ∃ (i : Nat) (o : Option V) (H' : Hp), Inv Y [] (o :: frv js σ) H' s' ∧ tn i s'.heap ∧ (∀ b ∈ fp, H' b = none) ∧ W i m H' := fun {σ' H' s'} K7 ⟨m', hm, w7⟩ => by
        refine ⟨m', hm, i + 1, some y, H', K7.unpinned, T.keep _ _ _ st7 fun b hb o e => (K7.pin (b, o) (List.mem_append_right _ (List.mem_append_right _ (mem_pinsAt hb e)))).1, fun b hb => ?_, w7⟩
        obtain ⟨o, e, d⟩ := T.obj _ _ st7 b hb
        exact (K7.pin (b, o) (List.mem_append_right _ (List.mem_append_right _ (mem_pinsAt hb e)))).2.1
      cases b with
      | false =>
        rw [if_neg Bool.false_ne_true] at q9 ⊢
        exact again (σ' := []) I9 q9
      | true =>
        rw [if_pos rfl] at q9 ⊢
        have r10 := heY _ s9 _ _ _ I9 q9
        rw [hYp, hYw, hYA, hYe, hYx] at r10
        refine thn r10 fun v s10 ⟨y10, H10, I10, ry, xs, hxs, hlen, m', hm, w10⟩ => ?_
        have r11 := mt_append (X := Y) _ s10 _ H10 (.ref s2.heap.objs.size) [y10] (.ref s2.heap.objs.size) [v] (fun _ H' => H' = upd H10 s2.heap.objs.size (.lst (xs ++ [y10]))) I10 rfl (.cons ry .nil) ⟨_, xs, y10, rfl, rfl, hxs, hlen, rfl⟩
        rw [hYp, hYw, hYA, hYx] at r11
        refine thn r11 fun _ s11 ⟨_, H11, I11, _, e11⟩ => ?_
        subst e11
        exact again (σ' := []) I11 ⟨m', hm, w10⟩
  have loop' : ∀ s4 : Shared, s4 = { s3 with heap := h₁, toks := s3.toks } → codeAny (model X.prog X.w) X.A (.compLoop (.ListComp elt [⟨.Name x px, iter, ifs, 0⟩] scope pos) 0 (.ref it) (.ref s2.heap.objs.size) (compEnvC scope cl s3.heap.objs.size X.env))
      (compPost (model X.prog X.w) X.A X.xe use QQ (.ref s2.heap.objs.size) s3.heap.objs.size) s4 := fun s4 e => by subst e; exact loop
  have e4 : ∀ t, t = s3.toks → ({ s3 with heap := h₁, toks := t } : Shared) = { s3 with heap := h₁, toks := s3.toks } := fun t e => by rw [e]
  have fin4 : ∀ s4 : Shared, s4 = { s3 with heap := h₁, toks := s3.toks } → codeAny (model X.prog X.w) X.A (.compStart (.ListComp elt [⟨.Name x px, iter, ifs, 0⟩] scope pos) 0 (.ref it) (.ref s2.heap.objs.size) (compEnvC scope cl s3.heap.objs.size X.env))
      (compPost (model X.prog X.w) X.A X.xe use QQ (.ref s2.heap.objs.size) s3.heap.objs.size) s4 := fun s4 e =>
    codeAny_compStart_list (loop' s4 e) (T.self X.A 0 s4 _ _ (st4 s4 e) (loop' s4 e))
  have es : ({ s2 with heap := s2.heap.push { cls := .type "list", dict := none, data := .seq ([] : List Value).toArray } } : Shared) = s3 := hS3
  refine fin4 _ ?_
  rw [← es]
  rfl
/-- y = [elt for x in iter if ..], y a plain name of the def -/
theorem ps_setC {X : Cx} {i : Nat} {y : Str} {elt iter : Expr} {ifs : List Expr} {x : Str} {px pos py spos : Pos} {scope : Scope} {cl : List (Str × Addr)} {fv : List Str} {js : List Nat} {wi : TI} {tt : TT} {te : TE} (hN : X.N.Nodup) (hi0 : X.N[i]? = some y) (hy : X.env.scope.names.lookup y = some .local)
    (hc : X.calm = true) (hclos : closureFor scope X.env = pure cl)
    (S : CompScope X scope cl x fv js) (hi : PI X (.Name x px) iter wi)
    (ht : ∀ (C : Addr) (s₀ : Shared) (H₀ : Hp) (ex : List Addr) (pn : List (Addr × Obj)), PF (cxComp X scope cl C (x :: fv) s₀ H₀ ex pn) ifs tt)
    (he : ∀ (C : Addr) (s₀ : Shared) (H₀ : Hp) (ex : List Addr) (pn : List (Addr × Obj)), PE (cxComp X scope cl C (x :: fv) s₀ H₀ ex pn) elt te)
    (hs : ∀ x, foldedSetIterable iter X.env x = pure x := by intro _; rfl)
    (hsw : swapsWith (.ListComp elt [⟨.Name x px, iter, ifs, 0⟩] scope pos) (some (.Name y py)) spos.line X.env = pure true := by rfl) :
    PS X (.Assign [.Name y py] (.ListComp elt [⟨.Name x px, iter, ifs, 0⟩] scope pos) spos) (tAsg (tComp wi js tt te) (gName i)) := by
  intro pins s σ H D I h
  rw [exec_Assign_Name_used _ _ _ _ hsw]
  refine wpAny_bind (wpAny_standAt (wpAny_bind ?_))
  rw [arm_evalThenUse_ListComp]
  refine wpAny_bind (comp_gen (Q := fun v H1 => D.nx (σ.set i (some v)) H1) hc hclos S hi ht he hs I h ?_)
  intro L s3 H3 fp pn N pins' σ' H' s' I3 f3 J q
  obtain ⟨mm, hn, _⟩ := id J.loc
  have sb0 : Heap.SameBut s3.heap.objs.size s'.heap s'.heap := ⟨rfl, fun _ _ => rfl⟩
  have I' : Inv X pins σ H' s' := comp_end I3 f3 J sb0
  have ok := I3.fpOk (H' := H') (Nat.le_refl _) (show H' s3.heap.objs.size = none from J.free)
  obtain ⟨f0, f1, f2, f4, f5, f6⟩ := ok
  refine wpAny_assign_Name (store_ok2 I' hN hi0 (.inl hy) (v := .ref L) rfl (fun s2 I2 ⟨a, hsb, ha⟩ => ?_) (.inr hy))
  have nac : s3.heap.objs.size ≠ a := fun z => by
    rcases ha with ha | ha
    · exact f1 (z.trans ha)
    · exact f5 _ _ ha z.symm
  refine ⟨mm, hn.sameBut hsb nac, fun h'' sb => ?_⟩
  have I4 : Inv X pins (σ.set i (some (.ref L))) H' { s2 with heap := h'' } := I2.turned (t' := s2.toks) (fun b o hb e => (sb.2 b hb).trans e) f0 f1 f4 f5 f6
  exact wpAny_pure (wpAny_pure ⟨_, H', I4, q⟩)
end L2
/-! EXTENSION H: a text times an int, a tuple of one item times 2 -/
namespace L2
open PySem PySem.Spec PyProof.Rows
section
variable {X : Cx}
def rMulS : R2 := fun x y H Q => ∃ z n, x = .str z ∧ y = .int n ∧ MulOk z n ∧ Q (.str (Txt.mul z n)) H
theorem op_mul_str : OpR X (binaryOp .Mult) rMulS := by
  intro pins s σ H x y v u Q I rx ry h
  obtain ⟨z, n, rfl, rfl, hm, q⟩ := h
  obtain ⟨t, rfl⟩ := rx
  obtain ⟨t', rfl⟩ := ry
  exact SB.mul hm fun t1 k => ⟨.str _, H, I.tok _, ⟨_, rfl⟩, q⟩
def rDbl : R2 := fun x y H Q => ∃ t v, x = .ref t ∧ y = .int 2 ∧ H t = some (.tup [v]) ∧ ∀ p, H p = none → Q (.ref p) (upd H p (.tup [v, v]))
end
end L2
/-! EXTENSION G: dicts (the guide's own part, given to be pasted) -/
namespace L2
open PySem PySem.Spec PyProof.Rows
/-! ### lists of pairs as tables -/
section
variable {κ : Type} [DecidableEq κ]
def valV (kvs : List (κ × V)) (k : κ) : Option V := (kvs.find? fun kv => decide (kv.1 = k)).map (·.2)
/-- in its place, or at the end -/
def putK (kvs : List (κ × V)) (k : κ) (v : V) : List (κ × V) :=
  if (kvs.any fun kv => decide (kv.1 = k)) = true then kvs.map (fun kv => if kv.1 = k then (kv.1, v) else kv) else kvs ++ [(k, v)]
def dropK (kvs : List (κ × V)) (k : κ) : List (κ × V) := kvs.filter fun kv => decide (kv.1 ≠ k)

theorem valV_pos {p : κ × V} {r : List (κ × V)} {k : κ} (e : p.1 = k) : valV (p :: r) k = some p.2 := by simp [valV, List.find?_cons, e]
theorem valV_neg {p : κ × V} {r : List (κ × V)} {k : κ} (e : ¬ p.1 = k) : valV (p :: r) k = valV r k := by simp [valV, List.find?_cons, e]
theorem valV_any (k : κ) : ∀ kvs : List (κ × V), (kvs.any fun kv => decide (kv.1 = k)) = (valV kvs k).isSome
  | [] => rfl
  | p :: r => by
    rw [List.any_cons]
    by_cases e : p.1 = k
    · simp only [valV_pos e, decide_eq_true e, Bool.true_or, Option.isSome_some]
    · rw [valV_neg e, decide_eq_false e, Bool.false_or]; exact valV_any k r
theorem length_putK (kvs : List (κ × V)) (k : κ) (v : V) : (putK kvs k v).length ≤ kvs.length + 1 := by
  unfold putK
  split
  · rw [List.length_map]; omega
  · rw [List.length_append, List.length_cons, List.length_nil]; omega
theorem RelO.isSome_eq {o : Option V} {u : Option Value} (r : RelO o u) : o.isSome = u.isSome := by
  cases o with
  | none => cases u with
    | none => rfl
    | some _ => exact (show False from r).elim
  | some _ => cases u with
    | none => exact (show False from r).elim
    | some _ => rfl
theorem RelO.getD {o : Option V} {u : Option Value} {d : V} {d' : Value} (r : RelO o u) (rd : RelV d d') : RelV (o.getD d) (u.getD d') := by
  cases o with
  | none => cases u with
    | none => exact rd
    | some _ => exact (show False from r).elim
  | some _ => cases u with
    | none => exact (show False from r).elim
    | some _ => exact r

/-- raw tables of the same keys -/
theorem KV.val {kvs : List (κ × V)} {vs : List (κ × Value)} (r : KV kvs vs) (k : κ) : RelO (valV kvs k) (valueAt vs k) := by
  unfold KV at r
  induction r with
  | nil => exact True.intro
  | @cons p q ps qs h t ih =>
    obtain ⟨h1, h2⟩ := h
    by_cases e : p.1 = k
    · have e' : q.1 = k := h1.symm.trans e
      have b : valueAt (q :: qs) k = some q.2 := by simp [valueAt, List.find?_cons, e']
      rw [valV_pos e, b]; exact h2
    · have e' : ¬ q.1 = k := fun z => e (h1.trans z)
      have b : valueAt (q :: qs) k = valueAt qs k := by simp [valueAt, List.find?_cons, e']
      rw [valV_neg e, b]; exact ih
theorem KV.any {kvs : List (κ × V)} {vs : List (κ × Value)} (r : KV kvs vs) (k : κ) : (kvs.any fun kv => decide (kv.1 = k)) = vs.any fun kv => decide (kv.1 = k) := by
  unfold KV at r
  induction r with
  | nil => rfl
  | cons h t ih => rw [List.any_cons, List.any_cons, ih, h.1]
theorem KV.repl {kvs : List (κ × V)} {vs : List (κ × Value)} (r : KV kvs vs) (k : κ) {y : V} {u : Value} (ry : RelV y u) :
    KV (kvs.map fun kv => if kv.1 = k then (kv.1, y) else kv) (vs.map fun kv => if kv.1 = k then (kv.1, u) else kv) := by
  unfold KV at r ⊢
  induction r with
  | nil => exact .nil
  | @cons p q ps qs h t ih =>
    rw [List.map_cons, List.map_cons]
    refine .cons ?_ ih
    obtain ⟨h1, h2⟩ := h
    by_cases e : p.1 = k
    · rw [if_pos e, if_pos (h1.symm.trans e)]; exact ⟨h1, ry⟩
    · rw [if_neg e, if_neg (fun z => e (h1.trans z))]; exact ⟨h1, h2⟩
theorem KV.put {kvs : List (κ × V)} {vs : List (κ × Value)} (r : KV kvs vs) (k : κ) {y : V} {u : Value} (ry : RelV y u) : KV (putK kvs k y) (stored vs k u) := by
  unfold putK stored
  rw [r.any k]
  by_cases e : (vs.any fun kv => decide (kv.1 = k)) = true
  · rw [if_pos e, if_pos e]; exact r.repl k ry
  · rw [if_neg e, if_neg e]; exact Paired.snoc r ⟨rfl, ry⟩
theorem KV.drop {kvs : List (κ × V)} {vs : List (κ × Value)} (r : KV kvs vs) (k : κ) : KV (dropK kvs k) (without vs k) := by
  unfold KV at r ⊢
  unfold dropK without
  induction r with
  | nil => exact .nil
  | @cons p q ps qs h t ih =>
    obtain ⟨h1, h2⟩ := h
    rw [List.filter_cons, List.filter_cons]
    by_cases e : p.1 = k
    · have a : ¬ decide (p.1 ≠ k) = true := by simp [e]
      have b : ¬ decide (q.1 ≠ k) = true := by simp [h1.symm.trans e]
      rw [if_neg a, if_neg b]; exact ih
    · have e' : ¬ q.1 = k := fun z => e (h1.trans z)
      have a : decide (p.1 ≠ k) = true := by simp [e]
      have b : decide (q.1 ≠ k) = true := by simp [e']
      rw [if_pos a, if_pos b]; exact .cons ⟨h1, h2⟩ ih
theorem KV.keys {kvs : List (κ × V)} {vs : List (κ × Value)} (r : KV kvs vs) : kvs.map (·.1) = vs.map (·.1) := by
  unfold KV at r
  induction r with
  | nil => rfl
  | cons h t ih => rw [List.map_cons, List.map_cons, ih, h.1]
theorem KV.length {kvs : List (κ × V)} {vs : List (κ × Value)} (r : KV kvs vs) : kvs.length = vs.length := Paired.length r
end


/-! ### a tracked dict, its keys ints and texts or tuples of these -/
theorem kV_is {P : Program} {w : World} {k : Key} {u : Value} (r : RelV (kV k) u) : (mixKind P w).is k u = true := by
  cases k with
  | inl i => obtain ⟨t, e⟩ := (show ∃ t, u = Value.int i t from r); subst e; exact mixKind_int P w i t
  | inr x => obtain ⟨t, e⟩ := (show ∃ t, u = Value.str x t from r); subst e; exact mixKind_str P w x t
theorem items_are {P : Program} {w : World} : ∀ {ks : List Key} {us : List Value}, Vals (ks.map kV) us → ItemsAre (mixKind P w) ks us
  | [], _, r => by rw [List.map_nil] at r; cases r; exact .nil
  | k :: ks, _, r => by
    rw [List.map_cons] at r
    cases r with
    | cons h t => exact .cons (kV_is h) (items_are t)

/-- raw entries of a dict with tuple keys -/
abbrev KT (H : Hp) : List (List Key × V) → List (List Key × Addr × Value) → Prop := Paired fun p q => p.1 = q.1 ∧ H q.2.1 = some (.tup (p.1.map kV)) ∧ RelV p.2 q.2.2
theorem KT.val {H : Hp} {kvs : List (List Key × V)} {xs : List (List Key × Addr × Value)} (r : KT H kvs xs) (k : List Key) : RelO (valV kvs k) ((atKey xs k).map (·.2)) := by
  induction r with
  | nil => exact True.intro
  | @cons p q ps qs h t ih =>
    obtain ⟨h1, _, h2⟩ := h
    by_cases e : p.1 = k
    · have e' : q.1 = k := h1.symm.trans e
      have b : atKey (q :: qs) k = some q.2 := by simp [atKey, List.find?_cons, e']
      rw [valV_pos e, b]; exact h2
    · have e' : ¬ q.1 = k := fun z => e (h1.trans z)
      have b : atKey (q :: qs) k = atKey qs k := by simp [atKey, List.find?_cons, e']
      rw [valV_neg e, b]; exact ih
theorem KT.repl {H : Hp} {kvs : List (List Key × V)} {xs : List (List Key × Addr × Value)} (r : KT H kvs xs) (k : List Key) {y : V} {u : Value} (ry : RelV y u) :
    KT H (kvs.map fun kv => if kv.1 = k then (kv.1, y) else kv) (xs.map (putAt k u)) := by
  induction r with
  | nil => exact .nil
  | @cons p q ps qs h t ih =>
    rw [List.map_cons, List.map_cons]
    refine .cons ?_ ih
    obtain ⟨h1, h2, h3⟩ := h
    unfold putAt
    by_cases e : p.1 = k
    · rw [if_pos e, if_pos (h1.symm.trans e)]; exact ⟨h1, h2, ry⟩
    · rw [if_neg e, if_neg (fun z => e (h1.trans z))]; exact ⟨h1, h2, h3⟩
theorem KT.put {H : Hp} {kvs : List (List Key × V)} {xs : List (List Key × Addr × Value)} (r : KT H kvs xs) (k : List Key) {b : Addr} {y : V} {u : Value} (hb : H b = some (.tup (k.map kV))) (ry : RelV y u) :
    KT H (putK kvs k y) (storedH xs k b u) := by
  have e : (kvs.any fun kv => decide (kv.1 = k)) = (atKey xs k).isSome := by
    rw [valV_any, (r.val k).isSome_eq, Option.isSome_map]
  unfold putK storedH
  rw [e]
  by_cases q : (atKey xs k).isSome = true
  · rw [if_pos q, if_pos q]; exact r.repl k ry
  · rw [if_neg q, if_neg q]; exact Paired.snoc r ⟨rfl, hb, ry⟩
theorem KT.keeps {H H' : Hp} {kvs : List (List Key × V)} {xs : List (List Key × Addr × Value)} (r : KT H kvs xs) (ht : ∀ b ys, H b = some (.tup ys) → H' b = some (.tup ys)) : KT H' kvs xs :=
  Paired.mapP r fun _ _ z => ⟨z.1, ht _ _ z.2.1, z.2.2⟩

section
variable {P : Program} {w : World} {H : Hp} {h : Heap} {a : Addr}
theorem rd_of {u : HO} (ok : HOk P w H h) (e : Rd H a u) : ObjOk P w H h a u := e.ok ok
theorem dk_rd {kvs : List (Key × V)} (ok : HOk P w H h) (e : Rd H a (.dK kvs)) : kvs.length ≤ sizeLine ∧ (a == sysModules) = false ∧ ∃ vs, KV kvs vs ∧ h.DictOf (mixKind P w) a vs :=
  show ObjOk P w H h a (.dK kvs) from rd_of ok e
theorem dk_of {kvs : List (Key × V)} (ok : HOk P w H h) (e : H a = some (.dK kvs)) : kvs.length ≤ sizeLine ∧ (a == sysModules) = false ∧ ∃ vs, KV kvs vs ∧ h.DictOf (mixKind P w) a vs := dk_rd ok (.inl e)
/-- a tracked tuple of ints and texts is a key -/
theorem key_of {ks : List Key} (ok : HOk P w H h) (e : H a = some (.tup (ks.map kV))) : (tupleKind (mixKind P w)).is h ks a := by
  obtain ⟨_, its, r, o, h1, h2, n, h3⟩ := (show ObjOk P w H h a (.tup (ks.map kV)) from ok a _ e)
  exact ⟨o, its.toArray, n, h1, h2, h3, by simpa using items_are r⟩
theorem dt_rd {kvs : List (List Key × V)} (ok : HOk P w H h) (e : Rd H a (.dT kvs)) : kvs.length ≤ sizeLine ∧ (a == sysModules) = false ∧
    ∃ xs, KT H kvs xs ∧ h.DictOfH (tupleKind (mixKind P w)) a xs := by
  obtain ⟨z, y, xs, r, o, es, ep, h1, h2, h3, h4, h5⟩ := (show ObjOk P w H h a (.dT kvs) from rd_of ok e)
  refine ⟨z, y, xs, r, o, es, ep, h1, h2, h3, h4, fun x hx => ?_, h5⟩
  have all : ∀ {l : List (List Key × V)} {m : List (List Key × Addr × Value)}, KT H l m → ∀ x ∈ m, (tupleKind (mixKind P w)).is h x.1 x.2.1 := by
    intro l m q
    induction q with
    | nil => intro x hx; exact nomatch hx
    | @cons p q ps qs hq t ih =>
      intro x hx
      rcases List.mem_cons.mp hx with e | hx
      · subst e
        exact key_of ok (by rw [← hq.1]; exact hq.2.1)
      · exact ih x hx
  exact all r x hx
theorem dt_of {kvs : List (List Key × V)} (ok : HOk P w H h) (e : H a = some (.dT kvs)) : kvs.length ≤ sizeLine ∧ (a == sysModules) = false ∧
    ∃ xs, KT H kvs xs ∧ h.DictOfH (tupleKind (mixKind P w)) a xs := dt_rd ok (.inl e)
end

/-- what the dict at a holds at the key y -/
def DGet (H : Hp) (a : Addr) (y : V) (r : Option V) : Prop :=
  (∃ kvs k, Rd H a (.dK kvs) ∧ y = kV k ∧ r = valV kvs k) ∨ ∃ kvs k b, Rd H a (.dT kvs) ∧ y = .ref b ∧ H b = some (.tup (k.map kV)) ∧ r = valV kvs k
/-- the heap behind a[y] = v -/
def DPut (H : Hp) (a : Addr) (y v : V) (H' : Hp) : Prop :=
  (∃ kvs k, H a = some (.dK kvs) ∧ y = kV k ∧ kvs.length < sizeLine ∧ H' = upd H a (.dK (putK kvs k v))) ∨
  ∃ kvs k b, H a = some (.dT kvs) ∧ y = .ref b ∧ H b = some (.tup (k.map kV)) ∧ kvs.length < sizeLine ∧ H' = upd H a (.dT (putK kvs k v))
theorem DGet.k {H : Hp} {a : Addr} {kvs : List (Key × V)} {k : Key} (e : H a = some (.dK kvs)) : DGet H a (kV k) (valV kvs k) := .inl ⟨kvs, k, .inl e, rfl, rfl⟩
theorem DGet.t {H : Hp} {a b : Addr} {kvs : List (List Key × V)} {k : List Key} (e : H a = some (.dT kvs)) (eb : H b = some (.tup (k.map kV))) : DGet H a (.ref b) (valV kvs k) := .inr ⟨kvs, k, b, .inl e, rfl, eb, rfl⟩
theorem DPut.k {H : Hp} {a : Addr} {kvs : List (Key × V)} {k : Key} {v : V} (e : H a = some (.dK kvs)) (hl : kvs.length < sizeLine) : DPut H a (kV k) v (upd H a (.dK (putK kvs k v))) := .inl ⟨kvs, k, e, rfl, hl, rfl⟩
theorem DPut.t {H : Hp} {a b : Addr} {kvs : List (List Key × V)} {k : List Key} {v : V} (e : H a = some (.dT kvs)) (eb : H b = some (.tup (k.map kV))) (hl : kvs.length < sizeLine) :
    DPut H a (.ref b) v (upd H a (.dT (putK kvs k v))) := .inr ⟨kvs, k, b, e, rfl, eb, hl, rfl⟩


section
variable {X : Cx} {pins : List (Addr × Obj)} {σ : St} {H : Hp} {s : Shared} {a : Addr} {y v : V} {u r : Value} {o : Option V} {A : Around} {E : Value → Shared → Prop}

theorem Inv.big (I : Inv X pins σ H s) : sysModules < s.heap.objs.size := by
  have h : mainGlobals < s.heap.objs.size := (I.mod.glob.keeps I.bk).lt
  exact Nat.lt_trans (by decide) h

/-- d[y], there -/
theorem d_getItem {Q : Value → Shared → Prop} (hu : A.units + 1 < cLine) (I : Inv X pins σ H s) (g : DGet H a y (some v)) (ry : RelV y u) (h : ∀ w' s', Inv X pins σ H s' → RelV v w' → Q w' s') :
    wpAny (model X.prog X.w) A (getItem (.ref a) u) Q E s := by
  rcases g with ⟨kvs, k, e, ey, l⟩ | ⟨kvs, k, b, e, ey, eb, l⟩
  · subst ey
    obtain ⟨z, hd, vs, rel, dd⟩ := dk_rd I.hok e
    obtain ⟨w', hw, rw'⟩ := RelO.some_of (v := v) (o := valueAt vs k) (by rw [l]; exact rel.val k)
    exact wpAny_getItem_of (kV_is ry) dd.mapOf hw (h w' _ (I.tok _) rw')
  · subst ey
    cases (show u = Value.ref b from ry)
    obtain ⟨z, hd, xs, rel, dd⟩ := dt_rd I.hok e
    obtain ⟨w', hw, rw'⟩ := RelO.some_of (v := v) (o := (atKey xs k).map (·.2)) (by rw [l]; exact rel.val k)
    obtain ⟨p, hp, hp2⟩ := Option.map_eq_some_iff.mp hw
    refine wpAny_getItem_heap (tupleKind_room_in1 hu) (key_of I.hok eb) dd hp ?_
    rw [hp2]
    exact h w' _ (I.tok _) rw'
/-- a dict's object is replaced -/
theorem d_write {h' : Heap} {t' : Nat} {ob : HO} (I : Inv X pins σ H s) (mu : Mut (H a)) (hs : Heap.SameBut a s.heap h') (he : ∃ q, h'.get? a = some q) (new : ObjOk X.prog X.w (upd H a ob) h' a ob) :
    Inv X pins σ (upd H a ob) { s with heap := h', toks := t' } :=
  I.write (x := a) (e := a) mu (.inl rfl) (fun b q hb z => (hs.2 b hb).trans z) he new
theorem dk_new {P : Program} {w : World} {H' : Hp} {h' : Heap} {kvs : List (Key × V)} {vs : List (Key × Value)} (z : kvs.length ≤ sizeLine) (hd : (a == sysModules) = false) (rel : KV kvs vs) (dd : h'.DictOf (mixKind P w) a vs) :
    ObjOk P w H' h' a (.dK kvs) := ⟨z, hd, vs, rel, dd⟩
/-- d[y] = v -/
theorem d_setItem {H' : Hp} {Q : Unit → Shared → Prop} (hu : A.units + 1 < cLine) (I : Inv X pins σ H s) (g : DPut H a y v H') (ry : RelV y u) (rv : RelV v r) (h : ∀ s', Inv X pins σ H' s' → Q () s') :
    wpAny (model X.prog X.w) A (setItem (.ref a) u r) Q E s := by
  rcases g with ⟨kvs, k, e, ey, l, eH⟩ | ⟨kvs, k, b, e, ey, eb, l, eH⟩
  · subst ey eH
    obtain ⟨z, hd, vs, rel, dd⟩ := dk_of I.hok e
    have hz : vs.length ≤ sizeLine := by rw [← rel.length]; exact z
    have hl : (putK kvs k v).length ≤ sizeLine := by have := length_putK kvs k v; omega
    refine wpAny_setItem_pairs (hsz := hz) (kV_is ry) dd fun h' dd' hs => h _ ?_
    have he : ∃ q, h'.get? a = some q := let ⟨q, _, _, hq, _⟩ := dd'; ⟨q, hq⟩
    exact d_write I (by rw [e]; exact True.intro) hs he (dk_new hl hd (rel.put k rv) dd')
  · subst ey eH
    cases (show u = Value.ref b from ry)
    obtain ⟨z, hd, xs, rel, dd⟩ := dt_of I.hok e
    have hz : xs.length ≤ sizeLine := by rw [← Paired.length rel]; exact z
    have hl : (putK kvs k v).length ≤ sizeLine := by have := length_putK kvs k v; omega
    refine wpAny_setItem_heap (hsz := hz) (tupleKind_room_in1 hu) (key_of I.hok eb) dd fun h' dd' hs => h _ ?_
    obtain ⟨q, es, ep, hq, h2, h3, h4, _, h5⟩ := dd'
    refine d_write I (by rw [e]; exact True.intro) hs ⟨q, hq⟩ ⟨hl, hd, _, (rel.put k eb rv).keeps fun c ys ec => ?_, q, es, ep, hq, h2, h3, h4, h5⟩
    rw [upd_ne (ne_of ec e (fun z => nomatch z))]
    exact ec
end

section
variable {X : Cx} {pins : List (Addr × Obj)} {σ : St} {H : Hp} {s : Shared} {a : Addr} {kvs : List (Key × V)} {k : Key} {u : Value} {A : Around} {E : Value → Shared → Prop}
end


/-! ### readings and rules -/
/-- the element of a subscription, not a slice -/
def NoSl (i : Expr) : Prop := ∀ ov iv, subscripted i false ov iv = operate [ov, iv] (getItem ov iv)
theorem subD_of {prog : Program} {w : World} {A : Around} {E : Value → Shared → Prop} {s : Shared} {env : Env} {value slice : Expr} {pos : Pos} {T id : String} {Q : Value → Shared → Prop}
    (hl : typeLookup (.type T) "__getitem__" = pure (some (.builtin id))) (hs : NoSl slice)
    (h : wpAny (model prog w) A (eval value env) (fun o s₁ => wpAny (model prog w) A (eval slice env) (fun i s₂ => s₂.TypeIs o T ∧ wpAny (model prog w) A (getItem o i) Q E s₂) E s₁) E s) :
    wpAny (model prog w) A (eval (.Subscript value slice pos) env) Q E s := by
  refine Subscript_ (wpAny_mono h (fun o s₁ h₁ => wpAny_mono h₁ (fun i s₂ h₂ => ?_) fun _ _ x => x) fun _ _ x => x)
  obtain ⟨hT, h₂⟩ := h₂
  unfold subscriptTail
  refine wpAny_bind ?_
  rw [getitemInPython_of_ne hT.not_modules]
  refine wpAny_bind (wpAny_specialOf hT hl ?_)
  have fin : wpAny (model prog w) A (subscripted slice false o i) (fun r s₃ => wpAny (model prog w) A (letTemporaryGo value o r >>= fun _ => pure r) Q E s₃) E s₂ := by
    rw [hs o i]
    exact wpAny_operating (wpAny_mono h₂ (fun r s₃ h₃ => wpAny_bind (wpAny_letTemporaryGo (wpAny_pure h₃))) fun _ _ x => x)
  first
    | exact wpAny_pure (wpAny_bind fin)
    | exact wpAny_bind (wpAny_pure (wpAny_bind fin))
    | exact wpAny_bind fin

theorem dict_typeIs {X : Cx} {pins : List (Addr × Obj)} {σ : St} {H : Hp} {s : Shared} {a : Addr} {y : V} {o : Option V} (I : Inv X pins σ H s) (g : DGet H a y o) : s.TypeIs (.ref a) "dict" := by
  rcases g with ⟨kvs, k, e, _, _⟩ | ⟨kvs, k, b, e, _, _, _⟩
  · obtain ⟨_, _, vs, _, dd⟩ := dk_rd I.hok e
    exact dd.typeIs
  · obtain ⟨_, _, xs, _, dd⟩ := dt_rd I.hok e
    exact dd.typeIs
/-- d[y] -/
def tDGet (td ty : TE) : TE := fun σ H Q => td σ H fun x H1 => ty σ H1 fun y H2 => ∃ a v, x = .ref a ∧ DGet H2 a y (some v) ∧ Q v H2
/-- y in d, y not in d -/
def tDIn (ty td : TE) : TE := fun σ H Q => ty σ H fun y H1 => td σ H1 fun x H2 => ∃ a o, x = .ref a ∧ DGet H2 a y o ∧ Q (.bl o.isSome) H2
def tDNotIn (ty td : TE) : TE := fun σ H Q => ty σ H fun y H1 => td σ H1 fun x H2 => ∃ a o, x = .ref a ∧ DGet H2 a y o ∧ Q (.bl (!o.isSome)) H2
/-- d[y] = v -/
def sDPut (td ty tv : TE) : TS := fun D σ H => tv σ H fun v H1 => td σ H1 fun x H2 => ty σ H2 fun y H3 => ∃ a H4, x = .ref a ∧ DPut H3 a y v H4 ∧ D.nx σ H4
/-- d[y] op= v -/
def sDAug (td ty tv : TE) (rd : V → V → Hp → VK → Prop) : TS := fun D σ H => td σ H fun x H1 => ty σ H1 fun y H2 => ∃ a v, x = .ref a ∧ DGet H2 a y (some v) ∧
  tv σ H2 fun y2 H3 => rd v y2 H3 fun z H4 => ∃ H5, DPut H4 a y z H5 ∧ D.nx σ H5
/-- del d[y] -/
def sDDel (td ty : TE) : TS := fun D σ H => td σ H fun x H1 => ty σ H1 fun y H2 => ∃ a kvs k, x = .ref a ∧ H2 a = some (.dK kvs) ∧ y = kV k ∧ (valV kvs k).isSome = true ∧ D.nx σ (upd H2 a (.dK (dropK kvs k)))

section
variable {X : Cx} {o i e value : Expr} {pos pos' tpos : Pos} {td ty tv : TE}
theorem pe_dget (hu : X.A.units + 1 < cLine) (ho : PE X o td) (hi : PE X i ty) (hs : NoSl i) : PE X (.Subscript o i pos) (tDGet td ty) := by
  intro pins s σ H Q I h
  refine subD_of PySem.F.slot_dict_getitem.lookup hs (thn (ho pins s σ H _ I h) fun u s1 ⟨x, H1, I1, rx, q1⟩ => thn (hi pins s1 σ H1 _ I1 q1) fun iv s2 ⟨y, H2, I2, ry, a, v, ex, g, q2⟩ => ?_)
  subst ex
  obtain rfl : u = Value.ref a := rx
  exact ⟨dict_typeIs I2 g, d_getItem hu I2 g ry fun w' s3 I3 rw' => ⟨v, H2, I3, rw', q2⟩⟩
theorem ps_dput (hu : X.A.units + 1 < cLine) (ho : PE X o td) (hi : PE X i ty) (hv : PE X value tv) (hs : swapsWith value (some (.Subscript o i pos')) pos.line X.env = pure false) :
    PS X (.Assign [.Subscript o i pos'] value pos) (sDPut td ty tv) := by
  intro pins s σ H D I h
  refine wpAny_Assign_Subscript (thn (hv pins s σ H _ I h) fun r s1 ⟨v, H1, I1, rv, q1⟩ => thn (ho pins s1 σ H1 _ I1 q1) fun u s2 ⟨x, H2, I2, rx, q2⟩ => thn (hi pins s2 σ H2 _ I2 q2) fun iv s3 ⟨y, H3, I3, ry, a, H4, ex, g, q3⟩ => ?_) hs
  subst ex
  obtain rfl : u = Value.ref a := rx
  exact d_setItem hu I3 g ry rv fun s4 I4 => ⟨σ, H4, I4, q3⟩
end


/-! ### displays -/
theorem dk_empty {P : Program} {w : World} {H : Hp} (h : Heap) (hb : sysModules < h.objs.size) : ObjOk P w H (h.push { cls := .type "dict", data := .dict #[] }) h.objs.size (.dK []) :=
  ⟨Nat.zero_le _, beq_eq_false_iff_ne.mpr (Ne.symm (Nat.ne_of_lt hb)), [], .nil, Heap.DictOf.new h⟩
/-- {}, to be a dict of the kind that is wanted -/
def tDNewK : TE := fun _ H Q => ∀ p, H p = none → Q (.ref p) (upd H p (.dK []))
def tDNewT : TE := fun _ H Q => ∀ p, H p = none → Q (.ref p) (upd H p (.dT []))
section
variable {X : Cx} {pos : Pos}
end

end L2
/-! EXTENSION K: a dict whose keys are tuples is walked (it is frozen from then on) -/
namespace L2
open PySem PySem.Spec PyProof.Rows
section
variable {P : Program} {w : World} {A : Around} {E : Value → Shared → Prop} {s : Shared} {d it : Addr} {o : Obj} {es : Array DictEntry} {ep i : Nat}
/-- an exact dict, entry by entry -/
structure RawD (h : Heap) (d : Addr) (o : Obj) (es : Array DictEntry) (ep : Nat) : Prop where
  at_ : h.get? d = some o
  ex : o.ExactDict
  data : o.data = .dict es ep
theorem RawD.ty (x : RawD s.heap d o es ep) : s.TypeIs (.ref d) "dict" := ⟨o, x.at_, x.ex.1⟩
end
section
variable {X : Cx} {tg : Expr} {pins : List (Addr × Obj)} {σ : St} {H : Hp} {s : Shared}
/-- the keys of the dict at a, frozen as o -/
def Itd (a : Addr) (o : Obj) : It :=
  ⟨fun i H => ∃ kvs, H a = some (.frz o (.dT kvs)) ∧ i < kvs.length,
   fun i H x H' => H' = H ∧ ∀ kvs, H a = some (.frz o (.dT kvs)) → ∃ ks v b, kvs[i]? = some (ks, v) ∧ x = .ref b ∧ H b = some (.tup (ks.map kV)),
   fun i H => ∃ kvs, H a = some (.frz o (.dT kvs)) ∧ kvs.length ≤ i⟩
def iDT (tl : TE) : TI := fun σ H R => tl σ H fun x H1 => ∃ a kvs, x = .ref a ∧ H1 a = some (.dT kvs) ∧ ∀ o, R (Itd a o) (upd H1 a (.frz o (.dT kvs)))
end
section
variable {P : Program} {w : World} {A : Around} {E : Value → Shared → Prop} {s : Shared} {d : Addr} {o : Obj} {es : Array DictEntry} {ep : Nat}
end
section
variable {X : Cx}
/-- a list of any items against an empty one -/
def rNeE (K : PySem.W.Frag) : R2 := fun x y H Q => ∃ a b xs, x = .ref a ∧ y = .ref b ∧ SqL K H a xs ∧ SqL K H b [] ∧ Q (.bl (!xs.isEmpty)) H
theorem op_neE (hu : X.A.units < cLine) : OpR X (compareOp .NotEq) (rNeE X.K) := by
  intro pins s σ H x y v u Q I rx ry h
  obtain ⟨a, b, xs, rfl, rfl, ha, hb, q⟩ := h
  cases xs with
  | nil => exact op_neL hu pins s σ H _ _ v u Q I rx ry ⟨a, b, [], [], rfl, rfl, ha, hb, rfl, rfl, q⟩
  | cons x0 xs =>
    cases rx
    cases ry
    obtain ⟨its, r1, p1, _⟩ := I.list ha
    obtain ⟨its2, r2, p2, _⟩ := I.list hb
    have l1 := r1.length
    have l2 := r2.length
    have hne : (its.toArray.size != its2.toArray.size) = true := by
      rw [List.size_toArray, List.size_toArray, ← l1, ← l2]
      simp
    exact SeqAt.RcNeAt.lists_lengths p1.isList p2.isList hne hu X.prog X.w X.xe _ ⟨.bl true, H, I, rfl, q⟩
end
end L2
namespace StrT
open PySem PySem.W PyProof.Rows
/-! sorting by a plain order: what the tree of questions comes to -/
section
variable {N : Nat} {lt : Nat → Nat → Bool}
def Wp {α : Type} (N : Nat) (lt : Nat → Nat → Bool) : KasT α → (α → Prop) → Prop
  | .ret a, P => P a
  | .ask i j k, P => i < N ∧ j < N ∧ Wp N lt (k (lt i j)) P
theorem Wp.mono {α : Type} {P P' : α → Prop} (hp : ∀ a, P a → P' a) : ∀ {t : KasT α}, Wp N lt t P → Wp N lt t P'
  | .ret a, h => hp a h
  | .ask _ _ _, h => ⟨h.1, h.2.1, Wp.mono hp h.2.2⟩
theorem Wp.bind {α β : Type} {f : α → KasT β} {P : β → Prop} : ∀ {t : KasT α}, Wp N lt t (fun a => Wp N lt (f a) P) → Wp N lt (t.bind f) P
  | .ret _, h => h
  | .ask _ _ _, h => ⟨h.1, h.2.1, Wp.bind h.2.2⟩

/-- a plain order: `le a b` is `lt b a = false` -/
structure Ord (lt : Nat → Nat → Bool) : Prop where
  tr : ∀ a b c, lt b a = false → lt c b = false → lt c a = false
  as : ∀ a b, lt a b = true → lt b a = false
theorem Ord.rf (o : Ord lt) (a : Nat) : lt a a = false := by
  cases h : lt a a with
  | false => rfl
  | true => exact (o.as a a h).symm ▸ h.symm ▸ h

def gg (p : Array Nat) (i : Nat) : Nat := p.getD i 0
def Up (lt : Nat → Nat → Bool) (p : Array Nat) (k : Nat) : Prop := ∀ i j, i ≤ j → j < k → lt (gg p j) (gg p i) = false
def Dn (lt : Nat → Nat → Bool) (p : Array Nat) (k : Nat) : Prop := ∀ i j, i ≤ j → j < k → lt (gg p i) (gg p j) = false
/-- what stays over all steps -/
structure Bs (N : Nat) (p₀ p : Array Nat) : Prop where
  sz : p.size = N
  bd : ∀ i, gg p i < N
  pm : p.Perm p₀

/-- the last q + 1 ahead of n are alike -/
def Eqs (lt : Nat → Nat → Bool) (p : Array Nat) (n q : Nat) : Prop := q + 1 ≤ n ∧ ∀ i j, n - (q + 1) ≤ i → i < n → n - (q + 1) ≤ j → j < n → lt (gg p i) (gg p j) = false
end
end StrT
/-! EXTENSION S: sorted of a list of pairs, enumerate, == and != of lists of pairs and of lists of such lists -/
namespace L2
open PySem PySem.Spec PyProof.Rows
/-- the order of pairs -/
def plt (p q : Int × Int) : Bool := if p.1 = q.1 then decide (p.2 < q.2) else decide (p.1 < q.1)
def PairAt (h : Heap) (v : Value) (p : Int × Int) : Prop := ∃ a t u, v = .ref a ∧ IsTup h a #[.int p.1 t, .int p.2 u]
theorem PairAt.inj {h : Heap} {v : Value} {p q : Int × Int} (x : PairAt h v p) (y : PairAt h v q) : p = q := by
  obtain ⟨a1, t1, u1, rfl, o1, h1, _, n1, d1⟩ := x
  obtain ⟨a2, t2, u2, e2, o2, h2, _, n2, d2⟩ := y
  cases e2
  rw [h1] at h2
  cases h2
  rw [d1] at d2
  injection d2 with e1 _
  obtain ⟨p1, p2⟩ := p
  obtain ⟨q1, q2⟩ := q
  simp at e1
  rw [e1.1.1, e1.2.1]
abbrev Rise (ps : List (Int × Int)) : Prop := ps.Pairwise fun p q => plt q p = false
section
variable {P : Program} {w : World} {A : Around} {E : Value → Shared → Prop} {s : Shared}
end
/-- a pair of whole numbers, as a tuple -/
def PrV (H : Hp) (v : V) (p : Int × Int) : Prop := ∃ b, v = .ref b ∧ H b = some (.tup [.int p.1, .int p.2])
abbrev Prs (H : Hp) (vs : List V) (ps : List (Int × Int)) : Prop := Paired (PrV H) vs ps
section
variable {X : Cx} {pins : List (Addr × Obj)} {σ : St} {H : Hp} {s : Shared}
/-- sorted(l), l a list of pairs -/
def rSorted (K : PySem.W.Frag) : List V → Hp → VK → Prop := fun xs H Q => ∃ a vs ps, xs = [V.ref a] ∧ SqL K H a vs ∧ Prs H vs ps ∧ vs.length < 64 ∧ ∀ l vs' ps', H l = none → Prs H vs' ps' → ps'.Perm ps → Rise ps' → Q (.ref l) (upd H l (.lst vs'))
/-! ### enumerate -/
def Ite (K : PySem.W.Frag) (a : Addr) : It :=
  ⟨fun i H => ∃ xs x, SqL K H a xs ∧ xs[i]? = some x, fun i H y H' => ∃ x b, (∀ xs, SqL K H a xs → xs[i]? = some x) ∧ H b = none ∧ y = .ref b ∧ H' = upd H b (.tup [.int i, x]), fun i H => ∃ xs, SqL K H a xs ∧ xs.length ≤ i⟩
def iEnum (K : PySem.W.Frag) (ta : TA) : TI := fun σ H R => ta σ H fun vs H1 => ∃ a, vs = [V.ref a] ∧ (∃ xs, SqL K H1 a xs) ∧ R (Ite K a) H1
/-! ### == and != of lists of pairs -/
end
section
variable {A : Around} {s : Shared}
end
section
variable {X : Cx} {pins : List (Addr × Obj)} {σ : St} {H : Hp} {s : Shared}
/-- a list of pairs -/
def LsV (K : PySem.W.Frag) (H : Hp) (v : V) (ps : List (Int × Int)) : Prop := ∃ a vs, v = .ref a ∧ SqL K H a vs ∧ Prs H vs ps
end
end L2
/-! EXTENSION U: a list comprehension whose target is two names; sum of a list of ints; a list from behind -/
namespace L2
open PySem PySem.Spec PyProof.Rows
structure CompScope2 (X : Cx) (scope : Scope) (cl : List (Str × Addr)) (x y : Str) (fv : List Str) (js : List Nat) : Prop where
  S : CompScope X scope cl x fv js
  hy : scope.names.lookup y = some .local
  nd : (x :: y :: fv).Nodup
section
variable {X : Cx} {scope : Scope} {cl : List (Str × Addr)} {x y : Str} {fv : List Str} {js : List Nat}
end
/-! ### the rule -/
/-- D: the new list. W: the invariant by the turn and a measure -/
def tComp2 (wi : TI) (g : TG) (js : List Nat) (tt : TT) (te : TE) : TE := fun σ H Q => wi σ H fun J H1 => ∀ D, H1 D = none → ∃ W : Nat → Nat → Hp → Prop, (∃ m, W 0 m (upd H1 D (.lst []))) ∧ ∀ i m H, W i m H →
  (J.stop i H ∧ Q (.ref D) H) ∨ (J.go i H ∧ ∀ x H' o1 o2, J.yld i H x H' → g x (o1 :: o2 :: frv js σ) H' fun σ2 H4 => (∃ v1 v2, σ2 = some v1 :: some v2 :: frv js σ) ∧ tt σ2 H4 fun b H2 =>
    if b = true then te σ2 H2 fun v H3 => ∃ xs, H3 D = some (.lst xs) ∧ xs.length < sizeLine ∧ ∃ m', m' < m ∧ W (i + 1) m' (upd H3 D (.lst (xs ++ [v])))
    else ∃ m', m' < m ∧ W (i + 1) m' H2)
/-! ### sum of a list of ints -/
theorem bt_sum : bootBuiltins "sum" = some (.builtin "sum") := by decide +kernel
theorem ints_of : ∀ {ns : List Int} {us : List Value}, Vals (ns.map V.int) us → IntsAre us ns
  | [], _, .nil => .nil
  | n :: ns, _, .cons r t => by
    obtain ⟨k, rfl⟩ := r
    exact .cons n k (ints_of t)
section
variable {X : Cx}
theorem call_sum (hc : X.calm = true) : CallR X (.builtin "sum") (fun xs H Q => ∃ (p : Addr) (ns : List Int), xs = [.ref p] ∧ SqL X.K H p (ns.map V.int) ∧ Q (.int ns.sum) H) := by
  intro pins s σ H xs us Q I r h
  obtain ⟨p, ns, rfl, hp, q⟩ := h
  obtain ⟨u, rfl, ru⟩ := vals1 r
  cases ru
  obtain ⟨its, rv, pl, hz⟩ := I.list hp
  have hi := ints_of rv
  obtain ⟨xs, ex⟩ := hi.allInts.items
  have hn : (numsOf its.toArray.toList) = ns := by rw [show its.toArray.toList = its from rfl, hi.numsOf]
  have hl := pl.isList
  rw [ex] at hl hn
  rw [nums_intItems] at hn
  refine sum_intListG (I.ok.hd hc) hl fun h' tk t' kp => ⟨.int ns.sum, H, I.kept (t' := tk) kp, ⟨t', ?_⟩, q⟩
  rw [preSum_eq, List.take_of_length_le (by simp), hn]
/-! ### a list from behind -/
def tRev (K : PySem.W.Frag) (te : TE) (tk : TO) : TE := fun σ H Q => te σ H fun x H1 => tk σ H1 fun k H2 => k = some (-1) ∧ ∃ a xs, x = .ref a ∧ SqL K H2 a xs ∧ ∀ p, H2 p = none → Q (.ref p) (upd H2 p (.lst xs.reverse))
theorem vals_rev {xs : List V} {us : List Value} (r : Vals xs us) : Vals xs.reverse us.reverse := by
  induction r with
  | nil => exact .nil
  | cons r _ ih =>
    rw [List.reverse_cons, List.reverse_cons]
    exact Vals.append ih (.cons r .nil)
end
end L2
/-! EXTENSION V: dict displays, d.get (the guide's own part, given to be pasted) -/
namespace L2
open PySem PySem.Spec PyProof.Rows
/-- the pairs of a display, from the left -/
def tPairs : List (TE × TE) → St → Hp → (List (V × V) → Hp → Prop) → Prop
  | [], _, H, Q => Q [] H
  | (tk, tv) :: r, σ, H, Q => tk σ H fun x H1 => tv σ H1 fun y H2 => tPairs r σ H2 fun ps H3 => Q ((x, y) :: ps) H3
abbrev VV : List (V × V) → List (Value × Value) → Prop := Paired fun p q => RelV p.1 q.1 ∧ RelV p.2 q.2
def PPs (X : Cx) (pos : Pos) (keys : List (Option Expr)) (values : List Expr) (trs : List (TE × TE)) : Prop :=
  ∀ (pins : List (Addr × Obj)) (s : Shared) (σ : St) (H : Hp) (Q : List (V × V) → Hp → Prop), Inv X pins σ H s → tPairs trs σ H Q →
    wpAny (model X.prog X.w) X.A (evalPairs (pairTrees keys values X.env pos)) (fun vs s' => ∃ ps H', Inv X pins σ H' s' ∧ VV ps vs ∧ Q ps H') X.xe s
theorem pps_nil {X : Cx} {pos : Pos} : PPs X pos [] [] [] := fun pins s σ H Q I h => pairTrees_nil_walk ⟨[], H, I, .nil, h⟩
theorem pps_cons {X : Cx} {pos : Pos} {k v : Expr} {ks : List (Option Expr)} {vs : List Expr} {tk tv : TE} {trs : List (TE × TE)} (hk : PE X k tk) (hv : PE X v tv) (hr : PPs X pos ks vs trs) :
    PPs X pos (some k :: ks) (v :: vs) ((tk, tv) :: trs) := fun pins s σ H Q I h =>
  pairTrees_cons_walk (thn (hk pins s σ H _ I h) fun u s1 ⟨x, H1, I1, rx, q1⟩ => thn (hv pins s1 σ H1 _ I1 q1) fun w2 s2 ⟨y, H2, I2, ry, q2⟩ =>
    thn (hr pins s2 σ H2 _ I2 q2) fun ws s3 ⟨ps, H3, I3, rel, q3⟩ => ⟨(x, y) :: ps, H3, I3, .cons ⟨rx, ry⟩ rel, q3⟩)

def mergeK (kvs more : List (Key × V)) : List (Key × V) := more.foldl (fun acc kv => putK acc kv.1 kv.2) kvs
theorem KV.merge : ∀ {more : List (Key × V)} {rs : List (Key × Value)} {kvs : List (Key × V)} {vs : List (Key × Value)}, KV more rs → KV kvs vs → KV (mergeK kvs more) (merged vs rs) := by
  intro more rs kvs vs r
  unfold KV at r
  induction r generalizing kvs vs with
  | nil => intro q; exact q
  | @cons p q ps qs h t ih =>
    intro r0
    have e : KV (putK kvs p.1 p.2) (stored vs q.1 q.2) := by
      have := r0.put p.1 h.2
      rw [← h.1]; exact this
    exact ih e
theorem length_mergeK : ∀ (more kvs : List (Key × V)), (mergeK kvs more).length ≤ kvs.length + more.length
  | [], kvs => by show kvs.length ≤ kvs.length + 0; omega
  | p :: r, kvs => by
    have h1 := length_mergeK r (putK kvs p.1 p.2)
    have h2 := length_putK kvs p.1 p.2
    show (mergeK (putK kvs p.1 p.2) r).length ≤ _
    rw [List.length_cons]; omega
theorem carries_of {P : Program} {w : World} : ∀ {kvs : List (Key × V)} {ws : List (Value × Value)}, VV (kvs.map fun kv => (kV kv.1, kv.2)) ws → ∃ rs, Carries (mixKind P w) ws rs ∧ KV kvs rs
  | [], _, r => by rw [List.map_nil] at r; cases r; exact ⟨[], True.intro, .nil⟩
  | p :: kvs, _, r => by
    rw [List.map_cons] at r
    cases r with
    | @cons a b as bs h t =>
      obtain ⟨rs, c, q⟩ := carries_of (P := P) (w := w) t
      obtain ⟨b1, b2⟩ := b
      exact ⟨(p.1, b2) :: rs, ⟨kV_is h.1, rfl, c⟩, .cons ⟨rfl, h.2⟩ q⟩
/-- {k: v, ..} with keys ints and texts; the new dict stands empty while the pairs are made -/
def tDisp (trs : List (TE × TE)) : TE := fun σ H Q => ∀ p, H p = none → tPairs trs σ (upd H p (.dK [])) fun ps H2 => H2 p = some (.dK []) ∧ ∃ kvs : List (Key × V), ps = kvs.map (fun kv => (kV kv.1, kv.2)) ∧ kvs.length ≤ 15 ∧ Q (.ref p) (upd H2 p (.dK (mergeK [] kvs)))
theorem pe_disp {X : Cx} {pos : Pos} {keys : List (Option Expr)} {values : List Expr} {trs : List (TE × TE)} (h : PPs X pos keys values trs) (hall : keys.all (·.isSome) = true) (hl : keys.length = values.length) (h0 : keys ≠ [])
    (h15 : keys.length ≤ 15) : PE X (.Dict keys values pos) (tDisp trs) := by
  intro pins s σ H Q I q
  have hn := I.hok.fresh (Nat.le_refl s.heap.objs.size)
  have I1 := I.laid (a := s.heap.objs.size) (o := .dK []) (h' := s.heap.push { cls := .type "dict", data := .dict #[] }) (t' := s.toks) (fun _ _ q => Heap.get?_push_of_some _ q) (Nat.le_refl _) (dk_empty s.heap I.big)
  refine wpAny_Dict_walk (knd := mixKind X.prog X.w) hall hl h0 h15 (thn (h pins _ σ _ _ I1 (q _ hn)) fun ws s2 ⟨ps, H2, I2, rel, e, kvs, ep, lk, q2⟩ => ?_)
  subst ep
  obtain ⟨rs, c, rk⟩ := carries_of (P := X.prog) (w := X.w) rel
  obtain ⟨z, hd, vs0, r0, dd⟩ := dk_of I2.hok e
  cases r0
  refine ⟨rs, c, dd, fun h' dd' hs => ⟨.ref s.heap.objs.size, _, ?_, rfl, q2⟩⟩
  have hz : (mergeK [] kvs).length ≤ sizeLine := by
    have h1 := length_mergeK kvs []
    rw [List.length_nil] at h1
    rw [sizeLine_eq]; omega
  have he : ∃ q, h'.get? s.heap.objs.size = some q := let ⟨q, _, _, hq, _⟩ := dd'; ⟨q, hq⟩
  exact d_write I2 (by rw [e]; exact True.intro) hs he (dk_new hz hd (rk.merge .nil) dd')


/-! ### methods -/
/-- a method call o.m(e) of a built-in, with one argument: what must be seen of the text -/
structure M1 (X : Cx) (o : Expr) (m : Str) (apos : Pos) (e : Expr) (cpos : Pos) : Prop where
  base : attributeBase o m X.env (eval o X.env) = eval o X.env
  few : ((backTo cpos (starEach [e] X.env)).all (fun x => !x.1) && (backToKw cpos (keywordEach [] X.env)).all (fun x => x.1.isSome)
    && decide (([e] : List Expr).length + ([] : List Keyword).length + (if ([] : List Keyword).isEmpty then 0 else 1) < 30)) = true
  line : (apos.endLine == cpos.line) = true
  trees : backTo cpos (starEach [e] X.env) = [(false, eval e X.env)]
structure M2 (X : Cx) (o : Expr) (m : Str) (apos : Pos) (e f : Expr) (cpos : Pos) : Prop where
  base : attributeBase o m X.env (eval o X.env) = eval o X.env
  few : ((backTo cpos (starEach [e, f] X.env)).all (fun x => !x.1) && (backToKw cpos (keywordEach [] X.env)).all (fun x => x.1.isSome)
    && decide (([e, f] : List Expr).length + ([] : List Keyword).length + (if ([] : List Keyword).isEmpty then 0 else 1) < 30)) = true
  line : (apos.endLine == cpos.line) = true
  trees : backTo cpos (starEach [e, f] X.env) = [(false, eval e X.env), (false, eval f X.env)]

/-- a is a dict, whatever its keys -/
def IsD (H : Hp) (a : Addr) : Prop := (∃ kvs, Rd H a (.dK kvs)) ∨ ∃ kvs, Rd H a (.dT kvs)
section
variable {X : Cx} {pins : List (Addr × Obj)} {σ : St} {H : Hp} {s : Shared} {a : Addr} {y d : V} {u r : Value} {o : Option V} {A : Around} {E : Value → Shared → Prop}
end

def tDGet1 (td ty : TE) : TE := fun σ H Q => td σ H fun x H1 => ∃ a, x = .ref a ∧ IsD H1 a ∧ ty σ H1 fun y H2 => ∃ o, DGet H2 a y o ∧ Q (o.getD .non) H2
def tDGet2 (td ty tx : TE) : TE := fun σ H Q => td σ H fun x H1 => ∃ a, x = .ref a ∧ IsD H1 a ∧ ty σ H1 fun y H2 => tx σ H2 fun z H3 => ∃ o, DGet H3 a y o ∧ Q (o.getD z) H3
/-- d.pop(k): there; d.pop(k, x): there or not -/
def tDPop1 (td ty : TE) : TE := fun σ H Q => td σ H fun x H1 => ∃ a, x = .ref a ∧ IsD H1 a ∧ ty σ H1 fun y H2 => ∃ kvs k v, H2 a = some (.dK kvs) ∧ y = kV k ∧ valV kvs k = some v ∧ Q v (upd H2 a (.dK (dropK kvs k)))
def tDPop2 (td ty tx : TE) : TE := fun σ H Q => td σ H fun x H1 => ∃ a, x = .ref a ∧ IsD H1 a ∧ ty σ H1 fun y H2 => tx σ H2 fun z H3 => ∃ kvs k, H3 a = some (.dK kvs) ∧ y = kV k ∧
  (∀ v, valV kvs k = some v → Q v (upd H3 a (.dK (dropK kvs k)))) ∧ (valV kvs k = none → Q z H3)
section
variable {X : Cx} {o e f : Expr} {apos cpos : Pos} {td ty tx : TE}
end
end L2
/-! EXTENSION W: the place of a text in a list of texts -/
namespace L2
open PySem PySem.Spec PyProof.Rows
def isTx (z : Str) : Value → Bool
  | .str y _ => y == z
  | _ => false
theorem texts_at : ∀ {zs : List Str} {us : List Value}, Vals (zs.map V.str) us → ∀ {j : Nat} {u : Value}, us[j]? = some u → ∃ y t, zs[j]? = some y ∧ u = .str y t
  | [], _, .nil, _, _, e => by simp at e
  | y :: zs, _, .cons r _, 0, u, e => by
    simp at e
    subst e
    obtain ⟨t, rfl⟩ := r
    exact ⟨y, t, rfl, rfl⟩
  | y :: zs, _, .cons _ t, j + 1, u, e => by
    obtain ⟨y', t', h1, h2⟩ := texts_at t (j := j) (u := u) (by simpa using e)
    exact ⟨y', t', by simpa using h1, h2⟩
section
variable {X : Cx}
theorem mt_index : MtM X "list.index" (fun x vs H Q => ∃ (l : Addr) (zs : List Str) (z : Str) (j : Nat), x = .ref l ∧ vs = [.str z] ∧ H l = some (.lst (zs.map V.str)) ∧ zs[j]? = some z ∧ (∀ m, m < j → zs[m]? ≠ some z) ∧ Q (.int j) H) := by
  intro pins s σ H x vs v us Q I rx rv h
  obtain ⟨l, zs, z, j, rfl, rfl, hH, hj, hno, q⟩ := h
  cases rx
  obtain ⟨u, rfl, t, rfl⟩ := rv.one
  obtain ⟨hz, its, n, r, hl, e⟩ := I.lstM hH
  have hs : sizeLine = 16777216 := sizeLine_eq
  have hjl : j < zs.length := (List.getElem?_eq_some_iff.mp hj).1
  have hlen : its.length = zs.length := by rw [← r.length, List.length_map]
  have hj' : j < its.toArray.size := by rw [List.size_toArray]; omega
  have at_ : ∀ m (hm : m < its.toArray.size), ∃ y t, zs[m]? = some y ∧ its.toArray[m] = .str y t := fun m hm => by
    rw [List.size_toArray] at hm
    obtain ⟨y, t, h1, h2⟩ := texts_at r (j := m) (u := its[m]) (List.getElem?_eq_getElem hm)
    exact ⟨y, t, h1, by simpa using h2⟩
  rw [List.length_map] at hz
  refine call_meets F.slot_list_index ⟨_, e, rfl⟩ F.entry_list_index (F.args_list_index_2 _ _) (MeetsSeq.list_index l its.toArray n (.str z t) (isTx z) (fun y hy => ?_) j hj' (by omega) ?_ fun m hm hlt => ?_) ⟨e, .int j, H, I.tok _, ⟨_, rfl⟩, q⟩
  · obtain ⟨m, hm, rfl⟩ := Array.mem_iff_getElem.mp hy
    obtain ⟨y, t', _, h2⟩ := at_ m hm
    rw [h2]
    exact eqGives_str y z t' t
  · obtain ⟨y, t', h1, h2⟩ := at_ j hj'
    rw [h2]
    rw [hj] at h1
    cases h1
    show (z == z) = true
    simp
  · obtain ⟨y, t', h1, h2⟩ := at_ m hm
    rw [h2]
    have := hno m hlt
    show (y == z) = false
    rw [h1] at this
    simpa using this
end
end L2
/-! EXTENSION Y: dicts among the module's constants; list.insert -/
namespace L2
open PySem PySem.Spec PyProof.Rows
/-- an entry of a dict -/
def EntOk (w : World) (kv : Key × V) (e : DictEntry) : Prop := keyIs kv.1 e.key = true ∧ e.hash = keyH w kv.1 ∧ RelV kv.2 e.val
/-- the object is a dict with these entries -/
def DicO (w : World) (o : Obj) (kvs : List (Key × V)) : Prop := o.ExactDict ∧ ∃ es ep, o.data = .dict es ep ∧ Paired (EntOk w) kvs es.toList ∧ (kvs.map (·.1)).Nodup
def KDic (w : World) (K : PySem.W.Frag) (a : Addr) (kvs : List (Key × V)) : Prop := ∃ ob, K.lookup a = some ob ∧ DicO w ob kvs ∧ (a == sysModules) = false
theorem ent_all {P : Program} {w : World} : ∀ {kvs : List (Key × V)} {es : List DictEntry}, Paired (EntOk w) kvs es → ∃ vs : List (Key × Value), KV kvs vs ∧ Pairs (mixKind P w) es vs ∧ vs.map (·.1) = kvs.map (·.1) ∧ ∀ e ∈ es, ∃ k, (mixKind P w).is k e.key = true ∧ e.hash = (mixKind P w).hash k
  | _, _, .nil => ⟨[], .nil, .nil, rfl, fun _ h => nomatch h⟩
  | (kv :: _), (e :: _), .cons r t => by
    obtain ⟨vs, h1, h2, h3, h4⟩ := ent_all (P := P) t
    obtain ⟨q1, q2, q3⟩ := r
    refine ⟨(kv.1, e.val) :: vs, .cons ⟨rfl, q3⟩ h1, .cons q1 rfl h2, by rw [List.map_cons, List.map_cons, h3], fun x hx => ?_⟩
    rcases List.mem_cons.mp hx with z | z
    · rw [z]; exact ⟨kv.1, q1, q2⟩
    · exact h4 x z
section
variable {X : Cx} {pins : List (Addr × Obj)} {σ : St} {H : Hp} {s : Shared} {a : Addr} {kvs : List (Key × V)}
theorem KDic.at (I : Inv X pins σ H s) (d : KDic X.w X.K a kvs) : ∃ vs, KV kvs vs ∧ s.heap.DictOf (mixKind X.prog X.w) a vs ∧ ∃ ob, s.heap.get? a = some ob ∧ ob.dict = none := by
  obtain ⟨ob, hk, ⟨hx, es, ep, hd, hp, hn⟩, _⟩ := d
  obtain ⟨vs, h1, h2, h3, h4⟩ := ent_all (P := X.prog) hp
  refine ⟨vs, h1, ⟨ob, es, ep, I.kIn a ob hk, hx, hd, fun e he => h4 e (Array.mem_def.mp he), h2, by rw [h3]; exact hn⟩, ob, I.kIn a ob hk, hx.2.1⟩
end
def GDic (w : World) (K : PySem.W.Frag) (mg : Str → Option Value) (x : Str) (kvs : List (Key × V)) : Prop := ∃ a, mg x = some (.ref a) ∧ KDic w K a kvs
def tGD (w : World) (K : PySem.W.Frag) (kvs : List (Key × V)) : TE := fun _ H Q => ∀ a, KDic w K a kvs → Q (.ref a) H
/-- values that are tuples -/
def GDit (w : World) (K : PySem.W.Frag) (mg : Str → Option Value) (x : Str) (kts : List (Key × List V)) : Prop := ∃ kvs, GDic w K mg x kvs ∧ Paired (fun (kv : Key × V) (kt : Key × List V) => kv.1 = kt.1 ∧ ∃ a, kv.2 = .ref a ∧ ∀ H, SqT K H a kt.2) kvs kts
def tGT2 (w : World) (K : PySem.W.Frag) (kts : List (Key × List V)) : TE := fun _ H Q => ∀ a kvs, KDic w K a kvs → Paired (fun (kv : Key × V) (kt : Key × List V) => kv.1 = kt.1 ∧ ∃ a, kv.2 = .ref a ∧ ∀ H, SqT K H a kt.2) kvs kts → Q (.ref a) H
theorem pe_gdit {X : Cx} {x : Str} {kts : List (Key × List V)} {pos : Pos} (hm : GDit X.w X.K X.mg x kts) (hg : Gl X x := by rfl) (hd : (x == ("__debug__" : Str)) = false := by decide) : PE X (.Name x pos) (tGT2 X.w X.K kts) := by
  obtain ⟨kvs, ⟨a, h, k⟩, p⟩ := hm
  intro pins s σ H Q I q
  exact ld_glob I hg h ⟨.ref a, H, I, rfl, q a kvs k p⟩ hd
section
variable {X : Cx} {o i e f : Expr} {pos apos cpos : Pos} {td ty te tf : TE}
def tKGet (w : World) (K : PySem.W.Frag) (td ty : TE) : TE := fun σ H Q => td σ H fun x H1 => ty σ H1 fun y H2 => ∃ a kvs k v, x = .ref a ∧ KDic w K a kvs ∧ y = kV k ∧ valV kvs k = some v ∧ Q v H2
def tKGet2 (w : World) (K : PySem.W.Frag) (td ty tx : TE) : TE := fun σ H Q => td σ H fun x H1 => ∃ a kvs, x = .ref a ∧ KDic w K a kvs ∧ ty σ H1 fun y H2 => tx σ H2 fun z H3 => ∃ k, y = kV k ∧ Q ((valV kvs k).getD z) H3
theorem pe_kget2 (ho : PE X o td) (he : PE X e te) (hf : PE X f tf) (m : M2 X o "get" apos e f cpos) : PE X (.Call (.Attribute o "get" apos) [e, f] [] cpos) (tKGet2 X.w X.K td te tf) := by
  intro pins s σ H Q I h
  refine wpAny_Call_method m.base m.few m.line PySem.F.plainAttrs_dict PySem.F.slot_dict_get PySem.F.type_dict_get (thn (ho pins s σ H _ I h) fun u s1 ⟨x, H1, I1, rx, a, kvs, ex, d, q1⟩ => ?_)
  subst ex
  obtain rfl : u = Value.ref a := rx
  obtain ⟨_, _, dd, ob, hob, hno⟩ := d.at I1
  refine ⟨dd.typeIs, fun b q => by cases q; exact ⟨ob, hob, hno⟩, ?_⟩
  rw [m.trees]
  refine Calls.callWith_builtin rfl (Calls.evalArgs_plain (Calls.spliced_cons (thn (he pins s1 σ H1 _ I1 q1) fun iv s2 ⟨y, H2, I2, ry, q2⟩ =>
    Calls.spliced_cons (thn (hf pins s2 σ H2 _ I2 q2) fun fv s3 ⟨z, H3, I3, rz, k, ey, q3⟩ => Calls.spliced_nil ?_))))
  subst ey
  obtain ⟨vs3, rel3, dd3, _⟩ := d.at I3
  refine call_meetsIn PySem.F.slot_dict_get dd3.typeIs PySem.F.entry_dict_get (PySem.F.args_dict_get_3 _ _ _) (meets_dict_get_default (mixKind X.prog X.w) a (kV_is ry) d.choose_spec.2.2 fv) ⟨_, dd3.mapOf, ?_⟩
  exact ⟨_, H3, I3.tok _, (rel3.val k).getD rz, q3⟩
/-- l.insert(1, y) of a list that is not empty -/
def rIns1 : V → List V → Hp → VK → Prop := fun x vs H Q => ∃ l x0 xs y, x = .ref l ∧ vs = [.int 1, y] ∧ H l = some (.lst (x0 :: xs)) ∧ xs.length + 2 ≤ sizeLine ∧ Q .non (upd H l (.lst (x0 :: y :: xs)))
end
end L2
/-! EXTENSION Z: zip of a tuple and a list -/
namespace L2
open PySem PySem.Spec PyProof.Rows
section
variable {prog : Program} {w : World} {A : Around} {E : Value → Shared → Prop} {s : Shared}
theorem nextT_item {it t : Addr} {i : Nat} {items : Array Value} {x : Value} {Q : Value → Shared → Prop} (hit : s.heap.IsTupleIter it t i) (ht : s.heap.IsTuple t items) (hx : items[i]? = some x)
    (hQ : ∀ h', h'.IsTupleIter it t (i + 1) → Heap.SameBut it s.heap h' → Q x { s with heap := h' }) : wpAny (model prog w) A (Builtin.SmallTypes.nextOf (.ref it)) Q E s := by
  obtain ⟨o, ho, hc, hd⟩ := id hit
  obtain ⟨ol, hol, _, nl, hdl⟩ := ht
  unfold Builtin.SmallTypes.nextOf
  refine wpAny_bind (wpAny_callSpecial?_slot (name := Str.ofString "__next__") hit.typeIs F.slot_tuple_iterator_next (wpAny_call_entry F.slot_tuple_iterator_next hit.typeIs F.entry_tuple_iterator_next ?_ (F.args_tuple_iterator_next_1 _)))
  show wpAny _ _ (field (.ref it) 0 >>= _) _ _ s
  refine wpAny_bind (wpAny_field ho hd (x := .ref t) rfl ?_)
  show wpAny _ _ (if (Value.ref t == Value.none) = true then _ else _) _ _ s
  rw [if_neg (show ¬ ((Value.ref t == Value.none) = true) from Bool.false_ne_true)]
  show wpAny _ _ (field (.ref it) 1 >>= _) _ _ s
  refine wpAny_bind (wpAny_field ho hd (x := .int i 0) rfl ?_)
  show wpAny _ _ (seqItems? (.ref t) >>= _) _ _ s
  refine wpAny_bind (wpAny_seqItems hol hdl ?_)
  simp only [Int.toNat_natCast, hx]
  refine wpAny_bind (wpAny_setField ho hd (by simp) (wpAny_pure ⟨x, rfl, wpAny_pure (hQ _ ?_ (Heap.SameBut.update ..))⟩))
  exact ⟨_, Heap.get?_update_self _ ho (Obj.isFreed_of_fields (Obj.data_mapFields hd _)), (Obj.cls_mapFields ..).trans hc, by
    rw [Obj.data_mapFields hd]; simp [rawInt]⟩
theorem nextT_end {it t : Addr} {i : Nat} {items : Array Value} {Q : Value → Shared → Prop} (hh : A.handled = none) (hit : s.heap.IsTupleIter it t i) (ht : s.heap.IsTuple t items) (hx : items[i]? = none)
    (hE : ∀ h' e, Heap.ExtBut it s.heap h' → (∃ o, h'.get? e = some o ∧ o.cls = .type "StopIteration") → E (.ref e) { s with heap := h' }) : wpAny (model prog w) A (Builtin.SmallTypes.nextOf (.ref it)) Q E s := by
  obtain ⟨o, ho, hc, hd⟩ := id hit
  obtain ⟨ol, hol, _, nl, hdl⟩ := ht
  unfold Builtin.SmallTypes.nextOf
  refine wpAny_bind (wpAny_callSpecial?_slot (name := Str.ofString "__next__") hit.typeIs F.slot_tuple_iterator_next (wpAny_call_entry F.slot_tuple_iterator_next hit.typeIs F.entry_tuple_iterator_next ?_ (F.args_tuple_iterator_next_1 _)))
  show wpAny _ _ (field (.ref it) 0 >>= _) _ _ s
  refine wpAny_bind (wpAny_field ho hd (x := .ref t) rfl ?_)
  show wpAny _ _ (if (Value.ref t == Value.none) = true then _ else _) _ _ s
  rw [if_neg (show ¬ ((Value.ref t == Value.none) = true) from Bool.false_ne_true)]
  show wpAny _ _ (field (.ref it) 1 >>= _) _ _ s
  refine wpAny_bind (wpAny_field ho hd (x := .int i 0) rfl ?_)
  show wpAny _ _ (seqItems? (.ref t) >>= _) _ _ s
  refine wpAny_bind (wpAny_seqItems hol hdl ?_)
  simp only [Int.toNat_natCast, hx]
  refine wpAny_bind (wpAny_rule (wpAny_bind (wpAny_setField ho hd (by simp) ?_)))
  show wpAny _ _ (newExc (.type "StopIteration") [] >>= _) _ _ _
  refine wpAny_bind ?_
  simp only [newExc, newTuple]
  refine wpAny_bind (wpAny_newObj_type ?_ (by size_fits))
  refine wpAny_bind (m := firstArgMember _ _) (wpAny_of_eq (a := Value.none) (by first | rfl | (simp only [firstArgMember]; rfl)) ?_)
  refine wpAny_newObj_type ?_ (by size_fits)
  simp only [raiseNew]
  refine wpAny_bind (wpAny_handled ?_)
  first | rw [show A.in1.handled = none from hh] | rw [hh]
  refine wpAny_bind (wpAny_pure (wpAny_throw ?_))
  exact hE _ _ (((Heap.SameBut.update ..).extBut.push _).push _) ⟨_, Heap.get?_push_size _ rfl, rfl⟩
theorem zipT_item {z TI TO i1 i2 l1 l2 : Addr} {k1 k2 : Nat} {xs ys : Array Value} {x y a b : Value} {Q : Value → Shared → Prop} (D : ZipApart z TI TO i1 i2 l1 l2)
    (hz : IsZip s.heap z TI TO .none) (hTI : IsPair s.heap TI (.ref i1) (.ref i2)) (hTO : IsPair s.heap TO a b)
    (h1 : s.heap.IsTupleIter i1 l1 k1) (h2 : s.heap.IsListIter i2 l2 k2) (hl1 : s.heap.IsTuple l1 xs) (hl2 : s.heap.IsList l2 ys) (hx : xs[k1]? = some x) (hy : ys[k2]? = some y)
    (hQ : ∀ h', IsZip h' z TI TO (rawInt s.heap.objs.size) → IsPair h' TO x y → h'.IsTupleIter i1 l1 (k1 + 1) → h'.IsListIter i2 l2 (k2 + 1) → IsPair h' s.heap.objs.size x y → h'.objs.size = s.heap.objs.size + 1 →
      (∀ c o, c ≠ z → c ≠ TO → c ≠ i1 → c ≠ i2 → s.heap.get? c = some o → h'.get? c = some o) → Q (.ref s.heap.objs.size) { s with heap := h' }) :
    wpAny (model prog w) A (Builtin.«zip.__next__» ⟨[.ref z], []⟩) (fun fin s' => ∃ v, fin = .done (.ret v) ∧ Q v s') E s := by
  show wpAny _ _ (field (.ref z) 2 >>= _) _ _ _
  refine wpAny_bind (wpAny_field hz rfl (x := .bool false) rfl ?_)
  show wpAny _ _ (field (.ref z) 3 >>= _) _ _ _
  refine wpAny_bind (wpAny_field hz rfl (x := .ref TI) rfl ?_)
  refine wpAny_bind (wpAny_seqItems hTI rfl ?_)
  show wpAny _ _ (Builtin.SmallTypes.ownedTupleIsFree (.ref z) >>= _) _ _ _
  refine wpAny_bind ?_
  unfold Builtin.SmallTypes.ownedTupleIsFree
  refine wpAny_bind (wpAny_field hz rfl (x := .none) rfl (wpAny_pure ?_))
  simp only [if_true]
  refine wpAny_bind (wpAny_rule ?_)
  refine wpAny_bind (wpAny_field hz rfl (x := .ref TO) rfl ?_)
  refine wpAny_bind (wpAny_setField_rec hz (by simp) fun h₁ hz₁ hs₁ => ?_)
  replace hz₁ : IsZip h₁ z TI TO .ellipsis := hz₁
  refine wpAny_bind ?_
  simp only [List.zipIdx_cons, List.zipIdx_nil, List.forIn_cons, List.forIn_nil]
  refine wpAny_bind (wpAny_bind (wpAny_onRaise ?_))
  show wpAny _ _ (Builtin.SmallTypes.nextOf (.ref i1) >>= _) _ _ _
  refine wpAny_bind (nextT_item (h1.extBut hs₁.extBut D.i1z) (hl1.extBut hs₁.extBut D.l1z) hx fun h₂ h1₂ hs₂ => wpAny_pure ?_)
  have hTO₂ : IsPair h₂ TO a b := hs₂.extBut _ _ D.TOi1 (hs₁.extBut _ _ D.TOz hTO)
  refine wpAny_bind (wpAny_seqItems hTO₂ rfl ?_)
  refine wpAny_bind (wpAny_updateSeq_pair hTO₂ fun h₃ hTO₃ hs₃ => ?_)
  replace hTO₃ : IsPair h₃ TO x b := hTO₃
  refine wpAny_bind (wpAny_letGo (wpAny_pure ?_))
  refine wpAny_bind (wpAny_bind (wpAny_onRaise ?_))
  show wpAny _ _ (Builtin.SmallTypes.nextOf (.ref i2) >>= _) _ _ _
  refine wpAny_bind (wpAny_nextOf_list_item (((h2.extBut hs₁.extBut D.i2z).extBut hs₂.extBut D.i12.symm).extBut hs₃.extBut D.TOi2.symm)
    (((hl2.extBut hs₁.extBut D.l2z).extBut hs₂.extBut D.l2i1).extBut hs₃.extBut D.l2TO) hy fun h₄ h2₄ hs₄ => wpAny_pure ?_)
  have hTO₄ : IsPair h₄ TO x b := hs₄.extBut _ _ D.TOi2 hTO₃
  refine wpAny_bind (wpAny_seqItems hTO₄ rfl ?_)
  refine wpAny_bind (wpAny_updateSeq_pair hTO₄ fun h₅ hTO₅ hs₅ => ?_)
  replace hTO₅ : IsPair h₅ TO x y := hTO₅
  refine wpAny_bind (wpAny_letGo (wpAny_pure (wpAny_pure ?_)))
  refine wpAny_bind (wpAny_seqItems hTO₅ rfl ?_)
  refine wpAny_bind (wpAny_newTuple ?_)
  have hsz : h₅.objs.size = s.heap.objs.size := by rw [hs₅.1, hs₄.1, hs₃.1, hs₂.1, hs₁.1]
  have hz₅ : IsZip h₅ z TI TO .ellipsis := hs₅.extBut _ _ D.TOz.symm (hs₄.extBut _ _ D.i2z.symm (hs₃.extBut _ _ D.TOz.symm (hs₂.extBut _ _ D.i1z.symm hz₁)))
  have hk₅ : ∀ c o, c ≠ z → c ≠ TO → c ≠ i1 → c ≠ i2 → s.heap.get? c = some o → h₅.get? c = some o := fun c o c1 c2 c3 c4 e =>
    hs₅.extBut _ _ c2 (hs₄.extBut _ _ c4 (hs₃.extBut _ _ c2 (hs₂.extBut _ _ c3 (hs₁.extBut _ _ c1 e))))
  have h1₅ : h₅.IsTupleIter i1 l1 (k1 + 1) := ((h1₂.extBut hs₃.extBut D.TOi1.symm).extBut hs₄.extBut D.i12).extBut hs₅.extBut D.TOi1.symm
  have h2₅ : h₅.IsListIter i2 l2 (k2 + 1) := h2₄.extBut hs₅.extBut D.TOi2.symm
  have hzlt : z < h₅.objs.size := Heap.lt_size hz₅
  show wpAny _ _ (Builtin.SmallTypes.ownedTupleHandOut (.ref z) (.ref h₅.objs.size) >>= _) _ _ _
  refine wpAny_bind ?_
  unfold Builtin.SmallTypes.ownedTupleHandOut
  have hz₆ : IsZip (h₅.push { cls := .type "tuple", data := .seq #[x, y] }) z TI TO .ellipsis := Heap.get?_push_of_some _ hz₅
  refine wpAny_bind (wpAny_setField_rec hz₆ (by simp) fun h₇ hz₇ hs₇ => ?_)
  replace hz₇ : IsZip h₇ z TI TO (rawInt h₅.objs.size) := hz₇
  refine wpAny_setField_rec hz₇ (by simp) fun h₈ hz₈ hs₈ => ?_
  replace hz₈ : IsZip h₈ z TI TO (rawInt h₅.objs.size) := hz₈
  have up : ∀ c o, c ≠ z → h₅.get? c = some o → h₈.get? c = some o := fun c o c1 e => hs₈.extBut _ _ c1 (hs₇.extBut _ _ c1 (Heap.get?_push_of_some _ e))
  have hT₈ : IsPair h₈ h₅.objs.size x y := hs₈.extBut _ _ (Nat.ne_of_gt hzlt) (hs₇.extBut _ _ (Nat.ne_of_gt hzlt) (Heap.get?_push_size _ rfl))
  have hz8 : h₈.objs.size = h₅.objs.size + 1 := by rw [hs₈.1, hs₇.1, Heap.size_push]
  rw [hsz] at hz₈ hT₈ hz8
  refine wpAny_pure ⟨_, rfl, ?_⟩
  show Q (.ref h₅.objs.size) _
  rw [hsz]
  exact hQ h₈ hz₈ (up _ _ D.TOz hTO₅) (h1₅.at fun o e => up _ o D.i1z e) (h2₅.at fun o e => up _ o D.i2z e) hT₈ hz8 fun c o c1 c2 c3 c4 e => up c o c1 (hk₅ c o c1 c2 c3 c4 e)
theorem zipT_end {z TI TO i1 i2 l1 l2 : Addr} {k1 k2 : Nat} {xs ys : Array Value} {a b : Value} {Q : Fin → Shared → Prop} (hh : A.handled = none) (D : ZipApart z TI TO i1 i2 l1 l2)
    (hz : IsZip s.heap z TI TO .none) (hTI : IsPair s.heap TI (.ref i1) (.ref i2)) (hTO : IsPair s.heap TO a b)
    (h1 : s.heap.IsTupleIter i1 l1 k1) (h2 : s.heap.IsListIter i2 l2 k2) (hl1 : s.heap.IsTuple l1 xs) (hl2 : s.heap.IsList l2 ys) (hend : xs[k1]? = none ∨ ys[k2]? = none)
    (hE : ∀ h' e, (∀ c o, c ≠ z → c ≠ TO → c ≠ i1 → c ≠ i2 → s.heap.get? c = some o → h'.get? c = some o) → (∃ o, h'.get? e = some o ∧ o.cls = .type "StopIteration") → E (.ref e) { s with heap := h' }) :
    wpAny (model prog w) A (Builtin.«zip.__next__» ⟨[.ref z], []⟩) Q E s := by
  show wpAny _ _ (field (.ref z) 2 >>= _) _ _ _
  refine wpAny_bind (wpAny_field hz rfl (x := .bool false) rfl ?_)
  show wpAny _ _ (field (.ref z) 3 >>= _) _ _ _
  refine wpAny_bind (wpAny_field hz rfl (x := .ref TI) rfl ?_)
  refine wpAny_bind (wpAny_seqItems hTI rfl ?_)
  show wpAny _ _ (Builtin.SmallTypes.ownedTupleIsFree (.ref z) >>= _) _ _ _
  refine wpAny_bind ?_
  unfold Builtin.SmallTypes.ownedTupleIsFree
  refine wpAny_bind (wpAny_field hz rfl (x := .none) rfl (wpAny_pure ?_))
  simp only [if_true]
  refine wpAny_bind (wpAny_rule ?_)
  refine wpAny_bind (wpAny_field hz rfl (x := .ref TO) rfl ?_)
  refine wpAny_bind (wpAny_setField_rec hz (by simp) fun h₁ hz₁ hs₁ => ?_)
  replace hz₁ : IsZip h₁ z TI TO .ellipsis := hz₁
  refine wpAny_bind ?_
  simp only [List.zipIdx_cons, List.zipIdx_nil, List.forIn_cons, List.forIn_nil]
  refine wpAny_bind (wpAny_bind (wpAny_onRaise ?_))
  show wpAny _ _ (Builtin.SmallTypes.nextOf (.ref i1) >>= _) _ _ _
  cases hx : xs[k1]? with
  | none =>
    refine wpAny_bind (nextT_end hh (h1.extBut hs₁.extBut D.i1z) (hl1.extBut hs₁.extBut D.l1z) hx fun h₂ e hs₂ he => ?_)
    obtain ⟨oe, hoe, hce⟩ := he
    have hz₂ : IsZip h₂ z TI TO .ellipsis := hs₂ _ _ D.i1z.symm hz₁
    have hez : e ≠ z := fun x => by subst x; rw [hz₂] at hoe; cases hoe; simp at hce
    refine wpAny_setField_rec hz₂ (by simp) fun h₃ _ hs₃ => hE h₃ e (fun c o c1 _ c3 _ x => hs₃.extBut _ _ c1 (hs₂ _ _ c3 (hs₁.extBut _ _ c1 x))) ⟨oe, hs₃.extBut _ _ hez hoe, hce⟩
  | some x =>
    have hy : ys[k2]? = none := by rcases hend with h | h; rw [hx] at h; cases h; exact h
    refine wpAny_bind (nextT_item (h1.extBut hs₁.extBut D.i1z) (hl1.extBut hs₁.extBut D.l1z) hx fun h₂ h1₂ hs₂ => wpAny_pure ?_)
    have hTO₂ : IsPair h₂ TO a b := hs₂.extBut _ _ D.TOi1 (hs₁.extBut _ _ D.TOz hTO)
    refine wpAny_bind (wpAny_seqItems hTO₂ rfl ?_)
    refine wpAny_bind (wpAny_updateSeq_pair hTO₂ fun h₃ hTO₃ hs₃ => ?_)
    refine wpAny_bind (wpAny_letGo (wpAny_pure ?_))
    refine wpAny_bind (wpAny_bind (wpAny_onRaise ?_))
    show wpAny _ _ (Builtin.SmallTypes.nextOf (.ref i2) >>= _) _ _ _
    refine wpAny_bind (wpAny_nextOf_list_end hh (((h2.extBut hs₁.extBut D.i2z).extBut hs₂.extBut D.i12.symm).extBut hs₃.extBut D.TOi2.symm)
      (((hl2.extBut hs₁.extBut D.l2z).extBut hs₂.extBut D.l2i1).extBut hs₃.extBut D.l2TO) hy fun h₄ e hs₄ he => ?_)
    obtain ⟨oe, hoe, hce⟩ := he
    have hz₄ : IsZip h₄ z TI TO .ellipsis := hs₄ _ _ D.i2z.symm (hs₃.extBut _ _ D.TOz.symm (hs₂.extBut _ _ D.i1z.symm hz₁))
    have hez : e ≠ z := fun x => by subst x; rw [hz₄] at hoe; cases hoe; simp at hce
    refine wpAny_setField_rec hz₄ (by simp) fun h₅ _ hs₅ => hE h₅ e (fun c o c1 c2 c3 c4 x => hs₅.extBut _ _ c1 (hs₄ _ _ c4 (hs₃.extBut _ _ c2 (hs₂.extBut _ _ c3 (hs₁.extBut _ _ c1 x))))) ⟨oe, hs₅.extBut _ _ hez hoe, hce⟩
theorem pyNextZ_item {z TI TO i1 i2 l1 l2 : Addr} {k1 k2 : Nat} {xs ys : Array Value} {x y a b : Value} {Q : Option Value → Shared → Prop} (D : ZipApart z TI TO i1 i2 l1 l2)
    (hz : IsZip s.heap z TI TO .none) (hTI : IsPair s.heap TI (.ref i1) (.ref i2)) (hTO : IsPair s.heap TO a b)
    (h1 : s.heap.IsTupleIter i1 l1 k1) (h2 : s.heap.IsListIter i2 l2 k2) (hl1 : s.heap.IsTuple l1 xs) (hl2 : s.heap.IsList l2 ys) (hx : xs[k1]? = some x) (hy : ys[k2]? = some y)
    (hQ : ∀ h', IsZip h' z TI TO (rawInt s.heap.objs.size) → IsPair h' TO x y → h'.IsTupleIter i1 l1 (k1 + 1) → h'.IsListIter i2 l2 (k2 + 1) → IsPair h' s.heap.objs.size x y → h'.objs.size = s.heap.objs.size + 1 →
      (∀ c o, c ≠ z → c ≠ TO → c ≠ i1 → c ≠ i2 → s.heap.get? c = some o → h'.get? c = some o) → Q (some (.ref s.heap.objs.size)) { s with heap := h' }) :
    wpAny (model prog w) A (pyNext (.ref z)) Q E s := by
  have hT : s.TypeIs (.ref z) "zip" := ⟨_, hz, rfl⟩
  unfold pyNext
  exact wpAny_bind (wpAny_attempt (wpAny_callSpecial?_slot (name := Str.ofString "__next__") hT F.slot_zip_next
    (wpAny_call_entry F.slot_zip_next hT F.entry_zip_next (zipT_item D hz hTI hTO h1 h2 hl1 hl2 hx hy fun h' a1 a2 a3 a4 a5 a6 a7 => wpAny_pure (hQ h' a1 a2 a3 a4 a5 a6 a7)) (F.args_zip_next_1 _))))
theorem pyNextZ_end {z TI TO i1 i2 l1 l2 : Addr} {k1 k2 : Nat} {xs ys : Array Value} {a b : Value} {Q : Option Value → Shared → Prop} (hh : A.handled = none) (D : ZipApart z TI TO i1 i2 l1 l2)
    (hz : IsZip s.heap z TI TO .none) (hTI : IsPair s.heap TI (.ref i1) (.ref i2)) (hTO : IsPair s.heap TO a b)
    (h1 : s.heap.IsTupleIter i1 l1 k1) (h2 : s.heap.IsListIter i2 l2 k2) (hl1 : s.heap.IsTuple l1 xs) (hl2 : s.heap.IsList l2 ys) (hend : xs[k1]? = none ∨ ys[k2]? = none)
    (hQ : ∀ h', (∀ c o, c ≠ z → c ≠ TO → c ≠ i1 → c ≠ i2 → s.heap.get? c = some o → h'.get? c = some o) → Q none { s with heap := h' }) : wpAny (model prog w) A (pyNext (.ref z)) Q E s := by
  have hT : s.TypeIs (.ref z) "zip" := ⟨_, hz, rfl⟩
  unfold pyNext
  refine wpAny_bind (wpAny_attempt (wpAny_callSpecial?_slot (name := Str.ofString "__next__") hT F.slot_zip_next
    (wpAny_call_entry F.slot_zip_next hT F.entry_zip_next (zipT_end hh D hz hTI hTO h1 h2 hl1 hl2 hend fun h' e hk he => ?_) (F.args_zip_next_1 _))))
  obtain ⟨o, ho, hc⟩ := he
  refine wpAny_bind (wpAny_isInstance (T := "StopIteration") (b := true) ⟨o, ho, hc⟩ isSubtype_stop ?_)
  exact wpAny_pure (hQ _ hk)
end
abbrev zT1 (h : Heap) (l1 : Addr) : Heap := h.push { cls := .type "tuple_iterator", data := .fields #[.ref l1, .int 0 0] }
abbrev zT2 (h : Heap) (l1 l2 : Addr) : Heap := (zT1 h l1).push { cls := .type "list_iterator", data := .fields #[.ref l2, .int 0 0] }
abbrev zT3 (h : Heap) (l1 l2 : Addr) : Heap := (zT2 h l1 l2).push { cls := .type "tuple", data := .seq #[.ref h.objs.size, .ref (zT1 h l1).objs.size] }
abbrev zT4 (h : Heap) (l1 l2 : Addr) : Heap := (zT3 h l1 l2).push { cls := .type "tuple", data := .seq #[.none, .none] }
abbrev zT5 (h : Heap) (l1 l2 : Addr) : Heap := (zT4 h l1 l2).push { cls := .type "zip", data := .fields #[.none, .bool false, .bool false, .ref (zT2 h l1 l2).objs.size, .ref (zT3 h l1 l2).objs.size] }
theorem meets_zipT (l1 l2 : Addr) (xs ys : Array Value) :
    Meets (Builtin.«zip.__new__» ⟨[.type "zip", .ref l1, .ref l2], []⟩) (fun _ R s => s.heap.IsTuple l1 xs ∧ s.heap.IsList l2 ys ∧ R (.ok (.ret (.ref (zT4 s.heap l1 l2).objs.size))) { s with heap := zT5 s.heap l1 l2 }) :=
  .of_wp fun prog w A R s h => by
    obtain ⟨hp, g, d, tk, os⟩ := s; obtain ⟨hl1, hl2, h⟩ := h
    have hsub := sub_zip
    have hL1 : Heap.IsTuple (Shared.heap ⟨hp, g, d, tk, os⟩) l1 xs := hl1
    have hL2 : Heap.IsList (Shared.heap ⟨hp.push { cls := .type "tuple_iterator", data := .fields #[.ref l1, .int 0 0] }, g, d, tk, os⟩) l2 ys := Heap.IsList.push hl2 _
    wp_walk using wpAny_pyIter_tuple hL1, wpAny_pyIter_list hL2
    exact ⟨_, rfl, h⟩
section
variable {prog : Program} {w : World} {A : Around} {E : Value → Shared → Prop} {s : Shared}
theorem call_zipT {l1 l2 : Addr} {xs ys : Array Value} {Q : Value → Shared → Prop} (hl1 : s.heap.IsTuple l1 xs) (hl2 : s.heap.IsList l2 ys)
    (h : ∀ h', IsZip h' (s.heap.objs.size + 4) (s.heap.objs.size + 2) (s.heap.objs.size + 3) .none → IsPair h' (s.heap.objs.size + 2) (.ref s.heap.objs.size) (.ref (s.heap.objs.size + 1)) →
      IsPair h' (s.heap.objs.size + 3) .none .none → h'.IsTupleIter s.heap.objs.size l1 0 → h'.IsListIter (s.heap.objs.size + 1) l2 0 → h'.objs.size = s.heap.objs.size + 5 →
      (∀ c o, s.heap.get? c = some o → h'.get? c = some o) → Q (.ref (s.heap.objs.size + 4)) { s with heap := h' }) :
    wpAny (model prog w) A (call (.type "zip") [.ref l1, .ref l2]) Q E s := by
  refine callType_new F.called_zip (by decide) (F.typeCall_zip_2 _ _) (F.newCall_zip_2 _ _) (fun obj => F.args_object_init_3 obj _ _) F.entry_zip_new (meets_zipT l1 l2 xs ys) ⟨hl1, hl2, ?_⟩
  have z1 : (zT1 s.heap l1).objs.size = s.heap.objs.size + 1 := Heap.size_push ..
  have z2 : (zT2 s.heap l1 l2).objs.size = s.heap.objs.size + 2 := by rw [Heap.size_push, z1]
  have z3 : (zT3 s.heap l1 l2).objs.size = s.heap.objs.size + 3 := by rw [Heap.size_push, z2]
  have z4 : (zT4 s.heap l1 l2).objs.size = s.heap.objs.size + 4 := by rw [Heap.size_push, z3]
  have z5 : (zT5 s.heap l1 l2).objs.size = s.heap.objs.size + 5 := by rw [Heap.size_push, z4]
  have g5 : (zT5 s.heap l1 l2).get? (zT4 s.heap l1 l2).objs.size = some _ := Heap.get?_push_size _ rfl
  have g4 : (zT5 s.heap l1 l2).get? (zT3 s.heap l1 l2).objs.size = some _ := Heap.get?_push_of_some _ (Heap.get?_push_size _ rfl)
  have g3 : (zT5 s.heap l1 l2).get? (zT2 s.heap l1 l2).objs.size = some _ := Heap.get?_push_of_some _ (Heap.get?_push_of_some _ (Heap.get?_push_size _ rfl))
  have g2 : (zT5 s.heap l1 l2).get? (zT1 s.heap l1).objs.size = some _ := Heap.get?_push_of_some _ (Heap.get?_push_of_some _ (Heap.get?_push_of_some _ (Heap.get?_push_size _ rfl)))
  have g1 : (zT5 s.heap l1 l2).get? s.heap.objs.size = some _ := Heap.get?_push_of_some _ (Heap.get?_push_of_some _ (Heap.get?_push_of_some _ (Heap.get?_push_of_some _ (Heap.get?_push_size _ rfl))))
  show _ ∧ _
  rw [z2, z3, z4] at g5
  rw [z1, z2] at g3
  rw [z3] at g4
  rw [z1] at g2
  rw [z4]
  exact ⟨⟨_, g5, rfl⟩, h _ g5 g3 g4 ⟨_, g1, rfl, rfl⟩ ⟨_, g2, rfl, rfl⟩ z5 fun c o x =>
    Heap.get?_push_of_some _ (Heap.get?_push_of_some _ (Heap.get?_push_of_some _ (Heap.get?_push_of_some _ (Heap.get?_push_of_some _ x))))⟩
end
theorem mids {h h2 : Heap} : ∀ fs : List Addr, (∀ b ∈ fs, ∃ o, h.get? b = some o) → (∀ b ∈ fs, ∃ o, h2.get? b = some o ∧ o.isFreed = false) →
    ∃ mid : Heap, mid.objs.size = h.objs.size ∧ (∀ b ∈ fs, mid.get? b = h2.get? b) ∧ ∀ b, b ∉ fs → mid.get? b = h.get? b
  | [], _, _ => ⟨h, rfl, (fun _ hb => nomatch hb), fun _ _ => rfl⟩
  | b :: fs, h1, h2' => by
    obtain ⟨m, e1, e2, e3⟩ := mids fs (fun c hc => h1 c (List.mem_cons_of_mem _ hc)) (fun c hc => h2' c (List.mem_cons_of_mem _ hc))
    obtain ⟨o, ho, hf⟩ := h2' b (by simp)
    obtain ⟨o1, ho1⟩ : ∃ o1, m.get? b = some o1 := by
      by_cases c : b ∈ fs
      · exact ⟨o, (e2 b c).trans ho⟩
      · obtain ⟨o1, q⟩ := h1 b (by simp)
        exact ⟨o1, (e3 b c).trans q⟩
    have hb : (m.update b fun _ => o).get? b = some o := Heap.get?_update_self (fun _ => o) ho1 hf
    refine ⟨m.update b fun _ => o, (Heap.size_update ..).trans e1, fun c hc => ?_, fun c hc => ?_⟩
    · by_cases e : c = b
      · subst e; exact hb.trans ho.symm
      · rw [Heap.get?_update_ne _ _ _ _ e]
        rcases List.mem_cons.mp hc with z | z
        · exact absurd z e
        · exact e2 c z
    · have e : c ≠ b := fun z => hc (by simp [z])
      rw [Heap.get?_update_ne _ _ _ _ e]
      exact e3 c fun z => hc (List.mem_cons_of_mem _ z)
section
variable {X : Cx} {pins : List (Addr × Obj)} {σ : St} {H : Hp} {s : Shared} {h' : Heap}
theorem Inv.turnedL {t' : Nat} {fs : List Addr} (I : Inv X pins σ H s) (k : ∀ b o, b ∉ fs → s.heap.get? b = some o → h'.get? b = some o) (ok : ∀ b ∈ fs, FpOk X pins H b) : Inv X pins σ H { s with heap := h', toks := t' } := by
  have nit : ∀ b u, H b = some u → b ∉ fs := fun b u e z => by rw [(ok b z).1] at e; cases e
  refine I.step (g' := s.gens) (d' := s.drawn) (ch := fs) (fun b hb => ?_) (fun b o _ _ hc e _ => k b o hc e) (fun b o _ _ hc e _ => ⟨o.slots, k b o hc e⟩) (fun _ _ _ _ n => n)
    (fun b o hc e => ⟨o, k b o hc e⟩) (fun _ _ e => e) (fun _ _ _ e => e) (fun b ps e => ⟨#[], by rw [e]; simp⟩) (fun m hm => ?_) (fun b u e => ?_) I.bare
  · obtain ⟨f0, f1, f2, f3, f4, f5⟩ := ok b hb
    exact ⟨f3, f1, f4, f5⟩
  · obtain ⟨o, es, ep, ho, r⟩ := hm
    exact ⟨o, es, ep, k _ o (fun z => (ok _ z).2.1 rfl) ho, r⟩
  · refine (I.hok b u e).stay (fun c v hc q => k c v ?_ q) (fun _ q => q) fun _ _ q => q
    rcases hc with z | z
    · rw [z]; exact nit b u e
    · exact nit c _ z
end
def Itz (K : PySem.W.Frag) (t l : Addr) : It :=
  ⟨fun i H => ∃ xs ys x y, SqT K H t xs ∧ SqL K H l ys ∧ xs[i]? = some x ∧ ys[i]? = some y,
   fun i H v H' => ∃ x y b, (∀ xs, SqT K H t xs → xs[i]? = some x) ∧ (∀ ys, SqL K H l ys → ys[i]? = some y) ∧ H b = none ∧ v = .ref b ∧ H' = upd H b (.tup [x, y]),
   fun i H => ∃ xs ys, SqT K H t xs ∧ SqL K H l ys ∧ (xs.length ≤ i ∨ ys.length ≤ i)⟩
theorem turn_zip {P : Program} {w : World} {K : PySem.W.Frag} {els : List Expr} {x1} {pt : Pos} (t l z TI TO i1 i2 : Addr) (D : ZipApart z TI TO i1 i2 t l) :
    Turn P w K (.Tuple els x1 pt) (Itz K t l) [z, TI, TO, i1, i2] z (fun i h => IsZip h z TI TO .none ∧ IsPair h TI (.ref i1) (.ref i2) ∧ (∃ a b, IsPair h TO a b) ∧ h.IsTupleIter i1 t i ∧ h.IsListIter i2 l i) where
  mem := by simp
  obj := fun i h st b hb => by
    obtain ⟨h1, h2, ⟨_, _, h3⟩, ⟨o4, h4, _, d4⟩, ⟨o5, h5, _, d5⟩⟩ := st
    have hb' : b = z ∨ b = TI ∨ b = TO ∨ b = i1 ∨ b = i2 := by simpa using hb
    rcases hb' with rfl | rfl | rfl | rfl | rfl
    · exact ⟨_, h1, fun v z => by cases z⟩
    · exact ⟨_, h2, fun v z => by cases z⟩
    · exact ⟨_, h3, fun v z => by cases z⟩
    · exact ⟨_, h4, fun v z => by rw [d4] at z; cases z⟩
    · exact ⟨_, h5, fun v z => by rw [d5] at z; cases z⟩
  keep := fun i h h' st k => by
    obtain ⟨h1, h2, ⟨a, b, h3⟩, h4, h5⟩ := st
    exact ⟨k z (by simp) _ h1, k TI (by simp) _ h2, ⟨a, b, k TO (by simp) _ h3⟩, h4.at fun o q => k i1 (by simp) o q, h5.at fun o q => k i2 (by simp) o q⟩
  item := by
    intro X hP hw hK hc i pins s σ H E I hf st hg
    subst hP hw hK
    obtain ⟨xs, ys, x, y, hqx, hqy, hx, hy⟩ := hg
    obtain ⟨hz, hTI, ⟨a, b, hTO⟩, h1, h2⟩ := st
    obtain ⟨its, rv, p, _⟩ := I.tuple hqx
    obtain ⟨its2, rv2, p2, _⟩ := I.list hqy
    obtain ⟨u, hu, ru⟩ := rv.get hx
    obtain ⟨v, hv, rv'⟩ := rv2.get hy
    refine pyNextZ_item D hz hTI hTO h1 h2 (show s.heap.IsTuple t its.toArray from p) p2.isList (x := u) (y := v) (by simpa using hu) (by simpa using hv) fun h1' hz1 hTO1 hi1 hi2 hT1 hsz1 hk1 => ⟨_, rfl, ?_⟩
    refine wpAny_letOwnedTupleGo_zip (s := { s with heap := h1' }) hz1 fun h2' hz2 hs2 => ?_
    replace hs2 : Heap.SameBut z h1' h2' := hs2
    have zH : z < s.heap.objs.size := Heap.lt_size hz
    have TOH : TO < s.heap.objs.size := Heap.lt_size hTO
    have TIH : TI < s.heap.objs.size := Heap.lt_size hTI
    have i1H : i1 < s.heap.objs.size := by obtain ⟨_, q, _⟩ := id h1; exact Heap.lt_size q
    have i2H : i2 < s.heap.objs.size := by obtain ⟨_, q, _⟩ := id h2; exact Heap.lt_size q
    have hTI2 : IsPair h2' TI (.ref i1) (.ref i2) := hs2.extBut _ _ D.TIz (hk1 _ _ D.TIz D.TITO D.TIi1 D.TIi2 hTI)
    have hTO2 : IsPair h2' TO u v := hs2.extBut _ _ D.TOz hTO1
    have hi12 : h2'.IsTupleIter i1 t (i + 1) := hi1.extBut hs2.extBut D.i1z
    have hi22 : h2'.IsListIter i2 l (i + 1) := hi2.extBut hs2.extBut D.i2z
    have hT2 : IsPair h2' s.heap.objs.size u v := hs2.extBut _ _ (Nat.ne_of_gt zH) hT1
    obtain ⟨o1, ho1, _, hd1⟩ := id hi12
    obtain ⟨o2, ho2, _, hd2⟩ := id hi22
    obtain ⟨mid, hm1, hm2, hm3⟩ := mids (h := s.heap) (h2 := h2') [z, TI, TO, i1, i2] (fun b hb => by
      have hb' : b = z ∨ b = TI ∨ b = TO ∨ b = i1 ∨ b = i2 := by simpa using hb
      rcases hb' with rfl | rfl | rfl | rfl | rfl
      · exact ⟨_, hz⟩
      · exact ⟨_, hTI⟩
      · exact ⟨_, hTO⟩
      · obtain ⟨o, q, _⟩ := id h1; exact ⟨o, q⟩
      · obtain ⟨o, q, _⟩ := id h2; exact ⟨o, q⟩) (fun b hb => by
      have hb' : b = z ∨ b = TI ∨ b = TO ∨ b = i1 ∨ b = i2 := by simpa using hb
      rcases hb' with rfl | rfl | rfl | rfl | rfl
      · exact ⟨_, hz2, rfl⟩
      · exact ⟨_, hTI2, rfl⟩
      · exact ⟨_, hTO2, rfl⟩
      · exact ⟨_, ho1, Obj.isFreed_of_fields hd1⟩
      · exact ⟨_, ho2, Obj.isFreed_of_fields hd2⟩)
    have I1 : Inv X pins σ H { s with heap := mid } := I.turnedL (t' := s.toks) (fs := [z, TI, TO, i1, i2]) (fun b o hb q => (hm3 b hb).trans q) hf
    have k2 : ∀ b o, mid.get? b = some o → h2'.get? b = some o := fun b o q => by
      by_cases c : b ∈ [z, TI, TO, i1, i2]
      · exact (hm2 b c).symm.trans q
      · rw [hm3 b c] at q
        have c' : b ≠ z ∧ b ≠ TI ∧ b ≠ TO ∧ b ≠ i1 ∧ b ≠ i2 := by simpa using c
        exact hs2.extBut _ _ c'.1 (hk1 _ _ c'.1 c'.2.2.1 c'.2.2.2.1 c'.2.2.2.2 q)
    have fz : mid.objs.size ≤ s.heap.objs.size := by rw [hm1]; exact Nat.le_refl _
    have I3 : Inv X pins σ (upd H s.heap.objs.size (.tup [x, y])) { s with heap := h2' } :=
      I1.laid (t' := s.toks) k2 fz (show ObjOk X.prog X.w _ h2' _ (.tup [x, y]) from ⟨by show 2 ≤ sizeLine; rw [sizeLine_eq]; decide, [u, v], .cons ru (.cons rv' .nil), ⟨_, hT2, rfl, _, rfl⟩⟩)
    refine ⟨.ref s.heap.objs.size, _, I3, rfl, ⟨x, y, s.heap.objs.size, (fun zs hz => by rw [I.tuple_inj hz hqx]; exact hx), (fun zs hz => by rw [I.list_inj hz hqy]; exact hy), I.hok.fresh (Nat.le_refl _), rfl, rfl⟩, ⟨hz2, hTI2, ⟨_, _, hTO2⟩, hi12, hi22⟩, fun b hb => ?_⟩
    have lt : b < s.heap.objs.size := by
      have hb' : b = z ∨ b = TI ∨ b = TO ∨ b = i1 ∨ b = i2 := by simpa using hb
      rcases hb' with rfl | rfl | rfl | rfl | rfl <;> assumption
    rw [upd_ne (Nat.ne_of_lt lt)]
    exact (hf b hb).1
  done := by
    intro X hP hw hK hc i pins s σ H E I hf st hg
    subst hP hw hK
    obtain ⟨xs, ys, hqx, hqy, hx⟩ := hg
    obtain ⟨hz, hTI, ⟨a, b, hTO⟩, h1, h2⟩ := st
    obtain ⟨its, rv, p, _⟩ := I.tuple hqx
    obtain ⟨its2, rv2, p2, _⟩ := I.list hqy
    have l1 := rv.length
    have l2 := rv2.length
    refine pyNextZ_end (I.ok.hd hc) D hz hTI hTO h1 h2 (show s.heap.IsTuple t its.toArray from p) p2.isList (hx.imp (fun q => by simp; omega) (fun q => by simp; omega)) fun h' hk => ⟨rfl, ?_⟩
    refine I.turnedL (t' := s.toks) (fs := [z, TI, TO, i1, i2]) (fun b o hb q => ?_) hf
    have c' : b ≠ z ∧ b ≠ TI ∧ b ≠ TO ∧ b ≠ i1 ∧ b ≠ i2 := by simpa using hb
    exact hk _ _ c'.1 c'.2.2.1 c'.2.2.2.1 c'.2.2.2.2 q
  self := fun _ _ _ _ _ st h => wpAny_pyIter_zip st.1 h
section
variable {X : Cx}
def iZip (K : PySem.W.Frag) (ta : TA) : TI := fun σ H R => ta σ H fun vs H1 => ∃ t l, vs = [V.ref t, V.ref l] ∧ (∃ xs, SqT K H1 t xs) ∧ (∃ ys, SqL K H1 l ys) ∧ R (Itz K t l) H1
theorem pi_zip {a c : Expr} {ta : TA} {p pos pt : Pos} {els : List Expr} {x1} (hg : Gl X "zip") (hm : X.mg "zip" = none) (hv : bootBuiltins "zip" = some (.type "zip")) (ha : PA X [a, c] ta) (hs : starEach [a, c] X.env = (false, eval a X.env) :: starEach [c] X.env := by rfl) (hs2 : (backTo pos (starEach [c] X.env)).any (·.1) = false := by rfl) :
    PI X (.Tuple els x1 pt) (.Call (.Name "zip" p) [a, c] [] pos) (iZip X.K ta) := by
  intro pins s σ H R I h
  refine Call_ (ld_blt I hg hm hv (PyProof.Rows.callWith_type1 (thn (ha pos pins s σ H _ I h) fun us s1 ⟨vs, H1, I1, r1, q1⟩ => ?_) hs hs2))
  obtain ⟨t, l, e, ⟨xs, hqx⟩, ⟨ys, hqy⟩, q⟩ := q1
  subst e
  obtain ⟨u, v, rfl, ru, rv⟩ := Vals.two r1
  cases ru
  cases rv
  obtain ⟨its, rv, pt', _⟩ := I1.tuple hqx
  obtain ⟨its2, rv2, pl, _⟩ := I1.list hqy
  have tl : t < s1.heap.objs.size := by obtain ⟨o, q, _⟩ := (show s1.heap.IsTuple t its.toArray from pt'); exact Heap.lt_size q
  have ll : l < s1.heap.objs.size := by obtain ⟨o, q, _⟩ := pl.isList; exact Heap.lt_size q
  refine call_zipT (show s1.heap.IsTuple t its.toArray from pt') pl.isList fun h' hz hTI hTO hi1 hi2 hsz kp => wpAny_pyIter_zip (s := { s1 with heap := h' }) hz ?_
  have I2 : Inv X pins σ H1 { s1 with heap := h' } := I1.kept (t' := s1.toks) kp
  generalize hn : s1.heap.objs.size = n at *
  have ge : ∀ b ∈ [n + 4, n + 2, n + 3, n, n + 1], n ≤ b := fun b hb => by
    have hb' : b = n + 4 ∨ b = n + 2 ∨ b = n + 3 ∨ b = n ∨ b = n + 1 := by simpa using hb
    rcases hb' with rfl | rfl | rfl | rfl | rfl
    · exact Nat.le_add_right _ _
    · exact Nat.le_add_right _ _
    · exact Nat.le_add_right _ _
    · exact Nat.le_refl _
    · exact Nat.le_add_right _ _
  have D : ZipApart (n + 4) (n + 2) (n + 3) n (n + 1) t l := by
    have a1 : t < n + 4 := Nat.lt_of_lt_of_le tl (Nat.le_add_right _ _)
    have a2 : l < n + 4 := Nat.lt_of_lt_of_le ll (Nat.le_add_right _ _)
    have b1 : t < n + 3 := Nat.lt_of_lt_of_le tl (Nat.le_add_right _ _)
    have b2 : l < n + 3 := Nat.lt_of_lt_of_le ll (Nat.le_add_right _ _)
    have c1 : t < n + 1 := Nat.lt_of_lt_of_le tl (Nat.le_add_right _ _)
    have c2 : l < n + 1 := Nat.lt_of_lt_of_le ll (Nat.le_add_right _ _)
    have nn : ∀ {i j : Nat}, i ≠ j → (n + i : Nat) ≠ n + j := fun h z => h (Nat.add_left_cancel z)
    exact ⟨nn (by decide), nn (by decide), nn (i := 0) (by decide), nn (by decide), nn (by decide), nn (j := 0) (by decide), nn (by decide), nn (j := 0) (by decide), nn (by decide), nn (i := 0) (by decide),
      Nat.ne_of_lt a1, Nat.ne_of_lt b1, Nat.ne_of_lt tl, Nat.ne_of_lt c1, Nat.ne_of_lt a2, Nat.ne_of_lt b2, Nat.ne_of_lt ll, Nat.ne_of_lt c2⟩
  exact ⟨n + 4, _, _, _, H1, rfl, I2, turn_zip t l _ _ _ _ _ D, ⟨hz, hTI, ⟨_, _, hTO⟩, hi1, hi2⟩, fun b hb => I1.fpOk (by rw [hn]; exact ge b hb) (I1.hok.fresh (by rw [hn]; exact ge b hb)), q⟩
/-- over a tuple and a list that the body leaves as they are -/
theorem for_zip {K : PySem.W.Frag} {t l : Addr} {xs ys : List V} {g : TG} {tb : TS} {D : Ends} {σ : St} {H : Hp} (Pv : Nat → St → Hp → Prop) (hxy : xs.length = ys.length) (h0 : Pv 0 σ H) (hl : ∀ i σ H, i ≤ xs.length → Pv i σ H → SqT K H t xs ∧ SqL K H l ys)
    (hs : ∀ i x y σ H b, xs[i]? = some x → ys[i]? = some y → Pv i σ H → H b = none → g (.ref b) σ (upd H b (.tup [x, y])) fun σ2 H2 => tb { D with nx := Pv (i + 1), ct := Pv (i + 1), bk := D.nx } σ2 H2) (hd : ∀ σ H, Pv xs.length σ H → D.nx σ H) :
    ∃ W : Nat → Nat → St → Hp → Prop, (∃ m, W 0 m σ H) ∧ ∀ i m σ H, W i m σ H →
      ((Itz K t l).stop i H ∧ D.nx σ H) ∨ ((Itz K t l).go i H ∧ ∃ N : St → Hp → Prop, (∀ σ' H', N σ' H' → ∃ m', m' < m ∧ W (i + 1) m' σ' H') ∧ ∀ x H', (Itz K t l).yld i H x H' → g x σ H' fun σ2 H2 => tb { D with nx := N, ct := N, bk := D.nx } σ2 H2) := by
  refine ⟨fun i m σ H => m = xs.length - i ∧ i ≤ xs.length ∧ Pv i σ H, ⟨xs.length, by simp, Nat.zero_le _, h0⟩, ?_⟩
  rintro i m σ H ⟨rfl, hi, p⟩
  obtain ⟨qx, qy⟩ := hl i σ H hi p
  by_cases hlt : i < xs.length
  · have hlt2 : i < ys.length := by omega
    refine .inr ⟨⟨xs, ys, xs[i], ys[i], qx, qy, by simp [hlt], by simp [hlt2]⟩, Pv (i + 1), fun σ' H' p' => ⟨xs.length - (i + 1), by omega, rfl, hlt, p'⟩, fun v H' y => ?_⟩
    obtain ⟨x0, y0, b, y1, y2, hb, rfl, rfl⟩ := y
    exact hs i x0 y0 σ H b (y1 xs qx) (y2 ys qy) p hb
  · have e : i = xs.length := by omega
    subst e
    exact .inl ⟨⟨xs, ys, qx, qy, .inl (Nat.le_refl _)⟩, hd σ H p⟩
end

/-! ### max of a list -/
section
variable {X : Cx}
theorem call_maxL (hc : X.calm = true) : CallR X (.builtin "max") (fun xs H Q => ∃ (p : Addr) (ns : List Int), xs = [.ref p] ∧ SqL X.K H p (ns.map V.int) ∧ 0 < ns.length ∧ ∀ m ∈ ns, (∀ n ∈ ns, n ≤ m) → Q (.int m) H) := by
  intro pins s σ H xs us Q I r h
  obtain ⟨p, ns, rfl, hp, h0, q⟩ := h
  obtain ⟨u, rfl, ru⟩ := vals1 r
  cases ru
  obtain ⟨its, rv, pl, hz⟩ := I.list hp
  have hi := ints_of rv
  obtain ⟨xs, ex⟩ := hi.allInts.items
  have hn : (numsOf its.toArray.toList) = ns := by rw [show its.toArray.toList = its from rfl, hi.numsOf]
  have hl := pl.isList
  rw [ex] at hl hn
  rw [nums_intItems] at hn
  have hnl : ns.length = xs.size := by rw [← hn]; simp
  have hat : ∀ i, i < xs.size → ns[i]? = some (numAt xs i) := fun i hi => by
    rw [← hn]
    simp [numAt, hi]
  refine max_intList (I.ok.hd hc) hl (by omega) fun v h' tk hv kp => ?_
  obtain ⟨t, rfl⟩ := intItems_at hv
  obtain ⟨a1, a2⟩ := argBest_gt (numAt xs) (xs.size - 1)
  refine ⟨.int _, H, I.kept (t' := tk) kp, ⟨t, rfl⟩, q _ (List.mem_of_getElem? (hat _ (by omega))) fun n hn' => ?_⟩
  obtain ⟨j, hj, e⟩ := List.mem_iff_getElem.mp hn'
  have e2 := hat j (by omega)
  rw [List.getElem?_eq_getElem hj, e] at e2
  cases e2
  exact a2 j (by omega)
end
/-! ### trees that are alike -/
inductive TrEq (H : Hp) : Nat → V → V → Prop where
  | fl {n : Nat} {x : V} (h : flatV x = true) : TrEq H n x x
  | rf {n : Nat} {a : Addr} : TrEq H n (.ref a) (.ref a)
  | tp {n : Nat} {a b : Addr} {xs ys : List V} (h1 : H a = some (.tup xs)) (h2 : H b = some (.tup ys)) (hl : xs.length = ys.length)
      (hh : ∀ (j : Nat) (u v : V), xs[j]? = some u → ys[j]? = some v → TrEq H n u v) : TrEq H (n + 1) (.ref a) (.ref b)
theorem eqV_self {x : V} (h : flatV x = true) : eqV x x = true := by
  cases x <;> first | rfl | exact absurd (show false = true from h) Bool.false_ne_true | simp [eqV]
section
variable {X : Cx} {pins : List (Addr × Obj)} {σ : St} {H : Hp} {s : Shared}
theorem range_all {n : Nat} : (List.range n).all (fun _ => true) = true := by simp
theorem tr_items (I : Inv X pins σ H s) {n : Nat} {A : Around} {xs ys : List V} {us vs : List Value} (r1 : Vals xs us) (r2 : Vals ys vs)
    (ih : ∀ (j : Nat) (u v : V), xs[j]? = some u → ys[j]? = some v → ∀ u' v', RelV u u' → RelV v v' → SeqAt.EqAt A s u' v' true) :
    ∀ j (h1 : j < us.toArray.size) (h2 : j < vs.toArray.size), SeqAt.EqAt A s us.toArray[j] vs.toArray[j] ((fun _ => true) j) := by
  intro j h1 h2
  have l1 := r1.length
  have l2 := r2.length
  rw [List.size_toArray] at h1 h2
  have ex : xs[j]? = some (xs[j]'(by omega)) := List.getElem?_eq_getElem _
  have ey : ys[j]? = some (ys[j]'(by omega)) := List.getElem?_eq_getElem _
  obtain ⟨u, hu', ru⟩ := r1.get ex
  obtain ⟨v, hv', rv⟩ := r2.get ey
  have eu : us.toArray[j]'(by simpa using h1) = u := by
    rw [List.getElem?_eq_getElem h1] at hu'
    simpa using Option.some.inj hu'
  have ev : vs.toArray[j]'(by simpa using h2) = v := by
    rw [List.getElem?_eq_getElem h2] at hv'
    simpa using Option.some.inj hv'
  rw [eu, ev]
  exact ih j _ _ ex ey u v ru rv
theorem TrEq.at (I : Inv X pins σ H s) {n : Nat} {x y : V} (h : TrEq H n x y) : ∀ {A : Around} {u v : Value}, A.units + n < cLine → RelV x u → RelV y v → SeqAt.EqAt A s u v true := by
  induction h with
  | fl hf =>
    intro A u v _ rx ry
    have := eqAt_V (A := A) (s := s) rx ry hf hf
    rw [eqV_self hf] at this
    exact this
  | rf =>
    intro A u v _ rx ry
    cases rx
    cases ry
    exact SeqAt.EqAt.same _
  | @tp n a b xs ys h1 h2 hl hh ih =>
    intro A u v hu rx ry
    cases rx
    cases ry
    by_cases e : a = b
    · subst e; exact SeqAt.EqAt.same _
    obtain ⟨its, r1, p, _⟩ := I.tuple (SqT.of h1)
    obtain ⟨its2, r2, p2, _⟩ := I.tuple (SqT.of h2)
    have rc := SeqAt.RcAt.tuples (A := A) (s := s) (e := fun _ => true) (show s.heap.IsTuple a its.toArray from p) (show s.heap.IsTuple b its2.toArray from p2) (by omega)
      (tr_items I (n := n) r1 r2 fun j u v e1 e2 u' v' ru rv => ih j u v e1 e2 (A := A.in1) (show A.units + 1 + n < cLine by omega) ru rv)
    rw [List.size_toArray, List.size_toArray, ← r1.length, ← r2.length, range_all, hl] at rc
    exact SeqAt.EqAt.of_refs e (by simpa using rc)
/-- == and != of two tuples that are alike -/
theorem op_neTr {k : Nat} (hu : X.A.units + k < cLine) : OpR X (compareOp .NotEq) (fun x y H Q => ∃ a b xs ys n, x = .ref a ∧ y = .ref b ∧ H a = some (.tup xs) ∧ H b = some (.tup ys) ∧ xs.length = ys.length ∧ n < k ∧ (∀ (j : Nat) (u v : V), xs[j]? = some u → ys[j]? = some v → TrEq H n u v) ∧ Q (.bl false) H) := by
  intro pins s σ H x y v u Q I rx ry h
  obtain ⟨a, b, xs, ys, n, rfl, rfl, ha, hb, hl, hn, hx, q⟩ := h
  cases rx
  cases ry
  obtain ⟨its, r1, p1, _⟩ := I.tuple (SqT.of ha)
  obtain ⟨its2, r2, p2, _⟩ := I.tuple (SqT.of hb)
  refine SeqAt.RcNeAt.tuples (e := fun _ => true) (show s.heap.IsTuple a its.toArray from p1) (show s.heap.IsTuple b its2.toArray from p2) (by omega) (tr_items I (n := n) r1 r2 fun j u v e1 e2 u' v' ru rv => (hx j u v e1 e2).at I (A := X.A.in1) (show X.A.units + 1 + n < cLine by omega) ru rv) X.prog X.w X.xe _ ⟨.bl false, H, I, ?_, q⟩
  rw [List.size_toArray, List.size_toArray, ← r1.length, ← r2.length, range_all, hl]
  simp [RelV]
/-- == and != of two lists of things that are alike -/
theorem op_neLt {k : Nat} (hu : X.A.units + k < cLine) : OpR X (compareOp .NotEq) (fun x y H Q => ∃ a b xs ys n, x = .ref a ∧ y = .ref b ∧ SqL X.K H a xs ∧ SqL X.K H b ys ∧ xs.length = ys.length ∧ n < k ∧ (∀ (j : Nat) (u v : V), xs[j]? = some u → ys[j]? = some v → TrEq H n u v) ∧ Q (.bl false) H) := by
  intro pins s σ H x y v u Q I rx ry h
  obtain ⟨a, b, xs, ys, n, rfl, rfl, ha, hb, hl, hn, hx, q⟩ := h
  cases rx
  cases ry
  obtain ⟨its, r1, p1, _⟩ := I.list ha
  obtain ⟨its2, r2, p2, _⟩ := I.list hb
  refine SeqAt.RcNeAt.lists (e := fun _ => true) p1.isList p2.isList (by rw [List.size_toArray, List.size_toArray, ← r1.length, ← r2.length, hl]) (by omega) (tr_items I (n := n) r1 r2 fun j u v e1 e2 u' v' ru rv => (hx j u v e1 e2).at I (A := X.A.in1) (show X.A.units + 1 + n < cLine by omega) ru rv) X.prog X.w X.xe _ ⟨.bl false, H, I, ?_, q⟩
  rw [List.size_toArray, range_all]
  simp [RelV]
theorem op_eqLt {k : Nat} (hu : X.A.units + k < cLine) : OpR X (compareOp .Eq) (fun x y H Q => ∃ a b xs ys n, x = .ref a ∧ y = .ref b ∧ SqL X.K H a xs ∧ SqL X.K H b ys ∧ xs.length = ys.length ∧ n < k ∧ (∀ (j : Nat) (u v : V), xs[j]? = some u → ys[j]? = some v → TrEq H n u v) ∧ Q (.bl true) H) := by
  intro pins s σ H x y v u Q I rx ry h
  obtain ⟨a, b, xs, ys, n, rfl, rfl, ha, hb, hl, hn, hx, q⟩ := h
  cases rx
  cases ry
  obtain ⟨its, r1, p1, _⟩ := I.list ha
  obtain ⟨its2, r2, p2, _⟩ := I.list hb
  refine SeqAt.eq_listAt (e := fun _ => true) p1.isList p2.isList (by rw [List.size_toArray, List.size_toArray, ← r1.length, ← r2.length, hl]) (by omega) (tr_items I (n := n) r1 r2 fun j u v e1 e2 u' v' ru rv => (hx j u v e1 e2).at I (A := X.A.in1) (show X.A.units + 1 + n < cLine by omega) ru rv) ⟨.bl true, H, I, ?_, q⟩
  rw [List.size_toArray, range_all]
  rfl
end
end L2
/-! EXTENSION R: list(reversed(x)), x a list -/
namespace L2
open PySem PySem.Spec PyProof.Rows
section
variable {prog : Program} {w : World} {A : Around} {E : Value → Shared → Prop} {s : Shared}
theorem lri_len : typeLookup (.type "list_reverseiterator") "__len__" = pure none := by rw [typeLookup_type, builtinLookup_eq_fast]; kernel_rfl
theorem lri_hint : typeLookup (.type "list_reverseiterator") "__length_hint__" = pure (some (.builtin "list_reverseiterator.__length_hint__")) := by rw [typeLookup_type, builtinLookup_eq_fast]; kernel_rfl
theorem hint_rev {it l : Addr} {i : Int} {Q : Bool → Shared → Prop} (hit : s.heap.IsRevIter it l i) (h : Q false s) : wpAny (model prog w) A (Builtin.List.listLengthHint (.ref it)) Q E s := by
  unfold Builtin.List.listLengthHint
  refine wpAny_bind (wpAny_specialOf hit.typeIs lri_len ?_)
  wp_delta
  refine wpAny_ite_split (fun hab => absurd hab (by decide +kernel)) (fun _ => ?_)
  refine wpAny_ite_split (fun hab => absurd hab (by decide)) (fun _ => ?_)
  refine wpAny_bind (wpAny_specialOf hit.typeIs lri_hint ?_)
  generalize hid : ("list_reverseiterator.__length_hint__" : String) = id0
  wp_delta
  rw [show splitId id0 = some ("list_reverseiterator", "__length_hint__") from by subst hid; decide +kernel]
  subst hid
  refine wpAny_bind (wpAny_isInstance (T := "list_reverseiterator") (b := true) hit.typeIs (by rw [isSubtype_type]; kernel_rfl) ?_)
  refine wpAny_ite_split (fun hab => absurd hab (by decide)) (fun _ => ?_)
  refine wpAny_ite_split (fun _ => ?_) (fun hab => absurd (by decide +kernel) hab)
  refine wpAny_ite_split (fun hab => absurd hab (by decide +kernel)) (fun _ => ?_)
  exact wpAny_pure h
end
end L2
namespace L2
open PySem PySem.Spec PyProof.Rows
section
variable {prog : Program} {w : World} {A : Around} {E : Value → Shared → Prop} {s : Shared}
theorem extend_rev {R : Result → Shared → Prop} {it l : Addr} {items : Array Value} (hh : A.handled = none) (hit : s.heap.IsRevIter it l ((items.size : Int) - 1)) (hl : s.heap.IsList l items) (hne : l ≠ it) (hn : items.size ≤ sizeLine)
    (S : Addr) (hSi : S ≠ it) (hSl : S ≠ l) (res : Value) (c₀ : Nat) (hS : s.heap.get? S = some { cls := .type "list", data := .seq #[] c₀ })
    (hR : ∀ h' tk acc' c', (∀ b o, b ≠ S → b ≠ it → s.heap.get? b = some o → h'.get? b = some o) → h'.get? S = some { cls := .type "list", dict := none, data := .seq acc' c', slots := #[] } →
      ItemsOf (fun i v => items[items.size - 1 - i]? = some v) acc' items.size → R (.ok (.ret res)) { s with heap := h', toks := tk }) :
    wpAny (model prog w) A.in1 (Builtin.List.listExtendWith (.ref S) (.ref it) res)
      (fun fin s' => match fin with | .done f => R (.ok f) s' | .again c' => c'.quiet = true ∧ codeAny (model prog w) A c' R s') (fun e s' => R (.error e) s') s := by
  have hSf : S ∉ [it, l] := fun hm => by
    rcases List.mem_cons.mp hm with e | hm
    · exact hSi e
    · exact hSl (List.mem_singleton.mp hm)
  have W := (Walks.listRev (prog := prog) (w := w) (A := A.in1) hh it l hne items).toS
  unfold Builtin.List.listExtendWith
  refine wpAny_bind (wpAny_typeOf (T := "list_reverseiterator") hit.typeIs ?_)
  have h1 : Builtin.List.listSameRef (.ref S) (.ref it) = false := by simp [Builtin.List.listSameRef, hSi]
  have h2 : (Value.type "list_reverseiterator" == Value.type "list") = false := by decide
  have h3 : (Value.type "list_reverseiterator" == Value.type "tuple") = false := by decide
  simp only [h1, h2, h3, Bool.or_false, Bool.false_eq_true, if_false]
  refine wpAny_bind (wpAny_pyIter_revIter hit ?_)
  refine wpAny_bind (wpAny_holding (hint_rev hit ?_))
  rw [if_neg (by decide +kernel)]
  have e0 : (items.size : Int) - 1 - ((0 : Nat) : Int) = (items.size : Int) - 1 := by omega
  refine wpAny_pure ⟨plainId_quiet F.plain_extend_loop _, codeAny_extend_loopS W hn S hSf res items.size 0 s #[] c₀ rfl (Nat.zero_le _) ⟨Nat.zero_le _, by rw [e0]; exact hit, hl⟩ hS (ItemsOf.nil _) fun s' acc' c' hm hS' hacc => ?_⟩
  rw [Moved.eq_with hm]
  refine hR s'.heap s'.toks acc' c' (fun b o hb hb2 e => hm.heap b o (fun hmem => ?_) e) hS' hacc
  rcases List.mem_cons.mp hmem with e' | hmem
  · exact hb e'
  · exact hb2 (List.mem_singleton.mp hmem)
theorem list_init_rev {R : Result → Shared → Prop} {it l : Addr} {items : Array Value} (hh : A.handled = none) (hit : s.heap.IsRevIter it l ((items.size : Int) - 1)) (hl : s.heap.IsList l items) (hne : l ≠ it) (hn : items.size ≤ sizeLine)
    (S : Addr) (hSi : S ≠ it) (hSl : S ≠ l) (hS : s.heap.get? S = some { cls := .type "list", data := .seq #[] })
    (hR : ∀ h' tk acc' c', (∀ b o, b ≠ S → b ≠ it → s.heap.get? b = some o → h'.get? b = some o) → h'.get? S = some { cls := .type "list", dict := none, data := .seq acc' c', slots := #[] } →
      ItemsOf (fun i v => items[items.size - 1 - i]? = some v) acc' items.size → R (.ok (.ret .none)) { s with heap := h', toks := tk }) :
    wpAny (model prog w) A.in1 (Builtin.«list.__init__» ⟨[.ref S, .ref it], []⟩)
      (fun fin s' => match fin with | .done f => R (.ok f) s' | .again c' => c'.quiet = true ∧ codeAny (model prog w) A c' R s') (fun e s' => R (.error e) s') s := by
  show wpAny _ _ (do let old ← Builtin.List.listItems (.ref S); Builtin.List.listUpdate (.ref S) (fun _ => #[]); letGo old.toList.reverse; Builtin.List.listExtendWith (.ref S) (.ref it) .none) _ _ s
  refine wpAny_bind ?_
  unfold Builtin.List.listItems
  refine wpAny_bind (wpAny_seqItems hS rfl (wpAny_pure ?_))
  show wpAny _ _ (updateSeq S (fun _ => #[]) >>= fun _ => letGo (#[] : Array Value).toList.reverse >>= fun _ => Builtin.List.listExtendWith (.ref S) (.ref it) .none) _ _ s
  refine wpAny_bind (wpAny_updateSeq hS rfl ?_)
  have hS₂ := Heap.get?_update_self (Obj.mapSeq (fun _ => (#[] : Array Value))) hS rfl
  have oth : ∀ b o, b ≠ S → s.heap.get? b = some o → (s.heap.update S (Obj.mapSeq (fun _ => (#[] : Array Value)))).get? b = some o :=
    fun b o hb e => (Heap.get?_update_other _ _ (Ne.symm hb)).trans e
  refine wpAny_bind (wpAny_letGo ?_)
  refine extend_rev hh (hit.at fun o e => oth _ o (Ne.symm hSi) e) (hl.at fun o e => oth _ o (Ne.symm hSl) e) hne hn S hSi hSl .none _ hS₂ fun h' tk acc' c' hk hS' hacc => ?_
  exact hR h' tk acc' c' (fun b o hb hb2 e => hk b o hb hb2 (oth b o hb e)) hS' hacc
theorem call_list_rev {Q : Value → Shared → Prop} {it l : Addr} {items : Array Value} (hh : A.handled = none) (hit : s.heap.IsRevIter it l ((items.size : Int) - 1)) (hl : s.heap.IsList l items) (hne : l ≠ it) (hn : items.size ≤ sizeLine)
    (hQ : ∀ h' tk acc' c', (∀ b o, b ≠ it → s.heap.get? b = some o → h'.get? b = some o) →
      h'.get? s.heap.objs.size = some { cls := .type "list", dict := none, data := .seq acc' c', slots := #[] } → ItemsOf (fun i v => items[items.size - 1 - i]? = some v) acc' items.size → Q (.ref s.heap.objs.size) { s with heap := h', toks := tk }) :
    wpAny (model prog w) A (call (.type "list") [.ref it]) Q E s := by
  refine callType_codes (Q₁ := fun obj s₁ => obj = .ref s.heap.objs.size ∧ s₁ = { s with heap := s.heap.push { cls := .type "list", data := .seq #[] } }) F.called_list (F.typeCall_list_1 _) F.entry_list_init
    (code_list_new _ ⟨rfl, rfl⟩) fun obj s₁ h₁ => ?_
  obtain ⟨rfl, rfl⟩ := h₁
  have hS : (s.heap.push { cls := .type "list", data := .seq #[] }).get? s.heap.objs.size = some { cls := .type "list", data := .seq #[] } := Heap.get?_push_size _ rfl
  have i1 : s.heap.objs.size ≠ it := by obtain ⟨o, q, _⟩ := hit; exact Nat.ne_of_gt (Heap.lt_size q)
  have i2 : s.heap.objs.size ≠ l := by obtain ⟨o, q, _⟩ := hl; exact Nat.ne_of_gt (Heap.lt_size q)
  refine ⟨⟨_, hS, rfl⟩, F.args_list_init_2 _ _, list_init_rev (A := A.in1) hh (hit.at fun o e => Heap.get?_push_of_some _ e) (hl.at fun o e => Heap.get?_push_of_some _ e) hne hn _ i1 i2 hS fun h' tk acc' c' hk hS' hacc => ?_⟩
  exact ⟨rfl, hQ h' tk acc' c' (fun b o hb e => hk b o (Nat.ne_of_lt (Heap.lt_size e)) hb (Heap.get?_push_of_some _ e)) hS' hacc⟩
end
end L2
namespace L2
open PySem PySem.Spec PyProof.Rows
theorem items_rev {its : List Value} {acc : Array Value} (h : ItemsOf (fun i v => its.toArray[its.toArray.size - 1 - i]? = some v) acc its.toArray.size) : acc = its.reverse.toArray := by
  obtain ⟨h1, h2⟩ := h
  apply Array.ext'
  rw [List.toList_toArray]
  apply List.ext_getElem?
  intro j
  have hz : acc.toList.length = its.length := by rw [Array.length_toList, h1, List.size_toArray]
  by_cases c : j < its.length
  · have hj : acc[j]? = some (acc[j]'(by rw [h1, List.size_toArray]; exact c)) := Array.getElem?_eq_getElem _
    have e := h2 j _ hj
    rw [List.getElem?_reverse c, Array.getElem?_toList, hj, ← e]
    simp
  · rw [List.getElem?_eq_none (by omega), List.getElem?_eq_none (by rw [List.length_reverse]; omega)]
section
variable {X : Cx}
def tLRev (K : PySem.W.Frag) (te : TE) : TE := fun σ H Q => te σ H fun x H1 => ∃ a xs, x = .ref a ∧ SqL K H1 a xs ∧ ∀ l, H1 l = none → Q (.ref l) (upd H1 l (.lst xs.reverse))
theorem bt_reversed : bootBuiltins "reversed" = some (.type "reversed") := by decide +kernel
theorem pe_listrev {e : Expr} {te : TE} {p p2 pos pos2 : Pos} (hc : X.calm = true) (hg : Gl X "list") (hm : X.mg "list" = none) (hv : bootBuiltins "list" = some (.type "list")) (hg2 : Gl X "reversed") (hm2 : X.mg "reversed" = none) (he : PE X e te)
    (hs : starEach [e] X.env = (false, eval e X.env) :: starEach [] X.env := by rfl) :
    PE X (.Call (.Name "list" p) [.Call (.Name "reversed" p2) [e] [] pos2] [] pos) (tLRev X.K te) := by
  intro pins s σ H Q I h
  refine wpAny_Call_Name_kw (ld_blt I hg hm hv ?_)
  refine PyProof.Rows.callWith_type1 ?_ rfl rfl
  show wpAny _ _ (spliced ((false, eval (.Call (.Name "reversed" p2) [e] [] pos2) X.env) :: backTo pos (starEach [] X.env))) _ _ s
  refine Calls.spliced_cons ?_
  refine wpAny_Call_Name_kw (ld_blt I hg2 hm2 bt_reversed ?_)
  refine PyProof.Rows.callWith_type1 ?_ hs rfl
  rw [hs]
  show wpAny _ _ (spliced ((false, eval e X.env) :: backTo pos2 (starEach [] X.env))) _ _ s
  refine Calls.spliced_cons (thn (he pins s σ H _ I h) fun u s1 ⟨x, H1, I1, r1, q1⟩ => Calls.spliced_nil ?_)
  obtain ⟨a, xs, rfl, hq, q⟩ := q1
  cases r1
  obtain ⟨its, rv, pl, hz⟩ := I1.list hq
  have hlen := rv.length
  have hl := pl.isList
  refine call_reversed_list hl (Calls.spliced_nil ?_)
  have la : a < s1.heap.objs.size := by obtain ⟨o, z, _⟩ := hl; exact Heap.lt_size z
  refine call_list_rev (items := its.toArray) (I.ok.hd hc) ⟨_, Heap.get?_push_size _ rfl, rfl, rfl⟩ (hl.at fun o z => Heap.get?_push_of_some _ z) (Nat.ne_of_lt la) (by rw [List.size_toArray]; omega) fun h' tk acc' c' hk hS' hacc => ?_
  have e := items_rev hacc
  subst e
  have hp : s1.heap.objs.size ≤ (s1.heap.push (revObj a ((its.toArray.size : Int) - 1))).objs.size := by rw [Heap.size_push]; exact Nat.le_succ _
  refine ⟨.ref _, _, I1.laid (t' := tk) (o := .lst xs.reverse) (fun b o z => hk b o (Nat.ne_of_lt (Heap.lt_size z)) (Heap.get?_push_of_some _ z)) hp ?_, rfl, q _ (I1.hok.fresh hp)⟩
  exact ⟨by rw [List.length_reverse]; exact hz, its.reverse, c', vals_rev rv, hS'⟩
end
end L2
namespace Mx
/-- the divisor with the bottom's sign -/
def dv (t b : Int) : Int := if b < 0 then -(Nat.gcd t.natAbs b.natAbs : Int) else (Nat.gcd t.natAbs b.natAbs : Int)
def lowT (t b : Int) : Int := t.fdiv (dv t b)
def lowB (t b : Int) : Int := b.fdiv (dv t b)

theorem dv_dvd_t (t b : Int) : dv t b ∣ t := by
  have h : ((Nat.gcd t.natAbs b.natAbs : Nat) : Int) ∣ t := Int.natAbs_dvd_natAbs.mp (by simpa using Nat.gcd_dvd_left t.natAbs b.natAbs)
  unfold dv; split
  · exact Int.neg_dvd.mpr h
  · exact h
theorem dv_dvd_b (t b : Int) : dv t b ∣ b := by
  have h : ((Nat.gcd t.natAbs b.natAbs : Nat) : Int) ∣ b := Int.natAbs_dvd_natAbs.mp (by simpa using Nat.gcd_dvd_right t.natAbs b.natAbs)
  unfold dv; split
  · exact Int.neg_dvd.mpr h
  · exact h
theorem fdiv_mul {t d : Int} (h : d ∣ t) : t.fdiv d * d = t := by
  obtain ⟨c, rfl⟩ := h
  by_cases hd : d = 0
  · subst hd; simp
  · rw [Int.mul_comm d c, Int.mul_fdiv_cancel _ hd]
theorem low_t (t b : Int) : lowT t b * dv t b = t := fdiv_mul (dv_dvd_t t b)
theorem low_b (t b : Int) : lowB t b * dv t b = b := fdiv_mul (dv_dvd_b t b)
/-- what is in lowest terms stays -/
structure Low (x y : Int) : Prop where
  pos : 0 < y
  cop : Nat.gcd x.natAbs y.natAbs = 1
theorem Low.dv {x y : Int} (h : Low x y) : Mx.dv x y = 1 := by
  have h1 := h.pos; have h2 := h.cop
  unfold Mx.dv; rw [if_neg (by omega), h2]; rfl
theorem Low.t {x y : Int} (h : Low x y) : lowT x y = x := by have e := low_t x y; rw [h.dv] at e; omega
theorem Low.b {x y : Int} (h : Low x y) : lowB x y = y := by have e := low_b x y; rw [h.dv] at e; omega
end Mx
namespace Mx
section
variable {a b c d e f : Int}
theorem pos2 {x y : Int} (h : 0 < x) (g : 0 < y) : 0 < x * y := Int.mul_pos h g
end
end Mx

namespace Fs
open PySem L2 Mx
/-- a def of the text: its function, its name, how its arguments bind -/
structure Df (K : PySem.W.Frag) (mg : Str → Option Value) (x : Str) (st : Stmt) (ps : List Str) (f : Addr) (fd : FuncData) : Prop where
  fn : Fun K x x st f fd
  gl : mg x = some (.ref f)
  b : Binds K fd ps []
theorem pe_cl {X : Cx} {k : Nat} {f : Addr} {fd : FuncData} {ps : List Str} {sp : Sp} {x : Str} {st : Stmt} {e : Expr} {es : List Expr} {t : TA} {p pos : Pos} (D : Df X.K X.mg x st ps f fd) (F : FnOk X.prog X.w X.K X.mg X.base CX0 k f fd ps sp) (hr : Room k X.A)
    (ha : PA X (e :: es) t) (hg : Gl X x := by rfl) (hdb : (x == ("__debug__" : Str)) = false := by decide) (he : starEach (e :: es) X.env = (false, eval e X.env) :: starEach es X.env := by rfl) (hpl : (backTo pos (starEach es X.env)).any (·.1) = false := by rfl) :
    PE X (.Call (.Name x p) (e :: es) [] pos) (tCall sp [] E0 t) := pe_call F hr hg D.gl D.fn.kp D.b .nil pass0 ha hdb he hpl
/-- all but p stay -/
def KeepX (p : Addr) (H H' : Hp) : Prop := ∀ b o, b ≠ p → H b = some o → H' b = some o
theorem KeepX.refl (p : Addr) (H : Hp) : KeepX p H H := fun _ _ _ e => e
theorem KeepX.trans {p : Addr} {H H1 H2 : Hp} (a : KeepX p H H1) (b : KeepX p H1 H2) : KeepX p H H2 := fun c o hc e => b c o hc (a c o hc e)
theorem KeepX.upd {p : Addr} {H : Hp} {o : HO} : KeepX p H (upd H p o) := fun b u hb e => by rw [upd_ne hb]; exact e
theorem Same.keep {p : Addr} {H H' : Hp} (h : Same H H') : KeepX p H H' := fun b o _ e => h b o e
theorem Same.new {H : Hp} {p : Addr} {o : HO} (h : H p = none) : Same H (upd H p o) := fun b u e => by rw [upd_ne (ne_of_none e h)]; exact e
/-- a pen stands at p, asked k times at most -/
def PenAt (H : Hp) (p : Addr) (k : Nat) : Prop := ∃ a b c : Int, H p = some (.lst [.int a, .int b, .int c]) ∧ 0 ≤ c ∧ c ≤ k
theorem PenAt.same {H H' : Hp} {p : Addr} {k : Nat} (h : PenAt H p k) (s : Same H H') : PenAt H' p k := let ⟨a, b, c, e, r⟩ := h; ⟨a, b, c, s _ _ e, r⟩
theorem PenAt.mono {H : Hp} {p : Addr} {k m : Nat} (h : PenAt H p k) (s : k ≤ m) : PenAt H p m := let ⟨a, b, c, e, r, q⟩ := h; ⟨a, b, c, e, r, by omega⟩
/-- the int in the fourth slot -/
def lastN : St → Nat
  | [_, _, _, some (V.int n)] => n.toNat
  | [_, _, _, some (V.int n), _] => n.toNat
  | _ => 0
theorem sz64 {x : Int} (h1 : -18446744073709551616 < x) (h2 : x < 18446744073709551616) : Sz 64 x := by unfold Sz; omega
theorem sz4000 {x : Int} (h1 : -18446744073709551616 < x) (h2 : x < 18446744073709551616) : Sz 4000 x := (sz64 h1 h2).mono (by decide)
theorem two_le : 2 ≤ sizeLine := by decide
theorem three_le : 3 ≤ sizeLine := by decide
/-- a number stands at p -/
structure NumAt (H : Hp) (p : Addr) (x y : Int) (n : Nat) : Prop where
  ob : H p = some (.tup [.int x, .int y])
  low : Low x y
  sx : Sz n x
  sy : Sz n y
theorem NumAt.same {H H' : Hp} {p : Addr} {x y : Int} {n : Nat} (h : NumAt H p x y n) (s : Same H H') : NumAt H' p x y n := ⟨s _ _ h.ob, h.low, h.sx, h.sy⟩
theorem NumAt.mono {H : Hp} {p : Addr} {x y : Int} {n m : Nat} (h : NumAt H p x y n) (s : n ≤ m) : NumAt H p x y m := ⟨h.ob, h.low, h.sx.mono s, h.sy.mono s⟩
theorem NumAt.keep {H H' : Hp} {p q : Addr} {x y : Int} {n : Nat} (h : NumAt H p x y n) (s : KeepX q H H') (hq : p ≠ q) : NumAt H' p x y n := ⟨s _ _ hq h.ob, h.low, h.sx, h.sy⟩
/-! ### promises -/
def spGd : Sp := fun vs H Q _ => ∃ a b : Int, vs = [.int a, .int b] ∧ Q (.int (Nat.gcd a.natAbs b.natAbs : Nat)) H
def spLow : Sp := fun vs H Q _ => ∃ t b : Int, vs = [.int t, .int b] ∧ b ≠ 0 ∧ Sz 4000 b ∧ ∀ p, H p = none → Q (.ref p) (upd H p (.tup [.int (lowT t b), .int (lowB t b)]))
def spTake : Sp := fun vs H Q _ => ∃ (p : Addr) (m : Int) (k : Nat), vs = [.ref p, .int m] ∧ 0 < m ∧ Sz 4000 m ∧ PenAt H p k ∧ k ≤ 100000 ∧ ∀ (r : Int) (H' : Hp), 0 ≤ r → r < m → PenAt H' p (k + 1) → KeepX p H H' → Q (.int r) H'
def spPen (K : PySem.W.Frag) : Sp := fun vs H Q _ => ∃ (a : Addr) (ns : List Int) (k : Int), vs = [.ref a, .int k] ∧ SqL K H a (ns.map V.int) ∧ 0 ≤ k ∧ k ≤ 1000 ∧ ∀ (p : Addr) (H' : Hp), H p = none → PenAt H' p 0 → Same H H' → Q (.ref p) H'
def sp2 (f g : Int → Int → Int → Int → Int) (e : Nat → Nat → Nat) (C : Int → Int → Int → Int → Prop) : Sp := fun vs H Q _ => ∃ (p q : Addr) (a b c d : Int) (m n : Nat), vs = [.ref p, .ref q] ∧ NumAt H p a b m ∧ NumAt H q c d n ∧ m + n ≤ 3000 ∧ C a b c d ∧
  ∀ (r : Addr) (H' : Hp), Same H H' → NumAt H' r (lowT (f a b c d) (g a b c d)) (lowB (f a b c d) (g a b c d)) (e m n) → Q (.ref r) H'
abbrev eMN (m n : Nat) : Nat := m + n + 1
abbrev spSum : Sp := sp2 (fun a b c d => a * d + c * b) (fun _ b _ d => b * d) eMN (fun _ _ _ _ => True)
abbrev spDif : Sp := sp2 (fun a b c d => a * d - c * b) (fun _ b _ d => b * d) eMN (fun _ _ _ _ => True)
abbrev spPro : Sp := sp2 (fun a _ c _ => a * c) (fun _ b _ d => b * d) eMN (fun _ _ _ _ => True)
abbrev spQuo : Sp := sp2 (fun a _ _ d => a * d) (fun _ b c _ => b * c) eMN (fun _ _ c _ => c ≠ 0)
def spLess : Sp := fun vs H Q _ => ∃ (p q : Addr) (a b c d : Int) (m n : Nat), vs = [.ref p, .ref q] ∧ NumAt H p a b m ∧ NumAt H q c d n ∧ m + n ≤ 3000 ∧ Q (.bl (decide (a * d < c * b))) H

def spRight (K : PySem.W.Frag) (C : Addr) : Sp := fun vs H Q _ => ∃ a : Addr, vs = [.ref a] ∧ H a = some (excO a (.ref C)) ∧ ∀ H', Same H H' → Q (.bl true) H'
def spWhole : Sp := fun vs H Q _ => ∃ i : Int, vs = [.int i] ∧ Q (.bl true) H
def spIsNum : Sp := fun vs H Q _ => ∃ (p : Addr) (x y : Int) (n : Nat), vs = [.ref p] ∧ NumAt H p x y n ∧ n ≤ 4000 ∧ ∀ H', Same H H' → Q (.bl true) H'
def spFar : Sp := fun vs H Q _ => ∃ (p : Addr) (k : Nat), vs = [.ref p] ∧ PenAt H p k ∧ k ≤ 90000 ∧ ∀ (r : Int) (H' : Hp), Sz 250 r → PenAt H' p (k + 5) → KeepX p H H' → Q (.int r) H'
def spLaw (K : PySem.W.Frag) : Sp := fun vs H Q _ => ∃ (a : Addr) (ns : List Int), vs = [.ref a] ∧ SqL K H a (ns.map V.int) ∧ ns.length ≤ 63 ∧ ∀ H', Q (.bl true) H'
theorem boot_isinstance : bootBuiltins "isinstance" = some (.builtin "isinstance") := by decide +kernel
theorem boot_max : bootBuiltins "max" = some (.builtin "max") := by decide +kernel
theorem boot_int : bootBuiltins "int" = some (.type "int") := by decide +kernel
theorem boot_bool : bootBuiltins "bool" = some (.type "bool") := by decide +kernel
theorem boot_str : bootBuiltins "str" = some (.type "str") := by decide +kernel
theorem boot_list : bootBuiltins "list" = some (.type "list") := by decide +kernel
theorem boot_tuple : bootBuiltins "tuple" = some (.type "tuple") := by decide +kernel
theorem pe_typ {X : Cx} {x : Str} {T : String} {pos : Pos} (hm : X.mg x = none) (hv : bootBuiltins x = some (.type T)) (hg : Gl X x := by rfl) (hn : x ≠ "__name__" := by decide) (hd : (x == ("__debug__" : Str)) = false := by decide) : PE X (.Name x pos) (tC (.ty T)) := pe_bltn hg hm hv rfl hn hd
theorem kit_tt (K : PySem.W.Frag) (t : Value) : PySem.W.kitOne K t t = some true := by unfold PySem.W.kitOne; simp

/-! ### texts -/
def GStr (mg : Str → Option Value) (x z : Str) : Prop := ∃ u, mg x = some u ∧ RelV (.str z) u
def GInt (mg : Str → Option Value) (x : Str) (i : Int) : Prop := ∃ u, mg x = some u ∧ RelV (.int i) u
def rInS : R2 := fun x y H Q => ∃ i j, x = .str i ∧ y = .str j ∧ Q (.bl (!(Builtin.Str.occurrences j i 0 j.length 1).isEmpty)) H
theorem app_signs (a b : Str) : (a ++ b).cps.toList = a.cps.toList ++ b.cps.toList := by
  show (a.cps ++ b.cps).toList = _
  exact Array.toList_append
theorem str_ext {a b : Str} (h : a.cps.toList = b.cps.toList) : a = b := by
  obtain ⟨⟨a⟩⟩ := a
  obtain ⟨⟨b⟩⟩ := b
  simp only at h
  rw [h]
theorem len_signs (a : Str) : a.length = a.cps.toList.length := by simp [Str.length]
theorem len_app (a b : Str) : (a ++ b).length = a.length + b.length := strLen_append a b
theorem sl_lt {n : Nat} (h : n ≤ 1000) : n < sizeLine := small1000 h
theorem sl_le {n : Nat} (h : n ≤ 1000) : n ≤ sizeLine := Nat.le_of_lt (small1000 h)
/-! ### a text parted at a sign -/
/-! ### cells -/
structure Nm (z : Str) : Prop where
  lo : 1 ≤ z.length
  hi : z.length ≤ 6
  az : ∀ c ∈ z.cps.toList, 97 ≤ c ∧ c ≤ 122
def colL (c : Int) : Str := ⟨#[64 + c.toNat]⟩
def num (r : Int) : Str := Str.ofString (toString r)
def cellTx (z : Str) (r c : Int) : Str := ((z ++ Str.ofString "!") ++ colL c) ++ num r
structure Dg (z : Str) (n : Int) : Prop where
  lo : 1 ≤ z.length
  hi : z.length ≤ 640
  fig : ∀ c ∈ z.cps.toList, c ∈ (Str.ofString "0123456789").cps.toList
  rd : PySem.intText? z = some n
  c0 : ∃ c, z.cps.toList[0]? = some c ∧ (c ≠ 48 ∨ z = Str.ofString "0")
theorem tabRow : ∀ i, i < 16 → 1 ≤ (num ((i + 1 : Nat) : Int)).length ∧ (num ((i + 1 : Nat) : Int)).length ≤ 2 ∧ (∀ c ∈ (num ((i + 1 : Nat) : Int)).cps.toList, c ∈ (Str.ofString "0123456789").cps.toList) ∧
    PySem.intText? (num ((i + 1 : Nat) : Int)) = some ((i + 1 : Nat) : Int) ∧ ((num ((i + 1 : Nat) : Int)).cps.toList[0]?.getD 48) ≠ 48 := by decide +kernel
theorem tabCol : ∀ j, j < 8 → atI (Str.ofString "ABCDEFGHIJKLMNOPQRSTUVWXYZ").cps.toList (((j + 1 : Nat) : Int) - 1) = some (64 + (j + 1)) ∧ atI (Str.ofString "ABCDEFGH").cps.toList (((j + 1 : Nat) : Int) - 1) = some (64 + (j + 1)) ∧
    Txt.find (Str.ofString "ABCDEFGHIJKLMNOPQRSTUVWXYZ") ⟨#[64 + (j + 1)]⟩ = (j : Int) := by decide +kernel
theorem natOf {r : Int} {n : Nat} (h0 : 1 ≤ r) (h1 : r ≤ n) : ∃ i : Nat, i < n ∧ r = ((i + 1 : Nat) : Int) := ⟨(r - 1).toNat, by omega, by omega⟩
theorem num_dg {r : Int} (h0 : 1 ≤ r) (h1 : r ≤ 16) : Dg (num r) r ∧ (num r).length ≤ 2 := by
  obtain ⟨i, hi, rfl⟩ := natOf (n := 16) h0 h1
  obtain ⟨a, b, c, d, e⟩ := tabRow i hi
  refine ⟨⟨a, by omega, c, d, ?_⟩, b⟩
  cases q : (num ((i + 1 : Nat) : Int)).cps.toList[0]? with
  | none => rw [q] at e; exact absurd rfl e
  | some x => rw [q] at e; exact ⟨x, rfl, .inl e⟩
theorem col_at {c : Int} (h0 : 1 ≤ c) (h1 : c ≤ 8) : atI (Str.ofString "ABCDEFGHIJKLMNOPQRSTUVWXYZ").cps.toList (c - 1) = some (64 + c.toNat) ∧ atI (Str.ofString "ABCDEFGH").cps.toList (c - 1) = some (64 + c.toNat) ∧
    Txt.find (Str.ofString "ABCDEFGHIJKLMNOPQRSTUVWXYZ") ⟨#[64 + c.toNat]⟩ + 1 = c := by
  obtain ⟨j, hj, rfl⟩ := natOf (n := 8) h0 h1
  obtain ⟨a, b, d⟩ := tabCol j hj
  exact ⟨a, b, by rw [show ((j + 1 : Nat) : Int).toNat = j + 1 from rfl, d]; omega⟩
/-- a place, a block stands at p -/
structure PlAt (H : Hp) (p : Addr) (z : Str) (r c : Int) : Prop where
  ob : H p = some (.tup [.str z, .int r, .int c])
  nm : Nm z
  r0 : 1 ≤ r
  r1 : r ≤ 16
  c0 : 1 ≤ c
  c1 : c ≤ 8
theorem PlAt.same {H H' : Hp} {p : Addr} {z : Str} {r c : Int} (h : PlAt H p z r c) (s : Same H H') : PlAt H' p z r c := ⟨s _ _ h.ob, h.nm, h.r0, h.r1, h.c0, h.c1⟩
structure BkAt (H : Hp) (p : Addr) (z : Str) (r c r2 c2 : Int) : Prop where
  ob : H p = some (.tup [.str z, .int r, .int c, .int r2, .int c2])
  nm : Nm z
  r0 : 1 ≤ r
  r1 : r ≤ r2
  r16 : r2 ≤ 16
  c0 : 1 ≤ c
  c1 : c ≤ c2
  c8 : c2 ≤ 8
theorem BkAt.same {H H' : Hp} {p : Addr} {z : Str} {r c r2 c2 : Int} (h : BkAt H p z r c r2 c2) (s : Same H H') : BkAt H' p z r c r2 c2 := ⟨s _ _ h.ob, h.nm, h.r0, h.r1, h.r16, h.c0, h.c1, h.c8⟩
/-- the cells in a list: n of them, by rows of w from (r, c) on -/
def CsAt (H : Hp) (l : Addr) (z : Str) (r c : Int) (w n : Nat) : Prop := ∃ vs : List V, H l = some (.lst vs) ∧ vs.length = n ∧ ∀ (k : Nat) (v : V), vs[k]? = some v → ∃ a : Addr, v = .ref a ∧ H a = some (.tup [.str z, .int (r + ((k / w : Nat) : Int)), .int (c + ((k % w : Nat) : Int))])
theorem CsAt.same {H H' : Hp} {l : Addr} {z : Str} {r c : Int} {w n : Nat} (h : CsAt H l z r c w n) (s : Same H H') : CsAt H' l z r c w n := by
  obtain ⟨vs, a, b, d⟩ := h
  exact ⟨vs, s _ _ a, b, fun k v e => let ⟨p, q, u⟩ := d k v e; ⟨p, q, s _ _ u⟩⟩
/-! ### promises -/
def spRdW : Sp := fun vs H Q _ => ∃ (z : Str) (m n : Int), vs = [.str z, .int m] ∧ Dg z n ∧ (z.length : Int) ≤ m ∧ ∀ H', Same H H' → Q (.int n) H'
def spShN : Sp := fun vs H Q _ => ∃ z : Str, vs = [.str z] ∧ Nm z ∧ ∀ H', Same H H' → Q (.bl true) H'
def spWith : Sp := fun vs H Q _ => ∃ i l : Int, vs = [.int i, .int l] ∧ 1 ≤ i ∧ i ≤ l ∧ Q (.bl true) H
def spIsC : Sp := fun vs H Q _ => ∃ (p : Addr) (z : Str) (r c : Int), vs = [.ref p] ∧ PlAt H p z r c ∧ ∀ H', Same H H' → Q (.bl true) H'
def spIsB : Sp := fun vs H Q _ => ∃ (p : Addr) (z : Str) (r c r2 c2 : Int), vs = [.ref p] ∧ BkAt H p z r c r2 c2 ∧ ∀ H', Same H H' → Q (.bl true) H'
def spCT : Sp := fun vs H Q _ => ∃ (p : Addr) (z : Str) (r c : Int), vs = [.ref p] ∧ PlAt H p z r c ∧ Q (.str (cellTx z r c)) H
def spRC : Sp := fun vs H Q _ => ∃ (z : Str) (r c : Int), vs = [.str (cellTx z r c)] ∧ Nm z ∧ 1 ≤ r ∧ r ≤ 16 ∧ 1 ≤ c ∧ c ≤ 8 ∧ ∀ (p : Addr) (H' : Hp), Same H H' → PlAt H' p z r c → Q (.ref p) H'
def spCs : Sp := fun vs H Q _ => ∃ (p : Addr) (z : Str) (r c r2 c2 : Int), vs = [.ref p] ∧ BkAt H p z r c r2 c2 ∧ ∀ (l : Addr) (H' : Hp), H l = none → Same H H' → CsAt H' l z r c (c2 - c + 1).toNat ((r2 - r + 1).toNat * (c2 - c + 1).toNat) → Q (.ref l) H'
def spSheet : Sp := fun vs H Q _ => ∃ (p : Addr) (k : Nat), vs = [.ref p] ∧ PenAt H p k ∧ k ≤ 90000 ∧ ∀ (z : Str) (H' : Hp), Nm z → PenAt H' p (k + 8) → KeepX p H H' → Q (.str z) H'
def spPlace : Sp := fun vs H Q _ => ∃ (p : Addr) (k : Nat), vs = [.ref p] ∧ PenAt H p k ∧ k ≤ 80000 ∧ ∀ (q : Addr) (z : Str) (r c : Int) (H' : Hp), PlAt H' q z r c → PenAt H' p (k + 10) → KeepX p H H' → Q (.ref q) H'
def spBlock : Sp := fun vs H Q _ => ∃ (p : Addr) (k : Nat), vs = [.ref p] ∧ PenAt H p k ∧ k ≤ 70000 ∧ ∀ (q : Addr) (z : Str) (r c r2 c2 : Int) (H' : Hp), BkAt H' q z r c r2 c2 → PenAt H' p (k + 12) → KeepX p H H' → Q (.ref q) H'
def spIsP : Sp := fun vs H Q _ => ∃ (p q : Addr) (z : Str) (r c : Int), vs = [.ref p, .ref q] ∧ H p = some (.tup [.str z, .int r, .int c]) ∧ H q = some (.tup [.str z, .int r, .int c]) ∧ Q (.bl true) H
def spBkR : Sp := fun vs H Q _ => ∃ (p : Addr) (z : Str) (r c r2 c2 : Int), vs = [.ref p] ∧ BkAt H p z r c r2 c2 ∧ ∀ H', Same H H' → Q (.bl true) H'

theorem CsAt.push {H : Hp} {l q : Addr} {z : Str} {r c r' c' : Int} {w n : Nat} {vs : List V} (h1 : H l = some (.lst vs)) (h2 : vs.length = n)
    (h3 : ∀ (k : Nat) (v : V), vs[k]? = some v → ∃ a : Addr, v = .ref a ∧ H a = some (.tup [.str z, .int (r + ((k / w : Nat) : Int)), .int (c + ((k % w : Nat) : Int))]))
    (hq : H q = none) (er : r' = r + ((n / w : Nat) : Int)) (ec : c' = c + ((n % w : Nat) : Int)) : CsAt (upd (upd H q (.tup [.str z, .int r', .int c'])) l (.lst (vs ++ [.ref q]))) l z r c w (n + 1) := by
  have nql : q ≠ l := fun e => by subst e; rw [hq] at h1; cases h1
  refine ⟨_, upd_same, by rw [List.length_append, h2]; rfl, fun k v e => ?_⟩
  by_cases hk : k < n
  · rw [List.getElem?_append_left (by omega)] at e
    obtain ⟨a, ea, ha⟩ := h3 k v e
    have n1 : a ≠ l := ne_of ha h1 (by intro z; cases z)
    have n2 : a ≠ q := ne_of_none ha hq
    exact ⟨a, ea, by rw [upd_ne n1, upd_ne n2]; exact ha⟩
  · rw [List.getElem?_append_right (by omega)] at e
    have hk2 : k - vs.length = 0 := by
      obtain ⟨hlt, _⟩ := List.getElem?_eq_some_iff.mp e
      simp at hlt
      omega
    rw [hk2] at e
    have e' : V.ref q = v := by simpa using e
    have hkn : k = n := by omega
    subst hkn
    exact ⟨q, e'.symm, by rw [upd_ne nql, upd_same, er, ec]⟩
theorem Same.step {H H3 : Hp} {l q : Addr} {o o' : HO} (s : Same H H3) (hl : H l = none) (hq : H3 q = none) : Same H (upd (upd H3 q o) l o') := fun b u e => by
  rw [upd_ne (ne_of_none e hl), upd_ne (ne_of_none (s _ _ e) hq)]
  exact s _ _ e
theorem join_signs {e : Str} (he : e.cps.toList = []) : ∀ ts : List Str, (Str.join e ts).cps.toList = ts.flatMap fun t => t.cps.toList
  | [] => rfl
  | [x] => by show x.cps.toList = _; simp
  | x :: y :: r => by
    have ih := join_signs he (y :: r)
    show (x ++ e ++ Str.join e (y :: r)).cps.toList = _
    rw [app_signs, app_signs, he, ih, List.append_nil]
    rfl
theorem one_signs {ts : List Str} (h : ∀ t ∈ ts, ∃ c, t = ⟨#[c]⟩ ∧ 97 ≤ c ∧ c ≤ 122) : (ts.flatMap fun t => t.cps.toList).length = ts.length ∧ ∀ c ∈ ts.flatMap (fun t => t.cps.toList), 97 ≤ c ∧ c ≤ 122 := by
  induction ts with
  | nil => exact ⟨rfl, fun c hc => by cases hc⟩
  | cons t r ih =>
    obtain ⟨i1, i2⟩ := ih fun x hx => h x (List.mem_cons_of_mem _ hx)
    obtain ⟨c, rfl, hc⟩ := h t (List.mem_cons_self ..)
    rw [List.flatMap_cons]
    refine ⟨by rw [List.length_append, i1]; show 1 + r.length = r.length + 1; omega, fun d hd => ?_⟩
    rcases List.mem_append.mp hd with q | q
    · have e : d = c := by simpa using q
      rw [e]; exact hc
    · exact i2 d q
theorem join_nm {ts : List Str} (h : ∀ t ∈ ts, ∃ c, t = ⟨#[c]⟩ ∧ 97 ≤ c ∧ c ≤ 122) (h1 : 1 ≤ ts.length) (h6 : ts.length ≤ 6) : Nm (Txt.join (Str.ofString "") ts) := by
  have e : (Txt.join (Str.ofString "") ts).cps.toList = ts.flatMap fun t => t.cps.toList := by
    unfold Txt.join
    rw [StrLaws.glued_eq_join]
    exact join_signs (by decide +kernel) ts
  obtain ⟨a, b⟩ := one_signs h
  exact ⟨by rw [len_signs, e, a]; exact h1, by rw [len_signs, e, a]; exact h6, by rw [e]; exact b⟩
theorem join_ok {ts : List Str} (h : ∀ t ∈ ts, ∃ c, t = ⟨#[c]⟩ ∧ 97 ≤ c ∧ c ≤ 122) (h6 : ts.length ≤ 6) : JoinOk (Str.ofString "") ts = true := by
  unfold JoinOk
  rw [StrLaws.joinFits (B := 1) (fun y hy => by obtain ⟨c, rfl, _⟩ := h y hy; exact Nat.le_refl _) (by
    have e : (Str.ofString "").length = 0 := by decide +kernel
    rw [e]; omega)]
  rfl
theorem nm_lit {z : Str} (h : (decide (1 ≤ z.length) && decide (z.length ≤ 6) && z.cps.toList.all fun c => decide (97 ≤ c) && decide (c ≤ 122)) = true) : Nm z := by
  simp only [Bool.and_eq_true, decide_eq_true_eq, List.all_eq_true] at h
  exact ⟨h.1.1, h.1.2, fun c hc => h.2 c hc⟩
theorem az_at {r : Int} (h0 : 0 ≤ r) (h1 : r < 26) : atI (Str.ofString "abcdefghijklmnopqrstuvwxyz").cps.toList r = some (97 + r.toNat) := by
  have tab : ∀ i, i < 26 → atI (Str.ofString "abcdefghijklmnopqrstuvwxyz").cps.toList ((i : Nat) : Int) = some (97 + i) := by decide +kernel
  have := tab r.toNat (by omega)
  rwa [show ((r.toNat : Nat) : Int) = r by omega] at this
/-! ### numbers as texts -/
theorem num_nat (m : Nat) : (num (m : Int)).cps.toList = (Nat.toDigits 10 m).map Char.toNat := PySem.W.KIN.signs_num m
theorem num_len {n : Int} (h : 0 ≤ n) (hn : n < 10 ^ 30) : (num n).length ≤ 30 := by
  obtain ⟨m, rfl⟩ := Int.eq_ofNat_of_zero_le h
  rw [len_signs, num_nat, List.length_map]
  exact (Nat.length_toDigits_le_iff (by decide) (by decide)).mpr (by omega)
/-! ### texts by their first sign -/
/-! ### values -/
inductive Vl where
  | none | num (t b : Int) | txt (z : Str) | tru (b : Bool) | flt (w z : Str) (r c : Int)
  deriving DecidableEq
def faults : List Str := [Str.ofString "kind", Str.ofString "nought", Str.ofString "gone", Str.ofString "name", Str.ofString "shape", Str.ofString "blocked", Str.ofString "miss", Str.ofString "ring", Str.ofString "great"]
def VlOk : Vl → Prop
  | .num t b => Low t b ∧ t.natAbs < 10 ^ 30 ∧ b.natAbs < 10 ^ 30
  | .txt z => z.length ≤ 20 ∧ ∀ c ∈ z.cps.toList, c ∈ (Str.ofString "abcdefghijklmnopqrstuvwxyz0123456789 ").cps.toList
  | .flt w z r c => w ∈ faults ∧ Nm z ∧ 1 ≤ r ∧ r ≤ 16 ∧ 1 ≤ c ∧ c ≤ 8
  | _ => True
def ntext (t b : Int) : Str := if b = 1 then num t else num t ++ Str.ofString "/" ++ num b
def vtext : Vl → Str
  | .none => Str.ofString ""
  | .num t b => ntext t b
  | .txt z => Str.ofString "'" ++ z
  | .tru b => if b = true then Str.ofString "yes" else Str.ofString "no"
  | .flt w z r c => ((Str.ofString "!" ++ w) ++ Str.ofString " ") ++ cellTx z r c
def GTup (K : PySem.W.Frag) (mg : Str → Option Value) (x : Str) (xs : List V) : Prop := ∃ (a : Addr) (o : Obj), mg x = some (.ref a) ∧ K.lookup a = some o ∧ o.cls = .type "tuple" ∧ ∃ its n, o.data = .seq its n ∧ its.size ≤ sizeLine ∧ Vals xs its.toList
def tGT (K : PySem.W.Frag) (xs : List V) : TE := fun _ H Q => ∀ a, (∀ H', SqT K H' a xs) → Q (.ref a) H
/-- a value stands at p -/
def VlAt (H : Hp) (p : Addr) : Vl → Prop
  | .none => H p = some (.tup [.str (Str.ofString "none")])
  | .num t b => H p = some (.tup [.str (Str.ofString "number"), .int t, .int b])
  | .txt z => H p = some (.tup [.str (Str.ofString "text"), .str z])
  | .tru b => H p = some (.tup [.str (Str.ofString "truth"), .bl b])
  | .flt w z r c => ∃ q, H p = some (.tup [.str (Str.ofString "fault"), .str w, .ref q]) ∧ H q = some (.tup [.str z, .int r, .int c])
theorem VlAt.same {H H' : Hp} {p : Addr} {v : Vl} (h : VlAt H p v) (s : Same H H') : VlAt H' p v := by
  cases v with
  | none => exact s _ _ h
  | num t b => exact s _ _ h
  | txt z => exact s _ _ h
  | tru b => exact s _ _ h
  | flt w z r c => obtain ⟨q, a, b⟩ := h; exact ⟨q, s _ _ a, s _ _ b⟩
/-! ### promises -/
def spIsN : Sp := fun vs H Q _ => ∃ t b : Int, vs = [.int t, .int b] ∧ Low t b ∧ Q (.bl true) H
def spFew : Sp := fun vs H Q _ => ∃ i : Int, vs = [.int i] ∧ i.natAbs < 10 ^ 30 ∧ Q (.bl true) H
def spShort : Sp := fun vs H Q _ => ∃ t b : Int, vs = [.int t, .int b] ∧ Low t b ∧ t.natAbs < 10 ^ 30 ∧ b.natAbs < 10 ^ 30 ∧ Q (.bl true) H
def spIsT : Sp := fun vs H Q _ => ∃ z : Str, vs = [.str z] ∧ VlOk (.txt z) ∧ ∀ H', Same H H' → Q (.bl true) H'
def spFW : Sp := fun vs H Q _ => ∃ w : Str, vs = [.str w] ∧ w ∈ faults ∧ Q (.bl true) H
def spIsV : Sp := fun vs H Q _ => ∃ (p : Addr) (v : Vl), vs = [.ref p] ∧ VlOk v ∧ VlAt H p v ∧ ∀ H', Same H H' → Q (.bl true) H'
def spNT : Sp := fun vs H Q _ => ∃ t b : Int, vs = [.int t, .int b] ∧ t.natAbs < 10 ^ 30 ∧ b.natAbs < 10 ^ 30 ∧ Q (.str (ntext t b)) H
def spVT : Sp := fun vs H Q _ => ∃ (p : Addr) (v : Vl), vs = [.ref p] ∧ VlOk v ∧ VlAt H p v ∧ ∀ H', Same H H' → Q (.str (vtext v)) H'
def spNM : Sp := fun vs H Q _ => ∃ t b : Int, vs = [.str (ntext t b)] ∧ Low t b ∧ t.natAbs < 10 ^ 30 ∧ b.natAbs < 10 ^ 30 ∧ ∀ (p : Addr) (H' : Hp), Same H H' → VlAt H' p (.num t b) → Q (.ref p) H'
def spFM : Sp := fun vs H Q _ => ∃ (w z : Str) (r c : Int), vs = [.str ((w ++ Str.ofString " ") ++ cellTx z r c)] ∧ VlOk (.flt w z r c) ∧ ∀ (p : Addr) (H' : Hp), Same H H' → VlAt H' p (.flt w z r c) → Q (.ref p) H'
def spTM : Sp := fun vs H Q _ => ∃ v : Vl, vs = [.str (vtext v)] ∧ VlOk v ∧ ∀ (p : Addr) (H' : Hp), Same H H' → VlAt H' p v → Q (.ref p) H'
def spFar5 : Sp := fun vs H Q _ => ∃ (p : Addr) (k : Nat), vs = [.ref p] ∧ PenAt H p k ∧ k ≤ 90000 ∧ ∀ (r : Int) (H' : Hp), r.natAbs < 10 ^ 30 - 3 → PenAt H' p (k + 5) → KeepX p H H' → Q (.int r) H'
def spNum5 : Sp := fun vs H Q _ => ∃ (p : Addr) (k : Nat), vs = [.ref p] ∧ PenAt H p k ∧ k ≤ 80000 ∧ ∀ (q : Addr) (x y : Int) (H' : Hp), H' q = some (.tup [.int x, .int y]) → Low x y → x.natAbs < 10 ^ 30 → y.natAbs < 10 ^ 30 → PenAt H' p (k + 12) → KeepX p H H' → Q (.ref q) H'
def spVal : Sp := fun vs H Q _ => ∃ (p : Addr) (k : Nat), vs = [.ref p] ∧ PenAt H p k ∧ k ≤ 60000 ∧ ∀ (q : Addr) (v : Vl) (H' : Hp), VlOk v → VlAt H' q v → PenAt H' p (k + 40) → KeepX p H H' → Q (.ref q) H'
def spSame : Sp := fun vs H Q _ => ∃ (p q : Addr) (v : Vl), vs = [.ref p, .ref q] ∧ VlAt H p v ∧ VlAt H q v ∧ ∀ H', Same H H' → Q (.bl true) H'

theorem log30 {n : Nat} (h : n < 10 ^ 30) : n.log2 < 1920 := by
  rcases Nat.eq_zero_or_pos n with e | e
  · subst e; decide
  · exact Nat.lt_trans ((Nat.log2_lt (by omega)).mpr (Nat.lt_trans h (show 10 ^ 30 < 2 ^ 100 by decide))) (by decide)

theorem pick37 {r : Int} (h0 : 0 ≤ r) (h1 : r < 37) : ∃ c, atI (Str.ofString "abcdefghijklmnopqrstuvwxyz0123456789 ").cps.toList r = some c ∧ c ∈ (Str.ofString "abcdefghijklmnopqrstuvwxyz0123456789 ").cps.toList := by
  have hl : (Str.ofString "abcdefghijklmnopqrstuvwxyz0123456789 ").cps.toList.length = 37 := by decide +kernel
  obtain ⟨j, rfl⟩ := Int.eq_ofNat_of_zero_le h0
  have hj : j < (Str.ofString "abcdefghijklmnopqrstuvwxyz0123456789 ").cps.toList.length := by rw [hl]; omega
  exact ⟨_, atI_nat (List.getElem?_eq_getElem hj), List.getElem_mem _⟩
theorem one_any {P : Nat → Prop} {ts : List Str} (h : ∀ t ∈ ts, ∃ c, t = ⟨#[c]⟩ ∧ P c) : (ts.flatMap fun t => t.cps.toList).length = ts.length ∧ ∀ c ∈ ts.flatMap (fun t => t.cps.toList), P c := by
  induction ts with
  | nil => exact ⟨rfl, fun c hc => by cases hc⟩
  | cons t r ih =>
    obtain ⟨i1, i2⟩ := ih fun x hx => h x (List.mem_cons_of_mem _ hx)
    obtain ⟨c, rfl, hc⟩ := h t (List.mem_cons_self ..)
    rw [List.flatMap_cons]
    refine ⟨by rw [List.length_append, i1]; show 1 + r.length = r.length + 1; omega, fun d hd => ?_⟩
    rcases List.mem_append.mp hd with q | q
    · have e : d = c := by simpa using q
      rw [e]; exact hc
    · exact i2 d q
theorem join_txt {ts : List Str} (h : ∀ t ∈ ts, ∃ c, t = ⟨#[c]⟩ ∧ c ∈ (Str.ofString "abcdefghijklmnopqrstuvwxyz0123456789 ").cps.toList) (h6 : ts.length ≤ 20) : VlOk (.txt (Txt.join (Str.ofString "") ts)) ∧ JoinOk (Str.ofString "") ts = true := by
  have e : (Txt.join (Str.ofString "") ts).cps.toList = ts.flatMap fun t => t.cps.toList := by
    unfold Txt.join
    rw [StrLaws.glued_eq_join]
    exact join_signs (by decide +kernel) ts
  obtain ⟨a, b⟩ := one_any h
  refine ⟨⟨by rw [len_signs, e, a]; exact h6, by rw [e]; exact b⟩, ?_⟩
  unfold JoinOk
  rw [StrLaws.joinFits (B := 1) (fun y hy => by obtain ⟨c, rfl, _⟩ := h y hy; exact Nat.le_refl _) (by
    have e : (Str.ofString "").length = 0 := by decide +kernel
    rw [e]; omega)]
  rfl
theorem VlAt.keep {H H' : Hp} {p q : Addr} {v : Vl} {xs : List V} (h : VlAt H q v) (hp : H p = some (.lst xs)) (s : KeepX p H H') : VlAt H' q v := by
  have ne : ∀ {b : Addr} {ys : List V}, H b = some (.tup ys) → b ≠ p := fun e => ne_of e hp (by intro z; cases z)
  cases v with
  | none => exact s _ _ (ne h) h
  | num t b => exact s _ _ (ne h) h
  | txt z => exact s _ _ (ne h) h
  | tru b => exact s _ _ (ne h) h
  | flt w z r c => obtain ⟨u, a, b⟩ := h; exact ⟨u, s _ _ (ne a) a, s _ _ (ne b) b⟩
/-- v != u of two values that are one -/
def rNeV : R2 := fun x y H Q => ∃ a b v, x = .ref a ∧ y = .ref b ∧ VlAt H a v ∧ VlAt H b v ∧ Q (.bl false) H
/-! ### a pen that is a dict -/
theorem kid1 {α : Type} {us : List α} (h : us.length = 1) : ∃ a, us = [a] := match us, h with | [a], _ => ⟨a, rfl⟩
theorem kid2 {α : Type} {us : List α} (h : us.length = 2) : ∃ a b, us = [a, b] := match us, h with | [a, b], _ => ⟨a, b, rfl⟩
theorem kid3 {α : Type} {us : List α} (h : us.length = 3) : ∃ a b c, us = [a, b, c] := match us, h with | [a, b, c], _ => ⟨a, b, c, rfl⟩
abbrev kS (z : String) : Key := .inr (Str.ofString z)
def penK (a : Addr) (t r m u : Int) : List (Key × V) := [(kS "cells", .ref a), (kS "at", .int t), (kS "rest", .int r), (kS "mode", .int m), (kS "used", .int u)]
section
variable {H : Hp} {p a : Addr} {t r m u : Int}
theorem gCells (h : H p = some (.dK (penK a t r m u))) : DGet H p (.str (Str.ofString "cells")) (some (.ref a)) := DGet.k (k := kS "cells") h
theorem gAt (h : H p = some (.dK (penK a t r m u))) : DGet H p (.str (Str.ofString "at")) (some (.int t)) := DGet.k (k := kS "at") h
theorem gRest (h : H p = some (.dK (penK a t r m u))) : DGet H p (.str (Str.ofString "rest")) (some (.int r)) := DGet.k (k := kS "rest") h
theorem gMode (h : H p = some (.dK (penK a t r m u))) : DGet H p (.str (Str.ofString "mode")) (some (.int m)) := DGet.k (k := kS "mode") h
theorem gUsed (h : H p = some (.dK (penK a t r m u))) : DGet H p (.str (Str.ofString "used")) (some (.int u)) := DGet.k (k := kS "used") h
theorem pAt (h : H p = some (.dK (penK a t r m u))) (v : Int) : DPut H p (.str (Str.ofString "at")) (.int v) (upd H p (.dK (penK a v r m u))) := DPut.k (k := kS "at") h (by show 5 < sizeLine; decide)
theorem pRest (h : H p = some (.dK (penK a t r m u))) (v : Int) : DPut H p (.str (Str.ofString "rest")) (.int v) (upd H p (.dK (penK a t v m u))) := DPut.k (k := kS "rest") h (by show 5 < sizeLine; decide)
theorem pUsed (h : H p = some (.dK (penK a t r m u))) (v : Int) : DPut H p (.str (Str.ofString "used")) (.int v) (upd H p (.dK (penK a t r m v))) := DPut.k (k := kS "used") h (by show 5 < sizeLine; decide)
end
theorem SqL.kx {K : PySem.W.Frag} {H H' : Hp} {a p : Addr} {xs : List V} {kvs : List (Key × V)} (h : SqL K H a xs) (hp : H p = some (.dK kvs)) (s : KeepX p H H') : SqL K H' a xs := by
  rcases h with (h | ⟨o, h⟩) | h
  · exact .inl (.inl (s _ _ (ne_of h hp (by intro z; cases z)) h))
  · exact .inl (.inr ⟨o, s _ _ (ne_of h hp (by intro z; cases z)) h⟩)
  · exact .inr h
/-- the pen over the script S stands at p, asked k times at most -/
def PenD (K : PySem.W.Frag) (S : Addr × List Int) (H : Hp) (p : Addr) (k : Nat) : Prop := ∃ t r m u : Int, H p = some (.dK (penK S.1 t r m u)) ∧ SqL K H S.1 (S.2.map V.int) ∧ 0 ≤ t ∧ 0 ≤ u ∧ u ≤ k ∧ (m = 0 ∨ (m = 1 ∧ 0 < S.2.length)) ∧ S.2.length ≤ 63
section
variable {K : PySem.W.Frag} {S : Addr × List Int} {H H' : Hp} {p D : Addr} {k n : Nat}
theorem PenD.same (h : PenD K S H p k) (s : Same H H') : PenD K S H' p k := let ⟨t, r, m, u, e, q, z⟩ := h; ⟨t, r, m, u, s _ _ e, s.seq q, z⟩
theorem PenD.mono (h : PenD K S H p k) (s : k ≤ n) : PenD K S H p n := let ⟨t, r, m, u, e, q, x, y, v, w⟩ := h; ⟨t, r, m, u, e, q, x, y, by omega, w⟩
theorem PenD.ob (h : PenD K S H p k) : ∃ kvs, H p = some (.dK kvs) := let ⟨_, _, _, _, e, _⟩ := h; ⟨_, e⟩
theorem PenD.ne (h : PenD K S H p k) (hD : H D = none) : D ≠ p := fun z => by
  obtain ⟨kvs, e⟩ := h.ob
  rw [← z, hD] at e; cases e
/-- a store into what was made behind the pen -/
theorem PenD.put {o : HO} (h0 : PenD K S H p k) (hD : H D = none) (h : PenD K S H' p n) : PenD K S (upd H' D o) p n := by
  have ne := h0.ne hD
  obtain ⟨_, _, _, _, _, q0, _⟩ := h0
  obtain ⟨t, r, m, u, e, q, z⟩ := h
  refine ⟨t, r, m, u, by rw [upd_ne (Ne.symm ne)]; exact e, ?_, z⟩
  rcases q0 with (q0 | ⟨o0, q0⟩) | q0
  · have na := ne_of_none q0 hD
    rcases q with (q | ⟨o1, q⟩) | q
    · exact .inl (.inl (by rw [upd_ne na]; exact q))
    · exact .inl (.inr ⟨o1, by rw [upd_ne na]; exact q⟩)
    · exact .inr q
  · have na := ne_of_none q0 hD
    rcases q with (q | ⟨o1, q⟩) | q
    · exact .inl (.inl (by rw [upd_ne na]; exact q))
    · exact .inl (.inr ⟨o1, by rw [upd_ne na]; exact q⟩)
    · exact .inr q
  · exact .inr q0
end
def spPenD (K : PySem.W.Frag) : Sp := fun vs H Q _ => ∃ (a : Addr) (ns : List Int), vs = [.ref a] ∧ SqL K H a (ns.map V.int) ∧ ns.length ≤ 63 ∧ ∀ (p : Addr) (H' : Hp), H p = none → PenD K (a, ns) H' p 0 → Same H H' → Q (.ref p) H'
def spTakD (K : PySem.W.Frag) : Sp := fun vs H Q _ => ∃ (p : Addr) (m : Int) (k : Nat) (S : Addr × List Int), vs = [.ref p, .int m] ∧ 0 < m ∧ Sz 4000 m ∧ PenD K S H p k ∧ k ≤ 10000000 ∧ ∀ (r : Int) (H' : Hp), 0 ≤ r → r < m → PenD K S H' p (k + 1) → KeepX p H H' → Q (.int r) H'
theorem atI_ints {ns : List Int} {r : Int} (h0 : 0 ≤ r) (h1 : r < (ns.length : Int)) : ∃ v, atI (ns.map V.int) r = some (V.int v) := by
  obtain ⟨j, rfl⟩ : ∃ j : Nat, r = (j : Int) := ⟨r.toNat, by omega⟩
  have hj : j < ns.length := by omega
  exact ⟨ns[j], atI_nat (by rw [List.getElem?_map, List.getElem?_eq_getElem hj]; rfl)⟩

/-! ### words -/
abbrev vS (z : String) : V := .str (Str.ofString z)
def KN14 : List V := [vS "sum", vS "yes", vS "if", vS "grid", vS "outer", vS "no", vS "su", vS "sums", vS "iff", vS "yess", vS "neg", vS "own", vS "abcdef", vS "z"]
def RS1 : List V := [vS "yes", vS "no", vS "if", vS "sum", vS "count", vS "least", vS "most", vS "sumif", vS "find", vS "turn", vS "stack"]
def RS2 : List V := [vS "grid", vS "outer"]
/-- a word that stands for itself -/
def rsv (z : Str) : Bool := inV (.str z) RS1 || inV (.str z) RS2
def knB (j : Nat) : Bool := match KN14[j]? with
  | some (.str z) => (decide (1 ≤ z.length) && decide (z.length ≤ 6) && z.cps.toList.all fun c => decide (97 ≤ c) && decide (c ≤ 122)) && (decide (j < 6) || !rsv z)
  | _ => false
theorem kn14 {r : Int} (h0 : 0 ≤ r) (h1 : r < 14) : ∃ z, atI KN14 r = some (V.str z) ∧ Nm z ∧ (6 ≤ r → rsv z = false) := by
  obtain ⟨j, rfl⟩ : ∃ j : Nat, r = (j : Int) := ⟨r.toNat, by omega⟩
  have hj : j < 14 := by omega
  have all : ∀ j < 14, knB j = true := by decide +kernel
  have h := all j hj
  unfold knB at h
  split at h
  · rename_i z e
    rw [Bool.and_eq_true] at h
    refine ⟨z, atI_nat e, nm_lit h.1, fun h6 => ?_⟩
    have h2 := h.2
    rw [Bool.or_eq_true] at h2
    rcases h2 with q | q
    · exact absurd (of_decide_eq_true q) (by omega)
    · simpa using q
  · exact absurd h Bool.false_ne_true
def spLet (K : PySem.W.Frag) : Sp := fun vs H Q _ => ∃ (p : Addr) (fr : Bool) (n : Nat) (S : Addr × List Int), vs = [.ref p, .bl fr] ∧ PenD K S H p n ∧ n ≤ 9500000 ∧ ∀ (z : Str) (H' : Hp), Nm z → (fr = true → rsv z = false) → PenD K S H' p (n + 8) → KeepX p H H' → Q (.str z) H'
def shV : Option Str → V
  | none => .non
  | some z => .str z
def ShOk : Option Str → Prop
  | none => True
  | some z => Nm z
def spShD (K : PySem.W.Frag) : Sp := fun vs H Q _ => ∃ (p : Addr) (n : Nat) (S : Addr × List Int), vs = [.ref p] ∧ PenD K S H p n ∧ n ≤ 9000000 ∧ ∀ (s : Option Str) (H' : Hp), ShOk s → PenD K S H' p (n + 9) → KeepX p H H' → Q (shV s) H'

/-! ### formulas -/
/-- tuples stay -/
def Kp (H H' : Hp) : Prop := ∀ a xs, H a = some (.tup xs) → H' a = some (.tup xs)
theorem Kp.same {H H' : Hp} (s : Same H H') : Kp H H' := fun a xs e => s _ _ e
theorem Kp.keepD {H H' : Hp} {p : Addr} {kvs : List (Key × V)} (hp : H p = some (.dK kvs)) (s : KeepX p H H') : Kp H H' := fun a xs e => s _ _ (ne_of e hp (by intro z; cases z)) e
theorem Kp.pen {K : PySem.W.Frag} {S : Addr × List Int} {H H' : Hp} {p : Addr} {n : Nat} (h : PenD K S H p n) (s : KeepX p H H') : Kp H H' := let ⟨_, e⟩ := h.ob; Kp.keepD e s
theorem Kp.lst {H H' : Hp} {p : Addr} {ys : List V} (hp : H p = some (.lst ys)) (s : KeepX p H H') : Kp H H' := fun a xs e => s _ _ (ne_of e hp (by intro z; cases z)) e
theorem Kp.trans {H H1 H2 : Hp} (a : Kp H H1) (b : Kp H1 H2) : Kp H H2 := fun c xs e => b c xs (a c xs e)
structure Cor where
  r : Int
  c : Int
  x : Bool
  y : Bool
abbrev corV (c : Cor) : List V := [.int c.r, .int c.c, .bl c.x, .bl c.y]
structure CorOk (c : Cor) : Prop where
  r0 : 1 ≤ c.r
  r1 : c.r ≤ 16
  c0 : 1 ≤ c.c
  c1 : c.c ≤ 8
inductive Lf where
  | val (v : Vl) | cell (s : Option Str) (c : Cor) | rng (s : Option Str) (c d : Cor) | cols (s : Option Str) (a : Int) (x : Bool) (b : Int) (y : Bool) | gone | nam (z : Str) | par (i : Int)
def LfAt (H : Hp) (a : Addr) : Lf → Prop
  | .val v => ∃ q, H a = some (.tup [vS "value", .ref q]) ∧ VlAt H q v
  | .cell s c => ∃ q, H a = some (.tup [vS "cell", shV s, .ref q]) ∧ H q = some (.tup (corV c))
  | .rng s c d => ∃ q u, H a = some (.tup [vS "range", shV s, .ref q, .ref u]) ∧ H q = some (.tup (corV c)) ∧ H u = some (.tup (corV d))
  | .cols s i x j y => ∃ q u, H a = some (.tup [vS "columns", shV s, .ref q, .ref u]) ∧ H q = some (.tup [.int i, .bl x]) ∧ H u = some (.tup [.int j, .bl y])
  | .gone => H a = some (.tup [vS "gone"])
  | .nam z => H a = some (.tup [vS "name", .str z])
  | .par i => H a = some (.tup [vS "param", .int i])
def VlW : Vl → Prop
  | .num t b => b = 1 ∧ 0 ≤ t ∧ t ≤ 999999999
  | .txt _ => True
  | .tru _ => True
  | _ => False
def LfOk (pr : Nat) : Lf → Prop
  | .val v => VlOk v ∧ VlW v
  | .cell s c => ShOk s ∧ CorOk c
  | .rng s c d => ShOk s ∧ CorOk c ∧ CorOk d ∧ c.r ≤ d.r ∧ c.c ≤ d.c
  | .cols s i _ j _ => ShOk s ∧ 1 ≤ i ∧ i ≤ j ∧ j ≤ 8
  | .gone => True
  | .nam z => Nm z ∧ rsv z = false
  | .par i => 0 ≤ i ∧ i < pr
theorem VlAt.kp {H H' : Hp} {p : Addr} {v : Vl} (h : VlAt H p v) (s : Kp H H') : VlAt H' p v := by
  cases v with
  | none => exact s _ _ h
  | num t b => exact s _ _ h
  | txt z => exact s _ _ h
  | tru b => exact s _ _ h
  | flt w z r c => obtain ⟨q, a, b⟩ := h; exact ⟨q, s _ _ a, s _ _ b⟩
theorem LfAt.kp {H H' : Hp} {a : Addr} {l : Lf} (h : LfAt H a l) (s : Kp H H') : LfAt H' a l := by
  cases l with
  | val v => obtain ⟨q, h1, h2⟩ := h; exact ⟨q, s _ _ h1, VlAt.kp h2 s⟩
  | cell z c => obtain ⟨q, h1, h2⟩ := h; exact ⟨q, s _ _ h1, s _ _ h2⟩
  | rng z c d => obtain ⟨q, u, h1, h2, h3⟩ := h; exact ⟨q, u, s _ _ h1, s _ _ h2, s _ _ h3⟩
  | cols z i x j y => obtain ⟨q, u, h1, h2, h3⟩ := h; exact ⟨q, u, s _ _ h1, s _ _ h2, s _ _ h3⟩
  | gone => exact s _ _ h
  | nam z => exact s _ _ h
  | par i => exact s _ _ h
def spCorD (K : PySem.W.Frag) : Sp := fun vs H Q _ => ∃ (p : Addr) (r c : Int) (n : Nat) (S : Addr × List Int), vs = [.ref p, .int r, .int c] ∧ PenD K S H p n ∧ n ≤ 9000000 ∧ ∀ (q : Addr) (x y : Bool) (H' : Hp), H' q = some (.tup (corV ⟨r, c, x, y⟩)) → PenD K S H' p (n + 2) → KeepX p H H' → Q (.ref q) H'
def spRefD (K : PySem.W.Frag) : Sp := fun vs H Q _ => ∃ (p : Addr) (w : Int) (n : Nat) (S : Addr × List Int), vs = [.ref p, .int w] ∧ PenD K S H p n ∧ n ≤ 8000000 ∧ ∀ (a : Addr) (l : Lf) (H' : Hp), LfAt H' a l → (∀ pr, LfOk pr l) → PenD K S H' p (n + 30) → KeepX p H H' → Q (.ref a) H'
def spValD (K : PySem.W.Frag) : Sp := fun vs H Q _ => ∃ (p : Addr) (w : Int) (n : Nat) (S : Addr × List Int), vs = [.ref p, .int w] ∧ PenD K S H p n ∧ n ≤ 8000000 ∧ ∀ (q : Addr) (v : Vl) (H' : Hp), VlAt H' q v → VlOk v → VlW v → PenD K S H' p (n + 30) → KeepX p H H' → Q (.ref q) H'
def spLeafD (K : PySem.W.Frag) : Sp := fun vs H Q _ => ∃ (p : Addr) (pr : Nat) (n : Nat) (S : Addr × List Int), vs = [.ref p, .int pr] ∧ pr ≤ 3 ∧ PenD K S H p n ∧ n ≤ 7000000 ∧ ∀ (a : Addr) (l : Lf) (H' : Hp), LfAt H' a l → LfOk pr l → PenD K S H' p (n + 40) → KeepX p H H' → Q (.ref a) H'
theorem pickN {r : Int} (h0 : 0 ≤ r) (h1 : r < 3) : ∃ v : Int, atI [V.int 10, V.int 1000, V.int 1000000000] r = some (V.int v) ∧ 0 < v ∧ v ≤ 1000000000 := by
  have : r = 0 ∨ r = 1 ∨ r = 2 := by omega
  rcases this with rfl | rfl | rfl
  · exact ⟨10, rfl, by decide, by decide⟩
  · exact ⟨1000, rfl, by decide, by decide⟩
  · exact ⟨1000000000, rfl, by decide, by decide⟩
theorem pickT {r : Int} (h0 : 0 ≤ r) (h1 : r < 2) : ∃ v : Int, atI [V.int 4, V.int 21] r = some (V.int v) ∧ 0 < v ∧ v ≤ 21 := by
  have : r = 0 ∨ r = 1 := by omega
  rcases this with rfl | rfl
  · exact ⟨4, rfl, by decide, by decide⟩
  · exact ⟨21, rfl, by decide, by decide⟩
theorem low_one {n : Int} : Low n 1 := ⟨by decide, by simp⟩

theorem pick4 {r : Int} (h0 : 0 ≤ r) (h1 : r < 4) : ∃ v : Int, atI [V.int 0, V.int 0, V.int 1, V.int 2] r = some (V.int v) := by
  have : r = 0 ∨ r = 1 ∨ r = 2 ∨ r = 3 := by omega
  rcases this with rfl | rfl | rfl | rfl
  · exact ⟨0, rfl⟩
  · exact ⟨0, rfl⟩
  · exact ⟨1, rfl⟩
  · exact ⟨2, rfl⟩
/-! ### kinds -/
inductive Kd where
  | op (z : Str) | neg | own (z : Str) | sumif (z : Str) | grid (i j : Int) | wd (z : Str)
def frV : Kd → List V
  | .op z => [vS "op", .str z]
  | .neg => [vS "neg"]
  | .own z => [vS "own", .str z]
  | .sumif z => [vS "sumif", .str z]
  | .grid i j => [vS "grid", .int i, .int j]
  | .wd z => [.str z]
def layV (t : Addr) : Kd → List V → List V
  | .op z, us => vS "op" :: .str z :: us
  | .neg, us => vS "neg" :: us
  | .own z, _ => [vS "own", .str z, .ref t]
  | .sumif z, us => vS "sumif" :: (us.take 1 ++ .str z :: us.drop 1)
  | .grid i j, us => vS "grid" :: .int i :: .int j :: us
  | .wd z, us => .str z :: us
def isOwn : Kd → Bool
  | .own _ => true
  | _ => false
def OPS : List Str := ["+", "-", "*", "/", "&", "=", "<"].map Str.ofString
def WDS : List (Str × Nat) := [("if", 3), ("sum", 1), ("count", 1), ("least", 1), ("most", 1), ("find", 3), ("turn", 1), ("stack", 2), ("outer", 1)].map fun x => (Str.ofString x.1, x.2)
def KdOk : Kd → Nat → Prop
  | .op z, m => z ∈ OPS ∧ m = 2
  | .neg, m => m = 1
  | .own z, m => Nm z ∧ rsv z = false ∧ m ≤ 3
  | .sumif z, m => (z = Str.ofString "=" ∨ z = Str.ofString "<") ∧ m = 3
  | .grid i j, m => 1 ≤ i ∧ i ≤ 16 ∧ 1 ≤ j ∧ j ≤ 8 ∧ m = 2
  | .wd z, m => (z, m) ∈ WDS
theorem KdOk.le {k : Kd} {m : Nat} (h : KdOk k m) : m ≤ 3 := by
  cases k with
  | op z => have := h.2; omega
  | neg => have : m = 1 := h; omega
  | own z => exact h.2.2
  | sumif z => have := h.2; omega
  | grid i j => have := h.2.2.2.2; omega
  | wd z =>
    have h : (z, m) ∈ WDS := h
    have : ∀ x ∈ WDS, x.2 ≤ 3 := by decide +kernel
    exact this _ h
def spFrmD (K : PySem.W.Frag) : Sp := fun vs H Q _ => ∃ (p : Addr) (n : Nat) (S : Addr × List Int), vs = [.ref p] ∧ PenD K S H p n ∧ n ≤ 8000000 ∧ ∀ (a f : Addr) (k : Kd) (m : Nat) (H' : Hp), H' a = some (.tup [.ref f, .int m]) → H' f = some (.tup (frV k)) → KdOk k m → PenD K S H' p (n + 12) → KeepX p H H' → Q (.ref a) H'
def spMadD : Sp := fun vs H Q _ => ∃ (f l : Addr) (k : Kd) (us : List V), vs = [.ref f, .ref l] ∧ H f = some (.tup (frV k)) ∧ H l = some (.lst us) ∧ KdOk k us.length ∧ ∀ (a t : Addr) (H' : Hp), H' a = some (.tup (layV t k us)) → (isOwn k = true → H' t = some (.tup us)) → Same H H' → Q (.ref a) H'
theorem op7 {r : Int} (h0 : 0 ≤ r) (h1 : r < 7) : ∃ c, atI (Str.ofString "+-*/&=<").cps.toList r = some c ∧ (⟨#[c]⟩ : Str) ∈ OPS := by
  have : r = 0 ∨ r = 1 ∨ r = 2 ∨ r = 3 ∨ r = 4 ∨ r = 5 ∨ r = 6 := by omega
  rcases this with rfl | rfl | rfl | rfl | rfl | rfl | rfl
  all_goals exact ⟨_, rfl, by decide +kernel⟩
theorem op2 {r : Int} (h0 : 0 ≤ r) (h1 : r < 2) : ∃ c, atI (Str.ofString "=<").cps.toList r = some c ∧ ((⟨#[c]⟩ : Str) = Str.ofString "=" ∨ (⟨#[c]⟩ : Str) = Str.ofString "<") := by
  have : r = 0 ∨ r = 1 := by omega
  rcases this with rfl | rfl
  · exact ⟨_, rfl, .inl (by decide +kernel)⟩
  · exact ⟨_, rfl, .inr (by decide +kernel)⟩
def WD9 : List Str := ["if", "sum", "count", "least", "most", "find", "turn", "stack", "outer"].map Str.ofString
theorem wd9 {r : Int} (h0 : 0 ≤ r) (h1 : r < 9) : ∃ (z : Str) (j : Nat) (m : Nat), atI (WD9.map V.str) r = some (V.str z) ∧ WD9[j]? = some z ∧ (∀ i, i < j → WD9[i]? ≠ some z) ∧ atI [V.int 3, V.int 1, V.int 1, V.int 1, V.int 1, V.int 3, V.int 1, V.int 2, V.int 1] (j : Int) = some (V.int (m : Int)) ∧ (z, m) ∈ WDS := by
  have : r = 0 ∨ r = 1 ∨ r = 2 ∨ r = 3 ∨ r = 4 ∨ r = 5 ∨ r = 6 ∨ r = 7 ∨ r = 8 := by omega
  rcases this with rfl | rfl | rfl | rfl | rfl | rfl | rfl | rfl | rfl
  · exact ⟨_, 0, 3, rfl, rfl, by decide +kernel, rfl, by decide +kernel⟩
  · exact ⟨_, 1, 1, rfl, rfl, by decide +kernel, rfl, by decide +kernel⟩
  · exact ⟨_, 2, 1, rfl, rfl, by decide +kernel, rfl, by decide +kernel⟩
  · exact ⟨_, 3, 1, rfl, rfl, by decide +kernel, rfl, by decide +kernel⟩
  · exact ⟨_, 4, 1, rfl, rfl, by decide +kernel, rfl, by decide +kernel⟩
  · exact ⟨_, 5, 3, rfl, rfl, by decide +kernel, rfl, by decide +kernel⟩
  · exact ⟨_, 6, 1, rfl, rfl, by decide +kernel, rfl, by decide +kernel⟩
  · exact ⟨_, 7, 2, rfl, rfl, by decide +kernel, rfl, by decide +kernel⟩
  · exact ⟨_, 8, 1, rfl, rfl, by decide +kernel, rfl, by decide +kernel⟩

/-! ### trees -/
inductive Fm where
  | lf (l : Lf) | nd (k : Kd) (ps : List Fm)
inductive FmAt (H : Hp) : V → Fm → Prop where
  | lf {a : Addr} {l : Lf} (h : LfAt H a l) : FmAt H (.ref a) (.lf l)
  | nd {a t : Addr} {k : Kd} {us : List V} {ps : List Fm} (h : H a = some (.tup (layV t k us))) (ht : isOwn k = true → H t = some (.tup us)) (hl : us.length = ps.length)
      (hh : ∀ (j : Nat) (u : V) (f : Fm), us[j]? = some u → ps[j]? = some f → FmAt H u f) : FmAt H (.ref a) (.nd k ps)
theorem FmAt.kp {H H' : Hp} {v : V} {f : Fm} (h : FmAt H v f) (s : Kp H H') : FmAt H' v f := by
  induction h with
  | lf h => exact .lf (LfAt.kp h s)
  | nd h ht hl _ ih => exact .nd (s _ _ h) (fun z => s _ _ (ht z)) hl ih
abbrev FmsAt (H : Hp) (us : List V) (fs : List Fm) : Prop := Paired (FmAt H) us fs
theorem FmsAt.kp {H H' : Hp} {us : List V} {fs : List Fm} (h : FmsAt H us fs) (s : Kp H H') : FmsAt H' us fs := Paired.imp' (fun _ _ x => FmAt.kp x s) h
inductive FO (pr : Nat) : Nat → Fm → Prop where
  | lf {n : Nat} {l : Lf} (h : LfOk pr l) : FO pr (n + 1) (.lf l)
  | nd {n : Nat} {k : Kd} {ps : List Fm} (h : KdOk k ps.length) (hp : ∀ f ∈ ps, FO pr n f) : FO pr (n + 1) (.nd k ps)
theorem FO.mono {pr : Nat} {n : Nat} {f : Fm} (h : FO pr n f) : ∀ {m : Nat}, n ≤ m → FO pr m f := by
  induction h with
  | lf h =>
    intro m hm
    obtain ⟨m, rfl⟩ : ∃ k, m = k + 1 := ⟨m - 1, by omega⟩
    exact .lf h
  | nd h _ ih =>
    intro m hm
    obtain ⟨m, rfl⟩ : ∃ k, m = k + 1 := ⟨m - 1, by omega⟩
    exact .nd h fun f hf => ih f hf (by omega)
def spGrow (K : PySem.W.Frag) (n : Nat) : Sp := fun vs H Q _ => ∃ (p : Addr) (room d : Int) (pr : Nat) (c : Nat) (S : Addr × List Int), vs = [.ref p, .int room, .int d, .int pr] ∧ d = (n : Int) + 1 ∧ 1 ≤ room ∧ room ≤ 24 ∧ pr ≤ 3 ∧ PenD K S H p c ∧ c + 80 * room.toNat ≤ 6000000 ∧
  ∀ (v : V) (f : Fm) (H' : Hp), FmAt H' v f → FO pr (n + 1) f → PenD K S H' p (c + 80 * room.toNat) → KeepX p H H' → Q v H'
theorem psnoc {α β : Type} {F : α → β → Prop} : ∀ {xs : List α} {ys : List β} {x : α} {y : β}, Paired F xs ys → F x y → Paired F (xs ++ [x]) (ys ++ [y])
  | _, _, _, _, .nil, h => .cons h .nil
  | _, _, _, _, .cons r t, h => .cons r (psnoc t h)

/-! ### texts of formulas -/
theorem call_isinstC {X : Cx} {K : PySem.W.Frag} (h : X.K = K) : CallR X (.builtin "isinstance") (rIs K) := by cases h; exact call_isinst
abbrev zS (z : String) : Str := Str.ofString z
def stx : Option Str → Str
  | none => zS ""
  | some z => z ++ zS "!"
def colT (c : Int) (x : Bool) : Str := if x = true then zS "$" ++ colL c else colL c
def rowT (r : Int) (x : Bool) : Str := if x = true then zS "$" ++ num r else num r
def corT (c : Cor) : Str := colT c.c c.y ++ rowT c.r c.x
def vtx : Vl → Str
  | .num t _ => num t
  | .txt z => (zS "\"" ++ z) ++ zS "\""
  | .tru b => if b = true then zS "yes" else zS "no"
  | _ => zS ""
def ltx : Lf → Str
  | .val v => vtx v
  | .cell s c => stx s ++ corT c
  | .rng s c d => ((stx s ++ corT c) ++ zS ":") ++ corT d
  | .cols s i x j y => ((stx s ++ colT i x) ++ zS ":") ++ colT j y
  | .gone => zS "#"
  | .nam z => z
  | .par i => zS "?" ++ num i
theorem stx_len {s : Option Str} (h : ShOk s) : (stx s).length ≤ 7 := by
  cases s with
  | none => show (zS "").length ≤ 7; decide +kernel
  | some z =>
    have := (show Nm z from h).hi
    have e : (zS "!").length = 1 := by decide +kernel
    show (z ++ zS "!").length ≤ 7
    rw [len_app]; omega
theorem colT_len (c : Int) (x : Bool) : (colT c x).length ≤ 2 := by
  have e : (zS "$").length = 1 := by decide +kernel
  have e2 : (colL c).length = 1 := rfl
  unfold colT
  split
  · rw [len_app]; omega
  · omega
theorem rowT_len {r : Int} (h0 : 1 ≤ r) (h1 : r ≤ 16) (x : Bool) : (rowT r x).length ≤ 3 := by
  have e : (zS "$").length = 1 := by decide +kernel
  have e2 := (num_dg h0 h1).2
  unfold rowT
  split
  · rw [len_app]; omega
  · omega
theorem corT_len {c : Cor} (h : CorOk c) : (corT c).length ≤ 5 := by
  have a := colT_len c.c c.y
  have b := rowT_len h.r0 h.r1 c.x
  unfold corT
  rw [len_app]; omega
theorem ltx_len {pr : Nat} {l : Lf} (h : LfOk pr l) (hp : pr ≤ 3) : (ltx l).length ≤ 40 := by
  cases l with
  | val v =>
    obtain ⟨ok, w⟩ := h
    cases v with
    | none => exact w.elim
    | num t b =>
      have := num_len (n := t) w.2.1 (by have := w.2.2; omega)
      show (num t).length ≤ 40
      omega
    | txt z =>
      have h20 : z.length ≤ 20 := ok.1
      have e : (zS "\"").length = 1 := by decide +kernel
      show ((zS "\"" ++ z) ++ zS "\"").length ≤ 40
      rw [len_app, len_app]; omega
    | tru b => cases b <;> (show (zS _).length ≤ 40; decide +kernel)
    | flt w z r c => exact w.elim
  | cell s c =>
    have a := stx_len h.1
    have b := corT_len h.2
    show (stx s ++ corT c).length ≤ 40
    rw [len_app]; omega
  | rng s c d =>
    have a := stx_len h.1
    have b := corT_len h.2.1
    have b2 := corT_len h.2.2.1
    have e : (zS ":").length = 1 := by decide +kernel
    show (((stx s ++ corT c) ++ zS ":") ++ corT d).length ≤ 40
    rw [len_app, len_app, len_app]; omega
  | cols s i x j y =>
    have a := stx_len h.1
    have b := colT_len i x
    have b2 := colT_len j y
    have e : (zS ":").length = 1 := by decide +kernel
    show (((stx s ++ colT i x) ++ zS ":") ++ colT j y).length ≤ 40
    rw [len_app, len_app, len_app]; omega
  | gone => show (zS "#").length ≤ 40; decide +kernel
  | nam z => have := h.1.hi; show z.length ≤ 40; omega
  | par i =>
    have := num_len (n := i) h.1 (by have := h.2; omega)
    have e : (zS "?").length = 1 := by decide +kernel
    show (zS "?" ++ num i).length ≤ 40
    rw [len_app]; omega
def opT (z : Str) : Int := if z = zS "=" then 1 else if z = zS "<" then 1 else if z = zS "&" then 2 else if z = zS "+" then 3 else if z = zS "-" then 3 else if z = zS "*" then 4 else 4
def tgt : Fm → Int
  | .nd (.op z) _ => opT z
  | .nd .neg _ => 5
  | _ => 9
def brk (b : Bool) (t : Str) : Str := if b = true then (zS "(" ++ t) ++ zS ")" else t
def callT (z : Str) (ts : List Str) : Str := ((z ++ zS "(") ++ Txt.join (zS ";") ts) ++ zS ")"
def ktx : Kd → List Int → List Str → Str
  | .op z, [g1, g2], [t1, t2] => (brk (decide (g1 < opT z)) t1 ++ z) ++ brk (decide (g2 < opT z + 1)) t2
  | .neg, [g], [t] => zS "-" ++ brk (decide (g < 5)) t
  | .own z, _, ts => callT z ts
  | .sumif z, _, ts => callT (zS "sumif") (ts.take 1 ++ z :: ts.drop 1)
  | .grid i j, _, ts => callT (zS "grid") (num i :: num j :: ts)
  | .wd z, _, ts => callT z ts
  | _, _, _ => zS ""
mutual
def ftx : Fm → Str
  | .lf l => ltx l
  | .nd k ps => ktx k (ps.map tgt) (ftxs ps)
def ftxs : List Fm → List Str
  | [] => []
  | f :: fs => ftx f :: ftxs fs
end
theorem ftxs_map : ∀ fs : List Fm, ftxs fs = fs.map ftx
  | [] => by rw [ftxs]; rfl
  | f :: fs => by rw [ftxs, ftxs_map fs]; rfl
theorem ftx_nd (k : Kd) (ps : List Fm) : ftx (.nd k ps) = ktx k (ps.map tgt) (ps.map ftx) := by rw [ftx, ftxs_map]
theorem ftx_lf (l : Lf) : ftx (.lf l) = ltx l := by rw [ftx]
def LB : Nat → Nat
  | 0 => 40
  | n + 1 => 4 * LB n + 100
theorem LB_lo : ∀ n, 40 ≤ LB n
  | 0 => Nat.le_refl _
  | n + 1 => by show 40 ≤ 4 * LB n + 100; omega
theorem join_len {B : Nat} : ∀ ts : List Str, (∀ t ∈ ts, t.length ≤ B) → (Str.join (zS ";") ts).length ≤ ts.length * (B + 1)
  | [], _ => Nat.zero_le _
  | [x], h => by
    have := h x (by simp)
    show x.length ≤ 1 * (B + 1)
    omega
  | x :: y :: r, h => by
    have ih := join_len (y :: r) fun t ht => h t (List.mem_cons_of_mem _ ht)
    have hx := h x (by simp)
    have e : (zS ";").length = 1 := by decide +kernel
    show (x ++ zS ";" ++ Str.join (zS ";") (y :: r)).length ≤ (r.length + 1 + 1) * (B + 1)
    rw [len_app, len_app, Nat.add_mul (r.length + 1)]
    have ih' : (Str.join (zS ";") (y :: r)).length ≤ (r.length + 1) * (B + 1) := ih
    omega
theorem callT_len {z : Str} {ts : List Str} {B : Nat} (hz : z.length ≤ 6) (h : ∀ t ∈ ts, t.length ≤ B) (hn : ts.length ≤ 5) : (callT z ts).length ≤ ts.length * (B + 1) + 8 ∧ (Txt.join (zS ";") ts).length ≤ ts.length * (B + 1) := by
  have e1 : (zS "(").length = 1 := by decide +kernel
  have e2 : (zS ")").length = 1 := by decide +kernel
  have j : (Txt.join (zS ";") ts).length ≤ ts.length * (B + 1) := by
    unfold Txt.join
    rw [StrLaws.glued_eq_join]
    exact join_len ts h
  refine ⟨?_, j⟩
  unfold callT
  rw [len_app, len_app, len_app]
  omega
theorem brk_len (b : Bool) (t : Str) : (brk b t).length ≤ t.length + 2 := by
  have e1 : (zS "(").length = 1 := by decide +kernel
  have e2 : (zS ")").length = 1 := by decide +kernel
  unfold brk
  split
  · rw [len_app, len_app]; omega
  · omega
theorem jo_ok {ts : List Str} {B : Nat} (h : ∀ t ∈ ts, t.length ≤ B) (hn : ts.length ≤ 5) (hB : B ≤ 3000000) : JoinOk (zS ";") ts = true := by
  unfold JoinOk
  rw [StrLaws.joinFits (B := B) h (by
    have e : (zS ";").length = 1 := by decide +kernel
    rw [e]
    have : ts.length * B ≤ 5 * 3000000 := Nat.mul_le_mul hn hB
    omega)]
  rfl
theorem ops_len {z : Str} (h : z ∈ OPS) : z.length = 1 := by
  have : ∀ x ∈ OPS, x.length = 1 := by decide +kernel
  exact this z h
theorem ins_mem {z : Str} {ts : List Str} {B : Nat} (hz : z.length ≤ B) (h : ∀ t ∈ ts, t.length ≤ B) : ∀ t ∈ ts.take 1 ++ z :: ts.drop 1, t.length ≤ B := fun t ht => by
  rcases List.mem_append.mp ht with q | q
  · exact h t (List.mem_of_mem_take q)
  · rcases List.mem_cons.mp q with q | q
    · rw [q]; exact hz
    · exact h t (List.mem_of_mem_drop q)
theorem num_s {i : Int} (h0 : 1 ≤ i) (h1 : i ≤ 16) : (num i).length ≤ 2 := (num_dg h0 h1).2
theorem ktx_len {k : Kd} {gs : List Int} {ts : List Str} {B : Nat} (ok : KdOk k ts.length) (hg : gs.length = ts.length) (hB : 40 ≤ B) (h : ∀ t ∈ ts, t.length ≤ B) : (ktx k gs ts).length ≤ 4 * B + 100 := by
  cases k with
  | op z =>
    obtain ⟨hz, h2⟩ := ok
    match ts, gs, h2, hg with
    | [t1, t2], [g1, g2], _, _ =>
      have a := brk_len (decide (g1 < opT z)) t1
      have b := brk_len (decide (g2 < opT z + 1)) t2
      have c := ops_len hz
      have h1 := h t1 (by simp)
      have h2 := h t2 (by simp)
      show ((brk (decide (g1 < opT z)) t1 ++ z) ++ brk (decide (g2 < opT z + 1)) t2).length ≤ _
      rw [len_app, len_app]; omega
  | neg =>
    match ts, gs, (show ts.length = 1 from ok), hg with
    | [t], [g], _, _ =>
      have a := brk_len (decide (g < 5)) t
      have h1 := h t (by simp)
      have e : (zS "-").length = 1 := by decide +kernel
      show (zS "-" ++ brk (decide (g < 5)) t).length ≤ _
      rw [len_app]; omega
  | own z =>
    have a := (callT_len (z := z) ok.1.hi h (by have := ok.2.2; omega)).1
    have h3 : ts.length * (B + 1) ≤ 3 * (B + 1) := Nat.mul_le_mul_right _ ok.2.2
    show (callT z ts).length ≤ _
    omega
  | sumif z =>
    have hz : z.length ≤ B := by
      rcases ok.1 with e | e <;> (rw [e]; exact Nat.le_trans (show _ ≤ 40 by decide +kernel) hB)
    have h3 := ok.2
    have e : (ts.take 1 ++ z :: ts.drop 1).length = 4 := by
      rw [List.length_append, List.length_take, List.length_cons, List.length_drop]; omega
    have a := (callT_len (z := zS "sumif") (by decide +kernel) (ins_mem hz h) (by omega)).1
    rw [e] at a
    show (callT (zS "sumif") _).length ≤ _
    omega
  | grid i j =>
    obtain ⟨i0, i1, j0, j1, h2⟩ := ok
    have a := (callT_len (z := zS "grid") (B := B) (ts := num i :: num j :: ts) (by decide +kernel) (fun t ht => by
      rcases List.mem_cons.mp ht with q | q
      · rw [q]; have := num_s i0 i1; omega
      · rcases List.mem_cons.mp q with q | q
        · rw [q]; have := num_s j0 (by omega); omega
        · exact h t q) (by simp; omega)).1
    have e : (num i :: num j :: ts).length = 4 := by simp; omega
    rw [e] at a
    show (callT (zS "grid") _).length ≤ _
    omega
  | wd z =>
    have hw : (z, ts.length) ∈ WDS := ok
    have hz : ∀ x ∈ WDS, x.1.length ≤ 6 ∧ x.2 ≤ 3 := by decide +kernel
    obtain ⟨h6, h3⟩ := hz _ hw
    dsimp only at h6 h3
    have a := (callT_len (z := z) h6 h (by omega)).1
    have h3' : ts.length * (B + 1) ≤ 3 * (B + 1) := Nat.mul_le_mul_right _ h3
    show (callT z ts).length ≤ _
    omega
theorem ftx_len {pr : Nat} (hp : pr ≤ 3) {n : Nat} {f : Fm} (h : FO pr n f) : (ftx f).length ≤ LB n := by
  induction h with
  | lf h =>
    rw [ftx_lf]
    exact Nat.le_trans (ltx_len h hp) (LB_lo _)
  | @nd n k ps ok _ ih =>
    rw [ftx_nd]
    refine ktx_len (by rw [List.length_map]; exact ok) (by simp) (LB_lo n) fun t ht => ?_
    obtain ⟨f, hf, rfl⟩ := List.mem_map.mp ht
    exact ih f hf
theorem LB_mono {m n : Nat} (h : m ≤ n) : LB m ≤ LB n := by
  induction h with
  | refl => exact Nat.le_refl _
  | step _ ih => exact Nat.le_trans ih (by show _ ≤ 4 * LB _ + 100; omega)
theorem LB8 : LB 8 ≤ 9000000 := by decide +kernel

theorem nil_app (a : Str) : zS "" ++ a = a := str_ext (by rw [app_signs, show (zS "").cps.toList = [] by decide +kernel]; rfl)
theorem app_as (a b c : Str) : (a ++ b) ++ c = a ++ (b ++ c) := str_ext (by rw [app_signs, app_signs, app_signs, app_signs, List.append_assoc])
def dl (x : Bool) : Str := if x = true then zS "$" else zS ""
theorem dl_at (x : Bool) : atI [vS "", vS "$"] (if x then 1 else 0) = some (V.str (dl x)) := by cases x <;> rfl
theorem dl_len (x : Bool) : (dl x).length ≤ 1 := by cases x <;> decide +kernel
theorem dl_col (c : Int) (x : Bool) : dl x ++ colL c = colT c x := by
  cases x
  · show zS "" ++ colL c = colL c; exact nil_app _
  · rfl
theorem dl_cor (c : Cor) : (colT c.c c.y ++ dl c.x) ++ num c.r = corT c := by
  rw [app_as]
  unfold corT rowT dl
  cases c.x
  · show _ ++ (zS "" ++ num c.r) = _ ++ num c.r; rw [nil_app]
  · rfl
theorem log16 {r : Int} (h0 : 0 ≤ r) (h1 : r < 10 ^ 30) : r.natAbs.log2 < 1920 := log30 (by omega)
def spColD : Sp := fun vs H Q _ => ∃ (c : Int) (x : Bool), vs = [.int c, .bl x] ∧ 1 ≤ c ∧ c ≤ 8 ∧ ∀ H', Same H H' → Q (.str (colT c x)) H'
def spCoT : Sp := fun vs H Q _ => ∃ (a : Addr) (c : Cor), vs = [.ref a] ∧ H a = some (.tup (corV c)) ∧ CorOk c ∧ ∀ H', Same H H' → Q (.str (corT c)) H'
def spLfT : Sp := fun vs H Q _ => ∃ (a : Addr) (l : Lf) (pr : Nat), vs = [.ref a] ∧ LfAt H a l ∧ LfOk pr l ∧ pr ≤ 3 ∧ ∀ H', Same H H' → Q (.str (ltx l)) H'

/-! ### what stands first, and the parts -/
theorem atI_hd {α : Type} {x : α} {r : List α} : atI (x :: r) 0 = some x := atI_nat (j := 0) rfl
theorem atI_1 {α : Type} {x y : α} {r : List α} : atI (x :: y :: r) 1 = some y := atI_nat (j := 1) rfl
theorem atI_2 {α : Type} {x y z : α} {r : List α} : atI (x :: y :: z :: r) 2 = some z := atI_nat (j := 2) rfl
theorem atI_3 {α : Type} {x y z u : α} {r : List α} : atI (x :: y :: z :: u :: r) 3 = some u := atI_nat (j := 3) rfl
def prtF : Fm → List Fm
  | .lf _ => []
  | .nd _ ps => ps
abbrev L7 : List V := [vS "value", vS "cell", vS "range", vS "columns", vS "gone", vS "name", vS "param"]
def kw : Kd → Str
  | .op _ => zS "op"
  | .neg => zS "neg"
  | .own _ => zS "own"
  | .sumif _ => zS "sumif"
  | .grid _ _ => zS "grid"
  | .wd z => z
theorem lay_kw (t : Addr) (k : Kd) (us : List V) : ∃ r, layV t k us = .str (kw k) :: r := by cases k <;> exact ⟨_, rfl⟩
theorem LfAt.hd {H : Hp} {a : Addr} {l : Lf} (h : LfAt H a l) : ∃ w r, H a = some (.tup (.str w :: r)) ∧ inV (.str w) L7 = true ∧ V.bl (decide (V.str w = vS "op")) = V.bl false ∧ V.bl (decide (V.str w = vS "neg")) = V.bl false := by
  cases l with
  | val v => obtain ⟨q, h1, _⟩ := h; exact ⟨_, _, h1, by decide +kernel, by decide +kernel, by decide +kernel⟩
  | cell s c => obtain ⟨q, h1, _⟩ := h; exact ⟨_, _, h1, by decide +kernel, by decide +kernel, by decide +kernel⟩
  | rng s c d => obtain ⟨q, u, h1, _⟩ := h; exact ⟨_, _, h1, by decide +kernel, by decide +kernel, by decide +kernel⟩
  | cols s i x j y => obtain ⟨q, u, h1, _⟩ := h; exact ⟨_, _, h1, by decide +kernel, by decide +kernel, by decide +kernel⟩
  | gone => exact ⟨_, _, h, by decide +kernel, by decide +kernel, by decide +kernel⟩
  | nam z => exact ⟨_, _, h, by decide +kernel, by decide +kernel, by decide +kernel⟩
  | par i => exact ⟨_, _, h, by decide +kernel, by decide +kernel, by decide +kernel⟩
theorem FmAt.tup {H : Hp} {v : V} {f : Fm} (h : FmAt H v f) : ∃ b ys, v = .ref b ∧ H b = some (.tup ys) := by
  cases h with
  | lf h => obtain ⟨w, r, h1, _⟩ := h.hd; exact ⟨_, _, rfl, h1⟩
  | nd h _ _ _ => exact ⟨_, _, rfl, h⟩
theorem FmAt.parts {H : Hp} {us : List V} {ps : List Fm} (hl : us.length = ps.length) (hh : ∀ (j : Nat) (u : V) (f : Fm), us[j]? = some u → ps[j]? = some f → FmAt H u f) : FmsAt H us ps := by
  induction us generalizing ps with
  | nil =>
    cases ps with
    | nil => exact .nil
    | cons _ _ => simp at hl
  | cons u us ih =>
    cases ps with
    | nil => simp at hl
    | cons p ps => exact .cons (hh 0 u p rfl rfl) (ih (by simpa using hl) fun j u f e1 e2 => hh (j + 1) u f (by simpa using e1) (by simpa using e2))
def isRefV : V → Bool
  | .ref _ => true
  | _ => false
/-- what stands in a formula: a part, a text, a whole number -/
def PartOr (H : Hp) (x : V) : Prop := (∃ b ys, x = .ref b ∧ H b = some (.tup ys)) ∨ (∃ z, x = .str z) ∨ ∃ i, x = .int i
theorem cut1 (x : V) (xs : List V) : cutV (x :: xs) (some 1) none = xs ∧ ¬ (HT.sIx (x :: xs).length 0 (some 1) = 0 ∧ HT.sIx (x :: xs).length (x :: xs).length none = (x :: xs).length) := by
  have e1 : HT.sIx (x :: xs).length 0 (some 1) = 1 := by
    unfold HT.sIx
    simp only [List.length_cons]
    split <;> omega
  have e2 : HT.sIx (x :: xs).length (x :: xs).length none = (x :: xs).length := rfl
  refine ⟨?_, fun z => by rw [e1] at z; exact absurd z.1 (by decide)⟩
  unfold cutV
  rw [e1, e2]
  simp
theorem refs_all {us : List V} (h : ∀ u ∈ us, isRefV u = true) : us.filter isRefV = us := List.filter_eq_self.mpr h
theorem lay_tail {H : Hp} {t : Addr} {k : Kd} {us : List V} (ok : KdOk k us.length) (no : isOwn k = false) (hr : ∀ u ∈ us, ∃ b ys, u = .ref b ∧ H b = some (.tup ys)) :
    ∃ r, layV t k us = .str (kw k) :: r ∧ (∀ x ∈ r, PartOr H x) ∧ r.filter isRefV = us ∧ r.length ≤ 5 := by
  have rf : ∀ u ∈ us, isRefV u = true := fun u hu => by obtain ⟨b, ys, rfl, _⟩ := hr u hu; rfl
  have l3 := ok.le
  cases k with
  | op z =>
    refine ⟨_, rfl, fun x hx => ?_, by simp [isRefV, refs_all rf], by simp; omega⟩
    rcases List.mem_cons.mp hx with q | q
    · exact .inr (.inl ⟨_, q⟩)
    · exact .inl (hr x q)
  | neg => exact ⟨_, rfl, fun x hx => .inl (hr x hx), refs_all rf, by omega⟩
  | own z => cases no
  | sumif z =>
    refine ⟨_, rfl, fun x hx => ?_, ?_, by simp; omega⟩
    · rcases List.mem_append.mp hx with q | q
      · exact .inl (hr x (List.mem_of_mem_take q))
      · rcases List.mem_cons.mp q with q | q
        · exact .inr (.inl ⟨_, q⟩)
        · exact .inl (hr x (List.mem_of_mem_drop q))
    · rw [List.filter_append, List.filter_cons]
      show _ ++ (us.drop 1).filter isRefV = us
      rw [refs_all fun u hu => rf u (List.mem_of_mem_take hu), refs_all fun u hu => rf u (List.mem_of_mem_drop hu), List.take_append_drop]
  | grid i j =>
    refine ⟨_, rfl, fun x hx => ?_, by simp [isRefV, refs_all rf], by simp; omega⟩
    rcases List.mem_cons.mp hx with q | q
    · exact .inr (.inr ⟨_, q⟩)
    · rcases List.mem_cons.mp q with q | q
      · exact .inr (.inr ⟨_, q⟩)
      · exact .inl (hr x q)
  | wd z => exact ⟨_, rfl, fun x hx => .inl (hr x hx), refs_all rf, by omega⟩
/-- a word of a node is none of a leaf -/
theorem kw_no {k : Kd} {m : Nat} (ok : KdOk k m) : inV (.str (kw k)) L7 = false := by
  cases k with
  | wd z =>
    have hw : (z, m) ∈ WDS := ok
    have : ∀ x ∈ WDS, inV (.str x.1) L7 = false := by decide +kernel
    exact this _ hw
  | op z => show inV (vS "op") L7 = false; decide +kernel
  | neg => show inV (vS "neg") L7 = false; decide +kernel
  | own z => show inV (vS "own") L7 = false; decide +kernel
  | sumif z => show inV (vS "sumif") L7 = false; decide +kernel
  | grid i j => show inV (vS "grid") L7 = false; decide +kernel
theorem kw_own {k : Kd} {m : Nat} (ok : KdOk k m) : decide (V.str (kw k) = vS "own") = isOwn k := by
  cases k with
  | wd z =>
    have hw : (z, m) ∈ WDS := ok
    have : ∀ x ∈ WDS, decide (V.str x.1 = vS "own") = false := by decide +kernel
    exact this _ hw
  | op z => show decide (vS "op" = vS "own") = false; decide +kernel
  | neg => show decide (vS "neg" = vS "own") = false; decide +kernel
  | own z => show decide (vS "own" = vS "own") = true; decide +kernel
  | sumif z => show decide (vS "sumif" = vS "own") = false; decide +kernel
  | grid i j => show decide (vS "grid" = vS "own") = false; decide +kernel
def isOp : Kd → Bool
  | .op _ => true
  | _ => false
def isNeg : Kd → Bool
  | .neg => true
  | _ => false
def isSumif : Kd → Bool
  | .sumif _ => true
  | _ => false
def isGrid : Kd → Bool
  | .grid _ _ => true
  | _ => false
def kwq (w : Str) (a b c d : Bool) : Bool := decide (V.str w = vS "op") == a && (decide (V.str w = vS "neg") == b && (decide (V.str w = vS "sumif") == c && decide (V.str w = vS "grid") == d))
theorem kwq_s {w : Str} {a b c d : Bool} (h : kwq w a b c d = true) : decide (V.str w = vS "op") = a ∧ decide (V.str w = vS "neg") = b ∧ decide (V.str w = vS "sumif") = c ∧ decide (V.str w = vS "grid") = d := by
  unfold kwq at h
  simp only [Bool.and_eq_true, beq_iff_eq] at h
  exact h
theorem kw_op {k : Kd} {m : Nat} (ok : KdOk k m) : decide (V.str (kw k) = vS "op") = isOp k ∧ decide (V.str (kw k) = vS "neg") = isNeg k ∧ decide (V.str (kw k) = vS "sumif") = isSumif k ∧ decide (V.str (kw k) = vS "grid") = isGrid k := by
  apply kwq_s
  cases k with
  | wd z =>
    have hw : (z, m) ∈ WDS := ok
    have : ∀ x ∈ WDS, kwq x.1 false false false false = true := by decide +kernel
    exact this _ hw
  | op z => show kwq (zS "op") true false false false = true; decide +kernel
  | neg => show kwq (zS "neg") false true false false = true; decide +kernel
  | own z => show kwq (zS "own") false false false false = true; decide +kernel
  | sumif z => show kwq (zS "sumif") false false true false = true; decide +kernel
  | grid i j => show kwq (zS "grid") false false false true = true; decide +kernel
def OPK : List (Key × V) := [(kS "=", .int 1), (kS "<", .int 1), (kS "&", .int 2), (kS "+", .int 3), (kS "-", .int 3), (kS "*", .int 4), (kS "/", .int 4)]
theorem op_val {z : Str} (h : z ∈ OPS) : valV (mergeK [] OPK) (Sum.inr z) = some (.int (opT z)) := by
  have : ∀ x ∈ OPS, valV (mergeK [] OPK) (Sum.inr x) = some (.int (opT x)) := by decide +kernel
  exact this z h
def spPrt : Sp := fun vs H Q _ => ∃ (v : V) (f : Fm) (pr n : Nat), vs = [v] ∧ FmAt H v f ∧ FO pr n f ∧ ∀ (l : Addr) (us : List V) (H' : Hp), H l = none → H' l = some (.lst us) → FmsAt H' us (prtF f) → Same H H' → Q (.ref l) H'
def spTgt : Sp := fun vs H Q _ => ∃ (v : V) (f : Fm) (pr n : Nat), vs = [v] ∧ FmAt H v f ∧ FO pr n f ∧ ∀ H', Same H H' → Q (.int (tgt f)) H'
def spWr (n : Nat) : Sp := fun vs H Q _ => ∃ (v : V) (f : Fm) (pr : Nat), vs = [v, .non] ∧ FmAt H v f ∧ FO pr n f ∧ pr ≤ 3 ∧ n ≤ 8 ∧ ∀ H', Same H H' → Q (.str (ftx f)) H'
def spPl (n : Nat) : Sp := fun vs H Q _ => ∃ (v : V) (i : Int) (f : Fm) (pr : Nat), vs = [v, .int i, .non] ∧ FmAt H v f ∧ FO pr n f ∧ pr ≤ 3 ∧ n ≤ 8 ∧ ∀ H', Same H H' → Q (.str (brk (decide (tgt f < i)) (ftx f))) H'

theorem Same.back0 {H H' : Hp} {b : Addr} (s : Same H H') (h : H' b = none) : H b = none := by
  cases e : H b with
  | none => rfl
  | some o => rw [s _ _ e] at h; cases h

theorem app_e (a : Str) : a ++ zS "" = a := str_ext (by rw [app_signs, show (zS "").cps.toList = [] by decide +kernel, List.append_nil])
def spBr (n : Nat) : Sp := fun vs H Q _ => ∃ (v : V) (f : Fm) (pr : Nat), vs = [v, .non] ∧ FmAt H v f ∧ FO pr (n + 1) f ∧ pr ≤ 3 ∧ n ≤ 7 ∧ ∀ H', Same H H' → Q (.str (ftx f)) H'
theorem ftx_le {pr n : Nat} {f : Fm} (h : FO pr n f) (hp : pr ≤ 3) (h8 : n ≤ 8) : (ftx f).length ≤ 9000000 := Nat.le_trans (ftx_len hp h) (Nat.le_trans (LB_mono h8) LB8)

theorem slm {n : Nat} (h : n ≤ 16000000) : n ≤ sizeLine := Nat.le_trans h (by decide)
theorem mul0 {z : Str} : MulOk z 0 := ⟨by decide, fun h => absurd (by decide) h, fun h => absurd (by decide) h⟩
theorem LB7s : LB 7 ≤ 2000000 := by decide +kernel
theorem ftx_lo {pr n : Nat} {f : Fm} (h : FO pr n f) (hp : pr ≤ 3) (h7 : n ≤ 7) : (ftx f).length ≤ 2000000 := Nat.le_trans (ftx_len hp h) (Nat.le_trans (LB_mono h7) LB7s)
/-- the pieces of a call's text -/
theorem call_sz {z : Str} {ts : List Str} (hz : z.length ≤ 6) (h : ∀ t ∈ ts, t.length ≤ 2000000) (hn : ts.length ≤ 5) :
    z.length + (zS "(").length ≤ sizeLine ∧ JoinOk (zS ";") ts = true ∧ (z ++ zS "(").length + (Txt.join (zS ";") ts).length ≤ sizeLine ∧ ((z ++ zS "(") ++ Txt.join (zS ";") ts).length + (zS ")").length ≤ sizeLine := by
  have e1 : (zS "(").length = 1 := by decide +kernel
  have e2 : (zS ")").length = 1 := by decide +kernel
  obtain ⟨_, b⟩ := callT_len hz h hn
  have b' : ts.length * (2000000 + 1) ≤ 5 * (2000000 + 1) := Nat.mul_le_mul_right _ hn
  refine ⟨slm (by omega), jo_ok h hn (by decide), slm (by rw [len_app]; omega), slm (by rw [len_app, len_app]; omega)⟩
/-! ### the program's tables -/
def BDK : List (Key × V) := [(kS "=", .int 1), (kS "<", .int 1), (kS "&", .int 2), (kS "+", .int 3), (kS "-", .int 3), (kS "*", .int 4), (kS "/", .int 4), (kS "neg", .int 5)]
def PPK : List (Key × List V) := [(kS "op", [.int 2, .int 3]), (kS "neg", [.int 1]), (kS "if", [.int 1, .int 2, .int 3]), (kS "sum", [.int 1]), (kS "count", [.int 1]), (kS "least", [.int 1]), (kS "most", [.int 1]), (kS "sumif", [.int 1, .int 3, .int 4]), (kS "find", [.int 1, .int 2, .int 3]), (kS "turn", [.int 1]), (kS "stack", [.int 1, .int 2]), (kS "grid", [.int 3, .int 4]), (kS "outer", [.int 1])]

def spFml (K : PySem.W.Frag) : Sp := fun vs H Q _ => ∃ (p : Addr) (pr : Nat) (c : Nat) (S : Addr × List Int), vs = [.ref p, .int pr] ∧ pr ≤ 3 ∧ PenD K S H p c ∧ c ≤ 5000000 ∧ ∀ (v : V) (f : Fm) (H' : Hp), FmAt H' v f → FO pr 8 f → PenD K S H' p (c + 2200) → KeepX p H H' → Q v H'
theorem pickR {r : Int} (h0 : 0 ≤ r) (h1 : r < 4) : ∃ v : Int, atI [V.int 3, V.int 8, V.int 24, V.int 24] r = some (V.int v) ∧ 3 ≤ v ∧ v ≤ 24 := by
  have : r = 0 ∨ r = 1 ∨ r = 2 ∨ r = 3 := by omega
  rcases this with rfl | rfl | rfl | rfl
  · exact ⟨3, rfl, by decide, by decide⟩
  · exact ⟨8, rfl, by decide, by decide⟩
  · exact ⟨24, rfl, by decide, by decide⟩
  · exact ⟨24, rfl, by decide, by decide⟩

/-! ### the program's writer -/
def spStd : Sp := fun vs H Q _ => ∃ (z : Str) (x : Bool), vs = [.str z, .bl x] ∧ z.length ≤ 100 ∧ ∀ H', Same H H' → Q (.str (if x = true then zS "$" ++ z else z)) H'
def isRf : Lf → Bool
  | .cell _ _ => true
  | .rng _ _ _ => true
  | .cols _ _ _ _ _ => true
  | _ => false
def spRfT : Sp := fun vs H Q _ => ∃ (a : Addr) (l : Lf) (pr : Nat), vs = [.ref a] ∧ LfAt H a l ∧ LfOk pr l ∧ isRf l = true ∧ ∀ H', Same H H' → Q (.str (ltx l)) H'
def spWv : Sp := fun vs H Q _ => ∃ (q : Addr) (v : Vl), vs = [.ref q] ∧ VlAt H q v ∧ VlOk v ∧ VlW v ∧ ∀ H', Same H H' → Q (.str (vtx v)) H'
def spCl : Sp := fun vs H Q _ => ∃ (z : Str) (D : Addr) (ts : List Str), vs = [.str z, .ref D] ∧ H D = some (.lst (ts.map V.str)) ∧ z.length ≤ 6 ∧ (∀ t ∈ ts, t.length ≤ 2000000) ∧ ts.length ≤ 5 ∧ ∀ H', Same H H' → Q (.str (callT z ts)) H'
def spPo : Sp := fun vs H Q _ => ∃ (v : V) (kd : Kd) (ps : List Fm) (pr n : Nat), vs = [v] ∧ FmAt H v (.nd kd ps) ∧ FO pr n (.nd kd ps) ∧ ∀ (l : Addr) (us : List V) (H' : Hp), H l = none → H' l = some (.lst us) → FmsAt H' us ps → Same H H' → Q (.ref l) H'
def ppAt (k : Str) : Option (List V) := (PPK.find? fun kt => decide (kt.1 = (Sum.inr k : Key))).map (·.2)
abbrev KTs (K : PySem.W.Frag) : List (Key × V) → List (Key × List V) → Prop := Paired (fun (kv : Key × V) (kt : Key × List V) => kv.1 = kt.1 ∧ ∃ a, kv.2 = .ref a ∧ ∀ H, SqT K H a kt.2)
theorem pp_get {K : PySem.W.Frag} {k : Key} {ys : List V} : ∀ {kvs : List (Key × V)} {kts : List (Key × List V)}, KTs K kvs kts → (kts.find? fun kt => decide (kt.1 = k)).map (·.2) = some ys → ∃ a, valV kvs k = some (.ref a) ∧ ∀ H, SqT K H a ys
  | _, _, .nil, h => by simp at h
  | (kv :: kvs), (kt :: kts), .cons r t, h => by
    obtain ⟨e, a, ea, sq⟩ := r
    by_cases c : kt.1 = k
    · rw [List.find?_cons_of_pos (by simpa using c)] at h
      simp only [Option.map_some, Option.some.injEq] at h
      subst h
      exact ⟨a, by rw [valV_pos (e.trans c), ea], sq⟩
    · rw [List.find?_cons_of_neg (by simpa using c)] at h
      obtain ⟨b, hb, sb⟩ := pp_get t h
      exact ⟨b, by rw [valV_neg (fun z => c (e.symm.trans z))]; exact hb, sb⟩
def up1 (m : Nat) : List Nat := (List.range m).map (· + 1)
theorem lay_pl {t : Addr} {k : Kd} {us : List V} (ok : KdOk k us.length) (no : isOwn k = false) : ∃ pl : List Nat, ppAt (kw k) = some (pl.map fun (p : Nat) => V.int p) ∧ pl.length = us.length ∧ ∀ j, j < us.length → ∃ p u, pl[j]? = some p ∧ us[j]? = some u ∧ atI (layV t k us) (p : Int) = some u := by
  cases k with
  | op z =>
    obtain ⟨u1, u2, rfl⟩ := kid2 ok.2
    refine ⟨[2, 3], (by show ppAt (zS "op") = _; decide +kernel), rfl, fun j hj => ?_⟩
    match j, hj with
    | 0, _ => exact ⟨2, u1, rfl, rfl, rfl⟩
    | 1, _ => exact ⟨3, u2, rfl, rfl, rfl⟩
  | neg =>
    obtain ⟨u1, rfl⟩ := kid1 (show us.length = 1 from ok)
    refine ⟨[1], (by show ppAt (zS "neg") = _; decide +kernel), rfl, fun j hj => ?_⟩
    match j, hj with
    | 0, _ => exact ⟨1, u1, rfl, rfl, rfl⟩
  | own z => cases no
  | sumif z =>
    have h3 : us.length = 3 := ok.2
    match us, h3 with
    | [u1, u2, u3], _ =>
    refine ⟨[1, 3, 4], (by show ppAt (zS "sumif") = _; decide +kernel), rfl, fun j hj => ?_⟩
    match j, hj with
    | 0, _ => exact ⟨1, u1, rfl, rfl, rfl⟩
    | 1, _ => exact ⟨3, u2, rfl, rfl, rfl⟩
    | 2, _ => exact ⟨4, u3, rfl, rfl, rfl⟩
  | grid i j =>
    obtain ⟨u1, u2, rfl⟩ := kid2 ok.2.2.2.2
    refine ⟨[3, 4], (by show ppAt (zS "grid") = _; decide +kernel), rfl, fun j hj => ?_⟩
    match j, hj with
    | 0, _ => exact ⟨3, u1, rfl, rfl, rfl⟩
    | 1, _ => exact ⟨4, u2, rfl, rfl, rfl⟩
  | wd z =>
    have hw : (z, us.length) ∈ WDS := ok
    have hz : ∀ x ∈ WDS, ppAt x.1 = some ((up1 x.2).map fun (p : Nat) => V.int p) := by decide +kernel
    refine ⟨up1 us.length, hz _ hw, by simp [up1], fun j hj => ⟨j + 1, us[j], ?_, List.getElem?_eq_getElem hj, ?_⟩⟩
    · unfold up1
      rw [List.getElem?_map, List.getElem?_range hj]; rfl
    · exact atI_nat (j := j + 1) (by show (V.str z :: us)[j + 1]? = _; rw [List.getElem?_cons_succ, List.getElem?_eq_getElem hj])
def tg6 : Fm → Int
  | .nd (.op z) _ => opT z
  | .nd .neg _ => 5
  | _ => 6
theorem LfAt.bd {H : Hp} {a : Addr} {l : Lf} (h : LfAt H a l) : ∃ w r, H a = some (.tup (.str w :: r)) ∧ V.bl (decide (V.str w = vS "op")) = V.bl false ∧ (valV BDK (Sum.inr w)).getD (.int 6) = .int 6 := by
  cases l with
  | val v => obtain ⟨q, h1, _⟩ := h; exact ⟨_, _, h1, by decide +kernel, by decide +kernel⟩
  | cell s c => obtain ⟨q, h1, _⟩ := h; exact ⟨_, _, h1, by decide +kernel, by decide +kernel⟩
  | rng s c d => obtain ⟨q, u, h1, _⟩ := h; exact ⟨_, _, h1, by decide +kernel, by decide +kernel⟩
  | cols s i x j y => obtain ⟨q, u, h1, _⟩ := h; exact ⟨_, _, h1, by decide +kernel, by decide +kernel⟩
  | gone => exact ⟨_, _, h, by decide +kernel, by decide +kernel⟩
  | nam z => exact ⟨_, _, h, by decide +kernel, by decide +kernel⟩
  | par i => exact ⟨_, _, h, by decide +kernel, by decide +kernel⟩
def spBi : Sp := fun vs H Q _ => ∃ (v : V) (f : Fm) (pr n : Nat), vs = [v] ∧ FmAt H v f ∧ FO pr n f ∧ ∀ H', Same H H' → Q (.int (tg6 f)) H'
def spFt (n : Nat) : Sp := fun vs H Q _ => ∃ (v : V) (f : Fm) (pr : Nat), vs = [v] ∧ FmAt H v f ∧ FO pr n f ∧ pr ≤ 3 ∧ n ≤ 8 ∧ ∀ H', Same H H' → Q (.str (ftx f)) H'
def spPt (n : Nat) : Sp := fun vs H Q _ => ∃ (v : V) (i : Int) (f : Fm) (pr : Nat), vs = [v, .int i] ∧ i ≤ 5 ∧ FmAt H v f ∧ FO pr n f ∧ pr ≤ 3 ∧ n ≤ 8 ∧ ∀ H', Same H H' → Q (.str (brk (decide (tgt f < i)) (ftx f))) H'
def spOp (n : Nat) : Sp := fun vs H Q _ => ∃ (v : V) (z : Str) (ps : List Fm) (pr : Nat), vs = [v] ∧ FmAt H v (.nd (.op z) ps) ∧ FO pr (n + 1) (.nd (.op z) ps) ∧ pr ≤ 3 ∧ n ≤ 7 ∧ ∀ H', Same H H' → Q (.str (ftx (.nd (.op z) ps))) H'
def spWd (n : Nat) : Sp := fun vs H Q _ => ∃ (v : V) (kd : Kd) (ps : List Fm) (pr : Nat), vs = [v] ∧ FmAt H v (.nd kd ps) ∧ FO pr (n + 1) (.nd kd ps) ∧ isOp kd = false ∧ isNeg kd = false ∧ pr ≤ 3 ∧ n ≤ 7 ∧ ∀ H', Same H H' → Q (.str (ftx (.nd kd ps))) H'

/-! ### sizes -/
mutual
def szF : Fm → Nat
  | .lf _ => 1
  | .nd _ ps => 1 + szs ps
def szs : List Fm → Nat
  | [] => 0
  | f :: fs => szF f + szs fs
end
theorem szs_app : ∀ a b : List Fm, szs (a ++ b) = szs a + szs b
  | [], b => by rw [List.nil_append, szs]; omega
  | x :: a, b => by rw [List.cons_append, szs, szs, szs_app a b]; omega
theorem szF_prt (f : Fm) : szF f = 1 + szs (prtF f) := by
  cases f with
  | lf l => rw [szF]; show 1 = 1 + szs []; rw [szs]
  | nd k ps => rw [szF]; rfl
theorem szs_len : ∀ fs : List Fm, fs.length ≤ szs fs
  | [] => Nat.zero_le _
  | f :: fs => by
    have := szs_len fs
    have := szF_prt f
    rw [szs, List.length_cons]; omega
theorem szs_le {B : Nat} : ∀ fs : List Fm, (∀ f ∈ fs, szF f ≤ B) → szs fs ≤ fs.length * B
  | [], _ => by rw [szs]; exact Nat.zero_le _
  | f :: fs, h => by
    have a := szs_le fs fun g hg => h g (List.mem_cons_of_mem _ hg)
    have b := h f (by simp)
    rw [szs, List.length_cons, Nat.add_mul]; omega
def SB : Nat → Nat
  | 0 => 0
  | n + 1 => 1 + 3 * SB n
theorem FO.sz {pr n : Nat} {f : Fm} (h : FO pr n f) : szF f ≤ SB n := by
  induction h with
  | lf h => rw [szF]; show 1 ≤ 1 + 3 * SB _; omega
  | @nd n k ps ok _ ih =>
    rw [szF]
    have a := szs_le ps ih
    have b : ps.length * SB n ≤ 3 * SB n := Nat.mul_le_mul_right _ ok.le
    show 1 + szs ps ≤ 1 + 3 * SB n
    omega
theorem FO.sz8 {pr : Nat} {f : Fm} (h : FO pr 8 f) : szF f ≤ 3280 := Nat.le_trans h.sz (by decide)
theorem FO.prt {pr n : Nat} {f : Fm} (h : FO pr n f) : ∀ g ∈ prtF f, FO pr n g := fun g hg => by
  cases h with
  | lf _ => cases hg
  | nd _ hp => exact (hp g hg).mono (Nat.le_succ _)
theorem psplit {α β : Type} {F : α → β → Prop} : ∀ {xs : List α} {x : α} {ys : List β}, Paired F (xs ++ [x]) ys → ∃ ys' y, ys = ys' ++ [y] ∧ Paired F xs ys' ∧ F x y
  | [], _, _, .cons r .nil => ⟨[], _, rfl, .nil, r⟩
  | _ :: _, _, _, .cons r t => by
    obtain ⟨ys', y, rfl, p, q⟩ := psplit t
    exact ⟨_ :: ys', y, rfl, .cons r p, q⟩
theorem papp {α β : Type} {F : α → β → Prop} : ∀ {xs zs : List α} {ys ws : List β}, Paired F xs ys → Paired F zs ws → Paired F (xs ++ zs) (ys ++ ws)
  | _, _, _, _, .nil, h => h
  | _, _, _, _, .cons r t, h => .cons r (papp t h)
def Good (f : Fm) : Prop := ∃ pr, pr ≤ 3 ∧ FO pr 8 f

/-! ### parts, changed -/
theorem bt_zip : bootBuiltins "zip" = some (.type "zip") := by decide +kernel
theorem hun_of {A : Around} {k : Nat} (hr : Room k A) : A.units + 30 < cLine := by have := hr.un; omega
def itOk (x : V) : Prop := flatV x = true ∨ ∃ a, x = .ref a
theorem itOk.tr {H : Hp} {n : Nat} {x : V} (h : itOk x) : TrEq H n x x := by
  rcases h with h | ⟨a, rfl⟩
  · exact .fl h
  · exact .rf
theorem LfAt.pp {H : Hp} {a : Addr} {l : Lf} (h : LfAt H a l) : ∃ w r, H a = some (.tup (.str w :: r)) ∧ V.bl (decide (V.str w = vS "own")) = V.bl false ∧ ppAt w = none ∧ (∀ x ∈ (.str w :: r), itOk x) ∧ r.length ≤ 5 := by
  have sh : ∀ s : Option Str, itOk (shV s) := fun s => by cases s <;> exact .inl rfl
  cases l with
  | val v => obtain ⟨q, h1, _⟩ := h; exact ⟨_, _, h1, by decide +kernel, by decide +kernel, by simp [itOk, flatV], by simp⟩
  | cell s c => obtain ⟨q, h1, _⟩ := h; exact ⟨_, _, h1, by decide +kernel, by decide +kernel, by simp [itOk, flatV]; exact sh s, by simp⟩
  | rng s c d => obtain ⟨q, u, h1, _⟩ := h; exact ⟨_, _, h1, by decide +kernel, by decide +kernel, by simp [itOk, flatV]; exact sh s, by simp⟩
  | cols s i x j y => obtain ⟨q, u, h1, _⟩ := h; exact ⟨_, _, h1, by decide +kernel, by decide +kernel, by simp [itOk, flatV]; exact sh s, by simp⟩
  | gone => exact ⟨_, _, h, by decide +kernel, by decide +kernel, by simp [itOk, flatV], by simp⟩
  | nam z => exact ⟨_, _, h, by decide +kernel, by decide +kernel, by simp [itOk, flatV], by simp⟩
  | par i => exact ⟨_, _, h, by decide +kernel, by decide +kernel, by simp [itOk, flatV], by simp⟩
theorem pp_none {K : PySem.W.Frag} {k : Key} : ∀ {kvs : List (Key × V)} {kts : List (Key × List V)}, KTs K kvs kts → (kts.find? fun kt => decide (kt.1 = k)).map (·.2) = none → valV kvs k = none
  | _, _, .nil, _ => rfl
  | (kv :: kvs), (kt :: kts), .cons r t, h => by
    obtain ⟨e, a, ea, sq⟩ := r
    by_cases c : kt.1 = k
    · rw [List.find?_cons_of_pos (by simpa using c)] at h
      simp at h
    · rw [List.find?_cons_of_neg (by simpa using c)] at h
      rw [valV_neg (fun z => c (e.symm.trans z))]
      exact pp_none t h
/-- setting a place of a node -/
theorem lay_set {t : Addr} {k : Kd} {m : Nat} (ok : KdOk k m) (no : isOwn k = false) : ∃ pl : List Nat, ppAt (kw k) = some (pl.map fun (p : Nat) => V.int p) ∧ pl.length = m ∧
    ∀ (xs : List V) (i : Nat) (w : V), xs.length = m → i < m → ∃ p, pl[i]? = some p ∧ p < (layV t k xs).length ∧ (layV t k xs).set p w = layV t k (xs.set i w) := by
  cases k with
  | op z =>
    refine ⟨[2, 3], (by show ppAt (zS "op") = _; decide +kernel), ok.2.symm, fun xs i w hx hi => ?_⟩
    obtain ⟨u1, u2, rfl⟩ := kid2 (hx.trans ok.2)
    have hi' : i < 2 := by have := ok.2; omega
    match i, hi' with
    | 0, _ => exact ⟨2, rfl, (by show 2 < 4; decide), rfl⟩
    | 1, _ => exact ⟨3, rfl, (by show 3 < 4; decide), rfl⟩
  | neg =>
    have ok : m = 1 := ok
    refine ⟨[1], (by show ppAt (zS "neg") = _; decide +kernel), ok.symm, fun xs i w hx hi => ?_⟩
    obtain ⟨u1, rfl⟩ := kid1 (hx.trans ok)
    have hi' : i < 1 := by omega
    match i, hi' with
    | 0, _ => exact ⟨1, rfl, (by show 1 < 2; decide), rfl⟩
  | own z => cases no
  | sumif z =>
    refine ⟨[1, 3, 4], (by show ppAt (zS "sumif") = _; decide +kernel), ok.2.symm, fun xs i w hx hi => ?_⟩
    obtain ⟨u1, u2, u3, rfl⟩ := kid3 (hx.trans ok.2)
    have hi' : i < 3 := by have := ok.2; omega
    match i, hi' with
    | 0, _ => exact ⟨1, rfl, (by show 1 < 5; decide), rfl⟩
    | 1, _ => exact ⟨3, rfl, (by show 3 < 5; decide), rfl⟩
    | 2, _ => exact ⟨4, rfl, (by show 4 < 5; decide), rfl⟩
  | grid a b =>
    have o2 : m = 2 := ok.2.2.2.2
    refine ⟨[3, 4], (by show ppAt (zS "grid") = _; decide +kernel), o2.symm, fun xs i w hx hi => ?_⟩
    obtain ⟨u1, u2, rfl⟩ := kid2 (hx.trans o2)
    have hi' : i < 2 := by omega
    match i, hi' with
    | 0, _ => exact ⟨3, rfl, (by show 3 < 5; decide), rfl⟩
    | 1, _ => exact ⟨4, rfl, (by show 4 < 5; decide), rfl⟩
  | wd z =>
    have hw : (z, m) ∈ WDS := ok
    have hz : ∀ x ∈ WDS, ppAt x.1 = some ((up1 x.2).map fun (p : Nat) => V.int p) := by decide +kernel
    refine ⟨up1 m, hz _ hw, by simp [up1], fun xs i w hx hi => ⟨i + 1, ?_, ?_, ?_⟩⟩
    · unfold up1
      rw [List.getElem?_map, List.getElem?_range hi]; rfl
    · show i + 1 < (V.str z :: xs).length
      rw [List.length_cons]; omega
    · rfl
theorem mix_set {us ws : List V} {i : Nat} {w : V} (hl : ws.length = us.length) (hw : ws[i]? = some w) : (ws.take i ++ us.drop i).set i w = ws.take (i + 1) ++ us.drop (i + 1) := by
  have hi : i < ws.length := (List.getElem?_eq_some_iff.mp hw).1
  have hd : us.drop i = us[i] :: us.drop (i + 1) := List.drop_eq_getElem_cons (by omega)
  have ht : ws.take (i + 1) = ws.take i ++ [w] := by rw [List.take_add_one, hw]; rfl
  have lt : (ws.take i).length = i := by rw [List.length_take]; omega
  rw [hd, ht, List.set_append, if_neg (by omega), lt, Nat.sub_self, List.set_cons_zero, List.append_assoc]; rfl
/-- a formula with other parts -/
def WpOk (H : Hp) (v : V) (f : Fm) (a' : Addr) (ws : List V) : Prop := match f with
  | .lf _ => ∃ a its, v = .ref a ∧ H a = some (.tup its) ∧ H a' = some (.tup its) ∧ ∀ x ∈ its, itOk x
  | .nd kd _ => ∃ t, H a' = some (.tup (layV t kd ws)) ∧ (isOwn kd = true → H t = some (.tup ws))
def spWp : Sp := fun vs H Q _ => ∃ (v : V) (f : Fm) (l : Addr) (ws : List V) (pr n : Nat), vs = [v, .ref l] ∧ FmAt H v f ∧ FO pr n f ∧ H l = some (.lst ws) ∧ ws.length = (prtF f).length ∧ ∀ (a' : Addr) (H' : Hp), WpOk H' v f a' ws → Same H H' → Q (.ref a') H'

/-! ### counting, depth -/
theorem szs_flat : ∀ fs : List Fm, szs (fs.flatMap prtF) + fs.length = szs fs
  | [] => rfl
  | f :: fs => by
    have := szs_flat fs
    rw [List.flatMap_cons, szs_app, List.length_cons, szs, szF_prt f]; omega
mutual
def dpF : Fm → Nat
  | .lf _ => 1
  | .nd _ ps => 1 + dpl ps
def dpl : List Fm → Nat
  | [] => 0
  | f :: fs => max (dpF f) (dpl fs)
end
theorem dpF_prt (f : Fm) : dpF f = 1 + dpl (prtF f) := by
  cases f with
  | lf l => rw [dpF]; show 1 = 1 + dpl []; rw [dpl]
  | nd k ps => rw [dpF]; rfl
theorem dpl_app : ∀ a b : List Fm, dpl (a ++ b) = max (dpl a) (dpl b)
  | [], b => by rw [List.nil_append, dpl]; omega
  | x :: a, b => by rw [List.cons_append, dpl, dpl, dpl_app a b]; omega
theorem dpl_flat : ∀ fs : List Fm, fs ≠ [] → dpl fs = 1 + dpl (fs.flatMap prtF)
  | [], h => absurd rfl h
  | [f], _ => by
    rw [List.flatMap_cons, List.flatMap_nil, List.append_nil, dpl, dpl, dpF_prt f]; omega
  | f :: g :: r, _ => by
    have := dpl_flat (g :: r) (by simp)
    rw [List.flatMap_cons, dpl_app, dpl, this, dpF_prt f]; omega
theorem FO.flat {pr n : Nat} {fs : List Fm} (h : ∀ g ∈ fs, FO pr n g) : ∀ g ∈ fs.flatMap prtF, FO pr n g := fun g hg => by
  obtain ⟨f, hf, hg⟩ := List.mem_flatMap.mp hg
  exact (h f hf).prt g hg
def spCnt : Sp := fun vs H Q _ => ∃ (v : V) (f : Fm) (pr n : Nat), vs = [v] ∧ FmAt H v f ∧ FO pr n f ∧ n ≤ 8 ∧ ∀ H', Same H H' → Q (.int (szF f)) H'
def spDpn : Sp := fun vs H Q _ => ∃ (v : V) (f : Fm) (pr n : Nat), vs = [v] ∧ FmAt H v f ∧ FO pr n f ∧ n ≤ 8 ∧ ∀ H', Same H H' → Q (.int (dpF f)) H'
def spCn (n : Nat) : Sp := fun vs H Q _ => ∃ (v : V) (f : Fm) (pr : Nat), vs = [v] ∧ FmAt H v f ∧ FO pr n f ∧ n ≤ 8 ∧ ∀ H', Same H H' → Q (.int (szF f)) H'
def spDp (n : Nat) : Sp := fun vs H Q _ => ∃ (v : V) (f : Fm) (pr : Nat), vs = [v] ∧ FmAt H v f ∧ FO pr n f ∧ n ≤ 8 ∧ ∀ H', Same H H' → Q (.int (dpF f)) H'
def spWh2 : Sp := fun vs H Q _ => ∃ i : Int, vs = [.int i, .int i] ∧ Q (.bl true) H
theorem szs_sum : ∀ ps : List Fm, (ps.map fun g => (szF g : Int)).sum = (szs ps : Int)
  | [] => rfl
  | f :: ps => by rw [List.map_cons, List.sum_cons, szs_sum ps, szs]; omega
theorem dpl_max {m : Int} : ∀ {ps : List Fm}, m ∈ (0 :: ps.map fun g => (dpF g : Int)) → (∀ n ∈ (0 :: ps.map fun g => (dpF g : Int)), n ≤ m) → m = (dpl ps : Int) := by
  intro ps h1 h2
  have lo : ∀ ps : List Fm, (∀ g ∈ ps, (dpF g : Int) ≤ m) → 0 ≤ m → (dpl ps : Int) ≤ m := by
    intro ps
    induction ps with
    | nil => intro _ h; rw [dpl]; exact h
    | cons f ps ih =>
      intro h h0
      have a := h f (by simp)
      have b := ih (fun g hg => h g (List.mem_cons_of_mem _ hg)) h0
      rw [dpl]; omega
  have hi : ∀ ps : List Fm, ∀ g ∈ ps, dpF g ≤ dpl ps := by
    intro ps
    induction ps with
    | nil => intro g hg; cases hg
    | cons f ps ih =>
      intro g hg
      rw [dpl]
      rcases List.mem_cons.mp hg with e | e
      · rw [e]; omega
      · have := ih g e; omega
  have a := lo ps (fun g hg => h2 _ (List.mem_cons_of_mem _ (List.mem_map.mpr ⟨g, hg, rfl⟩))) (h2 0 (by simp))
  rcases List.mem_cons.mp h1 with e | e
  · omega
  · obtain ⟨g, hg, rfl⟩ := List.mem_map.mp e
    have := hi ps g hg
    omega
theorem szF_le {pr n : Nat} {f : Fm} (h : FO pr n f) (h8 : n ≤ 8) : szF f ≤ 3280 := (h.mono h8).sz8
theorem one_le : 1 ≤ sizeLine := by decide

mutual
def alF : Fm → List Fm
  | .lf l => [.lf l]
  | .nd k ps => alL ps ++ [.nd k ps]
def alL : List Fm → List Fm
  | [] => []
  | f :: fs => alF f ++ alL fs
end
theorem alF_prt (f : Fm) : alF f = alL (prtF f) ++ [f] := by
  cases f with
  | lf l => rw [alF]; show [Fm.lf l] = alL [] ++ [Fm.lf l]; rw [alL]; rfl
  | nd k ps => rw [alF]; rfl
theorem alL_app : ∀ a b : List Fm, alL (a ++ b) = alL a ++ alL b
  | [], b => by rw [List.nil_append, alL, List.nil_append]
  | x :: a, b => by rw [List.cons_append, alL, alL, alL_app a b, List.append_assoc]
mutual
theorem alF_len : ∀ f : Fm, (alF f).length = szF f
  | .lf l => by rw [alF, szF]; rfl
  | .nd k ps => by rw [alF, szF, List.length_append, alL_len ps, List.length_singleton]; omega
theorem alL_len : ∀ fs : List Fm, (alL fs).length = szs fs
  | [] => by rw [alL, szs]; rfl
  | f :: fs => by rw [alL, szs, List.length_append, alF_len f, alL_len fs]
end
def spAll : Sp := fun vs H Q _ => ∃ (v : V) (f : Fm) (pr n : Nat), vs = [v] ∧ FmAt H v f ∧ FO pr n f ∧ n ≤ 8 ∧ ∀ l ws H', H l = none → H' l = some (.lst ws) → FmsAt H' ws (alF f) → Same H H' → Q (.ref l) H'
theorem prev {α β : Type} {R : α → β → Prop} {xs : List α} {ys : List β} (h : Paired R xs ys) : Paired R xs.reverse ys.reverse := by
  induction h with
  | nil => exact .nil
  | cons h _ ih => rw [List.reverse_cons, List.reverse_cons]; exact papp ih (.cons h .nil)

section
variable {X : Cx}
theorem op_eqE (hu : X.A.units < cLine) : OpR X (compareOp .Eq) (fun x y H Q => ∃ a b xs, x = .ref a ∧ y = .ref b ∧ SqL X.K H a xs ∧ SqL X.K H b [] ∧ Q (.bl xs.isEmpty) H) := by
  intro pins s σ H x y v u Q I rx ry h
  obtain ⟨a, b, xs, rfl, rfl, ha, hb, q⟩ := h
  cases rx
  cases ry
  obtain ⟨its, r1, p1, _⟩ := I.list ha
  obtain ⟨its2, r2, p2, _⟩ := I.list hb
  have l1 := r1.length
  have l2 := r2.length
  cases xs with
  | nil =>
    refine SeqAt.eq_listAt (e := fun _ => true) p1.isList p2.isList (by rw [List.size_toArray, List.size_toArray, ← l1, ← l2]) hu (fun j h1 _ => ?_) ⟨.bl true, H, I, ?_, q⟩
    · rw [List.size_toArray, ← l1] at h1; exact absurd h1 (Nat.not_lt_zero _)
    · rw [List.size_toArray, ← l1]; rfl
  | cons x0 xs =>
    have hne : (its.toArray.size != its2.toArray.size) = true := by
      rw [List.size_toArray, List.size_toArray, ← l1, ← l2]
      simp
    exact SeqAt.eq_list_lengthsAt p1.isList p2.isList hne hu ⟨.bl false, H, I, rfl, q⟩
end
def repl : List V → List V → List V
  | [], _ => []
  | x :: xs, ws => if isRefV x = true then ws.headD x :: repl xs (ws.drop 1) else x :: repl xs ws
theorem repl_n {x : V} {xs ws : List V} (h : isRefV x = false) : repl (x :: xs) ws = x :: repl xs ws := by rw [repl, if_neg (by rw [h]; exact Bool.false_ne_true)]
theorem repl_r {x w : V} {xs ws : List V} (h : isRefV x = true) : repl (x :: xs) (w :: ws) = w :: repl xs ws := by rw [repl, if_pos h]; rfl
theorem repl_all : ∀ {us ws : List V}, (∀ u ∈ us, isRefV u = true) → ws.length = us.length → repl us ws = ws
  | [], ws, _, h => by rw [repl, List.length_eq_zero_iff.mp h]
  | u :: us, [], _, h => by simp at h
  | u :: us, w :: ws, hr, h => by
    rw [repl_r (hr u (by simp)), repl_all (fun x hx => hr x (List.mem_cons_of_mem _ hx)) (by simpa using h)]
theorem lay_repl {t : Addr} {k : Kd} {us ws : List V} (ok : KdOk k us.length) (no : isOwn k = false) (hr : ∀ u ∈ us, isRefV u = true) (hl : ws.length = us.length) :
    repl (layV t k us) ws = layV t k ws ∧ ((layV t k us).filter isRefV).length = ws.length := by
  have fa := refs_all hr
  cases k with
  | op z =>
    refine ⟨?_, ?_⟩
    · show repl (vS "op" :: V.str z :: us) ws = vS "op" :: V.str z :: ws
      rw [repl_n rfl, repl_n rfl, repl_all hr hl]
    · show ((vS "op" :: V.str z :: us).filter isRefV).length = _
      rw [List.filter_cons_of_neg (by decide +kernel), List.filter_cons_of_neg (by simp [isRefV]), fa, hl]
  | neg =>
    refine ⟨?_, ?_⟩
    · show repl (vS "neg" :: us) ws = vS "neg" :: ws
      rw [repl_n rfl, repl_all hr hl]
    · show ((vS "neg" :: us).filter isRefV).length = _
      rw [List.filter_cons_of_neg (by simp [isRefV]), fa, hl]
  | own z => cases no
  | sumif z =>
    obtain ⟨u1, u2, u3, rfl⟩ := kid3 (show us.length = 3 from ok.2)
    obtain ⟨w1, w2, w3, rfl⟩ := kid3 (hl.trans ok.2)
    have r1 := hr u1 (by simp)
    have r2 := hr u2 (by simp)
    have r3 := hr u3 (by simp)
    refine ⟨?_, ?_⟩
    · show repl [vS "sumif", u1, V.str z, u2, u3] [w1, w2, w3] = [vS "sumif", w1, V.str z, w2, w3]
      rw [repl_n rfl, repl_r r1, repl_n rfl, repl_r r2, repl_r r3, repl]
    · show ([vS "sumif", u1, V.str z, u2, u3].filter isRefV).length = 3
      rw [List.filter_cons_of_neg (by simp [isRefV]), List.filter_cons_of_pos r1, List.filter_cons_of_neg (by simp [isRefV]), List.filter_cons_of_pos r2, List.filter_cons_of_pos r3]; rfl
  | grid i j =>
    refine ⟨?_, ?_⟩
    · show repl (vS "grid" :: V.int i :: V.int j :: us) ws = vS "grid" :: V.int i :: V.int j :: ws
      rw [repl_n rfl, repl_n rfl, repl_n rfl, repl_all hr hl]
    · show ((vS "grid" :: V.int i :: V.int j :: us).filter isRefV).length = _
      rw [List.filter_cons_of_neg (by simp [isRefV]), List.filter_cons_of_neg (by simp [isRefV]), List.filter_cons_of_neg (by simp [isRefV]), fa, hl]
  | wd z =>
    refine ⟨?_, ?_⟩
    · show repl (V.str z :: us) ws = V.str z :: ws
      rw [repl_n rfl, repl_all hr hl]
    · show ((V.str z :: us).filter isRefV).length = _
      rw [List.filter_cons_of_neg (by simp [isRefV]), fa, hl]
theorem KdOk.pos {k : Kd} {m : Nat} (ok : KdOk k m) (no : isOwn k = false) : 1 ≤ m := by
  cases k with
  | op z => have := ok.2; omega
  | neg => have : m = 1 := ok; omega
  | own z => cases no
  | sumif z => have := ok.2; omega
  | grid i j => have := ok.2.2.2.2; omega
  | wd z =>
    have hw : (z, m) ∈ WDS := ok
    have : ∀ x ∈ WDS, 1 ≤ x.2 := by decide +kernel
    exact this _ hw
def WwOk (H : Hp) (v : V) (f : Fm) (x : V) (ws : List V) : Prop := match f with
  | .lf _ => x = v
  | .nd kd _ => ∃ a' t, x = .ref a' ∧ H a' = some (.tup (layV t kd ws)) ∧ (isOwn kd = true → H t = some (.tup ws))
def spWw : Sp := fun vs H Q _ => ∃ (v : V) (f : Fm) (l : Addr) (ws : List V) (pr n : Nat), vs = [v, .ref l] ∧ FmAt H v f ∧ FO pr n f ∧ H l = some (.lst ws) ∧ ws.length = (prtF f).length ∧ ∀ (x : V) (H' : Hp), WwOk H' v f x ws → Same H H' → Q x H'

/-! ### like formulas are alike -/
theorem corTr {H : Hp} {n : Nat} {a b : Addr} {xs : List V} (h1 : H a = some (.tup xs)) (h2 : H b = some (.tup xs)) (hf : xs.all flatV = true) : TrEq H (n + 1) (.ref a) (.ref b) :=
  .tp h1 h2 rfl fun j u v e1 e2 => by
    rw [e1] at e2
    cases e2
    exact .fl (List.all_eq_true.mp hf u (List.mem_of_getElem? e1))
theorem trUp {H : Hp} {n : Nat} {x y : V} (h : TrEq H n x y) : ∀ {m : Nat}, n ≤ m → TrEq H m x y := by
  induction h with
  | fl h => intro m _; exact .fl h
  | rf => intro m _; exact .rf
  | tp h1 h2 hl _ ih =>
    intro m hm
    obtain ⟨m, rfl⟩ : ∃ k, m = k + 1 := ⟨m - 1, by omega⟩
    exact .tp h1 h2 hl fun j u v e1 e2 => ih j u v e1 e2 (by omega)
theorem tp2 {H : Hp} {n : Nat} {a b : Addr} {xs ys : List V} (h1 : H a = some (.tup xs)) (h2 : H b = some (.tup ys)) (h : Paired (TrEq H n) xs ys) : TrEq H (n + 1) (.ref a) (.ref b) :=
  .tp h1 h2 (Paired.length h) fun j u v e1 e2 => by
    obtain ⟨w, e3, x⟩ := paired_at h e1
    rw [e3] at e2
    cases e2
    exact x
theorem shTr {H : Hp} {n : Nat} (s : Option Str) : TrEq H n (shV s) (shV s) := by cases s <;> exact .fl rfl
theorem LfAt.tr {H : Hp} {a b : Addr} {l : Lf} {pr : Nat} (ok : LfOk pr l) (h1 : LfAt H a l) (h2 : LfAt H b l) : TrEq H 2 (.ref a) (.ref b) := by
  cases l with
  | val v =>
    obtain ⟨q, x1, y1⟩ := h1
    obtain ⟨r, x2, y2⟩ := h2
    refine tp2 x1 x2 (.cons (.fl rfl) (.cons ?_ .nil))
    obtain ⟨_, w⟩ := ok
    cases v with
    | none => exact w.elim
    | flt w' z r c => exact w.elim
    | num t b => exact corTr y1 y2 rfl
    | txt z => exact corTr y1 y2 rfl
    | tru b => exact corTr y1 y2 rfl
  | cell s c =>
    obtain ⟨q, x1, y1⟩ := h1
    obtain ⟨r, x2, y2⟩ := h2
    exact tp2 x1 x2 (.cons (.fl rfl) (.cons (shTr s) (.cons (corTr y1 y2 rfl) .nil)))
  | rng s c d =>
    obtain ⟨q, u, x1, y1, z1⟩ := h1
    obtain ⟨r, v, x2, y2, z2⟩ := h2
    exact tp2 x1 x2 (.cons (.fl rfl) (.cons (shTr s) (.cons (corTr y1 y2 rfl) (.cons (corTr z1 z2 rfl) .nil))))
  | cols s i x j y =>
    obtain ⟨q, u, x1, y1, z1⟩ := h1
    obtain ⟨r, v, x2, y2, z2⟩ := h2
    exact tp2 x1 x2 (.cons (.fl rfl) (.cons (shTr s) (.cons (corTr y1 y2 rfl) (.cons (corTr z1 z2 rfl) .nil))))
  | gone => exact trUp (corTr (n := 0) h1 h2 rfl) (by decide)
  | nam z => exact trUp (corTr (n := 0) h1 h2 rfl) (by decide)
  | par i => exact trUp (corTr (n := 0) h1 h2 rfl) (by decide)
theorem layTr {H : Hp} {n : Nat} {k : Kd} {t t' : Addr} {us ws : List V} (ok : KdOk k us.length) (h : Paired (TrEq H n) us ws) (h1 : isOwn k = true → H t = some (.tup us)) (h2 : isOwn k = true → H t' = some (.tup ws)) : Paired (TrEq H (n + 1)) (layV t k us) (layV t' k ws) := by
  have up : Paired (TrEq H (n + 1)) us ws := Paired.imp' (fun _ _ x => trUp x (Nat.le_succ _)) h
  cases k with
  | op z => exact .cons (.fl rfl) (.cons (.fl rfl) up)
  | neg => exact .cons (.fl rfl) up
  | own z => exact .cons (.fl rfl) (.cons (.fl rfl) (.cons (tp2 (h1 rfl) (h2 rfl) h) .nil))
  | sumif z =>
    obtain ⟨u1, u2, u3, rfl⟩ := kid3 (show us.length = 3 from ok.2)
    obtain ⟨w1, w2, w3, rfl⟩ := kid3 ((Paired.length h).symm.trans (show [u1, u2, u3].length = 3 from rfl))
    cases up with
    | cons a r =>
      cases r with
      | cons b r => exact .cons (.fl rfl) (.cons a (.cons (.fl rfl) (.cons b r)))
  | grid i j => exact .cons (.fl rfl) (.cons (.fl rfl) (.cons (.fl rfl) up))
  | wd z => exact .cons (.fl rfl) up
theorem pair_of {H : Hp} {n : Nat} : ∀ {us ws : List V} {ps : List Fm}, FmsAt H us ps → FmsAt H ws ps → (∀ g ∈ ps, ∀ x y, FmAt H x g → FmAt H y g → TrEq H n x y) → Paired (TrEq H n) us ws
  | _, _, _, .nil, .nil, _ => .nil
  | _, _, _, .cons a r, .cons b s, h => .cons (h _ (by simp) _ _ a b) (pair_of r s fun g hg => h g (List.mem_cons_of_mem _ hg))
theorem FO.tr {H : Hp} {pr n : Nat} {f : Fm} (fo : FO pr n f) : ∀ {x y : V}, FmAt H x f → FmAt H y f → TrEq H (2 * n) x y := by
  induction fo with
  | @lf n l ok =>
    intro x y h1 h2
    cases h1 with
    | lf h1 =>
      cases h2 with
      | lf h2 => exact trUp (LfAt.tr ok h1 h2) (by omega)
  | @nd n k ps ok hp ih =>
    intro x y h1 h2
    cases h1 with
    | @nd a t _ us _ ha ht hl hh =>
      cases h2 with
      | @nd a' t' _ us' _ ha' ht' hl' hh' =>
        have p := pair_of (n := 2 * n) (FmAt.parts hl hh) (FmAt.parts hl' hh') fun g hg x y => ih g hg
        exact trUp (tp2 ha ha' (layTr (by rw [hl]; exact ok) p ht ht')) (by omega)
def spRt (K : PySem.W.Frag) : Sp := fun vs H Q _ => ∃ (p : Addr) (v : V) (f : Fm) (pr c : Nat) (S : Addr × List Int), vs = [.ref p, v] ∧ FmAt H v f ∧ FO pr 8 f ∧ PenD K S H p c ∧ c ≤ 4000000 ∧ ∀ H', PenD K S H' p (c + 120) → KeepX p H H' → Q (.bl true) H'
theorem lst_alike {H : Hp} {pr n : Nat} {us ws : List V} {ps : List Fm} (hp : ∀ g ∈ ps, FO pr n g) (h1 : FmsAt H us ps) (h2 : FmsAt H ws ps) : us.length = ws.length ∧ ∀ (j : Nat) (u v : V), us[j]? = some u → ws[j]? = some v → TrEq H (2 * n) u v := by
  have p := pair_of (n := 2 * n) h1 h2 fun g hg x y => (hp g hg).tr
  refine ⟨Paired.length p, fun j u v e1 e2 => ?_⟩
  obtain ⟨w, e3, x⟩ := paired_at p e1
  rw [e3] at e2
  cases e2
  exact x
theorem same_alike {H : Hp} {ws : List V} (h : ∀ x ∈ ws, itOk x) : ∀ (j : Nat) (u v : V), ws[j]? = some u → ws[j]? = some v → TrEq H 0 u v := fun j u v e1 e2 => by
  rw [e1] at e2
  cases e2
  exact (h u (List.mem_of_getElem? e1)).tr

theorem pair_all {H : Hp} {n : Nat} : ∀ {ws : List V}, (∀ x ∈ ws, itOk x) → Paired (TrEq H n) ws ws
  | [], _ => .nil
  | x :: ws, h => .cons (h x (by simp)).tr (pair_all fun y hy => h y (List.mem_cons_of_mem _ hy))
theorem pair_alike {H : Hp} {n : Nat} {xs ys : List V} (h : Paired (TrEq H n) xs ys) : xs.length = ys.length ∧ ∀ (j : Nat) (u v : V), xs[j]? = some u → ys[j]? = some v → TrEq H n u v := by
  refine ⟨Paired.length h, fun j u v e1 e2 => ?_⟩
  obtain ⟨w, e3, x⟩ := paired_at h e1
  rw [e3] at e2
  cases e2
  exact x
theorem wp_ww {H6 H7 : Hp} {v x : V} {f : Fm} {a' : Addr} {ws : List V} {pr n : Nat} (fo : FO pr n f) (hl : ws.length = (prtF f).length) (hw : ∀ y ∈ ws, itOk y) (s : Same H6 H7) (wp : WpOk H6 v f a' ws) (ww : WwOk H7 v f x ws) : ∃ b xs ys, x = .ref b ∧ H7 a' = some (.tup xs) ∧ H7 b = some (.tup ys) ∧ Paired (TrEq H7 1) xs ys := by
  cases f with
  | lf l =>
    obtain ⟨a, its, rfl, h1, h2, h3⟩ := wp
    cases (show x = .ref a from ww)
    exact ⟨a, its, its, rfl, s _ _ h2, s _ _ h1, pair_all h3⟩
  | nd kd ps =>
    obtain ⟨t, h1, h2⟩ := wp
    obtain ⟨b, t', rfl, h3, h4⟩ := ww
    cases fo with
    | nd ok _ => exact ⟨b, _, _, rfl, s _ _ h1, h3, layTr (by rw [hl]; exact ok) (pair_all hw) (fun z => s _ _ (h2 z)) h4⟩
theorem wp_v {H : Hp} {v : V} {f : Fm} {a' : Addr} {us : List V} {pr n : Nat} (fo : FO pr (n + 1) f) (hv : FmAt H v f) (fm : FmsAt H us (prtF f)) (wp : WpOk H v f a' us) : ∃ b xs ys, v = .ref b ∧ H a' = some (.tup xs) ∧ H b = some (.tup ys) ∧ Paired (TrEq H (2 * n + 1)) xs ys := by
  cases f with
  | lf l =>
    obtain ⟨a, its, rfl, h1, h2, h3⟩ := wp
    exact ⟨a, its, its, rfl, h2, h1, pair_all h3⟩
  | nd kd ps =>
    obtain ⟨t, h1, h2⟩ := wp
    cases fo with
    | nd ok hp =>
      cases hv with
      | @nd a t' _ us0 _ ha ht hl hh =>
        have fm' : FmsAt H us ps := fm
        have p := pair_of (n := 2 * n) fm' (FmAt.parts hl hh) fun g hg x y => (hp g hg).tr
        have hu : us.length = ps.length := Paired.length fm'
        exact ⟨a, _, _, rfl, h1, ha, layTr (by rw [hu]; exact ok) p h2 ht⟩

end Fs
open PySem L2 Mx Fs
namespace Fs
def top (i : Nat) : Stmt := PySem.Challenge.pw_freshsheet_k14_parts_of_formulas.main.body.getD i (.Pass ⟨0, 0, 0, 0⟩)
abbrev s__law_pen : Stmt := top 8
abbrev s__law_take : Stmt := top 9
abbrev s__law_letters : Stmt := top 10
abbrev s__law_sheet : Stmt := top 11
abbrev s__law_corner : Stmt := top 12
abbrev s__law_reference : Stmt := top 13
abbrev s__law_value : Stmt := top 14
abbrev s__law_leaf : Stmt := top 15
abbrev s__law_frame : Stmt := top 16
abbrev s__law_made : Stmt := top 17
abbrev s__law_grown : Stmt := top 18
abbrev s__law_column : Stmt := top 19
abbrev s__law_corner_text : Stmt := top 20
abbrev s__law_leaf_text : Stmt := top 21
abbrev s__law_parts : Stmt := top 22
abbrev s__law_tight : Stmt := top 23
abbrev s__law_placed : Stmt := top 24
abbrev s__law_bare : Stmt := top 25
abbrev s__law_written : Stmt := top 26
abbrev s__law_formula : Stmt := top 27
abbrev s_parts_of : Stmt := top 2
abbrev s_with_parts : Stmt := top 3
abbrev s_all_parts : Stmt := top 4
abbrev s_count_parts : Stmt := top 5
abbrev s_deepness : Stmt := top 6
abbrev s__law_whole : Stmt := top 28
abbrev s__law_count : Stmt := top 29
abbrev s__law_deep : Stmt := top 30
abbrev s__law_with : Stmt := top 31
abbrev s__law_right : Stmt := top 32
abbrev s_law : Stmt := top 33
theorem len_1 {α : Type} {us : List α} (h : us.length = 1) : ∃ a0, us = [a0] := match us, h with | [a0], _ => ⟨a0, rfl⟩
theorem len_2 {α : Type} {us : List α} (h : us.length = 2) : ∃ a0 a1, us = [a0, a1] := match us, h with | [a0, a1], _ => ⟨a0, a1, rfl⟩
theorem len_3 {α : Type} {us : List α} (h : us.length = 3) : ∃ a0 a1 a2, us = [a0, a1, a2] := match us, h with | [a0, a1, a2], _ => ⟨a0, a1, a2, rfl⟩
theorem len_4 {α : Type} {us : List α} (h : us.length = 4) : ∃ a0 a1 a2 a3, us = [a0, a1, a2, a3] := match us, h with | [a0, a1, a2, a3], _ => ⟨a0, a1, a2, a3, rfl⟩
set_option genInjectivity false in
set_option genSizeOf false in
structure Ad where
  f__law_pen : Addr
  d__law_pen : FuncData
  f__law_take : Addr
  d__law_take : FuncData
  f__law_letters : Addr
  d__law_letters : FuncData
  f__law_sheet : Addr
  d__law_sheet : FuncData
  f__law_corner : Addr
  d__law_corner : FuncData
  f__law_reference : Addr
  d__law_reference : FuncData
  f__law_value : Addr
  d__law_value : FuncData
  f__law_leaf : Addr
  d__law_leaf : FuncData
  f__law_frame : Addr
  d__law_frame : FuncData
  f__law_made : Addr
  d__law_made : FuncData
  f__law_grown : Addr
  d__law_grown : FuncData
  f__law_column : Addr
  d__law_column : FuncData
  f__law_corner_text : Addr
  d__law_corner_text : FuncData
  f__law_leaf_text : Addr
  d__law_leaf_text : FuncData
  f__law_parts : Addr
  d__law_parts : FuncData
  f__law_tight : Addr
  d__law_tight : FuncData
  f__law_placed : Addr
  d__law_placed : FuncData
  f__law_bare : Addr
  d__law_bare : FuncData
  f__law_written : Addr
  d__law_written : FuncData
  f__law_formula : Addr
  d__law_formula : FuncData
  f_parts_of : Addr
  d_parts_of : FuncData
  f_with_parts : Addr
  d_with_parts : FuncData
  f_all_parts : Addr
  d_all_parts : FuncData
  f_count_parts : Addr
  d_count_parts : FuncData
  f_deepness : Addr
  d_deepness : FuncData
  f__law_whole : Addr
  d__law_whole : FuncData
  f__law_count : Addr
  d__law_count : FuncData
  f__law_deep : Addr
  d__law_deep : FuncData
  f__law_with : Addr
  d__law_with : FuncData
  f__law_right : Addr
  d__law_right : FuncData
  f_law : Addr
  d_law : FuncData
structure Txt (w : World) (K : PySem.W.Frag) (mg : Str → Option Value) (t : Ad) : Prop where
  c__law_pen : Df K mg "_law_pen" s__law_pen ["_law_script"] t.f__law_pen t.d__law_pen
  c__law_take : Df K mg "_law_take" s__law_take ["_law_pen_here", "_law_amount"] t.f__law_take t.d__law_take
  c__law_letters : Df K mg "_law_letters" s__law_letters ["_law_pen_here", "_law_free"] t.f__law_letters t.d__law_letters
  c__law_sheet : Df K mg "_law_sheet" s__law_sheet ["_law_pen_here"] t.f__law_sheet t.d__law_sheet
  c__law_corner : Df K mg "_law_corner" s__law_corner ["_law_pen_here", "_law_row", "_law_column_here"] t.f__law_corner t.d__law_corner
  c__law_reference : Df K mg "_law_reference" s__law_reference ["_law_pen_here", "_law_way"] t.f__law_reference t.d__law_reference
  c__law_value : Df K mg "_law_value" s__law_value ["_law_pen_here", "_law_way"] t.f__law_value t.d__law_value
  c__law_leaf : Df K mg "_law_leaf" s__law_leaf ["_law_pen_here", "_law_params"] t.f__law_leaf t.d__law_leaf
  c__law_frame : Df K mg "_law_frame" s__law_frame ["_law_pen_here"] t.f__law_frame t.d__law_frame
  c__law_made : Df K mg "_law_made" s__law_made ["_law_frame_here", "_law_parts_here"] t.f__law_made t.d__law_made
  c__law_grown : Df K mg "_law_grown" s__law_grown ["_law_pen_here", "_law_room", "_law_deep_here", "_law_params"] t.f__law_grown t.d__law_grown
  c__law_column : Df K mg "_law_column" s__law_column ["_law_column_here", "_law_stands"] t.f__law_column t.d__law_column
  c__law_corner_text : Df K mg "_law_corner_text" s__law_corner_text ["_law_corner_here"] t.f__law_corner_text t.d__law_corner_text
  c__law_leaf_text : Df K mg "_law_leaf_text" s__law_leaf_text ["_law_formula_here"] t.f__law_leaf_text t.d__law_leaf_text
  c__law_parts : Df K mg "_law_parts" s__law_parts ["_law_formula_here"] t.f__law_parts t.d__law_parts
  c__law_tight : Df K mg "_law_tight" s__law_tight ["_law_formula_here"] t.f__law_tight t.d__law_tight
  c__law_placed : Df K mg "_law_placed" s__law_placed ["_law_formula_here", "_law_least", "_law_pen_here"] t.f__law_placed t.d__law_placed
  c__law_bare : Df K mg "_law_bare" s__law_bare ["_law_formula_here", "_law_pen_here"] t.f__law_bare t.d__law_bare
  c__law_written : Df K mg "_law_written" s__law_written ["_law_formula_here", "_law_pen_here"] t.f__law_written t.d__law_written
  c__law_formula : Df K mg "_law_formula" s__law_formula ["_law_pen_here", "_law_params"] t.f__law_formula t.d__law_formula
  c_parts_of : Df K mg "parts_of" s_parts_of ["formula"] t.f_parts_of t.d_parts_of
  c_with_parts : Df K mg "with_parts" s_with_parts ["formula", "parts"] t.f_with_parts t.d_with_parts
  c_all_parts : Df K mg "all_parts" s_all_parts ["formula"] t.f_all_parts t.d_all_parts
  c_count_parts : Df K mg "count_parts" s_count_parts ["formula"] t.f_count_parts t.d_count_parts
  c_deepness : Df K mg "deepness" s_deepness ["formula"] t.f_deepness t.d_deepness
  c__law_whole : Df K mg "_law_whole" s__law_whole ["_law_thing", "_law_due"] t.f__law_whole t.d__law_whole
  c__law_count : Df K mg "_law_count" s__law_count ["_law_formula_here"] t.f__law_count t.d__law_count
  c__law_deep : Df K mg "_law_deep" s__law_deep ["_law_formula_here"] t.f__law_deep t.d__law_deep
  c__law_with : Df K mg "_law_with" s__law_with ["_law_formula_here", "_law_parts_here"] t.f__law_with t.d__law_with
  c__law_right : Df K mg "_law_right" s__law_right ["_law_pen_here", "_law_formula_here"] t.f__law_right t.d__law_right
  c_law : Df K mg "law" s_law ["_law_script"] t.f_law t.d_law
  len : mg "len" = none
  range : mg "range" = none
  isinstance : mg "isinstance" = none
  int : mg "int" = none
  bool : mg "bool" = none
  tuple : mg "tuple" = none
  str : mg "str" = none
  list : mg "list" = none
  zip : mg "zip" = none
  max : mg "max" = none
  sum : mg "sum" = none
  reversed : mg "reversed" = none
  v_PART_PLACES : GDit w K mg "PART_PLACES" PPK
  kist : PySem.W.kitOne K (.type "str") (.type "tuple") = some false
  kiit : PySem.W.kitOne K (.type "int") (.type "tuple") = some false
  kib : PySem.W.kitOne K (.type "int") (.type "bool") = some false

seal PE PT PW PA PS PSs PI PG PGs PF PO PJ OpR CallR IxR SlR
section
variable {P : Program} {w : World} {K : PySem.W.Frag} {mg : Str → Option Value} {base : Heap} {t : Ad}
theorem sc_law_pen : FnScope ["_law_script", "_law_first"] ["_law_script"] (defScope s__law_pen) := ⟨rfl, rfl, rfl, by decide +kernel, rfl, by decide +kernel, by decide +kernel⟩
theorem ok__law_pen (T : Txt w K mg t) : FnOk P w K mg base CX0 1 t.f__law_pen t.d__law_pen ["_law_script"] (spPenD K) := by
  have D := T.c__law_pen
  refine D.fn.ok sc_law_pen (fun vs H Q E h => ?_) (fun cdv A outer s H vs Q E hr h => ?_)
  · obtain ⟨a, ns, rfl, _⟩ := h
    rfl
  · obtain ⟨a, ns, rfl, hS, h63, k⟩ := h
    have hu := hr.units0
    have hu1 := hu_of hr
    refine ⟨_, ((pss_cons (ps_set (i := 1) sc_law_pen.nd rfl (Or.inl rfl) pe_int)
      (pss_cons (ps_if (pt_cmpR op_gt (pe_callB call_len_seq (by rfl) T.len PySem.boot_len (pa_consN (pv 0) pa_nil)) pe_int (nomark _)) (pss_one (ps_set (i := 1) sc_law_pen.nd rfl (Or.inl rfl) (pe_ix ix_list (pv 0) pe_int (fun _ _ => rfl)))) pss_nil)
      (pss_one (ps_ret (pe_disp (pps_cons pe_str (pv 0) (pps_cons pe_str pe_int (pps_cons pe_str (pe_op op_fdiv (pv 1) pe_int) (pps_cons pe_str (pe_op op_mod (pv 1) pe_int) (pps_cons pe_str pe_int pps_nil))))) rfl rfl (by simp) (by decide))))))), ?_⟩

    have fin : ∀ (c : Int), (c % 2 = 0 ∨ (c % 2 = 1 ∧ 0 < ns.length)) → ∀ p, H p = none → Q (.ref p) (upd H p (.dK (penK a 0 (c / 2) (c % 2) 0))) := fun c hc p hp =>
      k p _ hp ⟨0, c / 2, c % 2, 0, upd_same, (Same.new hp).seq hS, by decide, by decide, by decide, hc, h63⟩ (Same.new hp)
    refine ⟨_, rfl, a, _, rfl, .inl hS, _, _, rfl, rfl, _, rfl, ite2 (fun c1 => ?_) (fun c1 => ?_)⟩
    · have hl : 0 < ns.length := by have := of_decide_eq_true c1; rw [List.length_map] at this; omega
      have h0 : atI (ns.map V.int) 0 = some (V.int ns[0]) := atI_nat (j := 0) (by rw [List.getElem?_map, List.getElem?_eq_getElem hl]; rfl)
      refine ⟨_, rfl, a, _, _, _, rfl, rfl, hS, h0, ?_⟩
      refine fun p hp => ⟨_, rfl, _, rfl, _, _, rfl, rfl, ⟨by decide, by decide⟩, _, rfl, _, _, rfl, rfl, (by show (0 : Int) < _; decide), upd_same, penK a 0 (ns[0] / 2) (ns[0] % 2) 0, rfl, (by show 5 ≤ 15; decide), ?_⟩
      rw [upd_upd]
      exact fin ns[0] (by omega) p hp
    · refine fun p hp => ⟨_, rfl, _, rfl, _, _, rfl, rfl, ⟨by decide, by decide⟩, _, rfl, _, _, rfl, rfl, (by show (0 : Int) < _; decide), upd_same, penK a 0 (0 / 2) (0 % 2) 0, rfl, (by show 5 ≤ 15; decide), ?_⟩
      rw [upd_upd]
      exact fin 0 (.inl (by decide)) p hp
theorem sc_law_take : FnScope ["_law_pen_here", "_law_amount", "_law_cells", "_law_cell", "_law_number", "_law_taken"] ["_law_pen_here", "_law_amount"] (defScope s__law_take) := ⟨rfl, rfl, rfl, by decide +kernel, rfl, by decide +kernel, by decide +kernel⟩
theorem ok__law_take (T : Txt w K mg t) : FnOk P w K mg base CX0 1 t.f__law_take t.d__law_take ["_law_pen_here", "_law_amount"] (spTakD K) := by
  have D := T.c__law_take
  refine D.fn.ok sc_law_take (fun vs H Q E h => ?_) (fun cdv A outer s H vs Q E hr h => ?_)
  · obtain ⟨p, m, n, S, rfl, _⟩ := h
    rfl
  · obtain ⟨p, m, n, S, rfl, hm, hz, hpen, hn, k⟩ := h
    have hu := hr.units0
    have hu1 := hu_of hr
    refine ⟨_, ((pss_cons (ps_set (i := 2) sc_law_take.nd rfl (Or.inl rfl) (pe_dget hu1 (pv 0) pe_str (fun _ _ => rfl)))
      (pss_cons (ps_dput hu1 (pv 0) pe_str (pe_op op_add (pe_dget hu1 (pv 0) pe_str (fun _ _ => rfl)) pe_int) rfl)
      (pss_cons (ps_if (pt_cmpR op_eq (pe_dget hu1 (pv 0) pe_str (fun _ _ => rfl)) pe_int (nomark _)) (pss_cons (ps_set (i := 3) sc_law_take.nd rfl (Or.inl rfl) (pe_op op_mod (pe_ix ix_list (pv 2) (pe_op op_mod (pe_dget hu1 (pv 0) pe_str (fun _ _ => rfl)) (pe_callB call_len_seq (by rfl) T.len PySem.boot_len (pa_consN (pv 2) pa_nil))) (fun _ _ => rfl)) pe_int))
      (pss_cons (ps_set (i := 4) sc_law_take.nd rfl (Or.inl rfl) (pe_op op_mod (pe_op op_mulW (pe_op op_add (pe_op op_add (pv 3) (pe_op op_mulW pe_int (pe_dget hu1 (pv 0) pe_str (fun _ _ => rfl)))) pe_int) pe_int) pe_int))
      (pss_cons (ps_set (i := 4) sc_law_take.nd rfl (Or.inl rfl) (pe_op op_mod (pe_op op_add (pe_op op_mulW (pv 4) (pv 4)) (pe_op op_mulW pe_int (pe_dget hu1 (pv 0) pe_str (fun _ _ => rfl)))) pe_int))
      (pss_one (ps_ret (pe_op op_mod (pe_op op_fdiv (pe_op op_mod (pe_op op_mulW (pv 4) (pe_op op_add (pv 4) pe_int)) pe_int) pe_int) (pv 1))))))) pss_nil)
      (pss_cons (ps_if (pt_cmpR op_eq (pe_op op_mod (pe_dget hu1 (pv 0) pe_str (fun _ _ => rfl)) pe_int) pe_int (nomark _)) (pss_cons (ps_dput hu1 (pv 0) pe_str (pe_op op_add (pe_dget hu1 (pv 0) pe_str (fun _ _ => rfl)) pe_int) rfl)
      (pss_cons (ps_dput hu1 (pv 0) pe_str pe_int rfl)
      (pss_one (ps_if (pt_cmpR op_lt (pe_dget hu1 (pv 0) pe_str (fun _ _ => rfl)) (pe_callB call_len_seq (by rfl) T.len PySem.boot_len (pa_consN (pv 2) pa_nil)) (nomark _)) (pss_one (ps_dput hu1 (pv 0) pe_str (pe_ix ix_list (pv 2) (pe_dget hu1 (pv 0) pe_str (fun _ _ => rfl)) (fun _ _ => rfl)) rfl)) pss_nil)))) pss_nil)
      (pss_cons (ps_set (i := 5) sc_law_take.nd rfl (Or.inl rfl) (pe_op op_mod (pe_dget hu1 (pv 0) pe_str (fun _ _ => rfl)) (pv 1)))
      (pss_cons (ps_dput hu1 (pv 0) pe_str (pe_op op_fdivW (pe_dget hu1 (pv 0) pe_str (fun _ _ => rfl)) (pv 1)) rfl)
      (pss_one (ps_ret (pv 5)))))))))), ?_⟩

    obtain ⟨a, ns⟩ := S
    obtain ⟨t, r, md, u, hp, hS, ht, hu0, hun, hmd, h63⟩ := hpen
    dsimp only at hp hS hmd h63
    refine ⟨_, rfl, p, _, rfl, gCells hp, ?_⟩
    refine ⟨_, rfl, p, _, rfl, gUsed hp, _, _, rfl, rfl, _, rfl, p, _, rfl, pUsed hp (u + 1), ?_⟩
    have hp1 := upd_same (H := H) (a := p) (o := .dK (penK a t r md (u + 1)))
    have kp1 : KeepX p H (upd H p (.dK (penK a t r md (u + 1)))) := KeepX.upd
    generalize upd H p (.dK (penK a t r md (u + 1))) = H1 at *
    have hS1 := SqL.kx hS hp kp1
    have fin : ∀ (t' r' x : Int) (H2 : Hp), 0 ≤ x → x < m → 0 ≤ t' → H2 p = some (.dK (penK a t' r' md (u + 1))) → KeepX p H H2 → Q (.int x) H2 := fun t' r' x H2 x0 x1 ht' h2 kp =>
      k x H2 x0 x1 ⟨t', r', md, u + 1, h2, SqL.kx hS hp kp, ht', by omega, by omega, hmd, h63⟩ kp
    refine ⟨_, rfl, p, _, rfl, gMode hp1, rfl, _, rfl, ite2 (fun c1 => ?_) (fun c1 => ?_)⟩
    · have hl : 0 < ns.length := by
        have : V.int md = V.int 1 := of_decide_eq_true c1
        injection this with this
        omega
      obtain ⟨v, hv⟩ := atI_ints (ns := ns) (Int.emod_nonneg (u + 1) (show (ns.length : Int) ≠ 0 by omega)) (Int.emod_lt_of_pos (u + 1) (show (0 : Int) < ns.length by omega))
      have n1 := Int.emod_nonneg v (show (2147483629 : Int) ≠ 0 by decide)
      have n2 := Int.emod_lt_of_pos v (show (0 : Int) < 2147483629 by decide)
      refine ⟨_, rfl, _, rfl, p, _, rfl, gUsed hp1, _, rfl, a, _, rfl, .inl hS1, _, _, rfl, rfl, (by rw [List.length_map]; omega), a, _, _, _, rfl, rfl, hS1, (by rw [List.length_map]; exact hv), _, _, rfl, rfl, (by show (0 : Int) < _; decide), ?_⟩
      generalize v % 2147483629 = y at n1 n2 ⊢
      have m1 := Int.emod_nonneg ((y + 7919 * (u + 1) + 3) * 48271) (show (2147483647 : Int) ≠ 0 by decide)
      have m2 := Int.emod_lt_of_pos ((y + 7919 * (u + 1) + 3) * 48271) (show (0 : Int) < 2147483647 by decide)
      refine ⟨_, rfl, _, rfl, p, _, rfl, gUsed hp1, _, _, rfl, rfl, ⟨sz4000 (by decide) (by decide), sz4000 (by omega) (by omega)⟩, _, _, rfl, rfl, _, _, rfl, rfl, _, _, rfl, rfl, ⟨sz4000 (by omega) (by omega), sz4000 (by decide) (by decide)⟩, _, _, rfl, rfl, (by show (0 : Int) < _; decide), ?_⟩
      generalize (y + 7919 * (u + 1) + 3) * 48271 % 2147483647 = x at m1 m2 ⊢
      have q1 := Int.emod_nonneg (x * x + 104729 * (u + 1)) (show (2147483629 : Int) ≠ 0 by decide)
      have q2 := Int.emod_lt_of_pos (x * x + 104729 * (u + 1)) (show (0 : Int) < 2147483629 by decide)
      refine ⟨_, rfl, _, rfl, _, _, rfl, rfl, ⟨sz4000 (by omega) (by omega), sz4000 (by omega) (by omega)⟩, _, rfl, p, _, rfl, gUsed hp1, _, _, rfl, rfl, ⟨sz4000 (by decide) (by decide), sz4000 (by omega) (by omega)⟩, _, _, rfl, rfl, _, _, rfl, rfl, (by show (0 : Int) < _; decide), ?_⟩
      generalize (x * x + 104729 * (u + 1)) % 2147483629 = w at q1 q2 ⊢
      refine ⟨_, rfl, _, rfl, _, _, rfl, rfl, _, _, rfl, rfl, ⟨sz4000 (by omega) (by omega), sz4000 (by omega) (by omega)⟩, _, _, rfl, rfl, (by show (0 : Int) < _; decide), _, _, rfl, rfl, ⟨by decide, by decide⟩, _, rfl, _, _, rfl, rfl, hm, ?_⟩
      exact fin t r _ H1 (Int.emod_nonneg _ (by omega)) (Int.emod_lt_of_pos _ hm) ht hp1 kp1
    · have last : ∀ (t' r' : Int) (H2 : Hp), 0 ≤ t' → H2 p = some (.dK (penK a t' r' md (u + 1))) → KeepX p H H2 → _ := fun t' r' H2 ht' h2 kp =>
        fin t' (r' / m) (r' % m) (upd H2 p (.dK (penK a t' (r' / m) md (u + 1)))) (Int.emod_nonneg _ (by omega)) (Int.emod_lt_of_pos _ hm) ht' upd_same (kp.trans KeepX.upd)
      refine ⟨_, rfl, p, _, rfl, gUsed hp1, _, _, rfl, rfl, (by show (0 : Int) < _; decide), rfl, _, rfl, ite2 (fun c2 => ?_) (fun c2 => ?_)⟩
      · refine ⟨_, rfl, p, _, rfl, gAt hp1, _, _, rfl, rfl, _, rfl, p, _, rfl, pAt hp1 (t + 1), ?_⟩
        have hp2 := upd_same (H := H1) (a := p) (o := .dK (penK a (t + 1) r md (u + 1)))
        have kp2 : KeepX p H (upd H1 p (.dK (penK a (t + 1) r md (u + 1)))) := kp1.trans KeepX.upd
        generalize upd H1 p (.dK (penK a (t + 1) r md (u + 1))) = H2 at *
        refine ⟨_, rfl, p, _, rfl, pRest hp2 0, ?_⟩
        have hp3 := upd_same (H := H2) (a := p) (o := .dK (penK a (t + 1) 0 md (u + 1)))
        have kp3 : KeepX p H (upd H2 p (.dK (penK a (t + 1) 0 md (u + 1)))) := kp2.trans KeepX.upd
        generalize upd H2 p (.dK (penK a (t + 1) 0 md (u + 1))) = H3 at *
        have hS3 := SqL.kx hS hp kp3
        refine ⟨_, rfl, p, _, rfl, gAt hp3, _, rfl, a, _, rfl, .inl hS3, _, _, rfl, rfl, _, rfl, ite2 (fun c3 => ?_) (fun c3 => ?_)⟩
        · have hlt : t + 1 < (ns.length : Int) := by have := of_decide_eq_true c3; rw [List.length_map] at this; exact this
          obtain ⟨v, hv⟩ := atI_ints (ns := ns) (show 0 ≤ t + 1 by omega) hlt
          refine ⟨_, rfl, _, rfl, p, _, rfl, gAt hp3, a, _, _, _, rfl, rfl, hS3, hv, _, rfl, p, _, rfl, pRest hp3 v, ?_⟩
          have hp4 := upd_same (H := H3) (a := p) (o := .dK (penK a (t + 1) v md (u + 1)))
          have kp4 : KeepX p H (upd H3 p (.dK (penK a (t + 1) v md (u + 1)))) := kp3.trans KeepX.upd
          generalize upd H3 p (.dK (penK a (t + 1) v md (u + 1))) = H4 at *
          refine ⟨_, rfl, p, _, rfl, gRest hp4, _, rfl, _, _, rfl, rfl, hm, ?_⟩
          refine ⟨_, rfl, p, _, rfl, gRest hp4, _, rfl, _, _, rfl, rfl, ⟨by omega, hz⟩, _, rfl, p, _, rfl, pRest hp4 _, ?_⟩
          rw [Int.fdiv_eq_ediv_of_nonneg _ (by omega)]
          exact ⟨_, rfl, last (t + 1) v H4 (by omega) hp4 kp4⟩
        · refine ⟨_, rfl, p, _, rfl, gRest hp3, _, rfl, _, _, rfl, rfl, hm, ?_⟩
          refine ⟨_, rfl, p, _, rfl, gRest hp3, _, rfl, _, _, rfl, rfl, ⟨by omega, hz⟩, _, rfl, p, _, rfl, pRest hp3 _, ?_⟩
          rw [Int.fdiv_eq_ediv_of_nonneg _ (by omega)]
          exact ⟨_, rfl, last (t + 1) 0 H3 (by omega) hp3 kp3⟩
      · refine ⟨_, rfl, p, _, rfl, gRest hp1, _, rfl, _, _, rfl, rfl, hm, ?_⟩
        refine ⟨_, rfl, p, _, rfl, gRest hp1, _, rfl, _, _, rfl, rfl, ⟨by omega, hz⟩, _, rfl, p, _, rfl, pRest hp1 _, ?_⟩
        rw [Int.fdiv_eq_ediv_of_nonneg _ (by omega)]
        exact ⟨_, rfl, last t r H1 ht hp1 kp1⟩
theorem sc_law_letters : FnScope ["_law_pen_here", "_law_free", "_law_known", "_law_way", "_law_many", "_law_word"] ["_law_pen_here", "_law_free"] (defScope s__law_letters) := ⟨rfl, rfl, rfl, by decide +kernel, rfl, by decide +kernel, by decide +kernel⟩
theorem ok__law_letters (T : Txt w K mg t) : FnOk P w K mg base CX0 2 t.f__law_letters t.d__law_letters ["_law_pen_here", "_law_free"] (spLet K) := by
  have D := T.c__law_letters
  refine D.fn.ok sc_law_letters (fun vs H Q E h => ?_) (fun cdv A outer s H vs Q E hr h => ?_)
  · obtain ⟨p, fr, n, S, rfl, _⟩ := h
    rfl
  · obtain ⟨p, fr, n, S, rfl, hpen, hn, k⟩ := h
    have hu := hr.units0
    have hu1 := hu_of hr
    refine ⟨_, ((pss_cons (ps_set (i := 2) sc_law_letters.nd rfl (Or.inl rfl) (pe_lst (pa_consK pe_str (pa_consK pe_str (pa_consK pe_str (pa_consK pe_str (pa_consK pe_str (pa_consK pe_str (pa_consK pe_str (pa_consK pe_str (pa_consK pe_str (pa_consK pe_str (pa_consK pe_str (pa_consK pe_str (pa_consK pe_str (pa_consK pe_str pa_nil))))))))))))))))
      (pss_cons (ps_set (i := 3) sc_law_letters.nd rfl (Or.inl rfl) (pe_cl T.c__law_take (ok__law_take T) (hr.mono (by decide)) (pa_consN (pv 0) (pa_consK pe_int pa_nil))))
      (pss_cons (ps_if (pw_and (pt_cmpR op_lt (pv 3) pe_int (nomark _)) (pw_and1 (pt_not (pt_val (pv 1))))).pt (pss_one (ps_ret (pe_ix ix_list (pv 2) (pv 3) (fun _ _ => rfl)))) pss_nil)
      (pss_cons (ps_if (pt_chain op_lt op_lt pe_int (pv 3) pe_int) (pss_one (ps_ret (pe_ix ix_list (pv 2) (pv 3) (fun _ _ => rfl)))) pss_nil)
      (pss_cons (ps_set (i := 4) sc_law_letters.nd rfl (Or.inl rfl) (pe_op op_add pe_int (pe_cl T.c__law_take (ok__law_take T) (hr.mono (by decide)) (pa_consN (pv 0) (pa_consK pe_int pa_nil)))))
      (pss_cons (ps_set (i := 5) sc_law_letters.nd rfl (Or.inl rfl) (pe_bm PySem.F.plainAttrs_str PySem.F.slot_str_join PySem.F.type_str_join mt_join pe_str (pa_consH (pe_comp (fv := ["_law_pen_here"]) (js := [0]) (cl := [("_law_pen_here", s.heap.objs.size + 1)]) rfl (by with_unfolding_all rfl) ⟨rfl, by decide +kernel, by decide +kernel, rfl, by decide +kernel, by decide +kernel, (List.forall_mem_cons.mpr ⟨⟨rfl, rfl, rfl⟩, (List.forall_mem_nil _)⟩), (List.forall_mem_cons.mpr ⟨rfl, (List.forall_mem_nil _)⟩), (.cons rfl .nil)⟩ (pi_range1 rfl T.range (pa_consN (pv 4) pa_nil)) (fun _ _ _ _ _ => pf_nil) (fun _ _ _ _ _ => (pe_ix ix_str pe_str (pe_cl T.c__law_take (ok__law_take T) (hr.mono (by decide)) (pa_consN (pv 1) (pa_consK pe_int pa_nil))) (fun _ _ => rfl)))) pa_nil)))
      (pss_cons (ps_if (pw_and (pt_val (pv 1)) (pw_and1 (pt_cmpR op_in_seq (pv 5) (pe_tup (pa_consK pe_str (pa_consK pe_str (pa_consK pe_str (pa_consK pe_str (pa_consK pe_str (pa_consK pe_str (pa_consK pe_str (pa_consK pe_str (pa_consK pe_str (pa_consK pe_str (pa_consK pe_str pa_nil)))))))))))) rfl))).pt (pss_one (ps_ret pe_str)) pss_nil)
      (pss_cons (ps_if (pw_and (pt_val (pv 1)) (pw_and1 (pt_cmpR op_in_seq (pv 5) (pe_tup (pa_consK pe_str (pa_consK pe_str pa_nil))) rfl))).pt (pss_one (ps_ret pe_str)) pss_nil)
      (pss_one (ps_ret (pv 5)))))))))))), ?_⟩

    refine ⟨(by show 14 ≤ sizeLine; decide), fun kn hkn => ?_⟩
    have s1 := Same.new (o := .lst KN14) hkn
    have hk1 : upd H kn (.lst KN14) kn = some (.lst KN14) := upd_same
    have nkp := hpen.ne hkn
    have pen1 := hpen.same s1
    have kp1 : KeepX p H (upd H kn (.lst KN14)) := Same.keep s1
    refine ⟨_, rfl, p, _, _, _, rfl, (by show (0 : Int) < _; decide), sz4000 (by decide) (by decide), pen1, (by omega), fun r2 H2 a2 b2 pen2 kp2 => ?_⟩
    have hk2 := kp2 _ _ nkp hk1
    have kp12 := kp1.trans kp2
    have word : ∀ w : Int, 0 ≤ w → w < 14 → (6 ≤ w ∨ fr = false) → ∃ z, atI KN14 w = some (V.str z) ∧ Q (.str z) H2 := fun w h0 h1 h6 => by
      obtain ⟨z, hz, nm, rs⟩ := kn14 h0 h1
      exact ⟨z, hz, k z H2 nm (fun e => rs (h6.resolve_right (by rw [e]; exact Bool.noConfusion))) (pen2.mono (by omega)) kp12⟩
    refine ⟨_, rfl, _, _, rfl, rfl, _, rfl, ite2 (fun c1 => ?_) (fun c1 => iteF ?_)⟩
    · have c1' := of_decide_eq_true c1
      refine ⟨_, rfl, fr, rfl, ite2 (fun c2 => ?_) (fun c2 => ?_)⟩
      · obtain ⟨z, hz, q⟩ := word r2 a2 (by omega) (.inr (by simpa using c2))
        exact ⟨_, rfl, _, rfl, kn, _, _, _, rfl, rfl, SqL.of hk2, hz, q⟩
      · refine ⟨_, rfl, _, _, rfl, rfl, _, rfl, ite2 (fun c3 => absurd (of_decide_eq_true c3) (by omega)) (fun c3 => ⟨_, rfl, iteF ?_⟩)⟩
        refine ⟨_, rfl, p, _, _, _, rfl, (by show (0 : Int) < _; decide), sz4000 (by decide) (by decide), pen2, (by omega), fun r3 H3 a3 b3 pen3 kp3 => ⟨_, _, rfl, rfl, ?_⟩⟩
        refine ⟨rfl, _, rfl, _, rfl, (by omega), (by omega), fun D hD => ?_⟩
        have npD := pen3.ne hD
        generalize hm : (1 + r3).toNat = m
        have hm6 : m ≤ 6 := by omega
        have hm1 : 1 ≤ m := by omega
        refine ⟨fun i mm H4 => mm = m - i ∧ i ≤ m ∧ ∃ ts : List Str, H4 D = some (.lst (ts.map V.str)) ∧ ts.length = i ∧ (∀ t ∈ ts, ∃ c, t = ⟨#[c]⟩ ∧ 97 ≤ c ∧ c ≤ 122) ∧ PenD K S H4 p (n + 2 + i) ∧ ∀ b o, b ≠ p → H3 b = some o → H4 b = some o,
          ⟨m, by simp, Nat.zero_le _, [], upd_same, rfl, (fun t ht => by cases ht), (pen3.same (Same.new hD)).mono (by omega), fun b o _ e => Same.new hD _ _ e⟩, ?_⟩
        rintro i mm H4 ⟨rfl, hi, ts, hD4, hl4, one4, pen4, kp4⟩
        by_cases hlt : i < m
        · refine .inr ⟨hlt, fun x H' y => ?_⟩
          obtain ⟨e, y⟩ := y
          subst e y
          refine ⟨_, rfl, p, _, _, _, rfl, (by show (0 : Int) < _; decide), sz4000 (by decide) (by decide), pen4, (by omega), fun r5 H5 a5 b5 pen5 kp5 => ⟨_, _, _, rfl, rfl, (by decide +kernel), az_at a5 b5, _, kp5 _ _ npD hD4, (by rw [List.length_map, hl4]; exact sl_lt (by omega)), m - (i + 1), (by omega), rfl, hlt, ts ++ [⟨#[97 + r5.toNat]⟩], (by rw [upd_same, List.map_append]; rfl), (by rw [List.length_append, hl4]; rfl), fun t ht => ?_, ?_, fun b o h1 e => ?_⟩⟩
          · rcases List.mem_append.mp ht with ht | ht
            · exact one4 t ht
            · rw [List.mem_singleton.mp ht]
              exact ⟨_, rfl, by omega, by omega⟩
          · exact (pen3.put hD pen5).mono (by omega)
          · rw [upd_ne (ne_of_none e hD)]; exact kp5 b o h1 (kp4 b o h1 e)
        have e : i = m := by omega
        subst e
        refine .inl ⟨Nat.le_refl _, ?_⟩
        refine ⟨_, D, ts, rfl, rfl, SqL.of hD4, join_ok one4 (by omega), ?_⟩
        have nm := join_nm one4 (by omega) (by omega)
        generalize Txt.join (Str.ofString "") ts = z at nm
        have kpz : KeepX p H H4 := kp12.trans (kp3.trans fun b o hb e => kp4 b o hb e)
        refine ⟨_, rfl, fr, rfl, ite2 (fun c5 => ?_) (fun c5 => iteF ?_)⟩
        · refine ⟨_, rfl, (by show 11 ≤ sizeLine; decide), fun t1 ht1 => ⟨t1, RS1, rfl, .inr (SqT.of upd_same), rfl, rfl, _, rfl, ite2 (fun c6 => ?_) (fun c6 => ?_)⟩⟩
          · exact k (Str.ofString "x") _ (nm_lit (by decide +kernel)) (fun _ => by decide +kernel) ((pen4.same (Same.new ht1)).mono (by omega)) (kpz.trans (Same.keep (Same.new ht1)))
          · refine ⟨_, rfl, fr, rfl, ite2 (fun c7 => ?_) (fun c7 => absurd c5 c7)⟩
            refine ⟨_, rfl, two_le, fun t2 ht2 => ⟨t2, RS2, rfl, .inr (SqT.of upd_same), rfl, rfl, _, rfl, ite2 (fun c8 => ?_) (fun c8 => ?_)⟩⟩
            · exact k (Str.ofString "y") _ (nm_lit (by decide +kernel)) (fun _ => by decide +kernel) (((pen4.same (Same.new ht1)).same (Same.new ht2)).mono (by omega)) (kpz.trans ((Same.keep (Same.new ht1)).trans (Same.keep (Same.new ht2))))
            · refine ⟨_, rfl, k z _ nm (fun _ => ?_) (((pen4.same (Same.new ht1)).same (Same.new ht2)).mono (by omega)) (kpz.trans ((Same.keep (Same.new ht1)).trans (Same.keep (Same.new ht2))))⟩
              have c6' : inV (V.str z) RS1 = false := Bool.eq_false_iff.mpr c6
              have c8' : inV (V.str z) RS2 = false := Bool.eq_false_iff.mpr c8
              unfold rsv
              rw [c6', c8']
              rfl
        · refine ⟨_, rfl, fr, rfl, ite2 (fun c7 => absurd c7 c5) (fun _ => iteF ⟨_, rfl, k z _ nm (fun e => absurd e c5) (pen4.mono (by omega)) kpz⟩)⟩

    · refine ⟨_, rfl, _, _, rfl, rfl, _, rfl, ite2 (fun c3 => ?_) (fun c3 => ⟨_, rfl, iteF ?_⟩)⟩
      · refine ⟨_, _, rfl, rfl, _, rfl, ite2 (fun c4 => ?_) (fun c4 => ?_)⟩
        · have c3' := of_decide_eq_true c3
          obtain ⟨z, hz, q⟩ := word r2 a2 (of_decide_eq_true c4) (.inl (by omega))
          exact ⟨_, rfl, _, rfl, kn, _, _, _, rfl, rfl, SqL.of hk2, hz, q⟩
        · skip
          refine ⟨_, rfl, p, _, _, _, rfl, (by show (0 : Int) < _; decide), sz4000 (by decide) (by decide), pen2, (by omega), fun r3 H3 a3 b3 pen3 kp3 => ⟨_, _, rfl, rfl, ?_⟩⟩
          refine ⟨rfl, _, rfl, _, rfl, (by omega), (by omega), fun D hD => ?_⟩
          have npD := pen3.ne hD
          generalize hm : (1 + r3).toNat = m
          have hm6 : m ≤ 6 := by omega
          have hm1 : 1 ≤ m := by omega
          refine ⟨fun i mm H4 => mm = m - i ∧ i ≤ m ∧ ∃ ts : List Str, H4 D = some (.lst (ts.map V.str)) ∧ ts.length = i ∧ (∀ t ∈ ts, ∃ c, t = ⟨#[c]⟩ ∧ 97 ≤ c ∧ c ≤ 122) ∧ PenD K S H4 p (n + 2 + i) ∧ ∀ b o, b ≠ p → H3 b = some o → H4 b = some o,
            ⟨m, by simp, Nat.zero_le _, [], upd_same, rfl, (fun t ht => by cases ht), (pen3.same (Same.new hD)).mono (by omega), fun b o _ e => Same.new hD _ _ e⟩, ?_⟩
          rintro i mm H4 ⟨rfl, hi, ts, hD4, hl4, one4, pen4, kp4⟩
          by_cases hlt : i < m
          · refine .inr ⟨hlt, fun x H' y => ?_⟩
            obtain ⟨e, y⟩ := y
            subst e y
            refine ⟨_, rfl, p, _, _, _, rfl, (by show (0 : Int) < _; decide), sz4000 (by decide) (by decide), pen4, (by omega), fun r5 H5 a5 b5 pen5 kp5 => ⟨_, _, _, rfl, rfl, (by decide +kernel), az_at a5 b5, _, kp5 _ _ npD hD4, (by rw [List.length_map, hl4]; exact sl_lt (by omega)), m - (i + 1), (by omega), rfl, hlt, ts ++ [⟨#[97 + r5.toNat]⟩], (by rw [upd_same, List.map_append]; rfl), (by rw [List.length_append, hl4]; rfl), fun t ht => ?_, ?_, fun b o h1 e => ?_⟩⟩
            · rcases List.mem_append.mp ht with ht | ht
              · exact one4 t ht
              · rw [List.mem_singleton.mp ht]
                exact ⟨_, rfl, by omega, by omega⟩
            · exact (pen3.put hD pen5).mono (by omega)
            · rw [upd_ne (ne_of_none e hD)]; exact kp5 b o h1 (kp4 b o h1 e)
          have e : i = m := by omega
          subst e
          refine .inl ⟨Nat.le_refl _, ?_⟩
          refine ⟨_, D, ts, rfl, rfl, SqL.of hD4, join_ok one4 (by omega), ?_⟩
          have nm := join_nm one4 (by omega) (by omega)
          generalize Txt.join (Str.ofString "") ts = z at nm
          have kpz : KeepX p H H4 := kp12.trans (kp3.trans fun b o hb e => kp4 b o hb e)
          refine ⟨_, rfl, fr, rfl, ite2 (fun c5 => ?_) (fun c5 => iteF ?_)⟩
          · refine ⟨_, rfl, (by show 11 ≤ sizeLine; decide), fun t1 ht1 => ⟨t1, RS1, rfl, .inr (SqT.of upd_same), rfl, rfl, _, rfl, ite2 (fun c6 => ?_) (fun c6 => ?_)⟩⟩
            · exact k (Str.ofString "x") _ (nm_lit (by decide +kernel)) (fun _ => by decide +kernel) ((pen4.same (Same.new ht1)).mono (by omega)) (kpz.trans (Same.keep (Same.new ht1)))
            · refine ⟨_, rfl, fr, rfl, ite2 (fun c7 => ?_) (fun c7 => absurd c5 c7)⟩
              refine ⟨_, rfl, two_le, fun t2 ht2 => ⟨t2, RS2, rfl, .inr (SqT.of upd_same), rfl, rfl, _, rfl, ite2 (fun c8 => ?_) (fun c8 => ?_)⟩⟩
              · exact k (Str.ofString "y") _ (nm_lit (by decide +kernel)) (fun _ => by decide +kernel) (((pen4.same (Same.new ht1)).same (Same.new ht2)).mono (by omega)) (kpz.trans ((Same.keep (Same.new ht1)).trans (Same.keep (Same.new ht2))))
              · refine ⟨_, rfl, k z _ nm (fun _ => ?_) (((pen4.same (Same.new ht1)).same (Same.new ht2)).mono (by omega)) (kpz.trans ((Same.keep (Same.new ht1)).trans (Same.keep (Same.new ht2))))⟩
                have c6' : inV (V.str z) RS1 = false := Bool.eq_false_iff.mpr c6
                have c8' : inV (V.str z) RS2 = false := Bool.eq_false_iff.mpr c8
                unfold rsv
                rw [c6', c8']
                rfl
          · refine ⟨_, rfl, fr, rfl, ite2 (fun c7 => absurd c7 c5) (fun _ => iteF ⟨_, rfl, k z _ nm (fun e => absurd e c5) (pen4.mono (by omega)) kpz⟩)⟩

      · skip
        refine ⟨_, rfl, p, _, _, _, rfl, (by show (0 : Int) < _; decide), sz4000 (by decide) (by decide), pen2, (by omega), fun r3 H3 a3 b3 pen3 kp3 => ⟨_, _, rfl, rfl, ?_⟩⟩
        refine ⟨rfl, _, rfl, _, rfl, (by omega), (by omega), fun D hD => ?_⟩
        have npD := pen3.ne hD
        generalize hm : (1 + r3).toNat = m
        have hm6 : m ≤ 6 := by omega
        have hm1 : 1 ≤ m := by omega
        refine ⟨fun i mm H4 => mm = m - i ∧ i ≤ m ∧ ∃ ts : List Str, H4 D = some (.lst (ts.map V.str)) ∧ ts.length = i ∧ (∀ t ∈ ts, ∃ c, t = ⟨#[c]⟩ ∧ 97 ≤ c ∧ c ≤ 122) ∧ PenD K S H4 p (n + 2 + i) ∧ ∀ b o, b ≠ p → H3 b = some o → H4 b = some o,
          ⟨m, by simp, Nat.zero_le _, [], upd_same, rfl, (fun t ht => by cases ht), (pen3.same (Same.new hD)).mono (by omega), fun b o _ e => Same.new hD _ _ e⟩, ?_⟩
        rintro i mm H4 ⟨rfl, hi, ts, hD4, hl4, one4, pen4, kp4⟩
        by_cases hlt : i < m
        · refine .inr ⟨hlt, fun x H' y => ?_⟩
          obtain ⟨e, y⟩ := y
          subst e y
          refine ⟨_, rfl, p, _, _, _, rfl, (by show (0 : Int) < _; decide), sz4000 (by decide) (by decide), pen4, (by omega), fun r5 H5 a5 b5 pen5 kp5 => ⟨_, _, _, rfl, rfl, (by decide +kernel), az_at a5 b5, _, kp5 _ _ npD hD4, (by rw [List.length_map, hl4]; exact sl_lt (by omega)), m - (i + 1), (by omega), rfl, hlt, ts ++ [⟨#[97 + r5.toNat]⟩], (by rw [upd_same, List.map_append]; rfl), (by rw [List.length_append, hl4]; rfl), fun t ht => ?_, ?_, fun b o h1 e => ?_⟩⟩
          · rcases List.mem_append.mp ht with ht | ht
            · exact one4 t ht
            · rw [List.mem_singleton.mp ht]
              exact ⟨_, rfl, by omega, by omega⟩
          · exact (pen3.put hD pen5).mono (by omega)
          · rw [upd_ne (ne_of_none e hD)]; exact kp5 b o h1 (kp4 b o h1 e)
        have e : i = m := by omega
        subst e
        refine .inl ⟨Nat.le_refl _, ?_⟩
        refine ⟨_, D, ts, rfl, rfl, SqL.of hD4, join_ok one4 (by omega), ?_⟩
        have nm := join_nm one4 (by omega) (by omega)
        generalize Txt.join (Str.ofString "") ts = z at nm
        have kpz : KeepX p H H4 := kp12.trans (kp3.trans fun b o hb e => kp4 b o hb e)
        refine ⟨_, rfl, fr, rfl, ite2 (fun c5 => ?_) (fun c5 => iteF ?_)⟩
        · refine ⟨_, rfl, (by show 11 ≤ sizeLine; decide), fun t1 ht1 => ⟨t1, RS1, rfl, .inr (SqT.of upd_same), rfl, rfl, _, rfl, ite2 (fun c6 => ?_) (fun c6 => ?_)⟩⟩
          · exact k (Str.ofString "x") _ (nm_lit (by decide +kernel)) (fun _ => by decide +kernel) ((pen4.same (Same.new ht1)).mono (by omega)) (kpz.trans (Same.keep (Same.new ht1)))
          · refine ⟨_, rfl, fr, rfl, ite2 (fun c7 => ?_) (fun c7 => absurd c5 c7)⟩
            refine ⟨_, rfl, two_le, fun t2 ht2 => ⟨t2, RS2, rfl, .inr (SqT.of upd_same), rfl, rfl, _, rfl, ite2 (fun c8 => ?_) (fun c8 => ?_)⟩⟩
            · exact k (Str.ofString "y") _ (nm_lit (by decide +kernel)) (fun _ => by decide +kernel) (((pen4.same (Same.new ht1)).same (Same.new ht2)).mono (by omega)) (kpz.trans ((Same.keep (Same.new ht1)).trans (Same.keep (Same.new ht2))))
            · refine ⟨_, rfl, k z _ nm (fun _ => ?_) (((pen4.same (Same.new ht1)).same (Same.new ht2)).mono (by omega)) (kpz.trans ((Same.keep (Same.new ht1)).trans (Same.keep (Same.new ht2))))⟩
              have c6' : inV (V.str z) RS1 = false := Bool.eq_false_iff.mpr c6
              have c8' : inV (V.str z) RS2 = false := Bool.eq_false_iff.mpr c8
              unfold rsv
              rw [c6', c8']
              rfl
        · refine ⟨_, rfl, fr, rfl, ite2 (fun c7 => absurd c7 c5) (fun _ => iteF ⟨_, rfl, k z _ nm (fun e => absurd e c5) (pen4.mono (by omega)) kpz⟩)⟩
theorem sc_law_sheet : FnScope ["_law_pen_here"] ["_law_pen_here"] (defScope s__law_sheet) := ⟨rfl, rfl, rfl, by decide +kernel, rfl, by decide +kernel, by decide +kernel⟩
theorem ok__law_sheet (T : Txt w K mg t) : FnOk P w K mg base CX0 3 t.f__law_sheet t.d__law_sheet ["_law_pen_here"] (spShD K) := by
  have D := T.c__law_sheet
  refine D.fn.ok sc_law_sheet (fun vs H Q E h => ?_) (fun cdv A outer s H vs Q E hr h => ?_)
  · obtain ⟨p, n, S, rfl, _⟩ := h
    rfl
  · obtain ⟨p, n, S, rfl, hpen, hn, k⟩ := h
    have hu := hr.units0
    have hu1 := hu_of hr
    refine ⟨_, ((pss_cons (ps_if (pt_cmpR op_gt (pe_cl T.c__law_take (ok__law_take T) (hr.mono (by decide)) (pa_consN (pv 0) (pa_consK pe_int pa_nil))) pe_int (nomark _)) (pss_one (ps_ret pe_non)) pss_nil)
      (pss_one (ps_ret (pe_cl T.c__law_letters (ok__law_letters T) (hr.mono (by decide)) (pa_consN (pv 0) (pa_consK pe_bl pa_nil))))))), ?_⟩

    refine ⟨_, rfl, p, _, _, _, rfl, (by show (0 : Int) < _; decide), sz4000 (by decide) (by decide), hpen, (by omega), fun r1 H1 a1 b1 pen1 kp1 => ⟨_, _, rfl, rfl, _, rfl, ite2 (fun _ => ?_) (fun _ => ?_)⟩⟩
    · exact k none H1 trivial (pen1.mono (by omega)) kp1
    · exact ⟨_, rfl, p, false, _, S, rfl, pen1, (by omega), fun z H2 nm _ pen2 kp2 => k (some z) H2 nm (pen2.mono (by omega)) (kp1.trans kp2)⟩
theorem sc_law_corner : FnScope ["_law_pen_here", "_law_row", "_law_column_here"] ["_law_pen_here", "_law_row", "_law_column_here"] (defScope s__law_corner) := ⟨rfl, rfl, rfl, by decide +kernel, rfl, by decide +kernel, by decide +kernel⟩
theorem ok__law_corner (T : Txt w K mg t) : FnOk P w K mg base CX0 2 t.f__law_corner t.d__law_corner ["_law_pen_here", "_law_row", "_law_column_here"] (spCorD K) := by
  have D := T.c__law_corner
  refine D.fn.ok sc_law_corner (fun vs H Q E h => ?_) (fun cdv A outer s H vs Q E hr h => ?_)
  · obtain ⟨p, r, c, n, S, rfl, _⟩ := h
    rfl
  · obtain ⟨p, r, c, n, S, rfl, hpen, hn, k⟩ := h
    have hu := hr.units0
    have hu1 := hu_of hr
    refine ⟨_, ((pss_one (ps_ret (pe_tup (pa_consN (pv 1) (pa_consN (pv 2) (pa_consM (pe_cmpR op_eq (pe_cl T.c__law_take (ok__law_take T) (hr.mono (by decide)) (pa_consN (pv 0) (pa_consK pe_int pa_nil))) pe_int (nomark _)) (pa_consM (pe_cmpR op_eq (pe_cl T.c__law_take (ok__law_take T) (hr.mono (by decide)) (pa_consN (pv 0) (pa_consK pe_int pa_nil))) pe_int (nomark _)) pa_nil)))))))), ?_⟩

    refine ⟨_, rfl, _, rfl, _, rfl, p, _, _, _, rfl, (by show (0 : Int) < _; decide), sz4000 (by decide) (by decide), hpen, (by omega), fun r1 H1 a1 b1 pen1 kp1 => ⟨rfl, _, rfl, p, _, _, _, rfl, (by show (0 : Int) < _; decide), sz4000 (by decide) (by decide), pen1, (by omega), fun r2 H2 a2 b2 pen2 kp2 => ⟨rfl, (by show 4 ≤ sizeLine; decide), fun q hq => ?_⟩⟩⟩
    exact k q (decide (V.int r1 = V.int 1)) (decide (V.int r2 = V.int 1)) _ upd_same (pen2.same (Same.new hq)) ((kp1.trans kp2).trans (Same.keep (Same.new hq)))
theorem sc_law_reference : FnScope ["_law_pen_here", "_law_way", "_law_row", "_law_column_here", "_law_sheet_here", "_law_last", "_law_end"] ["_law_pen_here", "_law_way"] (defScope s__law_reference) := ⟨rfl, rfl, rfl, by decide +kernel, rfl, by decide +kernel, by decide +kernel⟩
theorem ok__law_reference (T : Txt w K mg t) : FnOk P w K mg base CX0 4 t.f__law_reference t.d__law_reference ["_law_pen_here", "_law_way"] (spRefD K) := by
  have D := T.c__law_reference
  refine D.fn.ok sc_law_reference (fun vs H Q E h => ?_) (fun cdv A outer s H vs Q E hr h => ?_)
  · obtain ⟨p, w, n, S, rfl, _⟩ := h
    rfl
  · obtain ⟨p, w, n, S, rfl, hpen, hn, k⟩ := h
    have hu := hr.units0
    have hu1 := hu_of hr
    refine ⟨_, ((pss_cons (ps_set (i := 2) sc_law_reference.nd rfl (Or.inl rfl) (pe_op op_add pe_int (pe_cl T.c__law_take (ok__law_take T) (hr.mono (by decide)) (pa_consN (pv 0) (pa_consK pe_int pa_nil)))))
      (pss_cons (ps_set (i := 3) sc_law_reference.nd rfl (Or.inl rfl) (pe_op op_add pe_int (pe_cl T.c__law_take (ok__law_take T) (hr.mono (by decide)) (pa_consN (pv 0) (pa_consK pe_int pa_nil)))))
      (pss_cons (ps_set (i := 4) sc_law_reference.nd rfl (Or.inl rfl) (pe_cl T.c__law_sheet (ok__law_sheet T) (hr.mono (by decide)) (pa_consN (pv 0) pa_nil)))
      (pss_cons (ps_if (pt_cmpR op_eq (pv 1) pe_int (nomark _)) (pss_one (ps_ret (pe_tup (pa_consK pe_str (pa_consN (pv 4) (pa_consC (pe_cl T.c__law_corner (ok__law_corner T) (hr.mono (by decide)) (pa_consN (pv 0) (pa_consN (pv 2) (pa_consN (pv 3) pa_nil)))) pa_nil)))))) pss_nil)
      (pss_cons (ps_set (i := 5) sc_law_reference.nd rfl (Or.inl rfl) (pe_op op_add (pv 3) (pe_cl T.c__law_take (ok__law_take T) (hr.mono (by decide)) (pa_consN (pv 0) (pa_consB (pe_op op_sub pe_int (pv 3)) pa_nil)))))
      (pss_cons (ps_if (pt_cmpR op_eq (pv 1) pe_int (nomark _)) (pss_one (ps_ret (pe_tup (pa_consK pe_str (pa_consN (pv 4) (pa_consT (pe_tup (pa_consN (pv 3) (pa_consM (pe_cmpR op_eq (pe_cl T.c__law_take (ok__law_take T) (hr.mono (by decide)) (pa_consN (pv 0) (pa_consK pe_int pa_nil))) pe_int (nomark _)) pa_nil))) (pa_consT (pe_tup (pa_consN (pv 5) (pa_consM (pe_cmpR op_eq (pe_cl T.c__law_take (ok__law_take T) (hr.mono (by decide)) (pa_consN (pv 0) (pa_consK pe_int pa_nil))) pe_int (nomark _)) pa_nil))) pa_nil))))))) pss_nil)
      (pss_cons (ps_set (i := 6) sc_law_reference.nd rfl (Or.inl rfl) (pe_op op_add (pv 2) (pe_cl T.c__law_take (ok__law_take T) (hr.mono (by decide)) (pa_consN (pv 0) (pa_consB (pe_op op_sub pe_int (pv 2)) pa_nil)))))
      (pss_one (ps_ret (pe_tup (pa_consK pe_str (pa_consN (pv 4) (pa_consC (pe_cl T.c__law_corner (ok__law_corner T) (hr.mono (by decide)) (pa_consN (pv 0) (pa_consN (pv 2) (pa_consN (pv 3) pa_nil)))) (pa_consC (pe_cl T.c__law_corner (ok__law_corner T) (hr.mono (by decide)) (pa_consN (pv 0) (pa_consN (pv 6) (pa_consN (pv 5) pa_nil)))) pa_nil))))))))))))))), ?_⟩

    refine ⟨_, rfl, p, _, _, _, rfl, (by show (0 : Int) < _; decide), sz4000 (by decide) (by decide), hpen, (by omega), fun r1 H1 a1 b1 pen1 kp1 => ⟨_, _, rfl, rfl, ?_⟩⟩
    refine ⟨_, rfl, p, _, _, _, rfl, (by show (0 : Int) < _; decide), sz4000 (by decide) (by decide), pen1, (by omega), fun r2 H2 a2 b2 pen2 kp2 => ⟨_, _, rfl, rfl, ?_⟩⟩
    refine ⟨_, rfl, p, _, S, rfl, pen2, (by omega), fun s H3 sh pen3 kp3 => ?_⟩
    have kp13 := (kp1.trans kp2).trans kp3
    refine ⟨_, rfl, rfl, _, rfl, ite2 (fun _ => ?_) (fun _ => ?_)⟩
    · refine ⟨_, rfl, _, rfl, _, rfl, _, rfl, p, _, _, _, S, rfl, pen3, (by omega), fun q x y H4 hq pen4 kp4 => ⟨three_le, fun a ha => ?_⟩⟩
      exact k a (.cell s ⟨1 + r1, 1 + r2, x, y⟩) _ ⟨q, upd_same, Same.new ha _ _ hq⟩ (fun _ => ⟨sh, by dsimp only; omega, by dsimp only; omega, by dsimp only; omega, by dsimp only; omega⟩) ((pen4.same (Same.new ha)).mono (by omega)) ((kp13.trans kp4).trans (Same.keep (Same.new ha)))
    · refine ⟨_, rfl, _, rfl, _, rfl, _, _, rfl, rfl, p, _, _, _, rfl, (by omega), sz4000 (by omega) (by omega), pen3, (by omega), fun r4 H4 a4 b4 pen4 kp4 => ⟨_, _, rfl, rfl, ?_⟩⟩
      refine ⟨_, rfl, rfl, _, rfl, ite2 (fun _ => ?_) (fun _ => ?_)⟩
      · refine ⟨_, rfl, _, rfl, _, rfl, p, _, _, _, rfl, (by show (0 : Int) < _; decide), sz4000 (by decide) (by decide), pen4, (by omega), fun r5 H5 a5 b5 pen5 kp5 => ⟨rfl, two_le, fun q hq => ?_⟩⟩
        have s5 := Same.new (o := .tup [.int (1 + r2), .bl (decide (V.int r5 = V.int 1))]) hq
        refine ⟨_, rfl, _, rfl, p, _, _, _, rfl, (by show (0 : Int) < _; decide), sz4000 (by decide) (by decide), (pen5.same s5), (by omega), fun r6 H6 a6 b6 pen6 kp6 => ⟨rfl, two_le, fun u hu => ?_⟩⟩
        have hq6 := Kp.pen (pen5.same s5) kp6 _ _ (upd_same (H := H5) (a := q) (o := .tup [.int (1 + r2), .bl (decide (V.int r5 = V.int 1))]))
        have s6 := Same.new (o := .tup [.int (1 + r2 + r4), .bl (decide (V.int r6 = V.int 1))]) hu
        refine ⟨(by show 4 ≤ sizeLine; decide), fun a ha => ?_⟩
        have s7 := Same.new (o := .tup [vS "columns", shV s, .ref q, .ref u]) ha
        exact k a (.cols s (1 + r2) (decide (V.int r5 = V.int 1)) (1 + r2 + r4) (decide (V.int r6 = V.int 1))) _ ⟨q, u, upd_same, s7 _ _ (s6 _ _ hq6), s7 _ _ upd_same⟩ (fun _ => ⟨sh, by omega, by omega, by omega⟩) (((pen6.same s6).same s7).mono (by omega)) (((((kp13.trans kp4).trans kp5).trans ((Same.keep s5).trans kp6)).trans (Same.keep s6)).trans (Same.keep s7))
      · refine ⟨_, rfl, _, rfl, _, rfl, _, _, rfl, rfl, p, _, _, _, rfl, (by omega), sz4000 (by omega) (by omega), pen4, (by omega), fun r5 H5 a5 b5 pen5 kp5 => ⟨_, _, rfl, rfl, ?_⟩⟩
        refine ⟨_, rfl, _, rfl, _, rfl, _, rfl, p, _, _, _, S, rfl, pen5, (by omega), fun q x y H6 hq pen6 kp6 => ?_⟩
        refine ⟨_, rfl, _, rfl, _, rfl, p, _, _, _, S, rfl, pen6, (by omega), fun u x2 y2 H7 hu pen7 kp7 => ⟨(by show 4 ≤ sizeLine; decide), fun a ha => ?_⟩⟩
        have hq7 := Kp.pen pen6 kp7 _ _ hq
        have s8 := Same.new (o := .tup [vS "range", shV s, .ref q, .ref u]) ha
        exact k a (.rng s ⟨1 + r1, 1 + r2, x, y⟩ ⟨1 + r1 + r5, 1 + r2 + r4, x2, y2⟩) _ ⟨q, u, upd_same, s8 _ _ hq7, s8 _ _ hu⟩ (fun _ => ⟨sh, ⟨by dsimp only; omega, by dsimp only; omega, by dsimp only; omega, by dsimp only; omega⟩, ⟨by dsimp only; omega, by dsimp only; omega, by dsimp only; omega, by dsimp only; omega⟩, by dsimp only; omega, by dsimp only; omega⟩) ((pen7.same s8).mono (by omega)) (((((kp13.trans kp4).trans kp5).trans kp6).trans kp7).trans (Same.keep s8))
theorem sc_law_value : FnScope ["_law_pen_here", "_law_way", "_law_signs"] ["_law_pen_here", "_law_way"] (defScope s__law_value) := ⟨rfl, rfl, rfl, by decide +kernel, rfl, by decide +kernel, by decide +kernel⟩
theorem ok__law_value (T : Txt w K mg t) : FnOk P w K mg base CX0 2 t.f__law_value t.d__law_value ["_law_pen_here", "_law_way"] (spValD K) := by
  have D := T.c__law_value
  refine D.fn.ok sc_law_value (fun vs H Q E h => ?_) (fun cdv A outer s H vs Q E hr h => ?_)
  · obtain ⟨p, w, n, S, rfl, _⟩ := h
    rfl
  · obtain ⟨p, w, n, S, rfl, hpen, hn, k⟩ := h
    have hu := hr.units0
    have hu1 := hu_of hr
    refine ⟨_, ((pss_cons (ps_if (pt_cmpR op_eq (pv 1) pe_int (nomark _)) (pss_one (ps_ret (pe_tup (pa_consK pe_str (pa_consC (pe_cl T.c__law_take (ok__law_take T) (hr.mono (by decide)) (pa_consN (pv 0) (pa_consS (pe_ix ix_list (pe_lst (pa_consK pe_int (pa_consK pe_int (pa_consK pe_int pa_nil)))) (pe_cl T.c__law_take (ok__law_take T) (hr.mono (by decide)) (pa_consN (pv 0) (pa_consK pe_int pa_nil))) (fun _ _ => rfl)) pa_nil))) (pa_consK pe_int pa_nil)))))) pss_nil)
      (pss_cons (ps_if (pt_cmpR op_eq (pv 1) pe_int (nomark _)) (pss_cons (ps_set (i := 2) sc_law_value.nd rfl (Or.inr rfl) pe_str)
      (pss_one (ps_ret (pe_tup (pa_consK pe_str (pa_consC (pe_bm PySem.F.plainAttrs_str PySem.F.slot_str_join PySem.F.type_str_join mt_join pe_str (pa_consH (pe_comp (fv := ["_law_pen_here", "_law_signs"]) (js := [0, 2]) (cl := [("_law_signs", s.heap.objs.size + 2), ("_law_pen_here", s.heap.objs.size + 1)]) rfl (by with_unfolding_all rfl) ⟨rfl, by decide +kernel, by decide +kernel, rfl, by decide +kernel, by decide +kernel, (List.forall_mem_cons.mpr ⟨⟨rfl, rfl, rfl⟩, (List.forall_mem_cons.mpr ⟨⟨rfl, rfl, rfl⟩, (List.forall_mem_nil _)⟩)⟩), (List.forall_mem_cons.mpr ⟨rfl, (List.forall_mem_cons.mpr ⟨rfl, (List.forall_mem_nil _)⟩)⟩), (.cons rfl (.cons rfl .nil))⟩ (pi_range1 rfl T.range (pa_consC (pe_cl T.c__law_take (ok__law_take T) (hr.mono (by decide)) (pa_consN (pv 0) (pa_consS (pe_ix ix_list (pe_lst (pa_consK pe_int (pa_consK pe_int pa_nil))) (pe_cl T.c__law_take (ok__law_take T) (hr.mono (by decide)) (pa_consN (pv 0) (pa_consK pe_int pa_nil))) (fun _ _ => rfl)) pa_nil))) pa_nil)) (fun _ _ _ _ _ => pf_nil) (fun _ _ _ _ _ => (pe_ix ix_str (pv 2) (pe_cl T.c__law_take (ok__law_take T) (hr.mono (by decide)) (pa_consN (pv 1) (pa_consK pe_int pa_nil))) (fun _ _ => rfl)))) pa_nil)) pa_nil)))))) pss_nil)
      (pss_one (ps_ret (pe_tup (pa_consK pe_str (pa_consM (pe_cmpR op_eq (pe_cl T.c__law_take (ok__law_take T) (hr.mono (by decide)) (pa_consN (pv 0) (pa_consK pe_int pa_nil))) pe_int (nomark _)) pa_nil)))))))), ?_⟩

    refine ⟨_, rfl, rfl, _, rfl, ite2 (fun _ => ?_) (fun _ => ?_)⟩
    · refine ⟨_, rfl, three_le, fun l hl => ?_⟩
      have s0 := Same.new (o := .lst [.int 10, .int 1000, .int 1000000000]) hl
      have nl := hpen.ne hl
      refine ⟨_, rfl, p, _, _, _, rfl, (by show (0 : Int) < _; decide), sz4000 (by decide) (by decide), (hpen.same s0), (by omega), fun r1 H1 a1 b1 pen1 kp1 => ?_⟩
      obtain ⟨v, hv, v0, v9⟩ := pickN a1 b1
      refine ⟨l, _, _, _, rfl, rfl, SqL.of (kp1 _ _ nl upd_same), hv, p, _, _, _, rfl, (by omega), sz4000 (by omega) (by omega), pen1, (by omega), fun r2 H2 a2 b2 pen2 kp2 => ⟨three_le, fun q hq => ?_⟩⟩
      exact k q (.num r2 1) _ upd_same ⟨low_one, by omega, by decide⟩ ⟨rfl, a2, by omega⟩ ((pen2.same (Same.new hq)).mono (by omega)) ((((Same.keep s0).trans kp1).trans kp2).trans (Same.keep (Same.new hq)))
    refine ⟨_, rfl, rfl, _, rfl, ite2 (fun _ => ?_) (fun _ => ?_)⟩
    · refine ⟨rfl, _, rfl, two_le, fun l hl => ?_⟩
      have s0 := Same.new (o := .lst [.int 4, .int 21]) hl
      have nl := hpen.ne hl
      refine ⟨_, rfl, p, _, _, _, rfl, (by show (0 : Int) < _; decide), sz4000 (by decide) (by decide), (hpen.same s0), (by omega), fun r1 H1 a1 b1 pen1 kp1 => ?_⟩
      obtain ⟨v, hv, v0, v9⟩ := pickT a1 b1
      refine ⟨l, _, _, _, rfl, rfl, SqL.of (kp1 _ _ nl upd_same), hv, p, _, _, _, rfl, (by omega), sz4000 (by omega) (by omega), pen1, (by omega), fun r2 H2 a2 b2 pen2 kp2 => ⟨_, rfl, (by omega), (by omega), fun D hD => ?_⟩⟩
      have npD := pen2.ne hD
      generalize hm : r2.toNat = m
      have hm6 : m ≤ 20 := by omega
      refine ⟨fun i mm H4 => mm = m - i ∧ i ≤ m ∧ ∃ ts : List Str, H4 D = some (.lst (ts.map V.str)) ∧ ts.length = i ∧ (∀ t ∈ ts, ∃ c, t = ⟨#[c]⟩ ∧ c ∈ (Str.ofString "abcdefghijklmnopqrstuvwxyz0123456789 ").cps.toList) ∧ PenD K S H4 p (n + 2 + i) ∧ ∀ b o, b ≠ p → H2 b = some o → H4 b = some o,
        ⟨m, by simp, Nat.zero_le _, [], upd_same, rfl, (fun t ht => by cases ht), (pen2.same (Same.new hD)).mono (by omega), fun b o _ e => Same.new hD _ _ e⟩, ?_⟩
      rintro i mm H4 ⟨rfl, hi, ts, hD4, hl4, one4, pen4, kp4⟩
      by_cases hlt : i < m
      · refine .inr ⟨hlt, fun x H' y => ?_⟩
        obtain ⟨e, y⟩ := y
        subst e y
        refine ⟨_, rfl, _, rfl, p, _, _, _, rfl, (by show (0 : Int) < _; decide), sz4000 (by decide) (by decide), pen4, (by omega), fun r5 H5 a5 b5 pen5 kp5 => ?_⟩
        obtain ⟨c, hc, hin⟩ := pick37 a5 b5
        refine ⟨_, _, c, rfl, rfl, (by decide +kernel), hc, _, kp5 _ _ npD hD4, (by rw [List.length_map, hl4]; exact sl_lt (by omega)), m - (i + 1), (by omega), rfl, hlt, ts ++ [⟨#[c]⟩], (by rw [upd_same, List.map_append]; rfl), (by rw [List.length_append, hl4]; rfl), fun t ht => ?_, (pen2.put hD pen5).mono (by omega), fun b o h1 e => ?_⟩
        · rcases List.mem_append.mp ht with ht | ht
          · exact one4 t ht
          · rw [List.mem_singleton.mp ht]
            exact ⟨_, rfl, hin⟩
        · rw [upd_ne (ne_of_none e hD)]; exact kp5 b o h1 (kp4 b o h1 e)
      have e : i = m := by omega
      subst e
      refine .inl ⟨Nat.le_refl _, ?_⟩
      obtain ⟨ok, jo⟩ := join_txt one4 (by omega)
      refine ⟨_, D, ts, rfl, rfl, SqL.of hD4, jo, two_le, fun q hq => ?_⟩
      exact k q (.txt _) _ upd_same ok trivial ((pen4.same (Same.new hq)).mono (by omega)) ((((Same.keep s0).trans kp1).trans (kp2.trans fun b o hb e => kp4 b o hb e)).trans (Same.keep (Same.new hq)))
    · refine ⟨_, rfl, p, _, _, _, rfl, (by show (0 : Int) < _; decide), sz4000 (by decide) (by decide), hpen, (by omega), fun r1 H1 a1 b1 pen1 kp1 => ⟨rfl, two_le, fun q hq => ?_⟩⟩
      exact k q (.tru _) _ upd_same trivial trivial ((pen1.same (Same.new hq)).mono (by omega)) (kp1.trans (Same.keep (Same.new hq)))
theorem sc_law_leaf : FnScope ["_law_pen_here", "_law_params", "_law_way"] ["_law_pen_here", "_law_params"] (defScope s__law_leaf) := ⟨rfl, rfl, rfl, by decide +kernel, rfl, by decide +kernel, by decide +kernel⟩
theorem ok__law_leaf (T : Txt w K mg t) : FnOk P w K mg base CX0 5 t.f__law_leaf t.d__law_leaf ["_law_pen_here", "_law_params"] (spLeafD K) := by
  have D := T.c__law_leaf
  refine D.fn.ok sc_law_leaf (fun vs H Q E h => ?_) (fun cdv A outer s H vs Q E hr h => ?_)
  · obtain ⟨p, pr, n, S, rfl, _⟩ := h
    rfl
  · obtain ⟨p, pr, n, S, rfl, hpr, hpen, hn, k⟩ := h
    have hu := hr.units0
    have hu1 := hu_of hr
    refine ⟨_, ((pss_cons (ps_set (i := 2) sc_law_leaf.nd rfl (Or.inl rfl) (pe_cl T.c__law_take (ok__law_take T) (hr.mono (by decide)) (pa_consN (pv 0) (pa_consK pe_int pa_nil))))
      (pss_cons (ps_if (pt_cmpR op_lt (pv 2) pe_int (nomark _)) (pss_one (ps_ret (pe_tup (pa_consK pe_str (pa_consC (pe_cl T.c__law_value (ok__law_value T) (hr.mono (by decide)) (pa_consN (pv 0) (pa_consN (pv 2) pa_nil))) pa_nil))))) pss_nil)
      (pss_cons (ps_if (pt_cmpR op_lt (pv 2) pe_int (nomark _)) (pss_one (ps_ret (pe_cl T.c__law_reference (ok__law_reference T) (hr.mono (by decide)) (pa_consN (pv 0) (pa_consS (pe_ix ix_list (pe_lst (pa_consK pe_int (pa_consK pe_int (pa_consK pe_int (pa_consK pe_int pa_nil))))) (pe_op op_sub (pv 2) pe_int) (fun _ _ => rfl)) pa_nil))))) pss_nil)
      (pss_cons (ps_if (pt_cmpR op_eq (pv 2) pe_int (nomark _)) (pss_one (ps_ret (pe_tup (pa_consK pe_str pa_nil)))) pss_nil)
      (pss_cons (ps_if (pw_and (pt_cmpR op_eq (pv 2) pe_int (nomark _)) (pw_and1 (pt_cmpR op_gt (pv 1) pe_int (nomark _)))).pt (pss_one (ps_ret (pe_tup (pa_consK pe_str (pa_consC (pe_cl T.c__law_take (ok__law_take T) (hr.mono (by decide)) (pa_consN (pv 0) (pa_consN (pv 1) pa_nil))) pa_nil))))) pss_nil)
      (pss_one (ps_ret (pe_tup (pa_consK pe_str (pa_consC (pe_cl T.c__law_letters (ok__law_letters T) (hr.mono (by decide)) (pa_consN (pv 0) (pa_consK pe_bl pa_nil))) pa_nil))))))))))), ?_⟩

    refine ⟨_, rfl, p, _, _, _, rfl, (by show (0 : Int) < _; decide), sz4000 (by decide) (by decide), hpen, (by omega), fun r1 H1 a1 b1 pen1 kp1 => ?_⟩
    refine ⟨_, rfl, _, _, rfl, rfl, _, rfl, ite2 (fun _ => ?_) (fun c1 => ?_)⟩
    · refine ⟨_, rfl, _, rfl, p, _, _, S, rfl, pen1, (by omega), fun q v H2 hq ok w2 pen2 kp2 => ⟨two_le, fun a ha => ?_⟩⟩
      exact k a (.val v) _ ⟨q, upd_same, VlAt.same hq (Same.new ha)⟩ ⟨ok, w2⟩ ((pen2.same (Same.new ha)).mono (by omega)) ((kp1.trans kp2).trans (Same.keep (Same.new ha)))
    have c1' : ¬ r1 < 3 := fun z => c1 (decide_eq_true z)
    refine ⟨_, rfl, _, _, rfl, rfl, _, rfl, ite2 (fun c2 => ?_) (fun c2 => ?_)⟩
    · have c2' := of_decide_eq_true c2
      refine ⟨_, rfl, (by show 4 ≤ sizeLine; decide), fun l hl => ?_⟩
      have s0 := Same.new (o := .lst [.int 0, .int 0, .int 1, .int 2]) hl
      obtain ⟨v, hv⟩ := pick4 (r := r1 - 3) (by omega) (by omega)
      refine ⟨_, rfl, _, _, rfl, rfl, l, _, _, _, rfl, rfl, SqL.of upd_same, hv, p, _, _, S, rfl, pen1.same s0, (by omega), fun a lf H2 ha ok pen2 kp2 => ?_⟩
      exact k a lf _ ha (ok pr) (pen2.mono (by omega)) (kp1.trans ((Same.keep s0).trans kp2))
    refine ⟨_, rfl, rfl, _, rfl, ite2 (fun _ => ?_) (fun _ => ?_)⟩
    · exact ⟨(by show 1 ≤ sizeLine; decide), fun a ha => k a .gone _ upd_same trivial ((pen1.same (Same.new ha)).mono (by omega)) (kp1.trans (Same.keep (Same.new ha)))⟩
    refine ⟨_, rfl, rfl, _, rfl, ite2 (fun _ => ?_) (fun _ => iteF ?_)⟩
    · refine ⟨_, rfl, _, _, rfl, rfl, _, rfl, ite2 (fun c4 => ?_) (fun _ => ?_)⟩
      · have c4' := of_decide_eq_true c4
        refine ⟨_, rfl, _, rfl, p, _, _, _, rfl, (by omega), sz4000 (by omega) (by omega), pen1, (by omega), fun r2 H2 a2 b2 pen2 kp2 => ⟨two_le, fun a ha => ?_⟩⟩
        exact k a (.par r2) _ upd_same ⟨a2, b2⟩ ((pen2.same (Same.new ha)).mono (by omega)) ((kp1.trans kp2).trans (Same.keep (Same.new ha)))
      · refine ⟨_, rfl, p, true, _, S, rfl, pen1, (by omega), fun z H2 nm rs pen2 kp2 => ⟨two_le, fun a ha => ?_⟩⟩
        exact k a (.nam z) _ upd_same ⟨nm, rs rfl⟩ ((pen2.same (Same.new ha)).mono (by omega)) ((kp1.trans kp2).trans (Same.keep (Same.new ha)))
    · refine ⟨_, rfl, p, true, _, S, rfl, pen1, (by omega), fun z H2 nm rs pen2 kp2 => ⟨two_le, fun a ha => ?_⟩⟩
      exact k a (.nam z) _ upd_same ⟨nm, rs rfl⟩ ((pen2.same (Same.new ha)).mono (by omega)) ((kp1.trans kp2).trans (Same.keep (Same.new ha)))
theorem sc_law_frame : FnScope ["_law_pen_here", "_law_way", "_law_words", "_law_word"] ["_law_pen_here"] (defScope s__law_frame) := ⟨rfl, rfl, rfl, by decide +kernel, rfl, by decide +kernel, by decide +kernel⟩
theorem ok__law_frame (T : Txt w K mg t) : FnOk P w K mg base CX0 3 t.f__law_frame t.d__law_frame ["_law_pen_here"] (spFrmD K) := by
  have D := T.c__law_frame
  refine D.fn.ok sc_law_frame (fun vs H Q E h => ?_) (fun cdv A outer s H vs Q E hr h => ?_)
  · obtain ⟨p, n, S, rfl, _⟩ := h
    rfl
  · obtain ⟨p, n, S, rfl, hpen, hn, k⟩ := h
    have hu := hr.units0
    have hu1 := hu_of hr
    refine ⟨_, ((pss_cons (ps_set (i := 1) sc_law_frame.nd rfl (Or.inl rfl) (pe_cl T.c__law_take (ok__law_take T) (hr.mono (by decide)) (pa_consN (pv 0) (pa_consK pe_int pa_nil))))
      (pss_cons (ps_if (pt_cmpR op_lt (pv 1) pe_int (nomark _)) (pss_one (ps_ret (pe_tup (pa_consT (pe_tup (pa_consK pe_str (pa_consS (pe_ix ix_str pe_str (pv 1) (fun _ _ => rfl)) pa_nil))) (pa_consK pe_int pa_nil))))) pss_nil)
      (pss_cons (ps_if (pt_cmpR op_lt (pv 1) pe_int (nomark _)) (pss_one (ps_ret (pe_tup (pa_consT (pe_tup (pa_consK pe_str pa_nil)) (pa_consK pe_int pa_nil))))) pss_nil)
      (pss_cons (ps_if (pt_cmpR op_lt (pv 1) pe_int (nomark _)) (pss_one (ps_ret (pe_tup (pa_consT (pe_tup (pa_consK pe_str (pa_consC (pe_cl T.c__law_letters (ok__law_letters T) (hr.mono (by decide)) (pa_consN (pv 0) (pa_consK pe_bl pa_nil))) pa_nil))) (pa_consC (pe_cl T.c__law_take (ok__law_take T) (hr.mono (by decide)) (pa_consN (pv 0) (pa_consK pe_int pa_nil))) pa_nil))))) pss_nil)
      (pss_cons (ps_if (pt_cmpR op_eq (pv 1) pe_int (nomark _)) (pss_one (ps_ret (pe_tup (pa_consT (pe_tup (pa_consK pe_str (pa_consB (pe_op op_add pe_int (pe_cl T.c__law_take (ok__law_take T) (hr.mono (by decide)) (pa_consN (pv 0) (pa_consK pe_int pa_nil)))) (pa_consB (pe_op op_add pe_int (pe_cl T.c__law_take (ok__law_take T) (hr.mono (by decide)) (pa_consN (pv 0) (pa_consK pe_int pa_nil)))) pa_nil)))) (pa_consK pe_int pa_nil))))) pss_nil)
      (pss_cons (ps_if (pt_cmpR op_eq (pv 1) pe_int (nomark _)) (pss_one (ps_ret (pe_tup (pa_consT (pe_tup (pa_consK pe_str (pa_consS (pe_ix ix_str pe_str (pe_cl T.c__law_take (ok__law_take T) (hr.mono (by decide)) (pa_consN (pv 0) (pa_consK pe_int pa_nil))) (fun _ _ => rfl)) pa_nil))) (pa_consK pe_int pa_nil))))) pss_nil)
      (pss_cons (ps_set (i := 2) sc_law_frame.nd rfl (Or.inl rfl) (pe_lst (pa_consK pe_str (pa_consK pe_str (pa_consK pe_str (pa_consK pe_str (pa_consK pe_str (pa_consK pe_str (pa_consK pe_str (pa_consK pe_str (pa_consK pe_str pa_nil)))))))))))
      (pss_cons (ps_set (i := 3) sc_law_frame.nd rfl (Or.inl rfl) (pe_ix ix_list (pv 2) (pe_cl T.c__law_take (ok__law_take T) (hr.mono (by decide)) (pa_consN (pv 0) (pa_consK pe_int pa_nil))) (fun _ _ => rfl)))
      (pss_one (ps_ret (pe_tup (pa_consT (pe_tup (pa_consN (pv 3) pa_nil)) (pa_consS (pe_ix ix_list (pe_lst (pa_consK pe_int (pa_consK pe_int (pa_consK pe_int (pa_consK pe_int (pa_consK pe_int (pa_consK pe_int (pa_consK pe_int (pa_consK pe_int (pa_consK pe_int pa_nil)))))))))) (pe_bm PySem.F.plainAttrs_list PySem.F.slot_list_index PySem.F.type_list_index mt_index (pv 2) (pa_consN (pv 3) pa_nil)) (fun _ _ => rfl)) pa_nil)))))))))))))), ?_⟩

    refine ⟨_, rfl, p, _, _, _, rfl, (by show (0 : Int) < _; decide), sz4000 (by decide) (by decide), hpen, (by omega), fun r1 H1 a1 b1 pen1 kp1 => ?_⟩
    refine ⟨_, rfl, _, _, rfl, rfl, _, rfl, ite2 (fun c1 => ?_) (fun c1 => ?_)⟩
    · obtain ⟨c, hc, hin⟩ := op7 a1 (of_decide_eq_true c1)
      refine ⟨_, rfl, _, _, c, rfl, rfl, (by decide +kernel), hc, two_le, fun f hf => ?_⟩
      have s8 := Same.new (o := .tup (frV (.op ⟨#[c]⟩))) hf
      refine ⟨two_le, fun a ha => ?_⟩
      exact k a f (.op ⟨#[c]⟩) 2 _ upd_same (Same.new ha _ _ upd_same) ⟨hin, rfl⟩ (((pen1.same s8).same (Same.new ha)).mono (by omega)) (kp1.trans ((Same.keep s8).trans (Same.keep (Same.new ha))))

    refine ⟨_, rfl, _, _, rfl, rfl, _, rfl, ite2 (fun _ => ?_) (fun _ => ?_)⟩
    · refine ⟨(by show 1 ≤ sizeLine; decide), fun f hf => ?_⟩
      have s8 := Same.new (o := .tup (frV (.neg))) hf
      refine ⟨two_le, fun a ha => ?_⟩
      exact k a f (.neg) 1 _ upd_same (Same.new ha _ _ upd_same) rfl (((pen1.same s8).same (Same.new ha)).mono (by omega)) (kp1.trans ((Same.keep s8).trans (Same.keep (Same.new ha))))

    refine ⟨_, rfl, _, _, rfl, rfl, _, rfl, ite2 (fun _ => ?_) (fun _ => ?_)⟩
    · refine ⟨_, rfl, p, true, _, S, rfl, pen1, (by omega), fun z H2 nm rs pen2 kp2 => ⟨two_le, fun f hf => ?_⟩⟩
      have s3 := Same.new (o := .tup (frV (.own z))) hf
      refine ⟨_, rfl, p, _, _, _, rfl, (by show (0 : Int) < _; decide), sz4000 (by decide) (by decide), (pen2.same s3), (by omega), fun r4 H4 a4 b4 pen4 kp4 => ⟨two_le, fun a ha => ?_⟩⟩
      obtain ⟨m, hm⟩ : ∃ m : Nat, r4 = (m : Int) := ⟨r4.toNat, by omega⟩
      subst hm
      have hf4 := Kp.pen (pen2.same s3) kp4 _ _ (upd_same (H := H2) (a := f) (o := .tup (frV (.own z))))
      exact k a f (.own z) m _ upd_same (Same.new ha _ _ hf4) ⟨nm, rs rfl, by omega⟩ ((pen4.same (Same.new ha)).mono (by omega)) (((kp1.trans kp2).trans ((Same.keep s3).trans kp4)).trans (Same.keep (Same.new ha)))
    refine ⟨_, rfl, rfl, _, rfl, ite2 (fun _ => ?_) (fun _ => ?_)⟩
    · refine ⟨_, rfl, p, _, _, _, rfl, (by show (0 : Int) < _; decide), sz4000 (by decide) (by decide), pen1, (by omega), fun r2 H2 a2 b2 pen2 kp2 => ⟨_, _, rfl, rfl, _, rfl, p, _, _, _, rfl, (by show (0 : Int) < _; decide), sz4000 (by decide) (by decide), pen2, (by omega), fun r3 H3 a3 b3 pen3 kp3 => ⟨_, _, rfl, rfl, three_le, fun f hf => ?_⟩⟩⟩
      have s8 := Same.new (o := .tup (frV (.grid (1 + r2) (1 + r3)))) hf
      refine ⟨two_le, fun a ha => ?_⟩
      exact k a f (.grid (1 + r2) (1 + r3)) 2 _ upd_same (Same.new ha _ _ upd_same) ⟨by omega, by omega, by omega, by omega, rfl⟩ (((pen3.same s8).same (Same.new ha)).mono (by omega)) (((kp1.trans kp2).trans kp3).trans ((Same.keep s8).trans (Same.keep (Same.new ha))))

    refine ⟨_, rfl, rfl, _, rfl, ite2 (fun _ => ?_) (fun _ => ?_)⟩
    · refine ⟨_, rfl, p, _, _, _, rfl, (by show (0 : Int) < _; decide), sz4000 (by decide) (by decide), pen1, (by omega), fun r2 H2 a2 b2 pen2 kp2 => ?_⟩
      obtain ⟨c, hc, hin⟩ := op2 a2 b2
      refine ⟨_, _, c, rfl, rfl, (by decide +kernel), hc, two_le, fun f hf => ?_⟩
      have s8 := Same.new (o := .tup (frV (.sumif ⟨#[c]⟩))) hf
      refine ⟨two_le, fun a ha => ?_⟩
      exact k a f (.sumif ⟨#[c]⟩) 3 _ upd_same (Same.new ha _ _ upd_same) ⟨hin, rfl⟩ (((pen2.same s8).same (Same.new ha)).mono (by omega)) ((kp1.trans kp2).trans ((Same.keep s8).trans (Same.keep (Same.new ha))))

    refine ⟨(by show 9 ≤ sizeLine; decide), fun l hl => ?_⟩
    have s2 := Same.new (o := .lst (WD9.map V.str)) hl
    have nl := pen1.ne hl
    refine ⟨_, rfl, _, rfl, p, _, _, _, rfl, (by show (0 : Int) < _; decide), sz4000 (by decide) (by decide), (pen1.same s2), (by omega), fun r2 H2 a2 b2 pen2 kp2 => ?_⟩
    obtain ⟨z, j, m, hz, hj, hno, hm, hin⟩ := wd9 a2 b2
    have hl2 := kp2 _ _ nl (upd_same (H := H1) (a := l) (o := .lst (WD9.map V.str)))
    refine ⟨l, _, _, _, rfl, rfl, SqL.of hl2, hz, ?_⟩
    refine ⟨_, rfl, (by show 1 ≤ sizeLine; decide), fun f hf => ?_⟩
    have s3 := Same.new (o := .tup (frV (.wd z))) hf
    refine ⟨(by show 9 ≤ sizeLine; decide), fun l3 hl3 => ?_⟩
    have s4 := Same.new (o := .lst [.int 3, .int 1, .int 1, .int 1, .int 1, .int 3, .int 1, .int 2, .int 1]) hl3
    refine ⟨_, rfl, .inl ⟨rfl, _, SqL.of (s4 _ _ (s3 _ _ hl2))⟩, _, rfl, l, WD9, z, j, rfl, rfl, s4 _ _ (s3 _ _ hl2), hj, hno, ?_⟩
    refine ⟨l3, _, _, _, rfl, rfl, SqL.of upd_same, hm, two_le, fun a ha => ?_⟩
    exact k a f (.wd z) m _ upd_same (Same.new ha _ _ (s4 _ _ upd_same)) hin ((((pen2.same s3).same s4).same (Same.new ha)).mono (by omega)) ((kp1.trans ((Same.keep s2).trans kp2)).trans (((Same.keep s3).trans (Same.keep s4)).trans (Same.keep (Same.new ha))))
theorem sc_law_made : FnScope ["_law_frame_here", "_law_parts_here"] ["_law_frame_here", "_law_parts_here"] (defScope s__law_made) := ⟨rfl, rfl, rfl, by decide +kernel, rfl, by decide +kernel, by decide +kernel⟩
theorem ok__law_made (T : Txt w K mg t) : FnOk P w K mg base CX0 1 t.f__law_made t.d__law_made ["_law_frame_here", "_law_parts_here"] spMadD := by
  have D := T.c__law_made
  refine D.fn.ok sc_law_made (fun vs H Q E h => ?_) (fun cdv A outer s H vs Q E hr h => ?_)
  · obtain ⟨f, l, kd, us, rfl, _⟩ := h
    rfl
  · obtain ⟨f, l, kd, us, rfl, hf, hl, ok, k_⟩ := h
    have hu := hr.units0
    have hu1 := hu_of hr
    refine ⟨_, ((pss_cons (ps_if (pt_cmpR op_eq (pe_ix ix_tup (pv 0) pe_int (fun _ _ => rfl)) pe_str (nomark _)) (pss_one (ps_ret (pe_tup (pa_consK pe_str (pa_consS (pe_ix ix_tup (pv 0) pe_int (fun _ _ => rfl)) (pa_consC (pe_callTy call_tuple_of (by rfl) T.tuple boot_tuple (pa_consN (pv 1) pa_nil)) pa_nil)))))) pss_nil)
      (pss_cons (ps_if (pt_cmpR op_eq (pe_ix ix_tup (pv 0) pe_int (fun _ _ => rfl)) pe_str (nomark _)) (pss_one (ps_ret (pe_tup (pa_consK pe_str (pa_consS (pe_ix ix_list (pv 1) pe_int (fun _ _ => rfl)) (pa_consS (pe_ix ix_tup (pv 0) pe_int (fun _ _ => rfl)) (pa_consS (pe_ix ix_list (pv 1) pe_int (fun _ _ => rfl)) (pa_consS (pe_ix ix_list (pv 1) pe_int (fun _ _ => rfl)) pa_nil)))))))) pss_nil)
      (pss_one (ps_ret (pe_op op_catT (pv 0) (pe_callTy call_tuple_of (by rfl) T.tuple boot_tuple (pa_consN (pv 1) pa_nil)))))))), ?_⟩

    have ar3 := ok.le
    cases kd with
    | own z =>
      refine ⟨_, rfl, f, _, _, _, rfl, rfl, SqT.of hf, rfl, rfl, true, (by decide +kernel), iteT ?_⟩
      refine ⟨_, rfl, f, _, _, _, rfl, rfl, SqT.of hf, rfl, _, rfl, l, us, rfl, .inl ⟨SqL.of hl, fun t ht => ⟨three_le, fun a ha => ?_⟩⟩⟩
      exact k_ a t _ upd_same (fun _ => Same.new ha _ _ upd_same) ((Same.new ht).trans (Same.new ha))
    | sumif z =>
      obtain ⟨u0, u1, u2, rfl⟩ := kid3 (show us.length = 3 from ok.2)
      refine ⟨_, rfl, f, _, _, _, rfl, rfl, SqT.of hf, rfl, rfl, false, (by decide +kernel), iteF ?_⟩
      refine ⟨_, rfl, f, _, _, _, rfl, rfl, SqT.of hf, rfl, rfl, true, (by decide +kernel), iteT ?_⟩
      refine ⟨_, rfl, l, _, _, _, rfl, rfl, SqL.of hl, rfl, _, rfl, f, _, _, _, rfl, rfl, SqT.of hf, rfl, _, rfl, l, _, _, _, rfl, rfl, SqL.of hl, rfl, _, rfl, l, _, _, _, rfl, rfl, SqL.of hl, rfl, (by show 5 ≤ sizeLine; decide), fun a ha => ?_⟩
      exact k_ a a _ upd_same (fun z => by cases z) (Same.new ha)
    | op z =>
      have ar : us.length = 2 := ok.2
      refine ⟨_, rfl, f, _, _, _, rfl, rfl, SqT.of hf, rfl, rfl, false, (by decide +kernel), iteF ?_⟩
      refine ⟨_, rfl, f, _, _, _, rfl, rfl, SqT.of hf, rfl, rfl, false, (by decide +kernel), iteF ?_⟩
      refine ⟨_, rfl, _, rfl, l, us, rfl, .inl ⟨SqL.of hl, fun t ht => ?_⟩⟩
      have s1 := Same.new (o := .tup us) ht
      refine ⟨f, t, _, us, rfl, rfl, SqT.of (s1 _ _ hf), SqT.of upd_same, (fun z => by cases z), sl_le (by simp [frV]; omega), fun z => ?_, fun _ a ha => ?_⟩
      · subst z
        simp at ar
      · exact k_ a t _ upd_same (fun z => by cases z) (s1.trans (Same.new ha))

    | neg =>
      have ar : us.length = 1 := ok
      refine ⟨_, rfl, f, _, _, _, rfl, rfl, SqT.of hf, rfl, rfl, false, (by decide +kernel), iteF ?_⟩
      refine ⟨_, rfl, f, _, _, _, rfl, rfl, SqT.of hf, rfl, rfl, false, (by decide +kernel), iteF ?_⟩
      refine ⟨_, rfl, _, rfl, l, us, rfl, .inl ⟨SqL.of hl, fun t ht => ?_⟩⟩
      have s1 := Same.new (o := .tup us) ht
      refine ⟨f, t, _, us, rfl, rfl, SqT.of (s1 _ _ hf), SqT.of upd_same, (fun z => by cases z), sl_le (by simp [frV]; omega), fun z => ?_, fun _ a ha => ?_⟩
      · subst z
        simp at ar
      · exact k_ a t _ upd_same (fun z => by cases z) (s1.trans (Same.new ha))

    | grid i j =>
      have ar : us.length = 2 := ok.2.2.2.2
      refine ⟨_, rfl, f, _, _, _, rfl, rfl, SqT.of hf, rfl, rfl, false, (by decide +kernel), iteF ?_⟩
      refine ⟨_, rfl, f, _, _, _, rfl, rfl, SqT.of hf, rfl, rfl, false, (by decide +kernel), iteF ?_⟩
      refine ⟨_, rfl, _, rfl, l, us, rfl, .inl ⟨SqL.of hl, fun t ht => ?_⟩⟩
      have s1 := Same.new (o := .tup us) ht
      refine ⟨f, t, _, us, rfl, rfl, SqT.of (s1 _ _ hf), SqT.of upd_same, (fun z => by cases z), sl_le (by simp [frV]; omega), fun z => ?_, fun _ a ha => ?_⟩
      · subst z
        simp at ar
      · exact k_ a t _ upd_same (fun z => by cases z) (s1.trans (Same.new ha))

    | wd z =>
      have hw : (z, us.length) ∈ WDS := ok
      have hz : ∀ x ∈ WDS, decide (V.str x.1 = vS "own") = false ∧ decide (V.str x.1 = vS "sumif") = false ∧ 1 ≤ x.2 := by decide +kernel
      obtain ⟨h1, h2, ar⟩ := hz _ hw
      dsimp only at h1 h2 ar
      refine ⟨_, rfl, f, _, _, _, rfl, rfl, SqT.of hf, rfl, rfl, false, congrArg V.bl h1, iteF ?_⟩
      refine ⟨_, rfl, f, _, _, _, rfl, rfl, SqT.of hf, rfl, rfl, false, congrArg V.bl h2, iteF ?_⟩
      refine ⟨_, rfl, _, rfl, l, us, rfl, .inl ⟨SqL.of hl, fun t ht => ?_⟩⟩
      have s1 := Same.new (o := .tup us) ht
      refine ⟨f, t, _, us, rfl, rfl, SqT.of (s1 _ _ hf), SqT.of upd_same, (fun z => by cases z), sl_le (by simp [frV]; omega), fun z => ?_, fun _ a ha => ?_⟩
      · subst z
        simp at ar
      · exact k_ a t _ upd_same (fun z => by cases z) (s1.trans (Same.new ha))
theorem sc_law_grown : FnScope ["_law_pen_here", "_law_room", "_law_deep_here", "_law_params", "_law_frame_here", "_law_many", "_law_left", "_law_parts_here", "_law_k", "_law_own"] ["_law_pen_here", "_law_room", "_law_deep_here", "_law_params"] (defScope s__law_grown) := ⟨rfl, rfl, rfl, by decide +kernel, rfl, by decide +kernel, by decide +kernel⟩
theorem ok__law_grown (T : Txt w K mg t) : ∀ n : Nat, FnOk P w K mg base CX0 (n + 6) t.f__law_grown t.d__law_grown ["_law_pen_here", "_law_room", "_law_deep_here", "_law_params"] (spGrow K n) := by
  have D := T.c__law_grown
  intro n
  induction n with
  | zero =>
    refine D.fn.ok sc_law_grown (fun vs H Q E h => ?_) (fun cdv A outer s H vs Q E hr h => ?_)
    · obtain ⟨p, room, d, pr, c, S, rfl, _⟩ := h
      rfl
    · obtain ⟨p, room, d, pr, c, S, rfl, hd, hr0, hr1, hpr, hpen, hc, k⟩ := h
      have hu := hr.units0
      have hu1 := hu_of hr
      have ih : FnOk P w K mg base CX0 0 t.f__law_grown t.d__law_grown ["_law_pen_here", "_law_room", "_law_deep_here", "_law_params"] (fun _ _ _ _ => False) := ⟨fun _ _ _ _ z => z.elim, fun _ _ _ _ _ _ _ _ _ _ _ _ _ z => z.elim⟩
      refine ⟨_, ((pss_cons (ps_if (pw_or (pt_cmpR op_lt (pv 1) pe_int (nomark _)) (pw_or (pt_cmpR op_lt (pv 2) pe_int (nomark _)) (pw_or1 (pt_cmpR op_eq (pe_cl T.c__law_take (ok__law_take T) (hr.mono (by omega)) (pa_consN (pv 0) (pa_consK pe_int pa_nil))) pe_int (nomark _))))).pt (pss_one (ps_ret (pe_cl T.c__law_leaf (ok__law_leaf T) (hr.mono (by omega)) (pa_consN (pv 0) (pa_consN (pv 3) pa_nil))))) pss_nil)
      (pss_cons ps_never (pss_cons ps_never (pss_cons ps_never (pss_cons ps_never (pss_cons ps_never (pss_one ps_never)))))))), ?_⟩
      refine ⟨_, rfl, _, _, rfl, rfl, _, rfl, ite2 (fun _ => iteT ⟨_, rfl, _, rfl, p, pr, _, S, rfl, hpr, hpen, (by omega), fun a lf HL ha ok penL kpL => k (.ref a) (.lf lf) HL (.lf ha) (.lf ok) (penL.mono (by omega)) ( kpL)⟩) (fun _ => ?_)⟩
      refine ⟨_, rfl, _, _, rfl, rfl, _, rfl, ite2 (fun _ => iteT ⟨_, rfl, _, rfl, p, pr, _, S, rfl, hpr, hpen, (by omega), fun a lf HL ha ok penL kpL => k (.ref a) (.lf lf) HL (.lf ha) (.lf ok) (penL.mono (by omega)) ( kpL)⟩) (fun z => absurd (decide_eq_true (by omega)) z)⟩
  | succ n ih =>
    refine D.fn.ok sc_law_grown (fun vs H Q E h => ?_) (fun cdv A outer s H vs Q E hr h => ?_)
    · obtain ⟨p, room, d, pr, c, S, rfl, _⟩ := h
      rfl
    · obtain ⟨p, room, d, pr, c, S, rfl, hd, hr0, hr1, hpr, hpen, hc, k⟩ := h
      have hu := hr.units0
      have hu1 := hu_of hr
      refine ⟨_, ((pss_cons (ps_if (pw_or (pt_cmpR op_lt (pv 1) pe_int (nomark _)) (pw_or (pt_cmpR op_lt (pv 2) pe_int (nomark _)) (pw_or1 (pt_cmpR op_eq (pe_cl T.c__law_take (ok__law_take T) (hr.mono (by omega)) (pa_consN (pv 0) (pa_consK pe_int pa_nil))) pe_int (nomark _))))).pt (pss_one (ps_ret (pe_cl T.c__law_leaf (ok__law_leaf T) (hr.mono (by omega)) (pa_consN (pv 0) (pa_consN (pv 3) pa_nil))))) pss_nil)
      (pss_cons (ps_asg (pe_cl T.c__law_frame (ok__law_frame T) (hr.mono (by omega)) (pa_consN (pv 0) pa_nil)) (pg_tup rfl (pgs_cons (pg_name (i := 4) sc_law_grown.nd rfl (Or.inl rfl)) (pgs_cons (pg_name (i := 5) sc_law_grown.nd rfl (Or.inl rfl)) pgs_nil))))
      (pss_cons (ps_if (pt_cmpR op_gt (pv 5) (pe_op op_sub (pv 1) pe_int) (nomark _)) (pss_one (ps_ret (pe_cl T.c__law_leaf (ok__law_leaf T) (hr.mono (by omega)) (pa_consN (pv 0) (pa_consN (pv 3) pa_nil))))) pss_nil)
      (pss_cons (ps_set (i := 6) sc_law_grown.nd rfl (Or.inl rfl) (pe_op op_sub (pv 1) pe_int))
      (pss_cons (ps_set (i := 7) sc_law_grown.nd rfl (Or.inl rfl) (pe_lst pa_nil))
      (pss_cons (ps_for PassesOwn.never rfl (pi_range1 rfl T.range (pa_consN (pv 5) pa_nil)) (pg_name (i := 8) sc_law_grown.nd rfl (Or.inl rfl))
      (pss_cons (ps_set (i := 9) sc_law_grown.nd rfl (Or.inl rfl) (pe_op op_add pe_int (pe_cl T.c__law_take (ok__law_take T) (hr.mono (by omega)) (pa_consN (pv 0) (pa_consB (pe_op op_add (pe_op op_sub (pv 6) (pe_op op_sub (pv 5) (pv 8))) pe_int) pa_nil)))))
      (pss_cons (ps_expr (pe_bm PySem.F.plainAttrs_list PySem.F.slot_list_append PySem.F.type_list_append mt_append (pv 7) (pa_consC (pe_cl T.c__law_grown ih (hr.mono (by omega)) (pa_consN (pv 0) (pa_consN (pv 9) (pa_consB (pe_op op_sub (pv 2) pe_int) (pa_consN (pv 3) pa_nil))))) pa_nil)))
      (pss_one (ps_set (i := 6) sc_law_grown.nd rfl (Or.inl rfl) (pe_op op_sub (pv 6) (pv 9)))))))
      (pss_one (ps_ret (pe_cl T.c__law_made (ok__law_made T) (hr.mono (by omega)) (pa_consN (pv 4) (pa_consN (pv 7) pa_nil)))))))))))), ?_⟩
      refine ⟨_, rfl, _, _, rfl, rfl, _, rfl, ite2 (fun _ => iteT ⟨_, rfl, _, rfl, p, pr, _, S, rfl, hpr, hpen, (by omega), fun a lf HL ha ok penL kpL => k (.ref a) (.lf lf) HL (.lf ha) (.lf ok) (penL.mono (by omega)) ( kpL)⟩) (fun c1 => ?_)⟩
      have c1' : ¬ room < 2 := fun z => c1 (decide_eq_true z)
      refine ⟨_, rfl, _, _, rfl, rfl, _, rfl, ite2 (fun _ => iteT ⟨_, rfl, _, rfl, p, pr, _, S, rfl, hpr, hpen, (by omega), fun a lf HL ha ok penL kpL => k (.ref a) (.lf lf) HL (.lf ha) (.lf ok) (penL.mono (by omega)) ( kpL)⟩) (fun _ => ?_)⟩
      refine ⟨_, rfl, p, _, _, _, rfl, (by show (0 : Int) < _; decide), sz4000 (by decide) (by decide), hpen, (by omega), fun r1 H1 a1 b1 pen1 kp1 => ⟨rfl, _, rfl, ite2 (fun _ => ⟨_, rfl, _, rfl, p, pr, _, S, rfl, hpr, pen1, (by omega), fun a lf HL ha ok penL kpL => k (.ref a) (.lf lf) HL (.lf ha) (.lf ok) (penL.mono (by omega)) (kp1.trans kpL)⟩) (fun _ => ?_)⟩⟩
      refine ⟨_, rfl, p, _, S, rfl, pen1, (by omega), fun a f kd m H2 ha hf ok pen2 kp2 => ?_⟩
      have m3 := ok.le
      refine ⟨a, _, rfl, SqT.of ha, rfl, _, _, rfl, _, _, rfl, rfl, ?_⟩
      refine ⟨_, rfl, _, rfl, _, _, rfl, rfl, _, _, rfl, rfl, _, rfl, ite2 (fun _ => ⟨_, rfl, _, rfl, p, pr, _, S, rfl, hpr, pen2, (by omega), fun a lf HL ha ok penL kpL => k (.ref a) (.lf lf) HL (.lf ha) (.lf ok) (penL.mono (by omega)) ((kp1.trans kp2).trans kpL)⟩) (fun c2 => ?_)⟩
      have c2' : ¬ room - 1 < (m : Int) := fun z => c2 (decide_eq_true z)
      refine ⟨_, rfl, _, _, rfl, rfl, ?_⟩
      refine ⟨Nat.zero_le _, fun l hl => ?_⟩
      have s3 := Same.new (o := .lst []) hl
      have nlp := pen2.ne hl
      refine ⟨_, rfl, _, rfl, (by omega), (by omega), ?_⟩
      refine for_range (n := (m : Int).toNat) (fun i σ H3 => ∃ (left : Int) (x8 x9 : Option V) (vs : List V) (acc : List Fm), σ = [some (.ref p), some (.int room), some (.int d), some (.int pr), some (.ref f), some (.int m), some (.int left), some (.ref l), x8, x9] ∧ H3 l = some (.lst vs) ∧ FmsAt H3 vs acc ∧ (∀ g ∈ acc, FO pr (n + 1) g) ∧ acc.length = i ∧ (m : Int) - i ≤ left ∧ left ≤ room - 1 ∧ PenD K S H3 p (c + 13 + i + 80 * (room - 1 - left).toNat) ∧ KeepX p H H3 ∧ H3 f = some (.tup (frV kd)))
        ⟨room - 1, none, none, [], [], rfl, upd_same, .nil, (fun g h => by cases h), rfl, (by omega), (by omega), (pen2.same s3).mono (by omega), (kp1.trans kp2).trans (Same.keep s3), s3 _ _ hf⟩ ?_ ?_
      · rintro i σ H3 hi ⟨left, x8, x9, vs, acc, rfl, h3, r3, fo3, l3, lo, hi3, pen3, kp3, hf3⟩
        refine ⟨_, rfl, _, rfl, _, rfl, _, rfl, _, _, rfl, rfl, _, _, rfl, rfl, _, _, rfl, rfl, p, _, _, _, rfl, (by omega), sz4000 (by omega) (by omega), pen3, (by omega), fun r4 H4 a4 b4 pen4 kp4 => ⟨_, _, rfl, rfl, ?_⟩⟩
        have h4 := kp4 _ _ nlp h3
        have r4 := FmsAt.kp r3 (Kp.pen pen3 kp4)
        have hf4 := Kp.pen pen3 kp4 _ _ hf3
        refine ⟨_, rfl, .inl ⟨rfl, _, SqL.of h4⟩, _, rfl, _, rfl, _, rfl, _, _, rfl, rfl, _, rfl, p, _, _, pr, _, S, rfl, (by omega), (by omega), (by omega), hpr, pen4, (by omega), fun v g H5 hv fo pen5 kp5 => ?_⟩
        have h5 := kp5 _ _ nlp h4
        have r5 := FmsAt.kp r4 (Kp.pen pen4 kp5)
        have hlv : vs.length = acc.length := Paired.length r3
        refine ⟨l, _, _, rfl, rfl, h5, sl_lt (by omega), ?_⟩
        have k6 : Kp H5 (upd H5 l (.lst (vs ++ [v]))) := Kp.lst h5 KeepX.upd
        refine ⟨_, rfl, _, rfl, _, _, rfl, rfl, ?_⟩
        refine ⟨_, _, _, vs ++ [v], acc ++ [g], rfl, upd_same, psnoc (FmsAt.kp r5 k6) (FmAt.kp hv k6), fun x hx => ?_, (by simp [l3]), (by omega), (by omega), ?_, fun b o hb e => ?_, k6 _ _ (Kp.pen pen4 kp5 _ _ hf4)⟩
        · rcases List.mem_append.mp hx with z | z
          · exact fo3 x z
          · rw [List.mem_singleton.mp z]; exact fo
        · exact (pen2.put hl pen5).mono (by omega)
        · have nbl : b ≠ l := fun z => by
            have := kp2 _ _ hb (kp1 _ _ hb e)
            rw [z, hl] at this; cases this
          rw [upd_ne nbl]
          exact kp5 _ _ hb (kp4 _ _ hb (kp3 _ _ hb e))
      · rintro σ H3 ⟨left, x8, x9, vs, acc, rfl, h3, r3, fo3, l3, lo, hi3, pen3, kp3, hf3⟩
        have hlv : vs.length = acc.length := Paired.length r3
        have l3' : acc.length = m := by rw [l3]; omega
        refine ⟨_, rfl, _, rfl, f, l, kd, vs, rfl, hf3, h3, (by rw [hlv, l3']; exact ok), fun a2 t2 H4 ha2 ht2 s4 => ?_⟩
        have r4 := FmsAt.kp r3 (Kp.same s4)
        refine k (.ref a2) (.nd kd acc) H4 (.nd ha2 ht2 hlv fun j u g e1 e2 => ?_) (.nd (by rw [l3']; exact ok) fo3) ((pen3.same s4).mono (by omega)) (kp3.trans (Same.keep s4))
        obtain ⟨g', e3, x⟩ := paired_at r4 e1
        rw [e3] at e2
        cases e2
        exact x
theorem sc_law_column : FnScope ["_law_column_here", "_law_stands"] ["_law_column_here", "_law_stands"] (defScope s__law_column) := ⟨rfl, rfl, rfl, by decide +kernel, rfl, by decide +kernel, by decide +kernel⟩
theorem ok__law_column (T : Txt w K mg t) : FnOk P w K mg base CX0 1 t.f__law_column t.d__law_column ["_law_column_here", "_law_stands"] spColD := by
  have D := T.c__law_column
  refine D.fn.ok sc_law_column (fun vs H Q E h => ?_) (fun cdv A outer s H vs Q E hr h => ?_)
  · obtain ⟨c, x, rfl, _⟩ := h
    rfl
  · obtain ⟨c, x, rfl, h0, h1, k⟩ := h
    have hu := hr.units0
    have hu1 := hu_of hr
    refine ⟨_, ((pss_one (ps_ret (pe_op op_add_str (pe_ix ix_list (pe_lst (pa_consK pe_str (pa_consK pe_str pa_nil))) (pe_callTy call_int1 (by rfl) T.int boot_int (pa_consN (pv 1) pa_nil)) (fun _ _ => rfl)) (pe_ix ix_str pe_str (pe_op op_sub (pv 0) pe_int) (fun _ _ => rfl)))))), ?_⟩

    obtain ⟨_, a2, _⟩ := col_at h0 h1
    have e2 : (colL c).length = 1 := rfl
    have e3 := dl_len x
    refine ⟨two_le, fun l hl => ⟨_, rfl, .inr ⟨x, rfl, l, _, _, _, rfl, rfl, SqL.of upd_same, dl_at x, ?_⟩⟩⟩
    refine ⟨_, rfl, _, _, rfl, rfl, _, _, _, rfl, rfl, (by decide +kernel), a2, _, _, rfl, rfl, sl_le (by show _ + (colL c).length ≤ _; omega), ?_⟩
    have e := dl_col c x
    unfold colL at e
    rw [e]
    exact k _ (Same.new hl)
theorem sc_law_corner_text : FnScope ["_law_corner_here"] ["_law_corner_here"] (defScope s__law_corner_text) := ⟨rfl, rfl, rfl, by decide +kernel, rfl, by decide +kernel, by decide +kernel⟩
theorem ok__law_corner_text (T : Txt w K mg t) : FnOk P w K mg base CX0 2 t.f__law_corner_text t.d__law_corner_text ["_law_corner_here"] spCoT := by
  have D := T.c__law_corner_text
  refine D.fn.ok sc_law_corner_text (fun vs H Q E h => ?_) (fun cdv A outer s H vs Q E hr h => ?_)
  · obtain ⟨a, c, rfl, _⟩ := h
    rfl
  · obtain ⟨a, c, rfl, ha, ok, k⟩ := h
    have hu := hr.units0
    have hu1 := hu_of hr
    refine ⟨_, ((pss_one (ps_ret (pe_op op_add_str (pe_op op_add_str (pe_cl T.c__law_column (ok__law_column T) (hr.mono (by decide)) (pa_consS (pe_ix ix_tup (pv 0) pe_int (fun _ _ => rfl)) (pa_consS (pe_ix ix_tup (pv 0) pe_int (fun _ _ => rfl)) pa_nil))) (pe_ix ix_list (pe_lst (pa_consK pe_str (pa_consK pe_str pa_nil))) (pe_callTy call_int1 (by rfl) T.int boot_int (pa_consS (pe_ix ix_tup (pv 0) pe_int (fun _ _ => rfl)) pa_nil)) (fun _ _ => rfl))) (pe_callTy call_str_int (by rfl) T.str boot_str (pa_consS (pe_ix ix_tup (pv 0) pe_int (fun _ _ => rfl)) pa_nil)))))), ?_⟩

    have l1 := colT_len c.c c.y
    have l2 := dl_len c.x
    have l3 := num_s ok.r0 ok.r1
    refine ⟨_, rfl, a, _, _, _, rfl, rfl, SqT.of ha, rfl, _, rfl, a, _, _, _, rfl, rfl, SqT.of ha, rfl, c.c, c.y, rfl, ok.c0, ok.c1, fun H1 s1 => ?_⟩
    have ha1 := s1 _ _ ha
    refine ⟨two_le, fun l hl => ?_⟩
    have ha2 := Same.new (o := .lst [vS "", vS "$"]) hl _ _ ha1
    refine ⟨_, rfl, a, _, _, _, rfl, rfl, SqT.of ha2, rfl, .inr ⟨c.x, rfl, l, _, _, _, rfl, rfl, SqL.of upd_same, dl_at c.x, _, _, rfl, rfl, sl_le (by omega), ?_⟩⟩
    refine ⟨_, rfl, a, _, _, _, rfl, rfl, SqT.of ha2, rfl, _, rfl, log16 (by have := ok.r0; omega) (by have := ok.r1; omega), _, _, rfl, rfl, sl_le (by rw [len_app]; show _ + (num c.r).length ≤ _; omega), ?_⟩
    have e := dl_cor c
    unfold num at e
    rw [show (toString c.r : Str) = Str.ofString (toString c.r) from rfl, e]
    exact k _ (s1.trans (Same.new hl))
theorem sc_law_leaf_text : FnScope ["_law_formula_here", "_law_word", "_law_ahead"] ["_law_formula_here"] (defScope s__law_leaf_text) := ⟨rfl, rfl, rfl, by decide +kernel, rfl, by decide +kernel, by decide +kernel⟩
theorem ok__law_leaf_text (T : Txt w K mg t) : FnOk P w K mg base CX0 3 t.f__law_leaf_text t.d__law_leaf_text ["_law_formula_here"] spLfT := by
  have D := T.c__law_leaf_text
  refine D.fn.ok sc_law_leaf_text (fun vs H Q E h => ?_) (fun cdv A outer s H vs Q E hr h => ?_)
  · obtain ⟨a, l, pr, rfl, _⟩ := h
    rfl
  · obtain ⟨a, l, pr, rfl, ha, ok, hpr, k⟩ := h
    have hu := hr.units0
    have hu1 := hu_of hr
    refine ⟨_, ((pss_cons (ps_set (i := 1) sc_law_leaf_text.nd rfl (Or.inl rfl) (pe_ix ix_tup (pv 0) pe_int (fun _ _ => rfl)))
      (pss_cons (ps_if (pt_cmpR op_eq (pv 1) pe_str (nomark _)) (pss_one (ps_ret pe_str)) pss_nil)
      (pss_cons (ps_if (pt_cmpR op_eq (pv 1) pe_str (nomark _)) (pss_one (ps_ret (pe_ix ix_tup (pv 0) pe_int (fun _ _ => rfl)))) pss_nil)
      (pss_cons (ps_if (pt_cmpR op_eq (pv 1) pe_str (nomark _)) (pss_one (ps_ret (pe_op op_add_str pe_str (pe_callTy call_str_int (by rfl) T.str boot_str (pa_consS (pe_ix ix_tup (pv 0) pe_int (fun _ _ => rfl)) pa_nil))))) pss_nil)
      (pss_cons (ps_if (pw_and (pt_cmpR op_eq (pv 1) pe_str (nomark _)) (pw_and1 (pt_cmpR op_eq (pe_ix ix_tup (pe_ix ix_tup (pv 0) pe_int (fun _ _ => rfl)) pe_int (fun _ _ => rfl)) pe_str (nomark _)))).pt (pss_one (ps_ret (pe_ix ix_list (pe_lst (pa_consK pe_str (pa_consK pe_str pa_nil))) (pe_callTy call_int1 (by rfl) T.int boot_int (pa_consS (pe_ix ix_tup (pe_ix ix_tup (pv 0) pe_int (fun _ _ => rfl)) pe_int (fun _ _ => rfl)) pa_nil)) (fun _ _ => rfl)))) pss_nil)
      (pss_cons (ps_if (pw_and (pt_cmpR op_eq (pv 1) pe_str (nomark _)) (pw_and1 (pt_cmpR op_eq (pe_ix ix_tup (pe_ix ix_tup (pv 0) pe_int (fun _ _ => rfl)) pe_int (fun _ _ => rfl)) pe_str (nomark _)))).pt (pss_one (ps_ret (pe_op op_add_str (pe_op op_add_str pe_str (pe_ix ix_tup (pe_ix ix_tup (pv 0) pe_int (fun _ _ => rfl)) pe_int (fun _ _ => rfl))) pe_str))) pss_nil)
      (pss_cons (ps_if (pt_cmpR op_eq (pv 1) pe_str (nomark _)) (pss_one (ps_ret (pe_callTy call_str_int (by rfl) T.str boot_str (pa_consS (pe_ix ix_tup (pe_ix ix_tup (pv 0) pe_int (fun _ _ => rfl)) pe_int (fun _ _ => rfl)) pa_nil)))) pss_nil)
      (pss_cons (ps_set (i := 2) sc_law_leaf_text.nd rfl (Or.inl rfl) pe_str)
      (pss_cons (ps_if (pt_cmpR op_notN (pe_ix ix_tup (pv 0) pe_int (fun _ _ => rfl)) pe_non (nomark _)) (pss_one (ps_set (i := 2) sc_law_leaf_text.nd rfl (Or.inl rfl) (pe_op op_add_str (pe_ix ix_tup (pv 0) pe_int (fun _ _ => rfl)) pe_str))) pss_nil)
      (pss_cons (ps_if (pt_cmpR op_eq (pv 1) pe_str (nomark _)) (pss_one (ps_ret (pe_op op_add_str (pv 2) (pe_cl T.c__law_corner_text (ok__law_corner_text T) (hr.mono (by decide)) (pa_consS (pe_ix ix_tup (pv 0) pe_int (fun _ _ => rfl)) pa_nil))))) pss_nil)
      (pss_cons (ps_if (pt_cmpR op_eq (pv 1) pe_str (nomark _)) (pss_one (ps_ret (pe_op op_add_str (pe_op op_add_str (pe_op op_add_str (pv 2) (pe_cl T.c__law_corner_text (ok__law_corner_text T) (hr.mono (by decide)) (pa_consS (pe_ix ix_tup (pv 0) pe_int (fun _ _ => rfl)) pa_nil))) pe_str) (pe_cl T.c__law_corner_text (ok__law_corner_text T) (hr.mono (by decide)) (pa_consS (pe_ix ix_tup (pv 0) pe_int (fun _ _ => rfl)) pa_nil))))) pss_nil)
      (pss_one (ps_ret (pe_op op_add_str (pe_op op_add_str (pe_op op_add_str (pv 2) (pe_cl T.c__law_column (ok__law_column T) (hr.mono (by decide)) (pa_consS (pe_ix ix_tup (pe_ix ix_tup (pv 0) pe_int (fun _ _ => rfl)) pe_int (fun _ _ => rfl)) (pa_consS (pe_ix ix_tup (pe_ix ix_tup (pv 0) pe_int (fun _ _ => rfl)) pe_int (fun _ _ => rfl)) pa_nil)))) pe_str) (pe_cl T.c__law_column (ok__law_column T) (hr.mono (by decide)) (pa_consS (pe_ix ix_tup (pe_ix ix_tup (pv 0) pe_int (fun _ _ => rfl)) pe_int (fun _ _ => rfl)) (pa_consS (pe_ix ix_tup (pe_ix ix_tup (pv 0) pe_int (fun _ _ => rfl)) pe_int (fun _ _ => rfl)) pa_nil)))))))))))))))))), ?_⟩

    cases l with
    | gone =>
      have ha1 : H a = some (.tup [vS "gone"]) := ha
      refine ⟨_, rfl, a, _, _, _, rfl, rfl, SqT.of ha1, rfl, ?_⟩
      refine ⟨_, rfl, rfl, true, (by decide +kernel), iteT ?_⟩
      exact k _ (Same.refl _)
    | nam z =>
      have ha1 : H a = some (.tup [vS "name", .str z]) := ha
      refine ⟨_, rfl, a, _, _, _, rfl, rfl, SqT.of ha1, rfl, ?_⟩
      refine ⟨_, rfl, rfl, false, (by decide +kernel), iteF ?_⟩
      refine ⟨_, rfl, rfl, true, (by decide +kernel), iteT ?_⟩
      exact ⟨_, rfl, a, _, _, _, rfl, rfl, SqT.of ha1, rfl, k _ (Same.refl _)⟩
    | par i =>
      have ha1 : H a = some (.tup [vS "param", .int i]) := ha
      have l1 := num_len (n := i) ok.1 (by have := ok.2; omega)
      have e1 : (zS "?").length = 1 := by decide +kernel
      refine ⟨_, rfl, a, _, _, _, rfl, rfl, SqT.of ha1, rfl, ?_⟩
      refine ⟨_, rfl, rfl, false, (by decide +kernel), iteF ?_⟩
      refine ⟨_, rfl, rfl, false, (by decide +kernel), iteF ?_⟩
      refine ⟨_, rfl, rfl, true, (by decide +kernel), iteT ?_⟩
      exact ⟨_, rfl, a, _, _, _, rfl, rfl, SqT.of ha1, rfl, _, rfl, log16 ok.1 (by have := ok.2; omega), _, _, rfl, rfl, sl_le (by show (zS "?").length + (num i).length ≤ _; omega), k _ (Same.refl _)⟩
    | val v =>
      obtain ⟨q, ha1, hv⟩ := ha
      obtain ⟨vok, w⟩ := ok
      cases v with
      | none => exact w.elim
      | flt w' z r c => exact w.elim
      | tru b =>
        have hq : H q = some (.tup [vS "truth", .bl b]) := hv
        refine ⟨_, rfl, a, _, _, _, rfl, rfl, SqT.of ha1, rfl, ?_⟩
        refine ⟨_, rfl, rfl, false, (by decide +kernel), iteF ?_⟩
        refine ⟨_, rfl, rfl, false, (by decide +kernel), iteF ?_⟩
        refine ⟨_, rfl, rfl, false, (by decide +kernel), iteF ?_⟩
        refine ⟨_, rfl, rfl, true, (by decide +kernel), iteT ?_⟩
        refine ⟨_, rfl, a, _, _, _, rfl, rfl, SqT.of ha1, rfl, q, _, _, _, rfl, rfl, SqT.of hq, rfl, rfl, true, (by decide +kernel), iteT ?_⟩
        refine ⟨two_le, fun l hl => ?_⟩
        have s1 := Same.new (o := .lst [vS "no", vS "yes"]) hl
        refine ⟨_, rfl, a, _, _, _, rfl, rfl, SqT.of (s1 _ _ ha1), rfl, q, _, _, _, rfl, rfl, SqT.of (s1 _ _ hq), rfl, .inr ⟨b, rfl, l, _, _, _, rfl, rfl, SqL.of upd_same, (by cases b <;> rfl), k _ s1⟩⟩
      | txt z =>
        have hq : H q = some (.tup [vS "text", .str z]) := hv
        have h20 : z.length ≤ 20 := vok.1
        have e1 : (zS "\"").length = 1 := by decide +kernel
        refine ⟨_, rfl, a, _, _, _, rfl, rfl, SqT.of ha1, rfl, ?_⟩
        refine ⟨_, rfl, rfl, false, (by decide +kernel), iteF ?_⟩
        refine ⟨_, rfl, rfl, false, (by decide +kernel), iteF ?_⟩
        refine ⟨_, rfl, rfl, false, (by decide +kernel), iteF ?_⟩
        refine ⟨_, rfl, rfl, true, (by decide +kernel), iteT ?_⟩
        refine ⟨_, rfl, a, _, _, _, rfl, rfl, SqT.of ha1, rfl, q, _, _, _, rfl, rfl, SqT.of hq, rfl, rfl, false, (by decide +kernel), iteF ?_⟩
        refine ⟨_, rfl, rfl, true, (by decide +kernel), iteT ?_⟩
        refine ⟨_, rfl, a, _, _, _, rfl, rfl, SqT.of ha1, rfl, q, _, _, _, rfl, rfl, SqT.of hq, rfl, rfl, true, (by decide +kernel), iteT ?_⟩
        exact ⟨_, rfl, a, _, _, _, rfl, rfl, SqT.of ha1, rfl, q, _, _, _, rfl, rfl, SqT.of hq, rfl, _, _, rfl, rfl, sl_le (by show (zS "\"").length + _ ≤ _; omega), _, _, rfl, rfl, sl_le (by rw [len_app]; show (zS "\"").length + _ + (zS "\"").length ≤ _; omega), k _ (Same.refl _)⟩
      | num t b =>
        have hq : H q = some (.tup [vS "number", .int t, .int b]) := hv
        refine ⟨_, rfl, a, _, _, _, rfl, rfl, SqT.of ha1, rfl, ?_⟩
        refine ⟨_, rfl, rfl, false, (by decide +kernel), iteF ?_⟩
        refine ⟨_, rfl, rfl, false, (by decide +kernel), iteF ?_⟩
        refine ⟨_, rfl, rfl, false, (by decide +kernel), iteF ?_⟩
        refine ⟨_, rfl, rfl, true, (by decide +kernel), iteT ?_⟩
        refine ⟨_, rfl, a, _, _, _, rfl, rfl, SqT.of ha1, rfl, q, _, _, _, rfl, rfl, SqT.of hq, rfl, rfl, false, (by decide +kernel), iteF ?_⟩
        refine ⟨_, rfl, rfl, true, (by decide +kernel), iteT ?_⟩
        refine ⟨_, rfl, a, _, _, _, rfl, rfl, SqT.of ha1, rfl, q, _, _, _, rfl, rfl, SqT.of hq, rfl, rfl, false, (by decide +kernel), iteF ?_⟩
        refine ⟨_, rfl, rfl, true, (by decide +kernel), iteT ?_⟩
        exact ⟨_, rfl, a, _, _, _, rfl, rfl, SqT.of ha1, rfl, q, _, _, _, rfl, rfl, SqT.of hq, rfl, _, rfl, log16 w.2.1 (by have := w.2.2; omega), k _ (Same.refl _)⟩
    | cell s c =>
      obtain ⟨q, ha1, hq⟩ := ha
      refine ⟨_, rfl, a, _, _, _, rfl, rfl, SqT.of ha1, rfl, ?_⟩
      refine ⟨_, rfl, rfl, false, (by decide +kernel), iteF ?_⟩
      refine ⟨_, rfl, rfl, false, (by decide +kernel), iteF ?_⟩
      refine ⟨_, rfl, rfl, false, (by decide +kernel), iteF ?_⟩
      refine ⟨_, rfl, rfl, false, (by decide +kernel), iteF (iteF ?_)⟩
      refine ⟨_, rfl, rfl, false, (by decide +kernel), iteF (iteF ?_)⟩
      refine ⟨_, rfl, rfl, false, (by decide +kernel), iteF ?_⟩

      have ls := stx_len ok.1
      have lc : (zS ":").length = 1 := by decide +kernel
      obtain ⟨hd, goon⟩ : True ∧ True := ⟨trivial, trivial⟩
      cases s with
      | none =>
        refine ⟨_, rfl, a, _, _, _, rfl, rfl, SqT.of ha1, rfl, rfl, false, rfl, iteF ?_⟩
        have es : (stx none) = zS "" := rfl
        rw [show (V.str (Str.ofString "")) = V.str (stx none) from rfl]
        skip
        refine ⟨_, rfl, rfl, true, (by decide +kernel), iteT ?_⟩
        refine ⟨_, rfl, _, rfl, a, _, _, _, rfl, rfl, SqT.of ha1, rfl, q, c, rfl, hq, ok.2, fun H1 s1 => ⟨_, _, rfl, rfl, sl_le (by have := corT_len ok.2; show (stx none).length + _ ≤ _; omega), k _ s1⟩⟩

      | some z =>
        have hz6 := (show Nm z from ok.1).hi
        have e1 : (zS "!").length = 1 := by decide +kernel
        refine ⟨_, rfl, a, _, _, _, rfl, rfl, SqT.of ha1, rfl, rfl, true, rfl, iteT ?_⟩
        refine ⟨_, rfl, a, _, _, _, rfl, rfl, SqT.of ha1, rfl, _, _, rfl, rfl, sl_le (by show z.length + (zS "!").length ≤ _; omega), ?_⟩
        refine ⟨_, rfl, rfl, true, (by decide +kernel), iteT ?_⟩
        refine ⟨_, rfl, _, rfl, a, _, _, _, rfl, rfl, SqT.of ha1, rfl, q, c, rfl, hq, ok.2, fun H1 s1 => ⟨_, _, rfl, rfl, sl_le (by have := corT_len ok.2; show (stx (some z)).length + _ ≤ _; omega), k _ s1⟩⟩

    | rng s c d =>
      obtain ⟨q, u, ha1, hq, hu'⟩ := ha
      refine ⟨_, rfl, a, _, _, _, rfl, rfl, SqT.of ha1, rfl, ?_⟩
      refine ⟨_, rfl, rfl, false, (by decide +kernel), iteF ?_⟩
      refine ⟨_, rfl, rfl, false, (by decide +kernel), iteF ?_⟩
      refine ⟨_, rfl, rfl, false, (by decide +kernel), iteF ?_⟩
      refine ⟨_, rfl, rfl, false, (by decide +kernel), iteF (iteF ?_)⟩
      refine ⟨_, rfl, rfl, false, (by decide +kernel), iteF (iteF ?_)⟩
      refine ⟨_, rfl, rfl, false, (by decide +kernel), iteF ?_⟩

      have ls := stx_len ok.1
      have lc : (zS ":").length = 1 := by decide +kernel
      obtain ⟨hd, goon⟩ : True ∧ True := ⟨trivial, trivial⟩
      cases s with
      | none =>
        refine ⟨_, rfl, a, _, _, _, rfl, rfl, SqT.of ha1, rfl, rfl, false, rfl, iteF ?_⟩
        have es : (stx none) = zS "" := rfl
        rw [show (V.str (Str.ofString "")) = V.str (stx none) from rfl]
        skip
        refine ⟨_, rfl, rfl, false, (by decide +kernel), iteF ?_⟩
        refine ⟨_, rfl, rfl, true, (by decide +kernel), iteT ?_⟩
        have l1 := corT_len ok.2.1
        have l2 := corT_len ok.2.2.1
        refine ⟨_, rfl, _, rfl, a, _, _, _, rfl, rfl, SqT.of ha1, rfl, q, c, rfl, hq, ok.2.1, fun H1 s1 => ⟨_, _, rfl, rfl, sl_le (by show (stx none).length + _ ≤ _; omega), _, _, rfl, rfl, sl_le (by rw [len_app]; show (stx none).length + _ + (zS ":").length ≤ _; omega), ?_⟩⟩
        exact ⟨_, rfl, a, _, _, _, rfl, rfl, SqT.of (s1 _ _ ha1), rfl, u, d, rfl, s1 _ _ hu', ok.2.2.1, fun H2 s2 => ⟨_, _, rfl, rfl, sl_le (by rw [len_app, len_app]; show (stx none).length + _ + (zS ":").length + _ ≤ _; omega), k _ (s1.trans s2)⟩⟩

      | some z =>
        have hz6 := (show Nm z from ok.1).hi
        have e1 : (zS "!").length = 1 := by decide +kernel
        refine ⟨_, rfl, a, _, _, _, rfl, rfl, SqT.of ha1, rfl, rfl, true, rfl, iteT ?_⟩
        refine ⟨_, rfl, a, _, _, _, rfl, rfl, SqT.of ha1, rfl, _, _, rfl, rfl, sl_le (by show z.length + (zS "!").length ≤ _; omega), ?_⟩
        refine ⟨_, rfl, rfl, false, (by decide +kernel), iteF ?_⟩
        refine ⟨_, rfl, rfl, true, (by decide +kernel), iteT ?_⟩
        have l1 := corT_len ok.2.1
        have l2 := corT_len ok.2.2.1
        refine ⟨_, rfl, _, rfl, a, _, _, _, rfl, rfl, SqT.of ha1, rfl, q, c, rfl, hq, ok.2.1, fun H1 s1 => ⟨_, _, rfl, rfl, sl_le (by show (stx (some z)).length + _ ≤ _; omega), _, _, rfl, rfl, sl_le (by rw [len_app]; show (stx (some z)).length + _ + (zS ":").length ≤ _; omega), ?_⟩⟩
        exact ⟨_, rfl, a, _, _, _, rfl, rfl, SqT.of (s1 _ _ ha1), rfl, u, d, rfl, s1 _ _ hu', ok.2.2.1, fun H2 s2 => ⟨_, _, rfl, rfl, sl_le (by rw [len_app, len_app]; show (stx (some z)).length + _ + (zS ":").length + _ ≤ _; omega), k _ (s1.trans s2)⟩⟩

    | cols s i x j y =>
      obtain ⟨q, u, ha1, hq, hu'⟩ := ha
      refine ⟨_, rfl, a, _, _, _, rfl, rfl, SqT.of ha1, rfl, ?_⟩
      refine ⟨_, rfl, rfl, false, (by decide +kernel), iteF ?_⟩
      refine ⟨_, rfl, rfl, false, (by decide +kernel), iteF ?_⟩
      refine ⟨_, rfl, rfl, false, (by decide +kernel), iteF ?_⟩
      refine ⟨_, rfl, rfl, false, (by decide +kernel), iteF (iteF ?_)⟩
      refine ⟨_, rfl, rfl, false, (by decide +kernel), iteF (iteF ?_)⟩
      refine ⟨_, rfl, rfl, false, (by decide +kernel), iteF ?_⟩

      have ls := stx_len ok.1
      have lc : (zS ":").length = 1 := by decide +kernel
      obtain ⟨hd, goon⟩ : True ∧ True := ⟨trivial, trivial⟩
      cases s with
      | none =>
        refine ⟨_, rfl, a, _, _, _, rfl, rfl, SqT.of ha1, rfl, rfl, false, rfl, iteF ?_⟩
        have es : (stx none) = zS "" := rfl
        rw [show (V.str (Str.ofString "")) = V.str (stx none) from rfl]
        skip
        refine ⟨_, rfl, rfl, false, (by decide +kernel), iteF ?_⟩
        refine ⟨_, rfl, rfl, false, (by decide +kernel), iteF ?_⟩
        have l1 := colT_len i x
        have l2 := colT_len j y
        refine ⟨_, rfl, _, rfl, a, _, _, _, rfl, rfl, SqT.of ha1, rfl, q, _, _, _, rfl, rfl, SqT.of hq, rfl, _, rfl, a, _, _, _, rfl, rfl, SqT.of ha1, rfl, q, _, _, _, rfl, rfl, SqT.of hq, rfl, i, x, rfl, ok.2.1, (by have := ok.2.2; omega), fun H1 s1 => ⟨_, _, rfl, rfl, sl_le (by show (stx none).length + _ ≤ _; omega), _, _, rfl, rfl, sl_le (by rw [len_app]; show (stx none).length + _ + (zS ":").length ≤ _; omega), ?_⟩⟩
        exact ⟨_, rfl, a, _, _, _, rfl, rfl, SqT.of (s1 _ _ ha1), rfl, u, _, _, _, rfl, rfl, SqT.of (s1 _ _ hu'), rfl, _, rfl, a, _, _, _, rfl, rfl, SqT.of (s1 _ _ ha1), rfl, u, _, _, _, rfl, rfl, SqT.of (s1 _ _ hu'), rfl, j, y, rfl, (by have := ok.2; omega), (by have := ok.2.2; omega), fun H2 s2 => ⟨_, _, rfl, rfl, sl_le (by rw [len_app, len_app]; show (stx none).length + _ + (zS ":").length + _ ≤ _; omega), k _ (s1.trans s2)⟩⟩

      | some z =>
        have hz6 := (show Nm z from ok.1).hi
        have e1 : (zS "!").length = 1 := by decide +kernel
        refine ⟨_, rfl, a, _, _, _, rfl, rfl, SqT.of ha1, rfl, rfl, true, rfl, iteT ?_⟩
        refine ⟨_, rfl, a, _, _, _, rfl, rfl, SqT.of ha1, rfl, _, _, rfl, rfl, sl_le (by show z.length + (zS "!").length ≤ _; omega), ?_⟩
        refine ⟨_, rfl, rfl, false, (by decide +kernel), iteF ?_⟩
        refine ⟨_, rfl, rfl, false, (by decide +kernel), iteF ?_⟩
        have l1 := colT_len i x
        have l2 := colT_len j y
        refine ⟨_, rfl, _, rfl, a, _, _, _, rfl, rfl, SqT.of ha1, rfl, q, _, _, _, rfl, rfl, SqT.of hq, rfl, _, rfl, a, _, _, _, rfl, rfl, SqT.of ha1, rfl, q, _, _, _, rfl, rfl, SqT.of hq, rfl, i, x, rfl, ok.2.1, (by have := ok.2.2; omega), fun H1 s1 => ⟨_, _, rfl, rfl, sl_le (by show (stx (some z)).length + _ ≤ _; omega), _, _, rfl, rfl, sl_le (by rw [len_app]; show (stx (some z)).length + _ + (zS ":").length ≤ _; omega), ?_⟩⟩
        exact ⟨_, rfl, a, _, _, _, rfl, rfl, SqT.of (s1 _ _ ha1), rfl, u, _, _, _, rfl, rfl, SqT.of (s1 _ _ hu'), rfl, _, rfl, a, _, _, _, rfl, rfl, SqT.of (s1 _ _ ha1), rfl, u, _, _, _, rfl, rfl, SqT.of (s1 _ _ hu'), rfl, j, y, rfl, (by have := ok.2; omega), (by have := ok.2.2; omega), fun H2 s2 => ⟨_, _, rfl, rfl, sl_le (by rw [len_app, len_app]; show (stx (some z)).length + _ + (zS ":").length + _ ≤ _; omega), k _ (s1.trans s2)⟩⟩
theorem sc_law_parts : FnScope ["_law_formula_here", "_law_word"] ["_law_formula_here"] (defScope s__law_parts) := ⟨rfl, rfl, rfl, by decide +kernel, rfl, by decide +kernel, by decide +kernel⟩
theorem ok__law_parts (T : Txt w K mg t) : FnOk P w K mg base CX0 1 t.f__law_parts t.d__law_parts ["_law_formula_here"] spPrt := by
  have D := T.c__law_parts
  refine D.fn.ok sc_law_parts (fun vs H Q E h => ?_) (fun cdv A outer s H vs Q E hr h => ?_)
  · obtain ⟨v, f, pr, n, rfl, _⟩ := h
    rfl
  · obtain ⟨v, f, pr, n, rfl, hv, fo, k⟩ := h
    have hu := hr.units0
    have hu1 := hu_of hr
    refine ⟨_, ((pss_cons (ps_set (i := 1) sc_law_parts.nd rfl (Or.inl rfl) (pe_ix ix_tup (pv 0) pe_int (fun _ _ => rfl)))
      (pss_cons (ps_if (pt_cmpR op_in_seq (pv 1) (pe_tup (pa_consK pe_str (pa_consK pe_str (pa_consK pe_str (pa_consK pe_str (pa_consK pe_str (pa_consK pe_str (pa_consK pe_str pa_nil)))))))) rfl) (pss_one (ps_ret (pe_lst pa_nil))) pss_nil)
      (pss_cons (ps_if (pt_cmpR op_eq (pv 1) pe_str (nomark _)) (pss_one (ps_ret (pe_callTy call_list_of (by rfl) T.list boot_list (pa_consS (pe_ix ix_tup (pv 0) pe_int (fun _ _ => rfl)) pa_nil)))) pss_nil)
      (pss_one (ps_ret (pe_comp (fv := []) (js := []) (cl := []) rfl (by with_unfolding_all rfl) ⟨rfl, by decide +kernel, by decide +kernel, rfl, by decide +kernel, by decide +kernel, (List.forall_mem_nil _), (List.forall_mem_nil _), .nil⟩ (pi_tup (pe_slice sl_tup (pv 0) (po_some pe_int) po_none)) (fun _ _ _ _ _ => (pf_one (pt_val (pe_callB (call_isinstC (K := K) rfl) (by rfl) T.isinstance boot_isinstance (pa_consN (pv 0) (pa_consN (pe_typ T.tuple boot_tuple) pa_nil)))))) (fun _ _ _ _ _ => (pv 0))))))))), ?_⟩

    cases hv with
    | @lf a l hl =>
      obtain ⟨w, r, ha, hin, _⟩ := hl.hd
      refine ⟨_, rfl, a, _, _, _, rfl, rfl, SqT.of ha, atI_hd, ?_⟩
      refine ⟨_, rfl, (by show 7 ≤ sizeLine; decide), fun t ht => ⟨t, L7, rfl, .inr (SqT.of upd_same), rfl, rfl, true, congrArg V.bl hin, iteT ?_⟩⟩
      have s1 := Same.new (o := .tup L7) ht
      exact ⟨Nat.zero_le _, fun d hd => k d [] _ (Same.back0 s1 hd) upd_same .nil (s1.trans (Same.new hd))⟩
    | @nd a t kd us ps ha ht hl hh =>
      cases fo with
      | nd ok hp =>
      obtain ⟨r0, er⟩ := lay_kw t kd us
      have ha0 : H a = some (.tup (.str (kw kd) :: r0)) := by rw [ha, er]
      have fm := FmAt.parts hl hh
      refine ⟨_, rfl, a, _, _, _, rfl, rfl, SqT.of ha0, atI_hd, ?_⟩
      refine ⟨_, rfl, (by show 7 ≤ sizeLine; decide), fun t7 ht7 => ⟨t7, L7, rfl, .inr (SqT.of upd_same), rfl, rfl, false, congrArg V.bl (kw_no ok), iteF ?_⟩⟩
      have s1 := Same.new (o := .tup L7) ht7
      cases ho : isOwn kd with
      | true =>
        obtain ⟨z, rfl⟩ : ∃ z, kd = .own z := by cases kd <;> first | exact ⟨_, rfl⟩ | cases ho
        refine ⟨_, rfl, rfl, true, congrArg V.bl ((kw_own ok).trans ho), iteT ?_⟩
        refine ⟨_, rfl, a, _, _, _, rfl, rfl, SqT.of (s1 _ _ ha), rfl, t, us, rfl, .inr (SqT.of (s1 _ _ (ht rfl))), fun d hd => ?_⟩
        exact k d us _ (Same.back0 s1 hd) upd_same (FmsAt.kp fm (Kp.same (s1.trans (Same.new hd)))) (s1.trans (Same.new hd))
      | false =>
        refine ⟨_, rfl, rfl, false, congrArg V.bl ((kw_own ok).trans ho), iteF ?_⟩
        obtain ⟨r, er2, hit, hfil, hlen⟩ := lay_tail (t := t) (H := H) (by rw [hl]; exact ok) ho (fun u hu => by
          obtain ⟨j, hj, e⟩ := List.mem_iff_getElem.mp hu
          have e1 : us[j]? = some u := by rw [List.getElem?_eq_getElem hj, e]
          obtain ⟨g, _, x⟩ := paired_at fm e1
          exact x.tup)
        have ha2 : H a = some (.tup (.str (kw kd) :: r)) := by rw [ha, er2]
        obtain ⟨ec, nw⟩ := cut1 (.str (kw kd)) r
        refine ⟨_, rfl, _, rfl, a, _, rfl, SqT.of (s1 _ _ ha2), nw, fun sl hsl => ?_⟩
        rw [ec]
        have s2 : Same H (upd (upd H t7 (.tup L7)) sl (.tup r)) := s1.trans (Same.new hsl)
        have hs2 : upd (upd H t7 (.tup L7)) sl (.tup r) sl = some (.tup r) := upd_same
        have nsl : ∀ {D : Addr}, upd (upd H t7 (.tup L7)) sl (.tup r) D = none → H D = none := fun {D} h => Same.back0 s2 h
        generalize upd (upd H t7 (.tup L7)) sl (.tup r) = H2 at *
        refine ⟨sl, rfl, ⟨_, SqT.of hs2⟩, fun D hD => ?_⟩
        have sD : ∀ ws, Same H2 (upd H2 D (.lst ws)) := fun ws => Same.new hD
        refine ⟨fun i m H4 => m = r.length - i ∧ i ≤ r.length ∧ H4 = upd H2 D (.lst ((r.take i).filter isRefV)), ⟨r.length, rfl, Nat.zero_le _, rfl⟩, ?_⟩
        rintro i m H4 ⟨rfl, hi, rfl⟩
        by_cases hlt : i < r.length
        · refine .inr ⟨⟨r, r[i], SqT.of (sD _ _ _ hs2), List.getElem?_eq_getElem hlt⟩, fun x H' y => ?_⟩
          obtain ⟨e, y⟩ := y
          subst e
          have hx := y r (SqT.of (sD _ _ _ hs2))
          have hm : x ∈ r := List.mem_of_getElem? hx
          have et : (r.take (i + 1)).filter isRefV = (r.take i).filter isRefV ++ [x].filter isRefV := by
            rw [List.take_add_one, hx, List.filter_append]; rfl
          have lf : ((r.take i).filter isRefV).length ≤ 5 := Nat.le_trans (List.length_filter_le _ _) (by rw [List.length_take]; omega)
          rcases hit x hm with ⟨b, ys, rfl, hb⟩ | ⟨z, rfl⟩ | ⟨j, rfl⟩
          · refine ⟨_, rfl, _, _, _, _, true, rfl, .tup (sD _ _ _ (s2 _ _ hb)), rfl, (fun _ => .inr trivial), kit_tt _ _, true, rfl, iteT ?_⟩
            refine ⟨_, rfl, _, upd_same, sl_lt (by omega), r.length - (i + 1), (by omega), rfl, hlt, ?_⟩
            rw [upd_upd, et]; rfl
          · refine ⟨_, rfl, _, _, _, _, false, rfl, .str _, rfl, (fun _ => .inr trivial), T.kist, false, rfl, iteF ?_⟩
            refine ⟨r.length - (i + 1), (by omega), rfl, hlt, ?_⟩
            rw [et]; exact congrArg (fun z => upd H2 D (HO.lst z)) (List.append_nil _).symm
          · refine ⟨_, rfl, _, _, _, _, false, rfl, .int _, rfl, (fun _ => .inr trivial), T.kiit, false, rfl, iteF ?_⟩
            refine ⟨r.length - (i + 1), (by omega), rfl, hlt, ?_⟩
            rw [et]; exact congrArg (fun z => upd H2 D (HO.lst z)) (List.append_nil _).symm
        have ei : i = r.length := by omega
        subst ei
        refine .inl ⟨⟨r, SqT.of (sD _ _ _ hs2), Nat.le_refl _⟩, ?_⟩
        rw [List.take_length, hfil]
        have s3 := s2.trans (sD us)
        exact k D us _ (nsl hD) upd_same (FmsAt.kp fm (Kp.same s3)) s3
theorem sc_law_tight : FnScope ["_law_formula_here"] ["_law_formula_here"] (defScope s__law_tight) := ⟨rfl, rfl, rfl, by decide +kernel, rfl, by decide +kernel, by decide +kernel⟩
theorem ok__law_tight (T : Txt w K mg t) : FnOk P w K mg base CX0 1 t.f__law_tight t.d__law_tight ["_law_formula_here"] spTgt := by
  have D := T.c__law_tight
  refine D.fn.ok sc_law_tight (fun vs H Q E h => ?_) (fun cdv A outer s H vs Q E hr h => ?_)
  · obtain ⟨v, f, pr, n, rfl, _⟩ := h
    rfl
  · obtain ⟨v, f, pr, n, rfl, hv, fo, k⟩ := h
    have hu := hr.units0
    have hu1 := hu_of hr
    refine ⟨_, ((pss_cons (ps_if (pt_cmpR op_eq (pe_ix ix_tup (pv 0) pe_int (fun _ _ => rfl)) pe_str (nomark _)) (pss_one (ps_ret (pe_dget hu1 (pe_disp (pps_cons pe_str pe_int (pps_cons pe_str pe_int (pps_cons pe_str pe_int (pps_cons pe_str pe_int (pps_cons pe_str pe_int (pps_cons pe_str pe_int (pps_cons pe_str pe_int pps_nil))))))) rfl rfl (by simp) (by decide)) (pe_ix ix_tup (pv 0) pe_int (fun _ _ => rfl)) (fun _ _ => rfl)))) pss_nil)
      (pss_one (ps_ret (pe_ix ix_list (pe_lst (pa_consK pe_int (pa_consK pe_int pa_nil))) (pe_callTy call_int1 (by rfl) T.int boot_int (pa_consM (pe_cmpR op_eq (pe_ix ix_tup (pv 0) pe_int (fun _ _ => rfl)) pe_str (nomark _)) pa_nil)) (fun _ _ => rfl)))))), ?_⟩

    cases hv with
    | @lf a l hl =>
      obtain ⟨w, r, ha, _, h1, h2⟩ := hl.hd
      refine ⟨_, rfl, a, _, _, _, rfl, rfl, SqT.of ha, atI_hd, rfl, false, h1, iteF ?_⟩
      refine ⟨two_le, fun d hd => ?_⟩
      have s1 := Same.new (o := .lst [.int 9, .int 5]) hd
      refine ⟨_, rfl, a, _, _, _, rfl, rfl, SqT.of (s1 _ _ ha), atI_hd, rfl, .inr ⟨_, rfl, d, _, _, _, rfl, rfl, SqL.of upd_same, ?_, k _ s1⟩⟩
      injection h2 with h2
      rw [h2]; rfl
    | @nd a t kd us ps ha ht hl hh =>
      cases fo with
      | nd ok hp =>
      obtain ⟨r0, er⟩ := lay_kw t kd us
      have ha0 : H a = some (.tup (.str (kw kd) :: r0)) := by rw [ha, er]
      obtain ⟨h1, h2, _⟩ := kw_op ok
      cases kd with
      | op z =>
        replace ha : H a = some (.tup (vS "op" :: .str z :: us)) := ha
        refine ⟨_, rfl, a, _, _, _, rfl, rfl, SqT.of ha, atI_hd, rfl, true, (by decide +kernel), iteT ?_⟩
        refine fun p hp' => ⟨upd_same, OPK, rfl, (by show 7 ≤ 15; decide), ?_⟩
        rw [upd_upd]
        have s1 := Same.new (o := .dK (mergeK [] OPK)) hp'
        refine ⟨_, rfl, a, _, _, _, rfl, rfl, SqT.of (s1 _ _ ha), atI_1, p, _, rfl, ?_, k _ s1⟩
        have g := DGet.k (k := Sum.inr z) (upd_same (H := H) (a := p) (o := .dK (mergeK [] OPK)))
        rw [op_val ok.1] at g
        exact g
      | neg =>
        replace ha : H a = some (.tup (vS "neg" :: us)) := ha
        refine ⟨_, rfl, a, _, _, _, rfl, rfl, SqT.of ha, atI_hd, rfl, false, (by decide +kernel), iteF ?_⟩
        refine ⟨two_le, fun d hd => ?_⟩
        have s1 := Same.new (o := .lst [.int 9, .int 5]) hd
        exact ⟨_, rfl, a, _, _, _, rfl, rfl, SqT.of (s1 _ _ ha), atI_hd, rfl, .inr ⟨_, rfl, d, _, _, _, rfl, rfl, SqL.of upd_same, (by show atI [V.int 9, V.int 5] (if decide (vS "neg" = vS "neg") = true then 1 else 0) = some (V.int 5); decide +kernel), k _ s1⟩⟩
      | _ =>
        refine ⟨_, rfl, a, _, _, _, rfl, rfl, SqT.of ha0, atI_hd, rfl, false, congrArg V.bl h1, iteF ?_⟩
        refine ⟨two_le, fun d hd => ?_⟩
        have s1 := Same.new (o := .lst [.int 9, .int 5]) hd
        refine ⟨_, rfl, a, _, _, _, rfl, rfl, SqT.of (s1 _ _ ha0), atI_hd, rfl, .inr ⟨_, rfl, d, _, _, _, rfl, rfl, SqL.of upd_same, ?_, k _ s1⟩⟩
        rw [h2]; rfl
theorem sc_law_placed : FnScope ["_law_formula_here", "_law_least", "_law_pen_here", "_law_text"] ["_law_formula_here", "_law_least", "_law_pen_here"] (defScope s__law_placed) := ⟨rfl, rfl, rfl, by decide +kernel, rfl, by decide +kernel, by decide +kernel⟩
theorem ok__law_placed (T : Txt w K mg t) {n k : Nat} (F : FnOk P w K mg base CX0 k t.f__law_written t.d__law_written ["_law_formula_here", "_law_pen_here"] (spWr n)) (hk : 1 ≤ k) : FnOk P w K mg base CX0 (k + 1) t.f__law_placed t.d__law_placed ["_law_formula_here", "_law_least", "_law_pen_here"] (spPl n) := by
  have D := T.c__law_placed
  refine D.fn.ok sc_law_placed (fun vs H Q E h => ?_) (fun cdv A outer s H vs Q E hr h => ?_)
  · obtain ⟨v, i, f, pr, rfl, _⟩ := h
    rfl
  · obtain ⟨v, i, f, pr, rfl, hv, fo, hp, h8, k_⟩ := h
    have hu := hr.units0
    have hu1 := hu_of hr
    refine ⟨_, ((pss_cons (ps_set (i := 3) sc_law_placed.nd rfl (Or.inl rfl) (pe_cl T.c__law_written F (hr.mono (by omega)) (pa_consN (pv 0) (pa_consN (pv 2) pa_nil))))
      (pss_cons (ps_if (pt_cmpR op_lt (pe_cl T.c__law_tight (ok__law_tight T) (hr.mono (by omega)) (pa_consN (pv 0) pa_nil)) (pv 1) (nomark _)) (pss_one (ps_ret (pe_op op_add_str (pe_op op_add_str pe_str (pv 3)) pe_str))) pss_nil)
      (pss_one (ps_ret (pv 3)))))), ?_⟩

    have le := ftx_le fo hp h8
    have e1 : (zS "(").length = 1 := by decide +kernel
    have e2 : (zS ")").length = 1 := by decide +kernel
    refine ⟨_, rfl, _, rfl, v, f, pr, rfl, hv, fo, hp, h8, fun H1 s1 => ?_⟩
    refine ⟨_, rfl, v, f, pr, n, rfl, FmAt.kp hv (Kp.same s1), fo, fun H2 s2 => ?_⟩
    have q := k_ H2 (s1.trans s2)
    refine ⟨_, rfl, _, _, rfl, rfl, _, rfl, ite2 (fun c => ?_) (fun c => ?_)⟩
    · have eb : brk (decide (tgt f < i)) (ftx f) = (zS "(" ++ ftx f) ++ zS ")" := by unfold brk; rw [if_pos c]
      rw [eb] at q
      exact ⟨_, rfl, _, _, rfl, rfl, slm (by show (zS "(").length + _ ≤ _; omega), _, _, rfl, rfl, slm (by show (zS "(" ++ ftx f).length + (zS ")").length ≤ _; rw [len_app]; omega), q⟩
    · have eb : brk (decide (tgt f < i)) (ftx f) = ftx f := by unfold brk; rw [if_neg c]
      rw [eb] at q
      exact ⟨_, rfl, q⟩
theorem sc_law_bare : FnScope ["_law_formula_here", "_law_pen_here", "_law_word", "_law_own", "_law_texts"] ["_law_formula_here", "_law_pen_here"] (defScope s__law_bare) := ⟨rfl, rfl, rfl, by decide +kernel, rfl, by decide +kernel, by decide +kernel⟩
theorem ok__law_bare (T : Txt w K mg t) {n k : Nat} (F : FnOk P w K mg base CX0 k t.f__law_written t.d__law_written ["_law_formula_here", "_law_pen_here"] (spWr n)) (hk : 5 ≤ k) : FnOk P w K mg base CX0 (k + 3) t.f__law_bare t.d__law_bare ["_law_formula_here", "_law_pen_here"] (spBr n) := by
  have D := T.c__law_bare
  refine D.fn.ok sc_law_bare (fun vs H Q E h => ?_) (fun cdv A outer s H vs Q E hr h => ?_)
  · obtain ⟨v, f, pr, rfl, _⟩ := h
    rfl
  · obtain ⟨v, f, pr, rfl, hv, fo, hp, h7, k_⟩ := h
    have hu := hr.units0
    have hu1 := hu_of hr
    refine ⟨_, ((pss_cons (ps_set (i := 2) sc_law_bare.nd rfl (Or.inl rfl) (pe_ix ix_tup (pv 0) pe_int (fun _ _ => rfl)))
      (pss_cons (ps_if (pt_cmpR op_in_seq (pv 2) (pe_tup (pa_consK pe_str (pa_consK pe_str (pa_consK pe_str (pa_consK pe_str (pa_consK pe_str (pa_consK pe_str (pa_consK pe_str pa_nil)))))))) rfl) (pss_one (ps_ret (pe_cl T.c__law_leaf_text (ok__law_leaf_text T) (hr.mono (by omega)) (pa_consN (pv 0) pa_nil)))) pss_nil)
      (pss_cons (ps_if (pt_cmpR op_eq (pv 2) pe_str (nomark _)) (pss_cons (ps_set (i := 3) sc_law_bare.nd rfl (Or.inl rfl) (pe_cl T.c__law_tight (ok__law_tight T) (hr.mono (by omega)) (pa_consN (pv 0) pa_nil)))
      (pss_one (ps_ret (pe_op op_add_str (pe_op op_add_str (pe_cl T.c__law_placed (ok__law_placed T F (by omega)) (hr.mono (by omega)) (pa_consS (pe_ix ix_tup (pv 0) pe_int (fun _ _ => rfl)) (pa_consN (pv 3) (pa_consN (pv 1) pa_nil)))) (pe_ix ix_tup (pv 0) pe_int (fun _ _ => rfl))) (pe_cl T.c__law_placed (ok__law_placed T F (by omega)) (hr.mono (by omega)) (pa_consS (pe_ix ix_tup (pv 0) pe_int (fun _ _ => rfl)) (pa_consB (pe_op op_add (pv 3) pe_int) (pa_consN (pv 1) pa_nil)))))))) pss_nil)
      (pss_cons (ps_if (pt_cmpR op_eq (pv 2) pe_str (nomark _)) (pss_one (ps_ret (pe_op op_add_str pe_str (pe_cl T.c__law_placed (ok__law_placed T F (by omega)) (hr.mono (by omega)) (pa_consS (pe_ix ix_tup (pv 0) pe_int (fun _ _ => rfl)) (pa_consK pe_int (pa_consN (pv 1) pa_nil))))))) pss_nil)
      (pss_cons (ps_setC (i := 4) sc_law_bare.nd rfl rfl (fv := ["_law_pen_here"]) (js := [1]) (cl := [("_law_pen_here", s.heap.objs.size + 1)]) rfl (by with_unfolding_all rfl) ⟨rfl, by decide +kernel, by decide +kernel, rfl, by decide +kernel, by decide +kernel, (List.forall_mem_cons.mpr ⟨⟨rfl, rfl, rfl⟩, (List.forall_mem_nil _)⟩), (List.forall_mem_cons.mpr ⟨rfl, (List.forall_mem_nil _)⟩), (.cons rfl .nil)⟩ (pi_list (pe_cl T.c__law_parts (ok__law_parts T) (hr.mono (by omega)) (pa_consN (pv 0) pa_nil))) (fun _ _ _ _ _ => pf_nil) (fun _ _ _ _ _ => (pe_cl T.c__law_written F (hr.mono (by omega)) (pa_consN (pv 0) (pa_consN (pv 1) pa_nil)))))
      (pss_cons (ps_if (pt_cmpR op_eq (pv 2) pe_str (nomark _)) (pss_one (ps_ret (pe_op op_add_str (pe_op op_add_str (pe_op op_add_str (pe_ix ix_tup (pv 0) pe_int (fun _ _ => rfl)) pe_str) (pe_bm PySem.F.plainAttrs_str PySem.F.slot_str_join PySem.F.type_str_join mt_join pe_str (pa_consN (pv 4) pa_nil))) pe_str))) pss_nil)
      (pss_cons (ps_if (pt_cmpR op_eq (pv 2) pe_str (nomark _)) (pss_one (ps_set (i := 4) sc_law_bare.nd rfl (Or.inl rfl) (pe_op op_cat (pe_op op_cat (pe_slice sl_list (pv 4) po_none (po_some pe_int)) (pe_lst (pa_consS (pe_ix ix_tup (pv 0) pe_int (fun _ _ => rfl)) pa_nil))) (pe_slice sl_list (pv 4) (po_some pe_int) po_none)))) pss_nil)
      (pss_cons (ps_if (pt_cmpR op_eq (pv 2) pe_str (nomark _)) (pss_one (ps_set (i := 4) sc_law_bare.nd rfl (Or.inl rfl) (pe_op op_cat (pe_lst (pa_consC (pe_callTy call_str_int (by rfl) T.str boot_str (pa_consS (pe_ix ix_tup (pv 0) pe_int (fun _ _ => rfl)) pa_nil)) (pa_consC (pe_callTy call_str_int (by rfl) T.str boot_str (pa_consS (pe_ix ix_tup (pv 0) pe_int (fun _ _ => rfl)) pa_nil)) pa_nil))) (pv 4)))) pss_nil)
      (pss_one (ps_ret (pe_op op_add_str (pe_op op_add_str (pe_op op_add_str (pv 2) pe_str) (pe_bm PySem.F.plainAttrs_str PySem.F.slot_str_join PySem.F.type_str_join mt_join pe_str (pa_consN (pv 4) pa_nil))) pe_str)))))))))))), ?_⟩

    have hv0 := hv
    have fo0 := fo
    cases hv with
    | @lf a l hl =>
      cases fo with
      | lf okl =>
      obtain ⟨w, r, ha, hin, _⟩ := hl.hd
      refine ⟨_, rfl, a, _, _, _, rfl, rfl, SqT.of ha, atI_hd, ?_⟩
      refine ⟨_, rfl, (by show 7 ≤ sizeLine; decide), fun t7 ht7 => ⟨t7, L7, rfl, .inr (SqT.of upd_same), rfl, rfl, true, congrArg V.bl hin, iteT ?_⟩⟩
      have s1 := Same.new (o := .tup L7) ht7
      refine ⟨_, rfl, a, l, pr, rfl, LfAt.kp hl (Kp.same s1), okl, hp, fun H' s' => ?_⟩
      have q := k_ H' (s1.trans s')
      rw [ftx_lf] at q
      exact q
    | @nd a t kd us ps ha ht hl hh =>
      cases fo with
      | nd ok hps =>
      obtain ⟨r0, er⟩ := lay_kw t kd us
      have ha0 : H a = some (.tup (.str (kw kd) :: r0)) := by rw [ha, er]
      have fm := FmAt.parts hl hh
      have q0 : ∀ H', Same H H' → Q (.str (ktx kd (ps.map tgt) (ps.map ftx))) H' := fun H' s' => by
        have q := k_ H' s'
        rw [ftx_nd] at q
        exact q
      have kids : ∀ x ∈ ps.map ftx, x.length ≤ 2000000 := fun x hx => by
        obtain ⟨f, hf, rfl⟩ := List.mem_map.mp hx
        exact ftx_lo (hps f hf) hp h7
      refine ⟨_, rfl, a, _, _, _, rfl, rfl, SqT.of ha0, atI_hd, ?_⟩
      refine ⟨_, rfl, (by show 7 ≤ sizeLine; decide), fun t7 ht7 => ⟨t7, L7, rfl, .inr (SqT.of upd_same), rfl, rfl, false, congrArg V.bl (kw_no ok), iteF ?_⟩⟩
      have s1 := Same.new (o := .tup L7) ht7
      generalize upd H t7 (.tup L7) = H1 at *
      obtain ⟨h1, h2, h3, h4⟩ := kw_op ok
      have h5 := kw_own ok
      cases hk1 : isOp kd with
      | true =>
        obtain ⟨z, rfl⟩ : ∃ z, kd = .op z := by cases kd <;> first | exact ⟨_, rfl⟩ | cases hk1
        refine ⟨_, rfl, rfl, true, congrArg V.bl (h1.trans hk1), iteT ?_⟩
        obtain ⟨p1, p2, rfl⟩ := kid2 ok.2
        obtain ⟨u1, u2, rfl⟩ := kid2 (hl.trans ok.2)
        replace ha : H a = some (.tup [vS "op", .str z, u1, u2]) := ha
        have lz := ops_len ok.1
        have f1 := hps p1 (by simp)
        have f2 := hps p2 (by simp)
        have l1 := kids (ftx p1) (by simp)
        have l2 := kids (ftx p2) (by simp)
        have b1 := brk_len (decide (tgt p1 < opT z)) (ftx p1)
        have b2 := brk_len (decide (tgt p2 < opT z + 1)) (ftx p2)
        refine ⟨_, rfl, .ref a, _, pr, n + 1, rfl, FmAt.kp hv0 (Kp.same s1), fo0, fun H2 s2 => ?_⟩
        have s12 := s1.trans s2
        refine ⟨_, rfl, a, _, _, _, rfl, rfl, SqT.of (s12 _ _ ha), atI_2, _, rfl, _, rfl, u1, opT z, p1, pr, rfl, FmAt.kp (hh 0 u1 p1 rfl rfl) (Kp.same s12), f1, hp, (by omega), fun H3 s3 => ?_⟩
        have s13 := s12.trans s3
        refine ⟨_, rfl, a, _, _, _, rfl, rfl, SqT.of (s13 _ _ ha), atI_1, _, _, rfl, rfl, slm (by omega), ?_⟩
        refine ⟨_, rfl, a, _, _, _, rfl, rfl, SqT.of (s13 _ _ ha), atI_3, _, rfl, _, _, rfl, rfl, _, rfl, u2, opT z + 1, p2, pr, rfl, FmAt.kp (hh 1 u2 p2 rfl rfl) (Kp.same s13), f2, hp, (by omega), fun H4 s4 => ?_⟩
        exact ⟨_, _, rfl, rfl, slm (by rw [len_app]; omega), q0 _ (s13.trans s4)⟩
      | false =>
      refine ⟨_, rfl, rfl, false, congrArg V.bl (h1.trans hk1), iteF ?_⟩
      cases hk2 : isNeg kd with
      | true =>
        obtain rfl : kd = .neg := by cases kd <;> first | rfl | cases hk2
        refine ⟨_, rfl, rfl, true, congrArg V.bl (h2.trans hk2), iteT ?_⟩
        obtain ⟨p1, rfl⟩ := kid1 (show ps.length = 1 from ok)
        obtain ⟨u1, rfl⟩ := kid1 (hl.trans (show [p1].length = 1 from rfl))
        replace ha : H a = some (.tup [vS "neg", u1]) := ha
        have f1 := hps p1 (by simp)
        have l1 := kids (ftx p1) (by simp)
        have b1 := brk_len (decide (tgt p1 < 5)) (ftx p1)
        have e1 : (zS "-").length = 1 := by decide +kernel
        refine ⟨_, rfl, a, _, _, _, rfl, rfl, SqT.of (s1 _ _ ha), atI_1, _, rfl, u1, 5, p1, pr, rfl, FmAt.kp (hh 0 u1 p1 rfl rfl) (Kp.same s1), f1, hp, (by omega), fun H3 s3 => ?_⟩
        exact ⟨_, _, rfl, rfl, slm (by show (zS "-").length + _ ≤ _; omega), q0 _ (s1.trans s3)⟩
      | false =>
      refine ⟨_, rfl, rfl, false, congrArg V.bl (h2.trans hk2), iteF ?_⟩
      refine ⟨_, rfl, .ref a, .nd kd ps, pr, n + 1, rfl, FmAt.kp hv0 (Kp.same s1), fo0, fun lw ws H2 hl0 hl2 fm2 s2 => ?_⟩
      have s12 := s1.trans s2
      replace fm2 : FmsAt H2 ws ps := fm2
      have hwl : ws.length = ps.length := Paired.length fm2
      have p3 := ok.le
      refine ⟨lw, rfl, ⟨_, SqL.of hl2⟩, fun D hD => ?_⟩
      refine ⟨fun i m H4 => m = ws.length - i ∧ i ≤ ws.length ∧ H4 D = some (.lst ((ps.take i).map fun f => V.str (ftx f))) ∧ Same H2 H4, ⟨ws.length, rfl, Nat.zero_le _, upd_same, Same.new hD⟩, ?_⟩
      rintro i m H4 ⟨rfl, hi, hD4, s4⟩
      by_cases hlt : i < ws.length
      · refine .inr ⟨⟨ws, ws[i], SqL.of (s4 _ _ hl2), List.getElem?_eq_getElem hlt⟩, fun x H' y => ?_⟩
        obtain ⟨e, y⟩ := y
        subst e
        have hx := y ws (SqL.of (s4 _ _ hl2))
        obtain ⟨g, hg, xg⟩ := paired_at fm2 hx
        refine ⟨_, rfl, _, rfl, x, g, pr, rfl, FmAt.kp xg (Kp.same s4), hps g (List.mem_of_getElem? hg), hp, (by omega), fun H5 s5 => ?_⟩
        refine ⟨_, s5 _ _ hD4, sl_lt (by rw [List.length_map, List.length_take]; omega), ws.length - (i + 1), (by omega), rfl, hlt, ?_, fun b o e => ?_⟩
        · rw [upd_same, List.take_add_one, hg, List.map_append]; rfl
        · rw [upd_ne (ne_of_none e hD)]; exact s5 _ _ (s4 _ _ e)
      have ei : i = ws.length := by omega
      subst ei
      refine .inl ⟨⟨ws, SqL.of (s4 _ _ hl2), Nat.le_refl _⟩, ?_⟩
      rw [hwl, List.take_length, show (ps.map fun f => V.str (ftx f)) = (ps.map ftx).map V.str by rw [List.map_map]; rfl] at hD4
      have s14 := s12.trans s4
      have tl : (ps.map ftx).length = ps.length := List.length_map _
      generalize ps.map ftx = ts at *
      cases kd with
      | op z => cases hk1
      | neg => cases hk2
      | own z =>
        replace ha : H a = some (.tup [vS "own", .str z, .ref t]) := ha
        obtain ⟨c1, c2, c3, c4⟩ := call_sz (z := z) ok.1.hi kids (by omega)
        refine ⟨_, rfl, rfl, true, congrArg V.bl h5, iteT ?_⟩
        exact ⟨_, rfl, a, _, _, _, rfl, rfl, SqT.of (s14 _ _ ha), atI_1, _, _, rfl, rfl, c1, rfl, _, rfl, _, D, _, rfl, rfl, SqL.of hD4, c2, _, _, rfl, rfl, c3, _, _, rfl, rfl, c4, q0 _ s14⟩
      | sumif z =>
        have h3' : ts.length = 3 := tl.trans ok.2
        have hz1 : z.length ≤ 2000000 := by rcases ok.1 with e | e <;> (rw [e]; decide +kernel)
        obtain ⟨c1, c2, c3, c4⟩ := call_sz (z := zS "sumif") (ts := ts.take 1 ++ z :: ts.drop 1) (by decide +kernel) (ins_mem hz1 kids) (by rw [List.length_append, List.length_take, List.length_cons, List.length_drop]; omega)
        obtain ⟨t1, t2, t3, rfl⟩ := kid3 h3'
        obtain ⟨v1, v2, v3, rfl⟩ := kid3 (hl.trans ok.2)
        replace ha : H a = some (.tup [vS "sumif", v1, .str z, v2, v3]) := ha
        refine ⟨_, rfl, rfl, false, congrArg V.bl h5, iteF ?_⟩
        refine ⟨_, rfl, rfl, true, congrArg V.bl h3, iteT ?_⟩
        refine ⟨_, rfl, _, rfl, D, _, rfl, SqL.of hD4, fun d1 hd1 => ?_⟩
        have n1 := Same.new (o := .lst (cutV ([t1, t2, t3].map V.str) none (some 1))) hd1
        have x1 : upd H4 d1 (.lst (cutV ([t1, t2, t3].map V.str) none (some 1))) d1 = some (.lst [V.str t1]) := upd_same
        generalize upd H4 d1 (.lst (cutV ([t1, t2, t3].map V.str) none (some 1))) = H5 at *
        have s15 := s14.trans n1
        refine ⟨_, rfl, a, _, _, _, rfl, rfl, SqT.of (s15 _ _ ha), atI_2, (by show 1 ≤ sizeLine; decide), fun d2 hd2 => ?_⟩
        have n2 := Same.new (o := .lst [V.str z]) hd2
        have x2 : upd H5 d2 (.lst [V.str z]) d2 = some (.lst [V.str z]) := upd_same
        have x1' := n2 _ _ x1
        generalize upd H5 d2 (.lst [V.str z]) = H6 at *
        refine ⟨d1, d2, _, _, rfl, rfl, x1', x2, (by show 2 ≤ sizeLine; decide), fun d3 hd3 => ?_⟩
        have n3 := Same.new (o := .lst ([V.str t1] ++ [V.str z])) hd3
        have x3 : upd H6 d3 (.lst ([V.str t1] ++ [V.str z])) d3 = some (.lst [V.str t1, V.str z]) := upd_same
        have y3 := n3 _ _ (n2 _ _ (n1 _ _ hD4))
        generalize upd H6 d3 (.lst ([V.str t1] ++ [V.str z])) = H7 at *
        refine ⟨_, rfl, _, rfl, D, _, rfl, SqL.of y3, fun d4 hd4 => ?_⟩
        have n4 := Same.new (o := .lst (cutV ([t1, t2, t3].map V.str) (some 1) none)) hd4
        have x4 : upd H7 d4 (.lst (cutV ([t1, t2, t3].map V.str) (some 1) none)) d4 = some (.lst [V.str t2, V.str t3]) := upd_same
        have x3' := n4 _ _ x3
        generalize upd H7 d4 (.lst (cutV ([t1, t2, t3].map V.str) (some 1) none)) = H8 at *
        refine ⟨d3, d4, _, _, rfl, rfl, x3', x4, (by show 4 ≤ sizeLine; decide), fun d5 hd5 => ?_⟩
        have n5 := Same.new (o := .lst ([V.str t1, V.str z] ++ [V.str t2, V.str t3])) hd5
        have x5 : upd H8 d5 (.lst ([V.str t1, V.str z] ++ [V.str t2, V.str t3])) d5 = some (.lst ([t1, z, t2, t3].map V.str)) := upd_same
        generalize upd H8 d5 (.lst ([V.str t1, V.str z] ++ [V.str t2, V.str t3])) = H9 at *
        refine ⟨_, rfl, rfl, false, congrArg V.bl h4, iteF ?_⟩
        exact ⟨_, rfl, _, _, rfl, rfl, c1, rfl, _, rfl, _, d5, _, rfl, rfl, SqL.of x5, c2, _, _, rfl, rfl, c3, _, _, rfl, rfl, c4, q0 _ ((((s15.trans n2).trans n3).trans n4).trans n5)⟩
      | grid i j =>
        obtain ⟨i0, i1, j0, j1, h2'⟩ := ok
        replace ha : H a = some (.tup (vS "grid" :: .int i :: .int j :: us)) := ha
        have li := num_s i0 i1
        have lj := num_s j0 (by omega)
        obtain ⟨c1, c2, c3, c4⟩ := call_sz (z := zS "grid") (ts := num i :: num j :: ts) (by decide +kernel) (fun x hx => by
          rcases List.mem_cons.mp hx with q | q
          · rw [q]; omega
          · rcases List.mem_cons.mp q with q | q
            · rw [q]; omega
            · exact kids x q) (by simp; omega)
        refine ⟨_, rfl, rfl, false, congrArg V.bl h5, iteF ?_⟩
        refine ⟨_, rfl, rfl, false, congrArg V.bl h3, iteF ?_⟩
        refine ⟨_, rfl, rfl, true, congrArg V.bl h4, iteT ?_⟩
        refine ⟨_, rfl, a, _, _, _, rfl, rfl, SqT.of (s14 _ _ ha), atI_1, _, rfl, log16 (by omega) (by omega), _, rfl, a, _, _, _, rfl, rfl, SqT.of (s14 _ _ ha), atI_2, _, rfl, log16 (by omega) (by omega), two_le, fun d1 hd1 => ?_⟩
        have n1 := Same.new (o := .lst [V.str (num i), V.str (num j)]) hd1
        have x1 : upd H4 d1 (.lst [V.str (num i), V.str (num j)]) d1 = some (.lst [V.str (num i), V.str (num j)]) := upd_same
        have y1 := n1 _ _ hD4
        unfold num at *
        generalize upd H4 d1 (.lst [V.str (Str.ofString (toString i)), V.str (Str.ofString (toString j))]) = H5 at *
        refine ⟨_, rfl, d1, D, _, _, rfl, rfl, x1, y1, sl_le (by simp; omega), fun d2 hd2 => ?_⟩
        have n2 := Same.new (o := .lst ([V.str (Str.ofString (toString i)), V.str (Str.ofString (toString j))] ++ ts.map V.str)) hd2
        have x2 : upd H5 d2 (.lst ([V.str (Str.ofString (toString i)), V.str (Str.ofString (toString j))] ++ ts.map V.str)) d2 = some (.lst ((Str.ofString (toString i) :: Str.ofString (toString j) :: ts).map V.str)) := upd_same
        exact ⟨_, rfl, _, _, rfl, rfl, c1, rfl, _, rfl, _, d2, _, rfl, rfl, SqL.of x2, c2, _, _, rfl, rfl, c3, _, _, rfl, rfl, c4, q0 _ ((s14.trans n1).trans n2)⟩
      | wd z =>
        have hw : (z, ps.length) ∈ WDS := ok
        have hz6 : ∀ x ∈ WDS, x.1.length ≤ 6 := by decide +kernel
        obtain ⟨c1, c2, c3, c4⟩ := call_sz (z := z) (hz6 _ hw) kids (by omega)
        refine ⟨_, rfl, rfl, false, congrArg V.bl h5, iteF ?_⟩
        refine ⟨_, rfl, rfl, false, congrArg V.bl h3, iteF ?_⟩
        refine ⟨_, rfl, rfl, false, congrArg V.bl h4, iteF ?_⟩
        exact ⟨_, rfl, _, _, rfl, rfl, c1, rfl, _, rfl, _, D, _, rfl, rfl, SqL.of hD4, c2, _, _, rfl, rfl, c3, _, _, rfl, rfl, c4, q0 _ s14⟩
theorem sc_law_written : FnScope ["_law_formula_here", "_law_pen_here", "_law_text", "_law_more"] ["_law_formula_here", "_law_pen_here"] (defScope s__law_written) := ⟨rfl, rfl, rfl, by decide +kernel, rfl, by decide +kernel, by decide +kernel⟩
theorem ok__law_written (T : Txt w K mg t) : ∀ n : Nat, FnOk P w K mg base CX0 (6 * n + 6) t.f__law_written t.d__law_written ["_law_formula_here", "_law_pen_here"] (spWr n) := by
  have D := T.c__law_written
  intro n
  induction n with
  | zero => exact ⟨fun _ _ _ _ h => (by obtain ⟨_, _, _, _, _, fo, _⟩ := h; cases fo), fun _ _ _ _ _ _ _ _ _ _ _ _ _ h => (by obtain ⟨_, _, _, _, _, fo, _⟩ := h; cases fo)⟩
  | succ n ih =>

    refine D.fn.ok sc_law_written (fun vs H Q E h => ?_) (fun cdv A outer s H vs Q E hr h => ?_)
    · obtain ⟨v, f, pr, rfl, _⟩ := h
      rfl
    · obtain ⟨v, f, pr, rfl, hv, fo, hp, h8, k_⟩ := h
      have hu := hr.units0
      have hu1 := hu_of hr
      refine ⟨_, ((pss_cons (ps_set (i := 2) sc_law_written.nd rfl (Or.inl rfl) (pe_cl T.c__law_bare (ok__law_bare T ih (by omega)) (hr.mono (by omega)) (pa_consN (pv 0) (pa_consN (pv 1) pa_nil))))
      (pss_cons (ps_set (i := 3) sc_law_written.nd rfl (Or.inl rfl) pe_int)
      (pss_cons (ps_if (pt_cmpR op_notN (pv 1) pe_non (nomark _)) (pss_one (ps_set (i := 3) sc_law_written.nd rfl (Or.inl rfl) (pe_ix ix_list (pe_lst (pa_consK pe_int (pa_consK pe_int (pa_consK pe_int (pa_consK pe_int (pa_consK pe_int (pa_consK pe_int pa_nil))))))) (pe_cl T.c__law_take (ok__law_take T) (hr.mono (by omega)) (pa_consN (pv 1) (pa_consK pe_int pa_nil))) (fun _ _ => rfl)))) pss_nil)
      (pss_one (ps_ret (pe_op op_add_str (pe_op op_add_str (pe_op op_mul_str pe_str (pv 3)) (pv 2)) (pe_op op_mul_str pe_str (pv 3))))))))), ?_⟩

      have le := ftx_le fo hp h8
      refine ⟨_, rfl, _, rfl, v, f, pr, rfl, hv, fo, hp, (by omega), fun H1 s1 => ?_⟩
      refine ⟨_, rfl, rfl, false, rfl, iteF ?_⟩
      have e0 : Txt.mul (zS "(") 0 = zS "" := by decide +kernel
      have e3 : Txt.mul (zS ")") 0 = zS "" := by decide +kernel
      have e4 : (zS "").length = 0 := by decide +kernel
      refine ⟨_, rfl, _, _, rfl, rfl, mul0, ?_⟩
      rw [e0]
      refine ⟨_, rfl, _, _, rfl, rfl, slm (by omega), ?_⟩
      rw [nil_app]
      refine ⟨_, rfl, _, _, rfl, rfl, mul0, ?_⟩
      rw [e3]
      refine ⟨_, _, rfl, rfl, slm (by omega), ?_⟩
      rw [app_e]
      exact k_ _ s1
theorem sc_law_formula : FnScope ["_law_pen_here", "_law_params", "_law_formula_here"] ["_law_pen_here", "_law_params"] (defScope s__law_formula) := ⟨rfl, rfl, rfl, by decide +kernel, rfl, by decide +kernel, by decide +kernel⟩
theorem ok__law_formula (T : Txt w K mg t) : FnOk P w K mg base CX0 60 t.f__law_formula t.d__law_formula ["_law_pen_here", "_law_params"] (spFml K) := by
  have D := T.c__law_formula
  refine D.fn.ok sc_law_formula (fun vs H Q E h => ?_) (fun cdv A outer s H vs Q E hr h => ?_)
  · obtain ⟨p, pr, c, S, rfl, _⟩ := h
    rfl
  · obtain ⟨p, pr, c, S, rfl, hpr, hpen, hc, k⟩ := h
    have hu := hr.units0
    have hu1 := hu_of hr
    refine ⟨_, ((pss_cons (ps_set (i := 2) sc_law_formula.nd rfl (Or.inl rfl) (pe_cl T.c__law_grown (ok__law_grown T 7) (hr.mono (by omega)) (pa_consN (pv 0) (pa_consS (pe_ix ix_list (pe_lst (pa_consK pe_int (pa_consK pe_int (pa_consK pe_int (pa_consK pe_int pa_nil))))) (pe_cl T.c__law_take (ok__law_take T) (hr.mono (by omega)) (pa_consN (pv 0) (pa_consK pe_int pa_nil))) (fun _ _ => rfl)) (pa_consK pe_int (pa_consN (pv 1) pa_nil))))))
      (pss_cons (ps_if (pt_cmpR op_gt (pe_callB call_len_str (by rfl) T.len PySem.boot_len (pa_consC (pe_cl T.c__law_written (ok__law_written T 8) (hr.mono (by omega)) (pa_consN (pv 2) (pa_consK pe_non pa_nil))) pa_nil)) pe_int (nomark _)) (pss_one (ps_set (i := 2) sc_law_formula.nd rfl (Or.inl rfl) (pe_cl T.c__law_grown (ok__law_grown T 2) (hr.mono (by omega)) (pa_consN (pv 0) (pa_consK pe_int (pa_consK pe_int (pa_consN (pv 1) pa_nil))))))) pss_nil)
      (pss_one (ps_ret (pv 2)))))), ?_⟩

    refine ⟨_, rfl, (by show 4 ≤ sizeLine; decide), fun l hl => ?_⟩
    have s0 := Same.new (o := .lst [.int 3, .int 8, .int 24, .int 24]) hl
    have nl := hpen.ne hl
    refine ⟨_, rfl, p, _, _, _, rfl, (by show (0 : Int) < _; decide), sz4000 (by decide) (by decide), (hpen.same s0), (by omega), fun r1 H1 a1 b1 pen1 kp1 => ?_⟩
    obtain ⟨rm, hrm, m3, m24⟩ := pickR a1 b1
    refine ⟨l, _, _, _, rfl, rfl, SqL.of (kp1 _ _ nl upd_same), hrm, _, rfl, p, rm, 8, pr, _, S, rfl, (by decide), (by omega), (by omega), hpr, pen1, (by omega), fun v f H2 hv fo pen2 kp2 => ?_⟩
    have kp02 := ((Same.keep s0).trans kp1).trans kp2
    refine ⟨_, rfl, v, f, pr, rfl, hv, fo, hpr, (by decide), fun H3 s3 => ?_⟩
    refine ⟨_, rfl, slm (by have := ftx_le fo hpr (by decide); omega), _, _, rfl, rfl, _, rfl, ite2 (fun _ => ?_) (fun _ => ?_)⟩
    · refine ⟨_, rfl, _, rfl, p, 3, 3, pr, _, S, rfl, (by decide), (by decide), (by decide), hpr, pen2.same s3, (by omega), fun v2 f2 H4 hv2 fo2 pen4 kp4 => ?_⟩
      exact ⟨_, rfl, k v2 f2 H4 hv2 (fo2.mono (by decide)) (pen4.mono (by omega)) ((kp02.trans (Same.keep s3)).trans kp4)⟩
    · exact ⟨_, rfl, k v f H3 (FmAt.kp hv (Kp.same s3)) fo ((pen2.same s3).mono (by omega)) (kp02.trans (Same.keep s3))⟩
theorem scparts_of : FnScope ["formula"] ["formula"] (defScope s_parts_of) := ⟨rfl, rfl, rfl, by decide +kernel, rfl, by decide +kernel, by decide +kernel⟩
theorem ok_parts_of (T : Txt w K mg t) : FnOk P w K mg base CX0 1 t.f_parts_of t.d_parts_of ["formula"] spPrt := by
  have D := T.c_parts_of
  refine D.fn.ok scparts_of (fun vs H Q E h => ?_) (fun cdv A outer s H vs Q E hr h => ?_)
  · obtain ⟨v, f, pr, n, rfl, _⟩ := h
    rfl
  · obtain ⟨v, f, pr, n, rfl, hv, fo, k⟩ := h
    have hu := hr.units0
    have hu1 := hu_of hr
    refine ⟨_, ((pss_cons (ps_if (pt_cmpR op_eq (pe_ix ix_tup (pv 0) pe_int (fun _ _ => rfl)) pe_str (nomark _)) (pss_one (ps_ret (pe_callTy call_list_of (by rfl) T.list boot_list (pa_consS (pe_ix ix_tup (pv 0) pe_int (fun _ _ => rfl)) pa_nil)))) pss_nil)
      (pss_one (ps_ret (pe_comp (fv := ["formula"]) (js := [0]) (cl := [("formula", s.heap.objs.size + 1)]) rfl (by with_unfolding_all rfl) ⟨rfl, by decide +kernel, by decide +kernel, rfl, by decide +kernel, by decide +kernel, (List.forall_mem_cons.mpr ⟨⟨rfl, rfl, rfl⟩, (List.forall_mem_nil _)⟩), (List.forall_mem_cons.mpr ⟨rfl, (List.forall_mem_nil _)⟩), (.cons rfl .nil)⟩ (pi_tup (pe_kget2 (pe_gdit T.v_PART_PLACES) (pe_ix ix_tup (pv 0) pe_int (fun _ _ => rfl)) (pe_tup pa_nil) ⟨rfl, rfl, rfl, rfl⟩)) (fun _ _ _ _ _ => pf_nil) (fun _ _ _ _ _ => (pe_ix ixc_tup (pv 1) (pv 0) (fun _ _ => rfl)))))))), ?_⟩

    cases hv with
    | @lf a l hl =>
      obtain ⟨w, r, ha, h1, h2, _⟩ := hl.pp
      refine ⟨_, rfl, a, _, _, _, rfl, rfl, SqT.of ha, atI_hd, rfl, false, h1, iteF ?_⟩
      refine fun pa kvs hk hp => ⟨pa, kvs, rfl, hk, _, rfl, a, _, _, _, rfl, rfl, SqT.of ha, atI_hd, Nat.zero_le _, fun e he => ⟨Sum.inr w, rfl, ?_⟩⟩
      rw [pp_none hp h2]
      have s1 := Same.new (o := .tup []) he
      have sq : ∀ ws D, upd H e (.tup []) D = none → SqT K (upd (upd H e (.tup [])) D (.lst ws)) e [] := fun ws D hD => SqT.of (Same.new hD _ _ upd_same)
      refine ⟨e, rfl, ⟨_, SqT.of upd_same⟩, fun D hD => ?_⟩
      refine ⟨fun i m H4 => i = 0 ∧ H4 = upd (upd H e (.tup [])) D (.lst []), ⟨0, rfl, rfl⟩, ?_⟩
      rintro i m H4 ⟨rfl, rfl⟩
      refine .inl ⟨⟨[], sq _ _ hD, Nat.le_refl _⟩, ?_⟩
      exact k D [] _ (Same.back0 s1 hD) upd_same .nil (s1.trans (Same.new hD))
    | @nd a t kd us ps ha ht hl hh =>
      cases fo with
      | nd ok hps =>
      obtain ⟨r0, er⟩ := lay_kw t kd us
      have ha0 : H a = some (.tup (.str (kw kd) :: r0)) := by rw [ha, er]
      have fm := FmAt.parts hl hh
      cases ho : isOwn kd with
      | true =>
        obtain ⟨z, rfl⟩ : ∃ z, kd = .own z := by cases kd <;> first | exact ⟨_, rfl⟩ | cases ho
        replace ha : H a = some (.tup [vS "own", .str z, .ref t]) := ha
        refine ⟨_, rfl, a, _, _, _, rfl, rfl, SqT.of ha, atI_hd, rfl, true, (by decide +kernel), iteT ?_⟩
        refine ⟨_, rfl, a, _, _, _, rfl, rfl, SqT.of ha, atI_2, t, us, rfl, .inr (SqT.of (ht rfl)), fun d hd => ?_⟩
        exact k d us _ hd upd_same (FmsAt.kp fm (Kp.same (Same.new hd))) (Same.new hd)
      | false =>
        obtain ⟨pl, hpl, lpl, hat⟩ := lay_pl (t := t) (us := us) (by rw [hl]; exact ok) ho
        have l3 := ok.le
        refine ⟨_, rfl, a, _, _, _, rfl, rfl, SqT.of ha0, atI_hd, rfl, false, congrArg V.bl ((kw_own ok).trans ho), iteF ?_⟩
        refine fun pa kvs hk hp => ⟨pa, kvs, rfl, hk, _, rfl, a, _, _, _, rfl, rfl, SqT.of ha0, atI_hd, Nat.zero_le _, fun e he => ⟨Sum.inr (kw kd), rfl, ?_⟩⟩
        obtain ⟨b, hb, hsq⟩ := pp_get hp hpl
        rw [hb]
        have s1 := Same.new (o := .tup []) he
        have nsl : ∀ {D : Addr}, upd H e (.tup []) D = none → H D = none := fun {D} h => Same.back0 s1 h
        generalize upd H e (.tup []) = H2 at *
        refine ⟨b, rfl, ⟨_, hsq _⟩, fun D hD => ?_⟩
        have sD : ∀ ws, Same H2 (upd H2 D (.lst ws)) := fun ws => Same.new hD
        refine ⟨fun i m H4 => m = us.length - i ∧ i ≤ us.length ∧ H4 = upd H2 D (.lst (us.take i)), ⟨us.length, rfl, Nat.zero_le _, rfl⟩, ?_⟩
        rintro i m H4 ⟨rfl, hi, rfl⟩
        by_cases hlt : i < us.length
        · obtain ⟨p, u, hp1, hu1', hat1⟩ := hat i hlt
          have hx1 : (pl.map fun (p : Nat) => V.int p)[i]? = some (.int p) := by rw [List.getElem?_map, hp1]; rfl
          refine .inr ⟨⟨_, _, hsq _, hx1⟩, fun x H' y => ?_⟩
          obtain ⟨e, y⟩ := y
          subst e
          have hx := y _ (hsq _)
          rw [hx1] at hx
          cases hx
          refine ⟨_, rfl, _, rfl, a, _, _, _, rfl, rfl, SqT.of (sD _ _ _ (s1 _ _ ha)), hat1, _, upd_same, sl_lt (by rw [List.length_take]; omega), us.length - (i + 1), (by omega), rfl, hlt, ?_⟩
          rw [upd_upd, List.take_add_one, hu1']; rfl
        have ei : i = us.length := by omega
        subst ei
        refine .inl ⟨⟨_, hsq _, (by rw [List.length_map, lpl]; exact Nat.le_refl _)⟩, ?_⟩
        rw [List.take_length]
        have s3 := s1.trans (sD us)
        exact k D us _ (nsl hD) upd_same (FmsAt.kp fm (Kp.same s3)) s3
theorem scwith_parts : FnScope ["formula", "parts", "things", "place", "part"] ["formula", "parts"] (defScope s_with_parts) := ⟨rfl, rfl, rfl, by decide +kernel, rfl, by decide +kernel, by decide +kernel⟩
theorem ok_with_parts (T : Txt w K mg t) : FnOk P w K mg base CX0 2 t.f_with_parts t.d_with_parts ["formula", "parts"] spWp := by
  have D := T.c_with_parts
  refine D.fn.ok scwith_parts (fun vs H Q E h => ?_) (fun cdv A outer s H vs Q E hr h => ?_)
  · obtain ⟨v, f, l, ws, pr, n, rfl, _⟩ := h
    rfl
  · obtain ⟨v, f, l, ws, pr, n, rfl, hv, fo, hlw, hwl, k⟩ := h
    have hu := hr.units0
    have hu1 := hu_of hr
    refine ⟨_, ((pss_cons (ps_if (pt_cmpR op_eq (pe_ix ix_tup (pv 0) pe_int (fun _ _ => rfl)) pe_str (nomark _)) (pss_one (ps_ret (pe_tup (pa_consK pe_str (pa_consS (pe_ix ix_tup (pv 0) pe_int (fun _ _ => rfl)) (pa_consC (pe_callTy call_tuple_of (by rfl) T.tuple boot_tuple (pa_consN (pv 1) pa_nil)) pa_nil)))))) pss_nil)
      (pss_cons (ps_set (i := 2) scwith_parts.nd rfl (Or.inl rfl) (pe_callTy call_list_of (by rfl) T.list boot_list (pa_consN (pv 0) pa_nil)))
      (pss_cons (ps_for PassesOwn.never rfl (pi_zip rfl T.zip bt_zip (pa_consC (pe_kget2 (pe_gdit T.v_PART_PLACES) (pe_ix ix_tup (pv 0) pe_int (fun _ _ => rfl)) (pe_tup pa_nil) ⟨rfl, rfl, rfl, rfl⟩) (pa_consN (pv 1) pa_nil))) (pg_tup rfl (pgs_cons (pg_name (i := 3) scwith_parts.nd rfl (Or.inl rfl)) (pgs_cons (pg_name (i := 4) scwith_parts.nd rfl (Or.inl rfl)) pgs_nil)))
      (pss_one (ps_asg (pv 4) (pg_sub (pv 2) (pv 3) set_list))))
      (pss_one (ps_ret (pe_callTy call_tuple_of (by rfl) T.tuple boot_tuple (pa_consN (pv 2) pa_nil)))))))), ?_⟩

    cases hv with
    | @lf a lf hl =>
      obtain ⟨w, r, ha, h1, h2, h3, h4⟩ := hl.pp
      obtain rfl : ws = [] := List.length_eq_zero_iff.mp hwl
      refine ⟨_, rfl, a, _, _, _, rfl, rfl, SqT.of ha, atI_hd, rfl, false, h1, iteF ?_⟩
      refine ⟨_, rfl, a, _, rfl, .inr (SqT.of ha), fun d hd => ?_⟩
      have s1 := Same.new (o := .lst (.str w :: r)) hd
      have hd1 : upd H d (.lst (.str w :: r)) d = some (.lst (.str w :: r)) := upd_same
      generalize upd H d (.lst (.str w :: r)) = H1 at *
      refine fun pa kvs hk hp => ⟨pa, kvs, rfl, hk, _, rfl, a, _, _, _, rfl, rfl, SqT.of (s1 _ _ ha), atI_hd, Nat.zero_le _, fun e he => ⟨Sum.inr w, rfl, ?_⟩⟩
      rw [pp_none hp h2]
      have s2 := Same.new (o := .tup []) he
      have he2 : upd H1 e (.tup []) e = some (.tup []) := upd_same
      generalize upd H1 e (.tup []) = H2 at *
      refine ⟨_, rfl, e, l, rfl, ⟨_, SqT.of he2⟩, ⟨_, SqL.of (s2 _ _ (s1 _ _ hlw))⟩, ?_⟩
      refine for_zip (xs := []) (ys := []) (fun i σ H3 => ∃ x3 x4, σ = [some (.ref a), some (.ref l), some (.ref d), x3, x4] ∧ H3 = H2) rfl ⟨none, none, rfl, rfl⟩ ?_ ?_ ?_
      · rintro i σ H3 _ ⟨_, _, rfl, rfl⟩
        exact ⟨SqT.of he2, SqL.of (s2 _ _ (s1 _ _ hlw))⟩
      · rintro i x y σ H3 b hx
        simp at hx
      · rintro σ H3 ⟨x3, x4, rfl, rfl⟩
        refine ⟨_, rfl, d, _, rfl, .inl ⟨SqL.of (s2 _ _ hd1), fun q hq => ?_⟩⟩
        have s3 := Same.new (o := .tup (.str w :: r)) hq
        exact k q _ ⟨a, _, rfl, s3 _ _ (s2 _ _ (s1 _ _ ha)), upd_same, h3⟩ ((s1.trans s2).trans s3)
    | @nd a t kd us ps ha ht hl hh =>
      cases fo with
      | nd ok hps =>
      obtain ⟨r0, er⟩ := lay_kw t kd us
      have ha0 : H a = some (.tup (.str (kw kd) :: r0)) := by rw [ha, er]
      have fm := FmAt.parts hl hh
      replace hwl : ws.length = ps.length := hwl
      cases ho : isOwn kd with
      | true =>
        obtain ⟨z, rfl⟩ : ∃ z, kd = .own z := by cases kd <;> first | exact ⟨_, rfl⟩ | cases ho
        replace ha : H a = some (.tup [vS "own", .str z, .ref t]) := ha
        refine ⟨_, rfl, a, _, _, _, rfl, rfl, SqT.of ha, atI_hd, rfl, true, (by decide +kernel), iteT ?_⟩
        refine ⟨_, rfl, a, _, _, _, rfl, rfl, SqT.of ha, atI_1, _, rfl, l, ws, rfl, .inl ⟨SqL.of hlw, fun t' ht' => ⟨three_le, fun q hq => ?_⟩⟩⟩
        exact k q _ ⟨t', upd_same, fun _ => Same.new hq _ _ upd_same⟩ ((Same.new ht').trans (Same.new hq))
      | false =>
        obtain ⟨pl, hpl, lpl, hset⟩ := lay_set (t := t) ok ho
        have l3 := ok.le
        refine ⟨_, rfl, a, _, _, _, rfl, rfl, SqT.of ha0, atI_hd, rfl, false, congrArg V.bl ((kw_own ok).trans ho), iteF ?_⟩
        refine ⟨_, rfl, a, _, rfl, .inr (SqT.of ha), fun d hd => ?_⟩
        have s1 := Same.new (o := .lst (layV t kd us)) hd
        have hd1 : upd H d (.lst (layV t kd us)) d = some (.lst (layV t kd us)) := upd_same
        generalize upd H d (.lst (layV t kd us)) = H1 at *
        refine fun pa kvs hk hp => ⟨pa, kvs, rfl, hk, _, rfl, a, _, _, _, rfl, rfl, SqT.of (s1 _ _ ha0), atI_hd, Nat.zero_le _, fun e he => ⟨Sum.inr (kw kd), rfl, ?_⟩⟩
        obtain ⟨b, hb, hsq⟩ := pp_get hp hpl
        rw [hb]
        have s2 := Same.new (o := .tup []) he
        have hd2 := s2 _ _ hd1
        generalize upd H1 e (.tup []) = H2 at *
        have hl2 := s2 _ _ (s1 _ _ hlw)
        have ndl : d ≠ l := fun z => by rw [z] at hd; rw [hd] at hlw; cases hlw
        refine ⟨_, rfl, b, l, rfl, ⟨_, hsq _⟩, ⟨_, SqL.of hl2⟩, ?_⟩
        refine for_zip (xs := pl.map fun (p : Nat) => V.int p) (ys := ws) (fun i σ H3 => ∃ x3 x4, σ = [some (.ref a), some (.ref l), some (.ref d), x3, x4] ∧ H3 d = some (.lst (layV t kd (ws.take i ++ us.drop i))) ∧ H3 l = some (.lst ws) ∧ ∀ c o, c ≠ d → H2 c = some o → H3 c = some o) (by rw [List.length_map, lpl, hwl]) ⟨none, none, rfl, hd2, hl2, fun _ _ _ e => e⟩ ?_ ?_ ?_
        · rintro i σ H3 _ ⟨_, _, rfl, _, q, _⟩
          exact ⟨hsq _, SqL.of q⟩
        · rintro i x y σ H3 c hx hy ⟨x3, x4, rfl, q1, q2, q3⟩ hc
          have hi : i < ws.length := (List.getElem?_eq_some_iff.mp hy).1
          obtain ⟨p, hp1, hp2, hp3⟩ := hset (ws.take i ++ us.drop i) i y (by rw [List.length_append, List.length_take, List.length_drop]; omega) (by omega)
          have hxp : x = .int p := by rw [List.getElem?_map, hp1] at hx; simpa using hx.symm
          subst hxp
          have sc := Same.new (o := .tup [.int p, y]) hc
          refine ⟨c, _, rfl, SqT.of upd_same, rfl, _, _, rfl, _, _, rfl, rfl, ?_⟩
          refine ⟨_, rfl, _, rfl, _, rfl, d, _, _, p, rfl, rfl, sc _ _ q1, ?_, ?_⟩
          · unfold ixN
            rw [if_pos (by omega), if_pos (by omega)]; simp
          · refine ⟨_, _, rfl, ?_, ?_, fun c' o hc' e => ?_⟩
            · rw [upd_same, hp3, mix_set (by omega) hy]
            · rw [upd_ne (Ne.symm ndl)]; exact sc _ _ q2
            · rw [upd_ne hc']; exact sc _ _ (q3 _ _ hc' e)
        · rintro σ H3 ⟨x3, x4, rfl, q1, q2, q3⟩
          have e3 : ws.take (pl.map fun (p : Nat) => V.int p).length ++ us.drop (pl.map fun (p : Nat) => V.int p).length = ws := by
            rw [List.length_map, lpl, List.take_of_length_le (by omega), List.drop_of_length_le (by omega), List.append_nil]
          rw [e3] at q1
          refine ⟨_, rfl, d, _, rfl, .inl ⟨SqL.of q1, fun q hq => ?_⟩⟩
          have s3 := Same.new (o := .tup (layV t kd ws)) hq
          refine k q _ ⟨t, upd_same, fun z => by rw [ho] at z; cases z⟩ fun c o e => ?_
          have ncd : c ≠ d := fun z => by rw [z, hd] at e; cases e
          exact s3 _ _ (q3 _ _ ncd (s2 _ _ (s1 _ _ e)))
theorem scall_parts : FnScope ["formula", "waiting", "row", "part"] ["formula"] (defScope s_all_parts) := ⟨rfl, rfl, rfl, by decide +kernel, rfl, by decide +kernel, by decide +kernel⟩
theorem ok_all_parts (T : Txt w K mg t) : FnOk P w K mg base CX0 2 t.f_all_parts t.d_all_parts ["formula"] spAll := by
  have D := T.c_all_parts
  refine D.fn.ok scall_parts (fun vs H Q E h => ?_) (fun cdv A outer s H vs Q E hr h => ?_)
  · obtain ⟨v, f, pr, n, rfl, _⟩ := h
    rfl
  · obtain ⟨v, f, pr, n, rfl, hv, fo, h8, k⟩ := h
    have hu := hr.units0
    have hu1 := hu_of hr
    refine ⟨_, ((pss_cons (ps_set (i := 1) scall_parts.nd rfl (Or.inl rfl) (pe_lst (pa_consN (pv 0) pa_nil)))
      (pss_cons (ps_set (i := 2) scall_parts.nd rfl (Or.inl rfl) (pe_lst pa_nil))
      (pss_cons (ps_while PassesOwn.never (pt_cmpR op_gt (pe_callB call_len_seq (by rfl) T.len PySem.boot_len (pa_consN (pv 1) pa_nil)) pe_int (nomark _)) (pss_cons (ps_set (i := 3) scall_parts.nd rfl (Or.inl rfl) (pe_bm0 PySem.F.plainAttrs_list PySem.F.slot_list_pop PySem.F.type_list_pop mt_pop (pv 1)))
      (pss_cons (ps_expr (pe_bm PySem.F.plainAttrs_list PySem.F.slot_list_append PySem.F.type_list_append mt_append (pv 2) (pa_consN (pv 3) pa_nil)))
      (pss_one (ps_expr (pe_bm PySem.F.plainAttrs_list PySem.F.slot_list_extend PySem.F.type_list_extend mt_extend (pv 1) (pa_consC (pe_cl T.c_parts_of (ok_parts_of T) (hr.mono (by decide)) (pa_consN (pv 3) pa_nil)) pa_nil)))))))
      (pss_one (ps_ret (pe_listrev rfl (by rfl) T.list boot_list (by rfl) T.reversed (pv 2)))))))), ?_⟩

    have bd := szF_le fo h8
    refine ⟨_, rfl, one_le, fun l hl => ?_⟩
    have s0 := Same.new (o := .lst [v]) hl
    have hl1 : upd H l (.lst [v]) l = some (.lst [v]) := upd_same
    have hv1 := FmAt.kp hv (Kp.same s0)
    generalize upd H l (.lst [v]) = H1 at *
    refine ⟨Nat.zero_le _, fun r hr' => ?_⟩
    have s1 := Same.new (o := .lst []) hr'
    have nlr : l ≠ r := fun z => by rw [← z, hl1] at hr'; cases hr'
    have hr0 : H r = none := by
      cases c : H r with
      | none => rfl
      | some o => rw [s0 _ _ c] at hr'; cases hr'
    refine ⟨fun m σ H5 => ∃ (vs rs : List V) (fs gs : List Fm) (x : Option V), σ = [some v, some (.ref l), some (.ref r), x] ∧ H5 l = some (.lst vs) ∧ H5 r = some (.lst rs) ∧ FmsAt H5 vs fs ∧ FmsAt H5 rs gs ∧ (∀ g ∈ fs, FO pr n g) ∧ szs fs = m ∧ alL fs ++ gs.reverse = alF f ∧ Same H H5,
      ⟨szF f, _, _, [f], [], none, rfl, s1 _ _ hl1, upd_same, .cons (FmAt.kp hv1 (Kp.same s1)) .nil, .nil, (fun g hg => by rw [List.mem_singleton.mp hg]; exact fo), (by rw [szs, szs]; omega), (by rw [alL, alL]; simp), fun b o e => s1 _ _ (s0 _ _ e)⟩, ?_⟩
    rintro m σ H5 ⟨vs, rs, fs, gs, x, rfl, hl5, hr5, fm5, gm5, good, hm, him, s5⟩
    refine ⟨_, rfl, l, _, rfl, .inl (SqL.of hl5), _, _, rfl, rfl, _, rfl, ?_⟩
    rcases List.eq_nil_or_concat vs with rfl | ⟨vs', y, hvs⟩
    · have e0 : fs = [] := List.length_eq_zero_iff.mp (Paired.length fm5).symm
      subst e0
      refine iteF ⟨_, rfl, r, rs, rfl, SqL.of hr5, fun lq hlq => ?_⟩
      have e1 : gs.reverse = alF f := by rw [← him, alL, List.nil_append]
      have s6 := Same.new (o := .lst rs.reverse) hlq
      have hq0 : H lq = none := by
        cases c : H lq with
        | none => rfl
        | some o => rw [s5 _ _ c] at hlq; cases hlq
      exact k lq rs.reverse _ hq0 upd_same (by rw [← e1]; exact prev (FmsAt.kp gm5 (Kp.same s6))) fun b o e => s6 _ _ (s5 _ _ e)
    have hvs : vs = vs' ++ [y] := by rw [hvs, List.concat_eq_append]
    subst hvs
    obtain ⟨fs', g, rfl, fm', hg⟩ := psplit fm5
    have fg := good g (by simp)
    have hsz : szs fs' + (1 + szs (prtF g)) = m := by
      rw [← hm, szs_app, szs, szs, szF_prt g]; omega
    have hne : decide ((0 : Int) < ((vs' ++ [y]).length : Int)) = true := decide_eq_true (by rw [List.length_append, List.length_singleton]; omega)
    rw [hne]
    refine iteT ⟨fun σ' H' => ∃ m', m' < m ∧ ∃ (vs rs : List V) (fs gs : List Fm) (x : Option V), σ' = [some v, some (.ref l), some (.ref r), x] ∧ H' l = some (.lst vs) ∧ H' r = some (.lst rs) ∧ FmsAt H' vs fs ∧ FmsAt H' rs gs ∧ (∀ g ∈ fs, FO pr n g) ∧ szs fs = m' ∧ alL fs ++ gs.reverse = alF f ∧ Same H H', fun _ _ z => z, ?_⟩
    refine ⟨_, rfl, .inl ⟨rfl, _, SqL.of hl5⟩, l, _, y, rfl, rfl, hl5, (by simp), ?_⟩
    rw [List.dropLast_concat]
    have t7 : Kp H5 (upd H5 l (.lst vs')) := Kp.lst hl5 KeepX.upd
    have hl7 : upd H5 l (.lst vs') l = some (.lst vs') := upd_same
    have hr7 : upd H5 l (.lst vs') r = some (.lst rs) := by rw [upd_ne nlr.symm]; exact hr5
    have fm7 := FmsAt.kp fm' t7
    have gm7 := FmsAt.kp gm5 t7
    have hg7 := FmAt.kp hg t7
    have s7 : Same H (upd H5 l (.lst vs')) := fun b o e => by rw [upd_ne (ne_of_none e hl)]; exact s5 _ _ e
    generalize upd H5 l (.lst vs') = H7 at *
    have n0 : (alL (fs' ++ [g])).length + gs.length = szF f := by rw [← alF_len f, ← him, List.length_append, List.length_reverse]
    rw [alL_len] at n0
    have n00 : rs.length = gs.length := Paired.length gm5
    refine ⟨_, rfl, .inl ⟨rfl, _, SqL.of hr7⟩, _, rfl, r, rs, y, rfl, rfl, hr7, slm (by omega), ?_⟩
    have t8 : Kp H7 (upd H7 r (.lst (rs ++ [y]))) := Kp.lst hr7 KeepX.upd
    have hl8 : upd H7 r (.lst (rs ++ [y])) l = some (.lst vs') := by rw [upd_ne nlr]; exact hl7
    have hr8 : upd H7 r (.lst (rs ++ [y])) r = some (.lst (rs ++ [y])) := upd_same
    have fm8 := FmsAt.kp fm7 t8
    have hg8 := FmAt.kp hg7 t8
    have gm8 : FmsAt _ (rs ++ [y]) (gs ++ [g]) := papp (FmsAt.kp gm7 t8) (.cons hg8 .nil)
    have s8 : Same H (upd H7 r (.lst (rs ++ [y]))) := fun b o e => by rw [upd_ne (ne_of_none e hr0)]; exact s7 _ _ e
    generalize upd H7 r (.lst (rs ++ [y])) = H8 at *
    refine ⟨_, rfl, .inl ⟨rfl, _, SqL.of hl8⟩, _, rfl, y, g, pr, n, rfl, hg8, fg, fun lp ws HA hlp0 hlp fmp sA => ?_⟩
    have n1 : vs'.length = fs'.length := Paired.length fm7
    have n2 : ws.length = (prtF g).length := Paired.length fmp
    have n3 := szs_len fs'
    have n4 := szs_len (prtF g)
    have n5 : szs (fs' ++ [g]) = szs fs' + (1 + szs (prtF g)) := by rw [szs_app, szs, szs, szF_prt g]; omega
    have hlA := sA _ _ hl8
    have hrA := sA _ _ hr8
    refine ⟨l, lp, vs', ws, rfl, rfl, hlA, hlp, slm (by omega), ?_⟩
    have tB : Kp HA (upd HA l (.lst (vs' ++ ws))) := Kp.lst hlA KeepX.upd
    refine ⟨szs fs' + szs (prtF g), (by omega), vs' ++ ws, rs ++ [y], fs' ++ prtF g, gs ++ [g], _, rfl, upd_same, (by rw [upd_ne nlr.symm]; exact hrA), papp (FmsAt.kp fm8 ((Kp.same sA).trans tB)) (FmsAt.kp fmp tB), FmsAt.kp gm8 ((Kp.same sA).trans tB), fun x hx => ?_, szs_app _ _, ?_, fun b o e => ?_⟩
    · rcases List.mem_append.mp hx with q | q
      · exact good x (List.mem_append.mpr (.inl q))
      · exact fg.prt x q
    · rw [← him, alL_app, alL_app, alL, alL, alF_prt g]; simp
    · rw [upd_ne (ne_of_none e hl)]; exact sA _ _ (s8 _ _ e)
theorem sccount_parts : FnScope ["formula"] ["formula"] (defScope s_count_parts) := ⟨rfl, rfl, rfl, by decide +kernel, rfl, by decide +kernel, by decide +kernel⟩
theorem ok_count_parts (T : Txt w K mg t) : FnOk P w K mg base CX0 3 t.f_count_parts t.d_count_parts ["formula"] spCnt := by
  have D := T.c_count_parts
  refine D.fn.ok sccount_parts (fun vs H Q E h => ?_) (fun cdv A outer s H vs Q E hr h => ?_)
  · obtain ⟨v, f, pr, n, rfl, _⟩ := h
    rfl
  · obtain ⟨v, f, pr, n, rfl, hv, fo, h8, k⟩ := h
    have hu := hr.units0
    have hu1 := hu_of hr
    refine ⟨_, ((pss_one (ps_ret (pe_callB call_len_seq (by rfl) T.len PySem.boot_len (pa_consC (pe_cl T.c_all_parts (ok_all_parts T) (hr.mono (by decide)) (pa_consN (pv 0) pa_nil)) pa_nil))))), ?_⟩

    refine ⟨_, rfl, v, f, pr, n, rfl, hv, fo, h8, fun l ws H' hl0 hl fm s => ?_⟩
    have e : ws.length = szF f := by rw [Paired.length fm, alF_len]
    refine ⟨l, ws, rfl, .inl (SqL.of hl), ?_⟩
    rw [e]
    exact k _ s
theorem scdeepness : FnScope ["formula", "level", "deep", "below", "part"] ["formula"] (defScope s_deepness) := ⟨rfl, rfl, rfl, by decide +kernel, rfl, by decide +kernel, by decide +kernel⟩
theorem ok_deepness (T : Txt w K mg t) : FnOk P w K mg base CX0 2 t.f_deepness t.d_deepness ["formula"] spDpn := by
  have D := T.c_deepness
  refine D.fn.ok scdeepness (fun vs H Q E h => ?_) (fun cdv A outer s H vs Q E hr h => ?_)
  · obtain ⟨v, f, pr, n, rfl, _⟩ := h
    rfl
  · obtain ⟨v, f, pr, n, rfl, hv, fo, h8, k⟩ := h
    have hu := hr.units0
    have hu1 := hu_of hr
    refine ⟨_, ((pss_cons (ps_set (i := 1) scdeepness.nd rfl (Or.inl rfl) (pe_lst (pa_consN (pv 0) pa_nil)))
      (pss_cons (ps_set (i := 2) scdeepness.nd rfl (Or.inl rfl) pe_int)
      (pss_cons (ps_while PassesOwn.never (pt_cmpR op_gt (pe_callB call_len_seq (by rfl) T.len PySem.boot_len (pa_consN (pv 1) pa_nil)) pe_int (nomark _)) (pss_cons (ps_aug (i := 2) scdeepness.nd rfl (Or.inl rfl) pe_int ip_add)
      (pss_cons (ps_set (i := 3) scdeepness.nd rfl (Or.inl rfl) (pe_lst pa_nil))
      (pss_cons (ps_for PassesOwn.never rfl (pi_list (pv 1)) (pg_name (i := 4) scdeepness.nd rfl (Or.inl rfl))
      (pss_one (ps_expr (pe_bm PySem.F.plainAttrs_list PySem.F.slot_list_extend PySem.F.type_list_extend mt_extend (pv 3) (pa_consC (pe_cl T.c_parts_of (ok_parts_of T) (hr.mono (by decide)) (pa_consN (pv 4) pa_nil)) pa_nil)))))
      (pss_one (ps_set (i := 1) scdeepness.nd rfl (Or.inl rfl) (pv 3)))))))
      (pss_one (ps_ret (pv 2))))))), ?_⟩

    have bd := szF_le fo h8
    refine ⟨_, rfl, one_le, fun l0 hl0 => ?_⟩
    have s0 := Same.new (o := .lst [v]) hl0
    refine ⟨fun m σ H5 => ∃ (l : Addr) (vs : List V) (fs : List Fm) (i : Int) (x3 x4 : Option V), σ = [some v, some (.ref l), some (.int i), x3, x4] ∧ H5 l = some (.lst vs) ∧ FmsAt H5 vs fs ∧ (∀ g ∈ fs, FO pr n g) ∧ dpl fs = m ∧ i + m = dpF f ∧ szs fs ≤ 3280 ∧ Same H H5,
      ⟨dpF f, l0, _, [f], 0, none, none, rfl, upd_same, .cons (FmAt.kp hv (Kp.same s0)) .nil, (fun g hg => by rw [List.mem_singleton.mp hg]; exact fo), (by rw [dpl, dpl]; omega), (by omega), (by rw [szs, szs]; omega), s0⟩, ?_⟩
    rintro m σ H5 ⟨l, vs, fs, i, x3, x4, rfl, hl5, fm5, good, hm, him, hs, s5⟩
    have nv : vs.length = fs.length := Paired.length fm5
    refine ⟨_, rfl, l, _, rfl, .inl (SqL.of hl5), _, _, rfl, rfl, _, rfl, ?_⟩
    by_cases c0 : fs = []
    · subst c0
      have e0 : vs = [] := List.length_eq_zero_iff.mp nv
      subst e0
      refine iteF ⟨_, rfl, ?_⟩
      have e1 : i = (dpF f : Int) := by rw [dpl] at hm; omega
      rw [e1]
      exact k _ s5
    have hlen : 0 < fs.length := List.length_pos_iff.mpr c0
    have hne : decide ((0 : Int) < (vs.length : Int)) = true := decide_eq_true (by omega)
    rw [hne]
    have hfl := dpl_flat fs c0
    have hsf := szs_flat fs
    refine iteT ⟨fun σ' H' => ∃ m', m' < m ∧ ∃ (l : Addr) (vs : List V) (fs : List Fm) (i : Int) (x3 x4 : Option V), σ' = [some v, some (.ref l), some (.int i), x3, x4] ∧ H' l = some (.lst vs) ∧ FmsAt H' vs fs ∧ (∀ g ∈ fs, FO pr n g) ∧ dpl fs = m' ∧ i + m' = dpF f ∧ szs fs ≤ 3280 ∧ Same H H', fun _ _ z => z, ?_⟩
    refine ⟨_, rfl, _, _, rfl, rfl, ?_⟩
    refine ⟨Nat.zero_le _, fun lb hlb => ?_⟩
    have s6 := Same.new (o := .lst []) hlb
    have hl6 := s6 _ _ hl5
    have nlb : l ≠ lb := fun z => by rw [← z, hl5] at hlb; cases hlb
    refine ⟨_, rfl, l, rfl, ⟨_, SqL.of hl6⟩, ?_⟩
    refine for_list (xs := vs) (fun j σ H7 => ∃ (bs : List V) (x4 : Option V), σ = [some v, some (.ref l), some (.int (i + 1)), some (.ref lb), x4] ∧ H7 lb = some (.lst bs) ∧ FmsAt H7 bs ((fs.take j).flatMap prtF) ∧ ∀ b o, b ≠ lb → H5 b = some o → H7 b = some o)
      ⟨[], x4, rfl, upd_same, .nil, fun b o hb e => s6 _ _ e⟩ ?_ ?_ ?_
    · rintro j σ H7 _ ⟨bs, x4, rfl, _, _, kp⟩
      exact SqL.of (kp _ _ nlb hl5)
    · rintro j x σ H7 hx ⟨bs, x4, rfl, hb7, fm7, kp⟩
      obtain ⟨g, hg, xg⟩ := paired_at fm5 hx
      have t7 : Kp H5 H7 := fun a xs e => kp _ _ (ne_of_none e hlb) e
      have fg := good g (List.mem_of_getElem? hg)
      refine ⟨_, rfl, .inl ⟨rfl, _, SqL.of hb7⟩, _, rfl, x, g, pr, n, rfl, FmAt.kp xg t7, fg, fun lp ws H8 hlp0 hlp fmp s8 => ?_⟩
      have hb8 := s8 _ _ hb7
      have et : (fs.take (j + 1)).flatMap prtF = (fs.take j).flatMap prtF ++ prtF g := by
        rw [List.take_add_one, hg, List.flatMap_append]; simp
      have n1 : bs.length = ((fs.take j).flatMap prtF).length := Paired.length fm7
      have n2 : ws.length = (prtF g).length := Paired.length fmp
      have n3 := szs_len ((fs.take (j + 1)).flatMap prtF)
      have n4 := szs_flat (fs.take (j + 1))
      have n5 : szs (fs.take (j + 1)) + szs (fs.drop (j + 1)) = szs fs := by rw [← szs_app, List.take_append_drop]
      have n6 : ((fs.take (j + 1)).flatMap prtF).length = ((fs.take j).flatMap prtF).length + (prtF g).length := by rw [et, List.length_append]
      refine ⟨lb, lp, bs, ws, rfl, rfl, hb8, hlp, slm (by omega), ?_⟩
      have tB : Kp H8 (upd H8 lb (.lst (bs ++ ws))) := Kp.lst hb8 KeepX.upd
      refine ⟨bs ++ ws, _, rfl, upd_same, ?_, fun b o hb e => ?_⟩
      · rw [et]; exact papp (FmsAt.kp fm7 ((Kp.same s8).trans tB)) (FmsAt.kp fmp tB)
      · rw [upd_ne hb]; exact s8 _ _ (kp _ _ hb e)
    · rintro σ H7 ⟨bs, x4, rfl, hb7, fm7, kp⟩
      rw [nv, List.take_length] at fm7
      refine ⟨_, rfl, dpl (fs.flatMap prtF), (by omega), lb, bs, _, i + 1, _, _, rfl, hb7, fm7, FO.flat good, rfl, (by omega), (by omega), fun b o e => ?_⟩
      have nb : b ≠ lb := ne_of_none (s5 _ _ e) hlb
      exact kp _ _ nb (s5 _ _ e)
theorem sc_law_whole : FnScope ["_law_thing", "_law_due"] ["_law_thing", "_law_due"] (defScope s__law_whole) := ⟨rfl, rfl, rfl, by decide +kernel, rfl, by decide +kernel, by decide +kernel⟩
theorem ok__law_whole (T : Txt w K mg t) : FnOk P w K mg base CX0 1 t.f__law_whole t.d__law_whole ["_law_thing", "_law_due"] spWh2 := by
  have D := T.c__law_whole
  refine D.fn.ok sc_law_whole (fun vs H Q E h => ?_) (fun cdv A outer s H vs Q E hr h => ?_)
  · obtain ⟨i, rfl, _⟩ := h
    rfl
  · obtain ⟨i, rfl, k⟩ := h
    have hu := hr.units0
    have hu1 := hu_of hr
    refine ⟨_, ((pss_one (ps_ret (pe_and (pe_callB call_isinst (by rfl) T.isinstance boot_isinstance (pa_consN (pv 0) (pa_consN (pe_typ T.int boot_int) pa_nil))) (pe_and (pe_not (pe_callB call_isinst (by rfl) T.isinstance boot_isinstance (pa_consN (pv 0) (pa_consN (pe_typ T.bool boot_bool) pa_nil)))) (pe_one (pe_cmpR op_eq (pv 0) (pv 1) (nomark _)))))))), ?_⟩

    refine ⟨_, rfl, _, _, _, _, true, rfl, .int _, rfl, (fun _ => .inr trivial), kit_tt _ _, true, rfl, iteT ?_⟩
    refine ⟨_, rfl, _, _, _, _, false, rfl, .int _, rfl, (fun _ => .inr trivial), T.kib, false, rfl, true, rfl, iteT ?_⟩
    refine ⟨_, rfl, _, rfl, rfl, ?_⟩
    rw [show decide (V.int i = V.int i) = true from decide_eq_true rfl]
    exact k
theorem sc_law_count : FnScope ["_law_formula_here"] ["_law_formula_here"] (defScope s__law_count) := ⟨rfl, rfl, rfl, by decide +kernel, rfl, by decide +kernel, by decide +kernel⟩
theorem ok__law_count (T : Txt w K mg t) : ∀ n : Nat, FnOk P w K mg base CX0 (3 * n + 3) t.f__law_count t.d__law_count ["_law_formula_here"] (spCn n) := by
  have D := T.c__law_count
  intro n
  induction n with
  | zero => exact ⟨fun _ _ _ _ h => (by obtain ⟨_, _, _, _, _, fo, _⟩ := h; cases fo), fun _ _ _ _ _ _ _ _ _ _ _ _ _ h => (by obtain ⟨_, _, _, _, _, fo, _⟩ := h; cases fo)⟩
  | succ n ih =>

    refine D.fn.ok sc_law_count (fun vs H Q E h => ?_) (fun cdv A outer s H vs Q E hr h => ?_)
    · obtain ⟨v, f, pr, rfl, _⟩ := h
      rfl
    · obtain ⟨v, f, pr, rfl, hv, fo, h8, k_⟩ := h
      have hu := hr.units0
      have hu1 := hu_of hr
      refine ⟨_, ((pss_one (ps_ret (pe_op op_add pe_int (pe_callB (call_sum rfl) (by rfl) T.sum bt_sum (pa_consH (pe_comp (fv := []) (js := []) (cl := []) rfl (by with_unfolding_all rfl) ⟨rfl, by decide +kernel, by decide +kernel, rfl, by decide +kernel, by decide +kernel, (List.forall_mem_nil _), (List.forall_mem_nil _), .nil⟩ (pi_list (pe_cl T.c__law_parts (ok__law_parts T) (hr.mono (by omega)) (pa_consN (pv 0) pa_nil))) (fun _ _ _ _ _ => pf_nil) (fun _ _ _ _ _ => (pe_cl T.c__law_count ih (hr.mono (by omega)) (pa_consN (pv 0) pa_nil)))) pa_nil)))))), ?_⟩

      have hpf : ∀ g ∈ prtF f, FO pr n g := fun g hg => by
        cases fo with
        | lf _ => cases hg
        | nd _ hp => exact hp g hg
      refine ⟨_, rfl, v, f, pr, n + 1, rfl, FmAt.kp hv (Kp.same (Same.refl _)), fo, fun lp us H1 _ hlp fm s1 => ?_⟩
      have hus : us.length = (prtF f).length := Paired.length fm
      have p3 : (prtF f).length ≤ 3 := by
        cases fo with
        | lf _ => exact Nat.zero_le _
        | nd ok _ => exact ok.le
      refine ⟨lp, rfl, ⟨_, SqL.of hlp⟩, fun D hD => ?_⟩
      refine ⟨fun i m H4 => m = us.length - i ∧ i ≤ us.length ∧ H4 D = some (.lst (((prtF f).take i).map fun g => V.int (szF g))) ∧ Same H1 H4, ⟨us.length, rfl, Nat.zero_le _, upd_same, Same.new hD⟩, ?_⟩
      rintro i m H4 ⟨rfl, hi, hD4, s4⟩
      by_cases hlt : i < us.length
      · refine .inr ⟨⟨us, us[i], SqL.of (s4 _ _ hlp), List.getElem?_eq_getElem hlt⟩, fun x H' y => ?_⟩
        obtain ⟨e, y⟩ := y
        subst e
        have hx := y us (SqL.of (s4 _ _ hlp))
        obtain ⟨g, hg, xg⟩ := paired_at fm hx
        refine ⟨_, rfl, x, g, pr, rfl, FmAt.kp xg (Kp.same s4), hpf g (List.mem_of_getElem? hg), (by omega), fun H5 s5 => ?_⟩
        refine ⟨_, s5 _ _ hD4, sl_lt (by rw [List.length_map, List.length_take]; omega), us.length - (i + 1), (by omega), rfl, hlt, ?_, fun b o e => ?_⟩
        · rw [upd_same, List.take_add_one, hg, List.map_append]; rfl
        · rw [upd_ne (ne_of_none e hD)]; exact s5 _ _ (s4 _ _ e)
      have ei : i = us.length := by omega
      subst ei
      refine .inl ⟨⟨us, SqL.of (s4 _ _ hlp), Nat.le_refl _⟩, ?_⟩
      rw [hus, List.take_length, show ((prtF f).map fun g => V.int (szF g)) = ((prtF f).map fun g => (szF g : Int)).map V.int by rw [List.map_map]; rfl] at hD4

      refine ⟨D, _, rfl, SqL.of hD4, _, _, rfl, rfl, ?_⟩
      rw [szs_sum]
      dsimp only
      rw [show (1 : Int) + (szs (prtF f) : Int) = (szF f : Int) by rw [szF_prt f]; omega]
      exact k_ _ (s1.trans s4)
theorem sc_law_deep : FnScope ["_law_formula_here"] ["_law_formula_here"] (defScope s__law_deep) := ⟨rfl, rfl, rfl, by decide +kernel, rfl, by decide +kernel, by decide +kernel⟩
theorem ok__law_deep (T : Txt w K mg t) : ∀ n : Nat, FnOk P w K mg base CX0 (3 * n + 3) t.f__law_deep t.d__law_deep ["_law_formula_here"] (spDp n) := by
  have D := T.c__law_deep
  intro n
  induction n with
  | zero => exact ⟨fun _ _ _ _ h => (by obtain ⟨_, _, _, _, _, fo, _⟩ := h; cases fo), fun _ _ _ _ _ _ _ _ _ _ _ _ _ h => (by obtain ⟨_, _, _, _, _, fo, _⟩ := h; cases fo)⟩
  | succ n ih =>

    refine D.fn.ok sc_law_deep (fun vs H Q E h => ?_) (fun cdv A outer s H vs Q E hr h => ?_)
    · obtain ⟨v, f, pr, rfl, _⟩ := h
      rfl
    · obtain ⟨v, f, pr, rfl, hv, fo, h8, k_⟩ := h
      have hu := hr.units0
      have hu1 := hu_of hr
      refine ⟨_, ((pss_one (ps_ret (pe_op op_add pe_int (pe_callB (call_maxL rfl) (by rfl) T.max boot_max (pa_consB (pe_op op_cat (pe_lst (pa_consK pe_int pa_nil)) (pe_comp (fv := []) (js := []) (cl := []) rfl (by with_unfolding_all rfl) ⟨rfl, by decide +kernel, by decide +kernel, rfl, by decide +kernel, by decide +kernel, (List.forall_mem_nil _), (List.forall_mem_nil _), .nil⟩ (pi_list (pe_cl T.c__law_parts (ok__law_parts T) (hr.mono (by omega)) (pa_consN (pv 0) pa_nil))) (fun _ _ _ _ _ => pf_nil) (fun _ _ _ _ _ => (pe_cl T.c__law_deep ih (hr.mono (by omega)) (pa_consN (pv 0) pa_nil))))) pa_nil)))))), ?_⟩

      have hpf : ∀ g ∈ prtF f, FO pr n g := fun g hg => by
        cases fo with
        | lf _ => cases hg
        | nd _ hp => exact hp g hg
      refine ⟨one_le, fun z0 hz0 => ?_⟩
      have s0 := Same.new (o := .lst [.int 0]) hz0
      have hz1 : upd H z0 (.lst [.int 0]) z0 = some (.lst [.int 0]) := upd_same
      generalize upd H z0 (.lst [.int 0]) = H0 at *
      refine ⟨_, rfl, v, f, pr, n + 1, rfl, FmAt.kp hv (Kp.same s0), fo, fun lp us H1 _ hlp fm s1 => ?_⟩
      have hus : us.length = (prtF f).length := Paired.length fm
      have p3 : (prtF f).length ≤ 3 := by
        cases fo with
        | lf _ => exact Nat.zero_le _
        | nd ok _ => exact ok.le
      refine ⟨lp, rfl, ⟨_, SqL.of hlp⟩, fun D hD => ?_⟩
      refine ⟨fun i m H4 => m = us.length - i ∧ i ≤ us.length ∧ H4 D = some (.lst (((prtF f).take i).map fun g => V.int (dpF g))) ∧ Same H1 H4, ⟨us.length, rfl, Nat.zero_le _, upd_same, Same.new hD⟩, ?_⟩
      rintro i m H4 ⟨rfl, hi, hD4, s4⟩
      by_cases hlt : i < us.length
      · refine .inr ⟨⟨us, us[i], SqL.of (s4 _ _ hlp), List.getElem?_eq_getElem hlt⟩, fun x H' y => ?_⟩
        obtain ⟨e, y⟩ := y
        subst e
        have hx := y us (SqL.of (s4 _ _ hlp))
        obtain ⟨g, hg, xg⟩ := paired_at fm hx
        refine ⟨_, rfl, x, g, pr, rfl, FmAt.kp xg (Kp.same s4), hpf g (List.mem_of_getElem? hg), (by omega), fun H5 s5 => ?_⟩
        refine ⟨_, s5 _ _ hD4, sl_lt (by rw [List.length_map, List.length_take]; omega), us.length - (i + 1), (by omega), rfl, hlt, ?_, fun b o e => ?_⟩
        · rw [upd_same, List.take_add_one, hg, List.map_append]; rfl
        · rw [upd_ne (ne_of_none e hD)]; exact s5 _ _ (s4 _ _ e)
      have ei : i = us.length := by omega
      subst ei
      refine .inl ⟨⟨us, SqL.of (s4 _ _ hlp), Nat.le_refl _⟩, ?_⟩
      rw [hus, List.take_length, show ((prtF f).map fun g => V.int (dpF g)) = ((prtF f).map fun g => (dpF g : Int)).map V.int by rw [List.map_map]; rfl] at hD4

      refine ⟨z0, D, _, _, rfl, rfl, s4 _ _ (s1 _ _ hz1), hD4, sl_le (by simp; omega), fun q hq => ?_⟩
      have s5 := Same.new (o := .lst ([V.int 0] ++ ((prtF f).map fun g => (dpF g : Int)).map V.int)) hq
      refine ⟨q, 0 :: (prtF f).map fun g => (dpF g : Int), rfl, SqL.of upd_same, (by simp), fun m h1 h2 => ⟨_, _, rfl, rfl, ?_⟩⟩
      rw [dpl_max h1 h2]
      dsimp only
      rw [show (1 : Int) + (dpl (prtF f) : Int) = (dpF f : Int) by rw [dpF_prt f]; omega]
      exact k_ _ (((s0.trans s1).trans s4).trans s5)
theorem sc_law_with : FnScope ["_law_formula_here", "_law_parts_here", "_law_left", "_law_made_here", "_law_part"] ["_law_formula_here", "_law_parts_here"] (defScope s__law_with) := ⟨rfl, rfl, rfl, by decide +kernel, rfl, by decide +kernel, by decide +kernel⟩
theorem ok__law_with (T : Txt w K mg t) : FnOk P w K mg base CX0 2 t.f__law_with t.d__law_with ["_law_formula_here", "_law_parts_here"] spWw := by
  have D := T.c__law_with
  refine D.fn.ok sc_law_with (fun vs H Q E h => ?_) (fun cdv A outer s H vs Q E hr h => ?_)
  · obtain ⟨v, f, l, ws, pr, n, rfl, _⟩ := h
    rfl
  · obtain ⟨v, f, l, ws, pr, n, rfl, hv, fo, hlw, hwl, k⟩ := h
    have hu := hr.units0
    have hu1 := hu_of hr
    refine ⟨_, ((pss_cons (ps_if (pt_cmpR op_eq (pe_ix ix_tup (pv 0) pe_int (fun _ _ => rfl)) pe_str (nomark _)) (pss_one (ps_ret (pe_tup (pa_consK pe_str (pa_consS (pe_ix ix_tup (pv 0) pe_int (fun _ _ => rfl)) (pa_consC (pe_callTy call_tuple_of (by rfl) T.tuple boot_tuple (pa_consN (pv 1) pa_nil)) pa_nil)))))) pss_nil)
      (pss_cons (ps_if (pt_cmpR (op_eqE hu) (pe_cl T.c__law_parts (ok__law_parts T) (hr.mono (by decide)) (pa_consN (pv 0) pa_nil)) (pe_lst pa_nil) (nomark _)) (pss_one (ps_ret (pv 0))) pss_nil)
      (pss_cons (ps_set (i := 2) sc_law_with.nd rfl (Or.inl rfl) (pe_callTy call_list_of (by rfl) T.list boot_list (pa_consN (pv 1) pa_nil)))
      (pss_cons (ps_set (i := 3) sc_law_with.nd rfl (Or.inl rfl) (pe_lst pa_nil))
      (pss_cons (ps_for PassesOwn.never rfl (pi_tup (pv 0)) (pg_name (i := 4) sc_law_with.nd rfl (Or.inl rfl))
      (pss_cons (ps_if (pt_val (pe_callB call_isinst (by rfl) T.isinstance boot_isinstance (pa_consN (pv 4) (pa_consN (pe_typ T.tuple boot_tuple) pa_nil)))) (pss_one (ps_set (i := 4) sc_law_with.nd rfl (Or.inl rfl) (pe_bm PySem.F.plainAttrs_list PySem.F.slot_list_pop PySem.F.type_list_pop mt_popAt (pv 2) (pa_consK pe_int pa_nil)))) pss_nil)
      (pss_one (ps_expr (pe_bm PySem.F.plainAttrs_list PySem.F.slot_list_append PySem.F.type_list_append mt_append (pv 3) (pa_consN (pv 4) pa_nil))))))
      (pss_one (ps_ret (pe_callTy call_tuple_of (by rfl) T.tuple boot_tuple (pa_consN (pv 3) pa_nil)))))))))), ?_⟩

    have hv0 := hv
    have fo0 := fo
    cases hv with
    | @lf a lf hl =>
      obtain ⟨w, r, ha, h1, _⟩ := hl.pp
      refine ⟨_, rfl, a, _, _, _, rfl, rfl, SqT.of ha, atI_hd, rfl, false, h1, iteF ?_⟩
      refine ⟨_, rfl, .ref a, _, pr, n, rfl, hv0, fo0, fun lp us H1 _ hlp fm s1 => ⟨Nat.zero_le _, fun e he => ?_⟩⟩
      have s2 := Same.new (o := .lst []) he
      have eu : us = [] := List.length_eq_zero_iff.mp (Paired.length fm)
      subst eu
      exact ⟨lp, e, [], rfl, rfl, SqL.of (s2 _ _ hlp), SqL.of upd_same, true, rfl, iteT ⟨_, rfl, k _ _ rfl (s1.trans s2)⟩⟩
    | @nd a t kd us ps ha ht hl hh =>
      cases fo with
      | nd ok hps =>
      obtain ⟨r0, er⟩ := lay_kw t kd us
      have ha0 : H a = some (.tup (.str (kw kd) :: r0)) := by rw [ha, er]
      have fm := FmAt.parts hl hh
      replace hwl : ws.length = ps.length := hwl
      have l3 := ok.le
      cases ho : isOwn kd with
      | true =>
        obtain ⟨z, rfl⟩ : ∃ z, kd = .own z := by cases kd <;> first | exact ⟨_, rfl⟩ | cases ho
        replace ha : H a = some (.tup [vS "own", .str z, .ref t]) := ha
        refine ⟨_, rfl, a, _, _, _, rfl, rfl, SqT.of ha, atI_hd, rfl, true, (by decide +kernel), iteT ?_⟩
        refine ⟨_, rfl, a, _, _, _, rfl, rfl, SqT.of ha, atI_1, _, rfl, l, ws, rfl, .inl ⟨SqL.of hlw, fun t' ht' => ⟨three_le, fun q hq => ?_⟩⟩⟩
        exact k _ _ ⟨q, t', rfl, upd_same, fun _ => Same.new hq _ _ upd_same⟩ ((Same.new ht').trans (Same.new hq))
      | false =>
        refine ⟨_, rfl, a, _, _, _, rfl, rfl, SqT.of ha0, atI_hd, rfl, false, congrArg V.bl ((kw_own ok).trans ho), iteF ?_⟩
        refine ⟨_, rfl, .ref a, _, pr, _, rfl, hv0, fo0, fun lp us1 H1 _ hlp fm1 s1 => ⟨Nat.zero_le _, fun e he => ?_⟩⟩
        have s2 := Same.new (o := .lst []) he
        have n1 : us1.length = ps.length := Paired.length fm1
        have np := ok.pos ho
        refine ⟨lp, e, us1, rfl, rfl, SqL.of (s2 _ _ hlp), SqL.of upd_same, false, ?_, iteF ?_⟩
        · cases us1 with
          | nil => simp at n1; omega
          | cons _ _ => rfl
        have s12 := s1.trans s2
        generalize upd H1 e (.lst []) = H2 at *
        obtain ⟨er, ec⟩ := lay_repl (t := t) (us := us) (ws := ws) (by rw [hl]; exact ok) ho (fun u hu => by
          obtain ⟨j, hj, e⟩ := List.mem_iff_getElem.mp hu
          have e1 : us[j]? = some u := by rw [List.getElem?_eq_getElem hj, e]
          obtain ⟨g, _, x⟩ := paired_at fm e1
          obtain ⟨b, ys, rfl, _⟩ := x.tup
          rfl) (hwl.trans hl.symm)
        have hit : ∀ x ∈ layV t kd us, PartOr H x := fun x hx => by
          obtain ⟨r, er2, hi, _, _⟩ := lay_tail (t := t) (H := H) (k := kd) (us := us) (by rw [hl]; exact ok) ho (fun u hu => by
            obtain ⟨j, hj, e⟩ := List.mem_iff_getElem.mp hu
            have e1 : us[j]? = some u := by rw [List.getElem?_eq_getElem hj, e]
            obtain ⟨g, _, x⟩ := paired_at fm e1
            exact x.tup)
          rw [er2] at hx
          rcases List.mem_cons.mp hx with q | q
          · exact .inr (.inl ⟨_, q⟩)
          · exact hi x q
        have lay5 : (layV t kd us).length ≤ 7 := by
          obtain ⟨r, er2, _, _, h5⟩ := lay_tail (t := t) (H := H) (k := kd) (us := us) (by rw [hl]; exact ok) ho (fun u hu => by
            obtain ⟨j, hj, e⟩ := List.mem_iff_getElem.mp hu
            have e1 : us[j]? = some u := by rw [List.getElem?_eq_getElem hj, e]
            obtain ⟨g, _, x⟩ := paired_at fm e1
            exact x.tup)
          rw [er2, List.length_cons]; omega
        refine ⟨_, rfl, l, ws, rfl, .inl (SqL.of (s12 _ _ hlw)), fun d hd => ?_⟩
        have s3 := Same.new (o := .lst ws) hd
        have hd3 : upd H2 d (.lst ws) d = some (.lst ws) := upd_same
        have s13 := s12.trans s3
        have nd0 : H d = none := Same.back0 s12 hd
        generalize upd H2 d (.lst ws) = H3 at *
        refine ⟨Nat.zero_le _, fun g hg => ?_⟩
        have s4 := Same.new (o := .lst []) hg
        have hg4 : upd H3 g (.lst []) g = some (.lst []) := upd_same
        have hd4 := s4 _ _ hd3
        have s14 := s13.trans s4
        have ng0 : H g = none := Same.back0 s13 hg
        have ndg : d ≠ g := fun z => by rw [← z, hd3] at hg; cases hg
        generalize upd H3 g (.lst []) = H4 at *
        refine ⟨_, rfl, a, rfl, ⟨_, SqT.of (s14 _ _ ha)⟩, ?_⟩
        refine for_tup (xs := layV t kd us) (fun i σ H5 => ∃ (ms lf : List V) (x4 : Option V), σ = [some (.ref a), some (.ref l), some (.ref d), some (.ref g), x4] ∧ H5 g = some (.lst ms) ∧ H5 d = some (.lst lf) ∧ ms ++ repl ((layV t kd us).drop i) lf = layV t kd ws ∧ (((layV t kd us).drop i).filter isRefV).length = lf.length ∧ ms.length = i ∧ ∀ b o, H b = some o → H5 b = some o)
          ⟨[], ws, none, rfl, hg4, hd4, by rw [List.drop_zero, er]; rfl, by rw [List.drop_zero, ec], rfl, s14⟩ ?_ ?_ ?_
        · rintro i σ H5 _ ⟨_, _, _, rfl, _, _, _, _, _, s⟩
          exact SqT.of (s _ _ ha)
        · rintro i x σ H5 hx ⟨ms, lf, x4, rfl, hg5, hd5, e1, e2, e3, s5⟩
          have hi : i < (layV t kd us).length := (List.getElem?_eq_some_iff.mp hx).1
          have ed : (layV t kd us).drop i = x :: (layV t kd us).drop (i + 1) := by
            rw [List.drop_eq_getElem_cons hi]
            congr 1
            rw [List.getElem?_eq_getElem hi] at hx
            exact Option.some.inj hx
          rw [ed] at e1 e2
          rcases hit x (List.mem_of_getElem? hx) with ⟨b, ys, rfl, hb⟩ | ⟨z, rfl⟩ | ⟨j, rfl⟩
          · rw [List.filter_cons_of_pos rfl, List.length_cons] at e2
            cases lf with
            | nil => simp at e2
            | cons w0 lf' =>
              rw [repl_r rfl] at e1
              refine ⟨_, rfl, _, _, _, _, true, rfl, .tup (s5 _ _ hb), rfl, (fun _ => .inr trivial), kit_tt _ _, true, rfl, iteT ?_⟩
              refine ⟨_, rfl, .inl ⟨rfl, _, SqL.of hd5⟩, d, _, 0, 0, w0, rfl, rfl, hd5, (by decide), (by decide), (by simp [seqIndex?]), rfl, ?_⟩
              have hd6 : upd H5 d (.lst ((w0 :: lf').eraseIdx 0)) d = some (.lst lf') := upd_same
              have hg6 : upd H5 d (.lst ((w0 :: lf').eraseIdx 0)) g = some (.lst ms) := (upd_ne (Ne.symm ndg)).trans hg5
              have s6 : ∀ b o, H b = some o → upd H5 d (.lst ((w0 :: lf').eraseIdx 0)) b = some o := fun b o e => (upd_ne (ne_of_none e nd0)).trans (s5 _ _ e)
              generalize upd H5 d (.lst ((w0 :: lf').eraseIdx 0)) = H6 at *
              refine ⟨_, rfl, .inl ⟨rfl, _, SqL.of hg6⟩, _, rfl, g, _, _, rfl, rfl, hg6, sl_lt (by omega), ?_⟩
              refine ⟨ms ++ [w0], lf', _, rfl, upd_same, (by rw [upd_ne ndg]; exact hd6), (by rw [List.append_assoc]; exact e1), (by simpa using e2), (by rw [List.length_append, e3]; rfl), fun b o e => ?_⟩
              rw [upd_ne (ne_of_none e ng0)]; exact s6 _ _ e
          · rw [List.filter_cons_of_neg (by simp [isRefV])] at e2
            rw [repl_n rfl] at e1
            refine ⟨_, rfl, _, _, _, _, false, rfl, .str _, rfl, (fun _ => .inr trivial), T.kist, false, rfl, iteF ?_⟩
            refine ⟨_, rfl, .inl ⟨rfl, _, SqL.of hg5⟩, _, rfl, g, _, _, rfl, rfl, hg5, sl_lt (by omega), ?_⟩
            refine ⟨ms ++ [_], lf, _, rfl, upd_same, (by rw [upd_ne ndg]; exact hd5), (by rw [List.append_assoc]; exact e1), e2, (by rw [List.length_append, e3]; rfl), fun b o e => ?_⟩
            rw [upd_ne (ne_of_none e ng0)]; exact s5 _ _ e
          · rw [List.filter_cons_of_neg (by simp [isRefV])] at e2
            rw [repl_n rfl] at e1
            refine ⟨_, rfl, _, _, _, _, false, rfl, .int _, rfl, (fun _ => .inr trivial), T.kiit, false, rfl, iteF ?_⟩
            refine ⟨_, rfl, .inl ⟨rfl, _, SqL.of hg5⟩, _, rfl, g, _, _, rfl, rfl, hg5, sl_lt (by omega), ?_⟩
            refine ⟨ms ++ [_], lf, _, rfl, upd_same, (by rw [upd_ne ndg]; exact hd5), (by rw [List.append_assoc]; exact e1), e2, (by rw [List.length_append, e3]; rfl), fun b o e => ?_⟩
            rw [upd_ne (ne_of_none e ng0)]; exact s5 _ _ e
        · rintro σ H5 ⟨ms, lf, x4, rfl, hg5, hd5, e1, e2, e3, s5⟩
          rw [List.drop_length, repl, List.append_nil] at e1
          subst e1
          refine ⟨_, rfl, g, _, rfl, .inl ⟨SqL.of hg5, fun q hq => ?_⟩⟩
          have s6 := Same.new (o := .tup (layV t kd ws)) hq
          exact k _ _ ⟨q, t, rfl, upd_same, fun z => by rw [ho] at z; cases z⟩ fun b o e => s6 _ _ (s5 _ _ e)
theorem sc_law_right : FnScope ["_law_pen_here", "_law_formula_here", "_law_parts_here", "_law_heard", "_law_others", "_law_handed"] ["_law_pen_here", "_law_formula_here"] (defScope s__law_right) := ⟨rfl, rfl, rfl, by decide +kernel, rfl, by decide +kernel, by decide +kernel⟩
theorem ok__law_right (T : Txt w K mg t) : FnOk P w K mg base CX0 60 t.f__law_right t.d__law_right ["_law_pen_here", "_law_formula_here"] (spRt K) := by
  have D := T.c__law_right
  refine D.fn.ok sc_law_right (fun vs H Q E h => ?_) (fun cdv A outer s H vs Q E hr h => ?_)
  · obtain ⟨p, v, f, pr, c, S, rfl, _⟩ := h
    rfl
  · obtain ⟨p, v, f, pr, c, S, rfl, hv, fo, hpen, hc, k⟩ := h
    have hu := hr.units0
    have hu1 := hu_of hr
    have hun := hun_of hr
    have hpp := fo.prt
    have p3 : (prtF f).length ≤ 3 := by
      cases fo with
      | lf _ => exact Nat.zero_le _
      | nd ok _ => exact ok.le
    refine ⟨_, ((pss_cons (ps_set (i := 2) sc_law_right.nd rfl (Or.inl rfl) (pe_cl T.c__law_parts (ok__law_parts T) (hr.mono (by omega)) (pa_consN (pv 1) pa_nil)))
      (pss_cons (ps_set (i := 3) sc_law_right.nd rfl (Or.inl rfl) (pe_cl T.c_parts_of (ok_parts_of T) (hr.mono (by omega)) (pa_consN (pv 1) pa_nil)))
      (pss_cons (ps_if (pw_or (pt_not (pt_val (pe_callB call_isinst (by rfl) T.isinstance boot_isinstance (pa_consN (pv 3) (pa_consN (pe_typ T.list boot_list) pa_nil))))) (pw_or1 (pt_cmpR (op_neLt (k := 30) hun) (pv 3) (pv 2) (nomark _)))).pt (pss_one (ps_ret pe_bl)) pss_nil)
      (pss_cons (ps_setC (i := 4) sc_law_right.nd rfl rfl (fv := ["_law_pen_here"]) (js := [0]) (cl := [("_law_pen_here", s.heap.objs.size + 1)]) rfl (by with_unfolding_all rfl) ⟨rfl, by decide +kernel, by decide +kernel, rfl, by decide +kernel, by decide +kernel, (List.forall_mem_cons.mpr ⟨⟨rfl, rfl, rfl⟩, (List.forall_mem_nil _)⟩), (List.forall_mem_cons.mpr ⟨rfl, (List.forall_mem_nil _)⟩), (.cons rfl .nil)⟩ (pi_list (pv 2)) (fun _ _ _ _ _ => pf_nil) (fun _ _ _ _ _ => (pe_cl T.c__law_leaf (ok__law_leaf T) (hr.mono (by omega)) (pa_consN (pv 1) (pa_consK pe_int pa_nil)))))
      (pss_cons (ps_set (i := 5) sc_law_right.nd rfl (Or.inl rfl) (pe_callTy call_list_of (by rfl) T.list boot_list (pa_consN (pv 4) pa_nil)))
      (pss_cons (ps_if (pw_or (pt_cmpR (op_neTr (k := 30) hun) (pe_cl T.c_with_parts (ok_with_parts T) (hr.mono (by omega)) (pa_consN (pv 1) (pa_consN (pv 5) pa_nil))) (pe_cl T.c__law_with (ok__law_with T) (hr.mono (by omega)) (pa_consN (pv 1) (pa_consN (pv 4) pa_nil))) (nomark _)) (pw_or1 (pt_cmpR (op_neLt (k := 30) hun) (pv 5) (pv 4) (nomark _)))).pt (pss_one (ps_ret pe_bl)) pss_nil)
      (pss_cons (ps_if (pt_cmpR (op_neTr (k := 30) hun) (pe_cl T.c_with_parts (ok_with_parts T) (hr.mono (by omega)) (pa_consN (pv 1) (pa_consN (pv 2) pa_nil))) (pv 1) (nomark _)) (pss_one (ps_ret pe_bl)) pss_nil)
      (pss_cons (ps_if (pt_not (pt_val (pe_cl T.c__law_whole (ok__law_whole T) (hr.mono (by omega)) (pa_consC (pe_cl T.c_count_parts (ok_count_parts T) (hr.mono (by omega)) (pa_consN (pv 1) pa_nil)) (pa_consC (pe_cl T.c__law_count (ok__law_count T 8) (hr.mono (by omega)) (pa_consN (pv 1) pa_nil)) pa_nil))))) (pss_one (ps_ret pe_bl)) pss_nil)
      (pss_cons (ps_expr (pe_bm PySem.F.plainAttrs_list PySem.F.slot_list_append PySem.F.type_list_append mt_append (pv 3) (pa_consN (pv 1) pa_nil)))
      (pss_one (ps_ret (pe_and (pe_cmpR (op_eqLt (k := 30) hun) (pe_cl T.c_parts_of (ok_parts_of T) (hr.mono (by omega)) (pa_consN (pv 1) pa_nil)) (pv 2) (nomark _)) (pe_one (pe_cl T.c__law_whole (ok__law_whole T) (hr.mono (by omega)) (pa_consC (pe_cl T.c_deepness (ok_deepness T) (hr.mono (by omega)) (pa_consN (pv 1) pa_nil)) (pa_consC (pe_cl T.c__law_deep (ok__law_deep T 8) (hr.mono (by omega)) (pa_consN (pv 1) pa_nil)) pa_nil))))))))))))))))), ?_⟩
    refine ⟨_, rfl, v, f, pr, 8, rfl, hv, fo, fun lp us H1 nlp hlp fm1 s1 => ?_⟩
    have hv1 := FmAt.kp hv (Kp.same s1)
    have hus : us.length = (prtF f).length := Paired.length fm1
    refine ⟨_, rfl, v, f, pr, 8, rfl, hv1, fo, fun lh vs H2 nlh hlh fm2 s2 => ?_⟩
    have hlp2 := s2 _ _ hlp
    have fm12 := FmsAt.kp fm1 (Kp.same s2)
    have s12 := s1.trans s2
    have hv2 := FmAt.kp hv (Kp.same s12)
    have nph : lp ≠ lh := fun z => by rw [← z, hlp] at nlh; cases nlh
    obtain ⟨al1, al2⟩ := lst_alike hpp fm2 fm12
    refine ⟨_, rfl, _, _, _, _, true, rfl, .lst hlh, rfl, (fun _ => .inr trivial), kit_tt _ _, true, rfl, iteF ?_⟩
    refine ⟨_, rfl, _, rfl, lh, lp, _, _, 16, rfl, rfl, SqL.of hlh, SqL.of hlp2, al1, (by decide), al2, false, rfl, iteF ?_⟩
    have pen2 := hpen.same s12
    refine ⟨_, rfl, lp, rfl, ⟨_, SqL.of hlp2⟩, fun D hD => ?_⟩
    have npD := pen2.ne hD
    have nlpP : lp ≠ p := fun z => by
      obtain ⟨kvs, e⟩ := pen2.ob
      rw [← z, hlp2] at e; cases e
    have nlhP : lh ≠ p := fun z => by
      obtain ⟨kvs, e⟩ := pen2.ob
      rw [← z, hlh] at e; cases e
    refine ⟨fun i m H4 => m = us.length - i ∧ i ≤ us.length ∧ ∃ ws : List V, H4 D = some (.lst ws) ∧ ws.length = i ∧ (∀ x ∈ ws, itOk x) ∧ PenD K S H4 p (c + 40 * i) ∧ ∀ b o, b ≠ p → H2 b = some o → H4 b = some o,
      ⟨us.length, rfl, Nat.zero_le _, [], upd_same, rfl, (fun x hx => by cases hx), pen2.same (Same.new hD), fun b o _ e => Same.new hD _ _ e⟩, ?_⟩
    rintro i m H4 ⟨rfl, hi, ws, hD4, hl4, one4, pen4, kp4⟩
    by_cases hlt : i < us.length
    · refine .inr ⟨⟨us, us[i], SqL.of (kp4 _ _ nlpP hlp2), List.getElem?_eq_getElem hlt⟩, fun x H' y => ?_⟩
      obtain ⟨e, y⟩ := y
      subst e
      refine ⟨_, rfl, p, 3, _, S, rfl, (by decide), pen4, (by omega), fun a lf HL ha _ penL kpL => ?_⟩
      refine ⟨_, kpL _ _ npD hD4, sl_lt (by omega), us.length - (i + 1), (by omega), rfl, hlt, ws ++ [.ref a], upd_same, (by rw [List.length_append, hl4]; rfl), fun x hx => ?_, (pen2.put hD penL).mono (by omega), fun b o hb e => ?_⟩
      · rcases List.mem_append.mp hx with q | q
        · exact one4 x q
        · rw [List.mem_singleton.mp q]; exact .inr ⟨_, rfl⟩
      · rw [upd_ne (ne_of_none e hD)]; exact kpL b o hb (kp4 b o hb e)
    have ei : i = us.length := by omega
    subst ei
    refine .inl ⟨⟨us, SqL.of (kp4 _ _ nlpP hlp2), Nat.le_refl _⟩, ?_⟩
    have hlp4 := kp4 _ _ nlpP hlp2
    have hlh4 := kp4 _ _ nlhP hlh
    have t4 : Kp H2 H4 := Kp.pen pen2 kp4
    have hv4 := FmAt.kp hv2 t4
    have fm14 := FmsAt.kp fm12 t4
    have keep4 : KeepX p H H4 := (Same.keep s12).trans kp4
    refine ⟨_, rfl, D, ws, rfl, .inl (SqL.of hD4), fun lk hlk => ?_⟩
    have s5 := Same.new (o := .lst ws) hlk
    have hlk5 : upd H4 lk (.lst ws) lk = some (.lst ws) := upd_same
    generalize upd H4 lk (.lst ws) = H5 at *
    have hwl : ws.length = (prtF f).length := hl4.trans hus
    refine ⟨_, rfl, _, rfl, v, f, lk, ws, pr, 8, rfl, FmAt.kp hv4 (Kp.same s5), fo, hlk5, hwl, fun a' H6 wp s6 => ?_⟩
    have s56 := s5.trans s6
    refine ⟨_, rfl, _, rfl, v, f, D, ws, pr, 8, rfl, FmAt.kp hv4 (Kp.same s56), fo, s56 _ _ hD4, hwl, fun x H7 ww s7 => ?_⟩
    have s57 := s56.trans s7
    obtain ⟨b, xs, ys, rfl, e1, e2, e3⟩ := wp_ww fo hwl one4 s7 wp ww
    obtain ⟨al3, al4⟩ := pair_alike e3
    refine ⟨a', b, xs, ys, 1, rfl, rfl, e1, e2, al3, (by decide), al4, false, rfl, iteF ?_⟩
    refine ⟨_, rfl, _, rfl, lk, D, ws, ws, 0, rfl, rfl, SqL.of (s7 _ _ (s6 _ _ hlk5)), SqL.of (s57 _ _ hD4), rfl, (by decide), same_alike one4, false, rfl, iteF ?_⟩
    have hv7 := FmAt.kp hv4 (Kp.same s57)
    have fm17 := FmsAt.kp fm14 (Kp.same s57)
    refine ⟨_, rfl, _, rfl, v, f, lp, us, pr, 8, rfl, hv7, fo, s57 _ _ hlp4, hus, fun a2 H8 wp2 s8 => ?_⟩
    have s58 := s57.trans s8
    have hv8 := FmAt.kp hv4 (Kp.same s58)
    obtain ⟨b2, xs2, ys2, ev, e4, e5, e6⟩ := wp_v (n := 7) fo hv8 (FmsAt.kp fm17 (Kp.same s8)) wp2
    obtain ⟨al5, al6⟩ := pair_alike e6
    refine ⟨_, rfl, a2, b2, xs2, ys2, 15, rfl, ev, e4, e5, al5, (by decide), al6, false, rfl, iteF ?_⟩
    refine ⟨_, rfl, v, f, pr, 8, rfl, hv8, fo, (by decide), fun H9 s9 => ?_⟩
    have s59 := s58.trans s9
    refine ⟨_, rfl, v, f, pr, rfl, FmAt.kp hv4 (Kp.same s59), fo, (by decide), fun HA sA => ⟨(szF f : Int), rfl, true, rfl, iteF ?_⟩⟩
    have s5A := s59.trans sA
    have hlhA := s5A _ _ hlh4
    have hlpA := s5A _ _ hlp4
    have n2 : vs.length = (prtF f).length := Paired.length fm2
    refine ⟨_, rfl, .inl ⟨rfl, _, SqL.of hlhA⟩, _, rfl, lh, _, _, rfl, rfl, hlhA, sl_lt (by omega), ?_⟩
    have tB : Kp HA (upd HA lh (.lst (vs ++ [v]))) := Kp.lst hlhA KeepX.upd
    have hlpB : upd HA lh (.lst (vs ++ [v])) lp = some (.lst us) := (upd_ne nph).trans hlpA
    have penB : PenD K S (upd HA lh (.lst (vs ++ [v]))) p (c + 40 * us.length) := hpen.put (Same.back0 s1 nlh) (pen4.same s5A)
    have keepB : KeepX p H (upd HA lh (.lst (vs ++ [v]))) := fun b o hb e => by
      rw [upd_ne (ne_of_none (s1 _ _ e) nlh)]; exact s5A _ _ (keep4 b o hb e)
    have hvB := FmAt.kp hv4 ((Kp.same s5A).trans tB)
    have fmB := FmsAt.kp fm14 ((Kp.same s5A).trans tB)
    generalize upd HA lh (.lst (vs ++ [v])) = HB at *
    refine ⟨_, rfl, v, f, pr, 8, rfl, hvB, fo, fun l3 vs3 HC _ hl3 fm3 sC => ?_⟩
    obtain ⟨al7, al8⟩ := lst_alike hpp fm3 (FmsAt.kp fmB (Kp.same sC))
    refine ⟨_, rfl, l3, lp, _, _, 16, rfl, rfl, SqL.of hl3, SqL.of (sC _ _ hlpB), al7, (by decide), al8, true, rfl, iteT ?_⟩
    refine ⟨_, rfl, v, f, pr, 8, rfl, FmAt.kp hvB (Kp.same sC), fo, (by decide), fun HE sE => ?_⟩
    have sCE := sC.trans sE
    refine ⟨_, rfl, v, f, pr, rfl, FmAt.kp hvB (Kp.same sCE), fo, (by decide), fun HF sF => ⟨(dpF f : Int), rfl, ?_⟩⟩
    exact k _ (((penB.same sCE).same sF).mono (by omega)) (keepB.trans (Same.keep (sCE.trans sF)))
theorem sclaw : FnScope ["_law_script", "_law_pen_here", "_law_waiting", "_law_formula_here"] ["_law_script"] (defScope s_law) := ⟨rfl, rfl, rfl, by decide +kernel, rfl, by decide +kernel, by decide +kernel⟩
theorem ok_law (T : Txt w K mg t) : FnOk P w K mg base CX0 66 t.f_law t.d_law ["_law_script"] (spLaw K) := by
  have D := T.c_law
  refine D.fn.ok sclaw (fun vs H Q E h => ?_) (fun cdv A outer s H vs Q E hr h => ?_)
  · obtain ⟨a, ns, rfl, _⟩ := h
    rfl
  · obtain ⟨a, ns, rfl, hS, hlen, k⟩ := h
    have hu := hr.units0
    have hu1 := hu_of hr
    refine ⟨_, ((pss_cons (ps_set (i := 1) sclaw.nd rfl (Or.inl rfl) (pe_cl T.c__law_pen (ok__law_pen T) (hr.mono (by omega)) (pa_consN (pv 0) pa_nil)))
      (pss_cons (ps_set (i := 2) sclaw.nd rfl (Or.inl rfl) (pe_lst (pa_consC (pe_cl T.c__law_formula (ok__law_formula T) (hr.mono (by omega)) (pa_consN (pv 1) (pa_consK pe_int pa_nil))) (pa_consC (pe_cl T.c__law_formula (ok__law_formula T) (hr.mono (by omega)) (pa_consN (pv 1) (pa_consK pe_int pa_nil))) pa_nil))))
      (pss_cons (ps_while PassesOwn.never (pt_cmpR (op_neE hu) (pv 2) (pe_lst pa_nil) (nomark _)) (pss_cons (ps_set (i := 3) sclaw.nd rfl (Or.inl rfl) (pe_bm0 PySem.F.plainAttrs_list PySem.F.slot_list_pop PySem.F.type_list_pop mt_pop (pv 2)))
      (pss_cons (ps_if (pt_not (pt_val (pe_cl T.c__law_right (ok__law_right T) (hr.mono (by omega)) (pa_consN (pv 1) (pa_consN (pv 3) pa_nil))))) (pss_one (ps_ret pe_bl)) pss_nil)
      (pss_one (ps_set (i := 2) sclaw.nd rfl (Or.inl rfl) (pe_op op_cat (pv 2) (pe_cl T.c__law_parts (ok__law_parts T) (hr.mono (by omega)) (pa_consN (pv 3) pa_nil))))))))
      (pss_one (ps_ret pe_bl)))))), ?_⟩
    refine ⟨_, rfl, a, ns, rfl, hS, hlen, fun p H1 np pen1 s1 => ?_⟩
    refine ⟨_, rfl, p, 3, _, _, rfl, (by decide), pen1, (by decide), fun v1 f1 H2 hv1 fo1 pen2 kp2 => ?_⟩
    refine ⟨_, rfl, p, 1, _, _, rfl, (by decide), pen2, (by omega), fun v2 f2 H3 hv2 fo2 pen3 kp3 => ?_⟩
    refine ⟨two_le, fun l0 hl0 => ?_⟩
    have t3 := Kp.pen pen2 kp3
    have s5 := Same.new (o := .lst [v1, v2]) hl0
    have t5 := Kp.same s5
    have back : ∀ (b : Addr) {H' : Hp} {n : Nat}, PenD K (a, ns) H' p n → KeepX p H1 H' → H' b = none → H1 b = none := fun b H' n pen kp hb => by
      cases e : H1 b with
      | none => rfl
      | some o =>
        have nb : b ≠ p := pen.ne hb
        rw [kp b o nb e] at hb; cases hb
    have z1 := fo1.sz8
    have z2 := fo2.sz8
    refine ⟨fun m σ H5 => ∃ (l : Addr) (vs : List V) (fs : List Fm) (x3 : Option V), σ = [some (.ref a), some (.ref p), some (.ref l), x3] ∧ H5 l = some (.lst vs) ∧ FmsAt H5 vs fs ∧ (∀ f ∈ fs, Good f) ∧ szs fs = m ∧ m ≤ 6560 ∧ PenD K (a, ns) H5 p (5000 + 120 * (6560 - m)) ∧ H1 l = none ∧ KeepX p H1 H5,
      ⟨_, l0, _, [f1, f2], none, rfl, upd_same, .cons (FmAt.kp hv1 (t3.trans t5)) (.cons (FmAt.kp hv2 t5) .nil), ?_, rfl, ?_, (pen3.same s5).mono (by omega), back l0 pen3 (kp2.trans kp3) hl0, (kp2.trans kp3).trans (Same.keep s5)⟩, ?_⟩
    · intro f hf
      rcases List.mem_cons.mp hf with e | hf
      · exact ⟨3, by decide, e ▸ fo1⟩
      rcases List.mem_cons.mp hf with e | hf
      · exact ⟨1, by decide, e ▸ fo2⟩
      · cases hf
    · rw [szs, szs, szs]; omega
    rintro m σ H5 ⟨l, vs, fs, x3, rfl, hl5, fm5, good, hm, h98, pen5, nl1, kp5⟩
    refine ⟨_, rfl, Nat.zero_le _, fun e he => ?_⟩
    have s6 := Same.new (o := .lst []) he
    refine ⟨l, e, vs, rfl, rfl, SqL.of (s6 _ _ hl5), SqL.of upd_same, _, rfl, ?_⟩
    have hl6 := s6 _ _ hl5
    have fm6 := FmsAt.kp fm5 (Kp.same s6)
    have pen6 := pen5.same s6
    have kp6 : KeepX p H1 _ := kp5.trans (Same.keep s6)
    generalize upd H5 e (.lst []) = H6 at *
    rcases List.eq_nil_or_concat vs with rfl | ⟨vs', y, hvs⟩
    · exact iteF (k _)
    have hvs : vs = vs' ++ [y] := by rw [hvs, List.concat_eq_append]
    subst hvs
    obtain ⟨fs', f, rfl, fm', hf⟩ := psplit fm6
    obtain ⟨pr, hp, fo⟩ := good f (by simp)
    have hsz : szs fs' + (1 + szs (prtF f)) = m := by
      rw [← hm, szs_app, szs, szs, szF_prt f]; omega
    have hne : (!(vs' ++ [y]).isEmpty) = true := by cases vs' <;> rfl
    rw [hne]
    refine iteT ⟨fun σ' H' => ∃ m', m' < m ∧ ∃ (l : Addr) (vs : List V) (fs : List Fm) (x3 : Option V), σ' = [some (.ref a), some (.ref p), some (.ref l), x3] ∧ H' l = some (.lst vs) ∧ FmsAt H' vs fs ∧ (∀ f ∈ fs, Good f) ∧ szs fs = m' ∧ m' ≤ 6560 ∧ PenD K (a, ns) H' p (5000 + 120 * (6560 - m')) ∧ H1 l = none ∧ KeepX p H1 H', fun _ _ z => z, ?_⟩
    refine ⟨_, rfl, .inl ⟨rfl, _, SqL.of hl6⟩, l, _, y, rfl, rfl, hl6, (by simp), ?_⟩
    rw [List.dropLast_concat]
    have nlp : l ≠ p := fun z => by
      obtain ⟨kvs, e⟩ := pen6.ob
      rw [← z, hl6] at e; cases e
    have t7 : Kp H6 (upd H6 l (.lst vs')) := Kp.lst hl6 KeepX.upd
    have hl7 : upd H6 l (.lst vs') l = some (.lst vs') := upd_same
    have fm7 := FmsAt.kp fm' t7
    have hf7 := FmAt.kp hf t7
    have pen7 : PenD K (a, ns) (upd H6 l (.lst vs')) p (5000 + 120 * (6560 - m)) := pen1.put nl1 pen6
    have kp7 : KeepX p H1 (upd H6 l (.lst vs')) := fun b o hb e => by rw [upd_ne (ne_of_none e nl1)]; exact kp6 b o hb e
    generalize upd H6 l (.lst vs') = H7 at *
    refine ⟨_, rfl, _, rfl, p, y, f, pr, _, _, rfl, hf7, fo, pen7, (by omega), fun H8 pen8 kp8 => ⟨true, rfl, iteF ?_⟩⟩
    have t8 := Kp.pen pen7 kp8
    have hf8 := FmAt.kp hf7 t8
    have hl8 := kp8 _ _ nlp hl7
    refine ⟨_, rfl, _, rfl, y, f, pr, 8, rfl, hf8, fo, fun lp ws HA hlp0 hlp fmp sA => ?_⟩
    have n1 : vs'.length = fs'.length := Paired.length fm7
    have n2 : ws.length = (prtF f).length := Paired.length fmp
    have n3 := szs_len fs'
    have n4 := szs_len (prtF f)
    refine ⟨l, lp, vs', ws, rfl, rfl, sA _ _ hl8, hlp, slm (by omega), fun d hd => ?_⟩
    have sB := Same.new (o := .lst (vs' ++ ws)) hd
    refine ⟨szs fs' + szs (prtF f), (by omega), d, vs' ++ ws, fs' ++ prtF f, _, rfl, upd_same, papp (FmsAt.kp fm7 (t8.trans (Kp.same (sA.trans sB)))) (FmsAt.kp fmp (Kp.same sB)), fun g hg => ?_, szs_app _ _, (by omega), ((pen8.same sA).same sB).mono (by omega), back d (pen8.same sA) ((kp7.trans kp8).trans (Same.keep sA)) hd, ((kp7.trans kp8).trans (Same.keep sA)).trans (Same.keep sB)⟩
    rcases List.mem_append.mp hg with q | q
    · exact good g (List.mem_append.mpr (.inl q))
    · exact ⟨pr, hp, fo.prt g q⟩
end
theorem all_mk {l : PySem.W.OpenLaw} {w : World} {K : PySem.W.Frag} {h : Heap} {mg : Str → Option Value} {fa : Addr} (X : K.In h) (G : h.Ns mainGlobals mg) (hfa : mg "law" = some (.ref fa))
    {w_PART_PLACES : Addr} {o_PART_PLACES : Obj} {f0 f1 f2 f3 f4 f5 f6 f7 f8 f9 f10 f11 f12 f13 f14 f15 f16 f17 f18 f19 f20 f21 f22 f23 f24 f25 f26 f27 f28 f29 f30 : Addr} {od0 an0 od1 an1 od2 an2 od3 an3 od4 an4 od5 an5 od6 an6 od7 an7 od8 an8 od9 an9 od10 an10 od11 an11 od12 an12 od13 an13 od14 an14 od15 an15 od16 an16 od17 an17 od18 an18 od19 an19 od20 an20 od21 an21 od22 an22 od23 an23 od24 an24 od25 an25 od26 an26 od27 an27 od28 an28 od29 an29 od30 an30 : Option Addr} {sl0 sl1 sl2 sl3 sl4 sl5 sl6 sl7 sl8 sl9 sl10 sl11 sl12 sl13 sl14 sl15 sl16 sl17 sl18 sl19 sl20 sl21 sl22 sl23 sl24 sl25 sl26 sl27 sl28 sl29 sl30 : Array (Option Value)} {oc0 kV0 dc0 pm0 cd0 ct0 oc1 kV1 dc1 pm1 cd1 ct1 oc2 kV2 dc2 pm2 cd2 ct2 oc3 kV3 dc3 pm3 cd3 ct3 oc4 kV4 dc4 pm4 cd4 ct4 oc5 kV5 dc5 pm5 cd5 ct5 oc6 kV6 dc6 pm6 cd6 ct6 oc7 kV7 dc7 pm7 cd7 ct7 oc8 kV8 dc8 pm8 cd8 ct8 oc9 kV9 dc9 pm9 cd9 ct9 oc10 kV10 dc10 pm10 cd10 ct10 oc11 kV11 dc11 pm11 cd11 ct11 oc12 kV12 dc12 pm12 cd12 ct12 oc13 kV13 dc13 pm13 cd13 ct13 oc14 kV14 dc14 pm14 cd14 ct14 oc15 kV15 dc15 pm15 cd15 ct15 oc16 kV16 dc16 pm16 cd16 ct16 oc17 kV17 dc17 pm17 cd17 ct17 oc18 kV18 dc18 pm18 cd18 ct18 oc19 kV19 dc19 pm19 cd19 ct19 oc20 kV20 dc20 pm20 cd20 ct20 oc21 kV21 dc21 pm21 cd21 ct21 oc22 kV22 dc22 pm22 cd22 ct22 oc23 kV23 dc23 pm23 cd23 ct23 oc24 kV24 dc24 pm24 cd24 ct24 oc25 kV25 dc25 pm25 cd25 ct25 oc26 kV26 dc26 pm26 cd26 ct26 oc27 kV27 dc27 pm27 cd27 ct27 oc28 kV28 dc28 pm28 cd28 ct28 oc29 kV29 dc29 pm29 cd29 ct29 oc30 kV30 dc30 pm30 cd30 ct30 : Value}
    (a0 : PySem.W.nsIn K mainGlobals "_law_pen" = some (some (.ref f0))) (l0 : K.lookup f0 = some ⟨oc0, od0, .func (PySem.W.fnOf "_law_pen" "_law_pen" (defArgs s__law_pen) (defBody s__law_pen) (defScope s__law_pen) .none kV0 dc0 pm0 an0 cd0 ct0), sl0⟩) (c0 : PySem.W.codeIn K cd0 "_law_pen" = true) (k0 : PySem.W.keepIn K (.ref f0) = true)
    (a1 : PySem.W.nsIn K mainGlobals "_law_take" = some (some (.ref f1))) (l1 : K.lookup f1 = some ⟨oc1, od1, .func (PySem.W.fnOf "_law_take" "_law_take" (defArgs s__law_take) (defBody s__law_take) (defScope s__law_take) .none kV1 dc1 pm1 an1 cd1 ct1), sl1⟩) (c1 : PySem.W.codeIn K cd1 "_law_take" = true) (k1 : PySem.W.keepIn K (.ref f1) = true)
    (a2 : PySem.W.nsIn K mainGlobals "_law_letters" = some (some (.ref f2))) (l2 : K.lookup f2 = some ⟨oc2, od2, .func (PySem.W.fnOf "_law_letters" "_law_letters" (defArgs s__law_letters) (defBody s__law_letters) (defScope s__law_letters) .none kV2 dc2 pm2 an2 cd2 ct2), sl2⟩) (c2 : PySem.W.codeIn K cd2 "_law_letters" = true) (k2 : PySem.W.keepIn K (.ref f2) = true)
    (a3 : PySem.W.nsIn K mainGlobals "_law_sheet" = some (some (.ref f3))) (l3 : K.lookup f3 = some ⟨oc3, od3, .func (PySem.W.fnOf "_law_sheet" "_law_sheet" (defArgs s__law_sheet) (defBody s__law_sheet) (defScope s__law_sheet) .none kV3 dc3 pm3 an3 cd3 ct3), sl3⟩) (c3 : PySem.W.codeIn K cd3 "_law_sheet" = true) (k3 : PySem.W.keepIn K (.ref f3) = true)
    (a4 : PySem.W.nsIn K mainGlobals "_law_corner" = some (some (.ref f4))) (l4 : K.lookup f4 = some ⟨oc4, od4, .func (PySem.W.fnOf "_law_corner" "_law_corner" (defArgs s__law_corner) (defBody s__law_corner) (defScope s__law_corner) .none kV4 dc4 pm4 an4 cd4 ct4), sl4⟩) (c4 : PySem.W.codeIn K cd4 "_law_corner" = true) (k4 : PySem.W.keepIn K (.ref f4) = true)
    (a5 : PySem.W.nsIn K mainGlobals "_law_reference" = some (some (.ref f5))) (l5 : K.lookup f5 = some ⟨oc5, od5, .func (PySem.W.fnOf "_law_reference" "_law_reference" (defArgs s__law_reference) (defBody s__law_reference) (defScope s__law_reference) .none kV5 dc5 pm5 an5 cd5 ct5), sl5⟩) (c5 : PySem.W.codeIn K cd5 "_law_reference" = true) (k5 : PySem.W.keepIn K (.ref f5) = true)
    (a6 : PySem.W.nsIn K mainGlobals "_law_value" = some (some (.ref f6))) (l6 : K.lookup f6 = some ⟨oc6, od6, .func (PySem.W.fnOf "_law_value" "_law_value" (defArgs s__law_value) (defBody s__law_value) (defScope s__law_value) .none kV6 dc6 pm6 an6 cd6 ct6), sl6⟩) (c6 : PySem.W.codeIn K cd6 "_law_value" = true) (k6 : PySem.W.keepIn K (.ref f6) = true)
    (a7 : PySem.W.nsIn K mainGlobals "_law_leaf" = some (some (.ref f7))) (l7 : K.lookup f7 = some ⟨oc7, od7, .func (PySem.W.fnOf "_law_leaf" "_law_leaf" (defArgs s__law_leaf) (defBody s__law_leaf) (defScope s__law_leaf) .none kV7 dc7 pm7 an7 cd7 ct7), sl7⟩) (c7 : PySem.W.codeIn K cd7 "_law_leaf" = true) (k7 : PySem.W.keepIn K (.ref f7) = true)
    (a8 : PySem.W.nsIn K mainGlobals "_law_frame" = some (some (.ref f8))) (l8 : K.lookup f8 = some ⟨oc8, od8, .func (PySem.W.fnOf "_law_frame" "_law_frame" (defArgs s__law_frame) (defBody s__law_frame) (defScope s__law_frame) .none kV8 dc8 pm8 an8 cd8 ct8), sl8⟩) (c8 : PySem.W.codeIn K cd8 "_law_frame" = true) (k8 : PySem.W.keepIn K (.ref f8) = true)
    (a9 : PySem.W.nsIn K mainGlobals "_law_made" = some (some (.ref f9))) (l9 : K.lookup f9 = some ⟨oc9, od9, .func (PySem.W.fnOf "_law_made" "_law_made" (defArgs s__law_made) (defBody s__law_made) (defScope s__law_made) .none kV9 dc9 pm9 an9 cd9 ct9), sl9⟩) (c9 : PySem.W.codeIn K cd9 "_law_made" = true) (k9 : PySem.W.keepIn K (.ref f9) = true)
    (a10 : PySem.W.nsIn K mainGlobals "_law_grown" = some (some (.ref f10))) (l10 : K.lookup f10 = some ⟨oc10, od10, .func (PySem.W.fnOf "_law_grown" "_law_grown" (defArgs s__law_grown) (defBody s__law_grown) (defScope s__law_grown) .none kV10 dc10 pm10 an10 cd10 ct10), sl10⟩) (c10 : PySem.W.codeIn K cd10 "_law_grown" = true) (k10 : PySem.W.keepIn K (.ref f10) = true)
    (a11 : PySem.W.nsIn K mainGlobals "_law_column" = some (some (.ref f11))) (l11 : K.lookup f11 = some ⟨oc11, od11, .func (PySem.W.fnOf "_law_column" "_law_column" (defArgs s__law_column) (defBody s__law_column) (defScope s__law_column) .none kV11 dc11 pm11 an11 cd11 ct11), sl11⟩) (c11 : PySem.W.codeIn K cd11 "_law_column" = true) (k11 : PySem.W.keepIn K (.ref f11) = true)
    (a12 : PySem.W.nsIn K mainGlobals "_law_corner_text" = some (some (.ref f12))) (l12 : K.lookup f12 = some ⟨oc12, od12, .func (PySem.W.fnOf "_law_corner_text" "_law_corner_text" (defArgs s__law_corner_text) (defBody s__law_corner_text) (defScope s__law_corner_text) .none kV12 dc12 pm12 an12 cd12 ct12), sl12⟩) (c12 : PySem.W.codeIn K cd12 "_law_corner_text" = true) (k12 : PySem.W.keepIn K (.ref f12) = true)
    (a13 : PySem.W.nsIn K mainGlobals "_law_leaf_text" = some (some (.ref f13))) (l13 : K.lookup f13 = some ⟨oc13, od13, .func (PySem.W.fnOf "_law_leaf_text" "_law_leaf_text" (defArgs s__law_leaf_text) (defBody s__law_leaf_text) (defScope s__law_leaf_text) .none kV13 dc13 pm13 an13 cd13 ct13), sl13⟩) (c13 : PySem.W.codeIn K cd13 "_law_leaf_text" = true) (k13 : PySem.W.keepIn K (.ref f13) = true)
    (a14 : PySem.W.nsIn K mainGlobals "_law_parts" = some (some (.ref f14))) (l14 : K.lookup f14 = some ⟨oc14, od14, .func (PySem.W.fnOf "_law_parts" "_law_parts" (defArgs s__law_parts) (defBody s__law_parts) (defScope s__law_parts) .none kV14 dc14 pm14 an14 cd14 ct14), sl14⟩) (c14 : PySem.W.codeIn K cd14 "_law_parts" = true) (k14 : PySem.W.keepIn K (.ref f14) = true)
    (a15 : PySem.W.nsIn K mainGlobals "_law_tight" = some (some (.ref f15))) (l15 : K.lookup f15 = some ⟨oc15, od15, .func (PySem.W.fnOf "_law_tight" "_law_tight" (defArgs s__law_tight) (defBody s__law_tight) (defScope s__law_tight) .none kV15 dc15 pm15 an15 cd15 ct15), sl15⟩) (c15 : PySem.W.codeIn K cd15 "_law_tight" = true) (k15 : PySem.W.keepIn K (.ref f15) = true)
    (a16 : PySem.W.nsIn K mainGlobals "_law_placed" = some (some (.ref f16))) (l16 : K.lookup f16 = some ⟨oc16, od16, .func (PySem.W.fnOf "_law_placed" "_law_placed" (defArgs s__law_placed) (defBody s__law_placed) (defScope s__law_placed) .none kV16 dc16 pm16 an16 cd16 ct16), sl16⟩) (c16 : PySem.W.codeIn K cd16 "_law_placed" = true) (k16 : PySem.W.keepIn K (.ref f16) = true)
    (a17 : PySem.W.nsIn K mainGlobals "_law_bare" = some (some (.ref f17))) (l17 : K.lookup f17 = some ⟨oc17, od17, .func (PySem.W.fnOf "_law_bare" "_law_bare" (defArgs s__law_bare) (defBody s__law_bare) (defScope s__law_bare) .none kV17 dc17 pm17 an17 cd17 ct17), sl17⟩) (c17 : PySem.W.codeIn K cd17 "_law_bare" = true) (k17 : PySem.W.keepIn K (.ref f17) = true)
    (a18 : PySem.W.nsIn K mainGlobals "_law_written" = some (some (.ref f18))) (l18 : K.lookup f18 = some ⟨oc18, od18, .func (PySem.W.fnOf "_law_written" "_law_written" (defArgs s__law_written) (defBody s__law_written) (defScope s__law_written) .none kV18 dc18 pm18 an18 cd18 ct18), sl18⟩) (c18 : PySem.W.codeIn K cd18 "_law_written" = true) (k18 : PySem.W.keepIn K (.ref f18) = true)
    (a19 : PySem.W.nsIn K mainGlobals "_law_formula" = some (some (.ref f19))) (l19 : K.lookup f19 = some ⟨oc19, od19, .func (PySem.W.fnOf "_law_formula" "_law_formula" (defArgs s__law_formula) (defBody s__law_formula) (defScope s__law_formula) .none kV19 dc19 pm19 an19 cd19 ct19), sl19⟩) (c19 : PySem.W.codeIn K cd19 "_law_formula" = true) (k19 : PySem.W.keepIn K (.ref f19) = true)
    (a20 : PySem.W.nsIn K mainGlobals "parts_of" = some (some (.ref f20))) (l20 : K.lookup f20 = some ⟨oc20, od20, .func (PySem.W.fnOf "parts_of" "parts_of" (defArgs s_parts_of) (defBody s_parts_of) (defScope s_parts_of) .none kV20 dc20 pm20 an20 cd20 ct20), sl20⟩) (c20 : PySem.W.codeIn K cd20 "parts_of" = true) (k20 : PySem.W.keepIn K (.ref f20) = true)
    (a21 : PySem.W.nsIn K mainGlobals "with_parts" = some (some (.ref f21))) (l21 : K.lookup f21 = some ⟨oc21, od21, .func (PySem.W.fnOf "with_parts" "with_parts" (defArgs s_with_parts) (defBody s_with_parts) (defScope s_with_parts) .none kV21 dc21 pm21 an21 cd21 ct21), sl21⟩) (c21 : PySem.W.codeIn K cd21 "with_parts" = true) (k21 : PySem.W.keepIn K (.ref f21) = true)
    (a22 : PySem.W.nsIn K mainGlobals "all_parts" = some (some (.ref f22))) (l22 : K.lookup f22 = some ⟨oc22, od22, .func (PySem.W.fnOf "all_parts" "all_parts" (defArgs s_all_parts) (defBody s_all_parts) (defScope s_all_parts) .none kV22 dc22 pm22 an22 cd22 ct22), sl22⟩) (c22 : PySem.W.codeIn K cd22 "all_parts" = true) (k22 : PySem.W.keepIn K (.ref f22) = true)
    (a23 : PySem.W.nsIn K mainGlobals "count_parts" = some (some (.ref f23))) (l23 : K.lookup f23 = some ⟨oc23, od23, .func (PySem.W.fnOf "count_parts" "count_parts" (defArgs s_count_parts) (defBody s_count_parts) (defScope s_count_parts) .none kV23 dc23 pm23 an23 cd23 ct23), sl23⟩) (c23 : PySem.W.codeIn K cd23 "count_parts" = true) (k23 : PySem.W.keepIn K (.ref f23) = true)
    (a24 : PySem.W.nsIn K mainGlobals "deepness" = some (some (.ref f24))) (l24 : K.lookup f24 = some ⟨oc24, od24, .func (PySem.W.fnOf "deepness" "deepness" (defArgs s_deepness) (defBody s_deepness) (defScope s_deepness) .none kV24 dc24 pm24 an24 cd24 ct24), sl24⟩) (c24 : PySem.W.codeIn K cd24 "deepness" = true) (k24 : PySem.W.keepIn K (.ref f24) = true)
    (a25 : PySem.W.nsIn K mainGlobals "_law_whole" = some (some (.ref f25))) (l25 : K.lookup f25 = some ⟨oc25, od25, .func (PySem.W.fnOf "_law_whole" "_law_whole" (defArgs s__law_whole) (defBody s__law_whole) (defScope s__law_whole) .none kV25 dc25 pm25 an25 cd25 ct25), sl25⟩) (c25 : PySem.W.codeIn K cd25 "_law_whole" = true) (k25 : PySem.W.keepIn K (.ref f25) = true)
    (a26 : PySem.W.nsIn K mainGlobals "_law_count" = some (some (.ref f26))) (l26 : K.lookup f26 = some ⟨oc26, od26, .func (PySem.W.fnOf "_law_count" "_law_count" (defArgs s__law_count) (defBody s__law_count) (defScope s__law_count) .none kV26 dc26 pm26 an26 cd26 ct26), sl26⟩) (c26 : PySem.W.codeIn K cd26 "_law_count" = true) (k26 : PySem.W.keepIn K (.ref f26) = true)
    (a27 : PySem.W.nsIn K mainGlobals "_law_deep" = some (some (.ref f27))) (l27 : K.lookup f27 = some ⟨oc27, od27, .func (PySem.W.fnOf "_law_deep" "_law_deep" (defArgs s__law_deep) (defBody s__law_deep) (defScope s__law_deep) .none kV27 dc27 pm27 an27 cd27 ct27), sl27⟩) (c27 : PySem.W.codeIn K cd27 "_law_deep" = true) (k27 : PySem.W.keepIn K (.ref f27) = true)
    (a28 : PySem.W.nsIn K mainGlobals "_law_with" = some (some (.ref f28))) (l28 : K.lookup f28 = some ⟨oc28, od28, .func (PySem.W.fnOf "_law_with" "_law_with" (defArgs s__law_with) (defBody s__law_with) (defScope s__law_with) .none kV28 dc28 pm28 an28 cd28 ct28), sl28⟩) (c28 : PySem.W.codeIn K cd28 "_law_with" = true) (k28 : PySem.W.keepIn K (.ref f28) = true)
    (a29 : PySem.W.nsIn K mainGlobals "_law_right" = some (some (.ref f29))) (l29 : K.lookup f29 = some ⟨oc29, od29, .func (PySem.W.fnOf "_law_right" "_law_right" (defArgs s__law_right) (defBody s__law_right) (defScope s__law_right) .none kV29 dc29 pm29 an29 cd29 ct29), sl29⟩) (c29 : PySem.W.codeIn K cd29 "_law_right" = true) (k29 : PySem.W.keepIn K (.ref f29) = true)
    (a30 : PySem.W.nsIn K mainGlobals "law" = some (some (.ref f30))) (l30 : K.lookup f30 = some ⟨oc30, od30, .func (PySem.W.fnOf "law" "law" (defArgs s_law) (defBody s_law) (defScope s_law) .none kV30 dc30 pm30 an30 cd30 ct30), sl30⟩) (c30 : PySem.W.codeIn K cd30 "law" = true) (k30 : PySem.W.keepIn K (.ref f30) = true)
    (z_len : PySem.W.nsIn K mainGlobals "len" = some none)
    (z_range : PySem.W.nsIn K mainGlobals "range" = some none)
    (z_isinstance : PySem.W.nsIn K mainGlobals "isinstance" = some none)
    (z_int : PySem.W.nsIn K mainGlobals "int" = some none)
    (z_bool : PySem.W.nsIn K mainGlobals "bool" = some none)
    (z_tuple : PySem.W.nsIn K mainGlobals "tuple" = some none)
    (z_str : PySem.W.nsIn K mainGlobals "str" = some none)
    (z_list : PySem.W.nsIn K mainGlobals "list" = some none)
    (z_zip : PySem.W.nsIn K mainGlobals "zip" = some none)
    (z_max : PySem.W.nsIn K mainGlobals "max" = some none)
    (z_sum : PySem.W.nsIn K mainGlobals "sum" = some none)
    (z_reversed : PySem.W.nsIn K mainGlobals "reversed" = some none)
    (g_PART_PLACES : PySem.W.nsIn K mainGlobals "PART_PLACES" = some (some (.ref w_PART_PLACES)))
    (h_PART_PLACES : K.lookup w_PART_PLACES = some o_PART_PLACES)
    (r_PART_PLACES : ∃ kvs, DicO w o_PART_PLACES kvs ∧ Paired (fun (kv : Key × V) (kt : Key × List V) => kv.1 = kt.1 ∧ ∃ a, kv.2 = .ref a ∧ ∀ H, SqT K H a kt.2) kvs PPK)
    (n_PART_PLACES : (w_PART_PLACES == sysModules) = false)
    (kist : PySem.W.kitOne K (.type "str") (.type "tuple") = some false)
    (kiit : PySem.W.kitOne K (.type "int") (.type "tuple") = some false)
    (kib : PySem.W.kitOne K (.type "int") (.type "bool") = some false)  :
    ∃ fd : FuncData, (∀ (s : Shared) (v : Value), BindsTo s fd ⟨[v], []⟩ [("_law_script", v)]) ∧ ∀ base : Heap, K.In base → base.Ns mainGlobals mg → FnOk l.prog w K mg base CX0 66 fa fd ["_law_script"] (spLaw K) := by
  have e := hfa.symm.trans (PySem.W.mg_of X G a30)
  cases e
  have F0 := fun_mk (st := s__law_pen) l0 c0 k0
  have b0 := F0.binds (ps := ["_law_script"]) fun _ _ _ _ _ _ us hl => by obtain ⟨_, rfl⟩ := len_1 hl; rfl
  have F1 := fun_mk (st := s__law_take) l1 c1 k1
  have b1 := F1.binds (ps := ["_law_pen_here", "_law_amount"]) fun _ _ _ _ _ _ us hl => by obtain ⟨_, _, rfl⟩ := len_2 hl; rfl
  have F2 := fun_mk (st := s__law_letters) l2 c2 k2
  have b2 := F2.binds (ps := ["_law_pen_here", "_law_free"]) fun _ _ _ _ _ _ us hl => by obtain ⟨_, _, rfl⟩ := len_2 hl; rfl
  have F3 := fun_mk (st := s__law_sheet) l3 c3 k3
  have b3 := F3.binds (ps := ["_law_pen_here"]) fun _ _ _ _ _ _ us hl => by obtain ⟨_, rfl⟩ := len_1 hl; rfl
  have F4 := fun_mk (st := s__law_corner) l4 c4 k4
  have b4 := F4.binds (ps := ["_law_pen_here", "_law_row", "_law_column_here"]) fun _ _ _ _ _ _ us hl => by obtain ⟨_, _, _, rfl⟩ := len_3 hl; rfl
  have F5 := fun_mk (st := s__law_reference) l5 c5 k5
  have b5 := F5.binds (ps := ["_law_pen_here", "_law_way"]) fun _ _ _ _ _ _ us hl => by obtain ⟨_, _, rfl⟩ := len_2 hl; rfl
  have F6 := fun_mk (st := s__law_value) l6 c6 k6
  have b6 := F6.binds (ps := ["_law_pen_here", "_law_way"]) fun _ _ _ _ _ _ us hl => by obtain ⟨_, _, rfl⟩ := len_2 hl; rfl
  have F7 := fun_mk (st := s__law_leaf) l7 c7 k7
  have b7 := F7.binds (ps := ["_law_pen_here", "_law_params"]) fun _ _ _ _ _ _ us hl => by obtain ⟨_, _, rfl⟩ := len_2 hl; rfl
  have F8 := fun_mk (st := s__law_frame) l8 c8 k8
  have b8 := F8.binds (ps := ["_law_pen_here"]) fun _ _ _ _ _ _ us hl => by obtain ⟨_, rfl⟩ := len_1 hl; rfl
  have F9 := fun_mk (st := s__law_made) l9 c9 k9
  have b9 := F9.binds (ps := ["_law_frame_here", "_law_parts_here"]) fun _ _ _ _ _ _ us hl => by obtain ⟨_, _, rfl⟩ := len_2 hl; rfl
  have F10 := fun_mk (st := s__law_grown) l10 c10 k10
  have b10 := F10.binds (ps := ["_law_pen_here", "_law_room", "_law_deep_here", "_law_params"]) fun _ _ _ _ _ _ us hl => by obtain ⟨_, _, _, _, rfl⟩ := len_4 hl; rfl
  have F11 := fun_mk (st := s__law_column) l11 c11 k11
  have b11 := F11.binds (ps := ["_law_column_here", "_law_stands"]) fun _ _ _ _ _ _ us hl => by obtain ⟨_, _, rfl⟩ := len_2 hl; rfl
  have F12 := fun_mk (st := s__law_corner_text) l12 c12 k12
  have b12 := F12.binds (ps := ["_law_corner_here"]) fun _ _ _ _ _ _ us hl => by obtain ⟨_, rfl⟩ := len_1 hl; rfl
  have F13 := fun_mk (st := s__law_leaf_text) l13 c13 k13
  have b13 := F13.binds (ps := ["_law_formula_here"]) fun _ _ _ _ _ _ us hl => by obtain ⟨_, rfl⟩ := len_1 hl; rfl
  have F14 := fun_mk (st := s__law_parts) l14 c14 k14
  have b14 := F14.binds (ps := ["_law_formula_here"]) fun _ _ _ _ _ _ us hl => by obtain ⟨_, rfl⟩ := len_1 hl; rfl
  have F15 := fun_mk (st := s__law_tight) l15 c15 k15
  have b15 := F15.binds (ps := ["_law_formula_here"]) fun _ _ _ _ _ _ us hl => by obtain ⟨_, rfl⟩ := len_1 hl; rfl
  have F16 := fun_mk (st := s__law_placed) l16 c16 k16
  have b16 := F16.binds (ps := ["_law_formula_here", "_law_least", "_law_pen_here"]) fun _ _ _ _ _ _ us hl => by obtain ⟨_, _, _, rfl⟩ := len_3 hl; rfl
  have F17 := fun_mk (st := s__law_bare) l17 c17 k17
  have b17 := F17.binds (ps := ["_law_formula_here", "_law_pen_here"]) fun _ _ _ _ _ _ us hl => by obtain ⟨_, _, rfl⟩ := len_2 hl; rfl
  have F18 := fun_mk (st := s__law_written) l18 c18 k18
  have b18 := F18.binds (ps := ["_law_formula_here", "_law_pen_here"]) fun _ _ _ _ _ _ us hl => by obtain ⟨_, _, rfl⟩ := len_2 hl; rfl
  have F19 := fun_mk (st := s__law_formula) l19 c19 k19
  have b19 := F19.binds (ps := ["_law_pen_here", "_law_params"]) fun _ _ _ _ _ _ us hl => by obtain ⟨_, _, rfl⟩ := len_2 hl; rfl
  have F20 := fun_mk (st := s_parts_of) l20 c20 k20
  have b20 := F20.binds (ps := ["formula"]) fun _ _ _ _ _ _ us hl => by obtain ⟨_, rfl⟩ := len_1 hl; rfl
  have F21 := fun_mk (st := s_with_parts) l21 c21 k21
  have b21 := F21.binds (ps := ["formula", "parts"]) fun _ _ _ _ _ _ us hl => by obtain ⟨_, _, rfl⟩ := len_2 hl; rfl
  have F22 := fun_mk (st := s_all_parts) l22 c22 k22
  have b22 := F22.binds (ps := ["formula"]) fun _ _ _ _ _ _ us hl => by obtain ⟨_, rfl⟩ := len_1 hl; rfl
  have F23 := fun_mk (st := s_count_parts) l23 c23 k23
  have b23 := F23.binds (ps := ["formula"]) fun _ _ _ _ _ _ us hl => by obtain ⟨_, rfl⟩ := len_1 hl; rfl
  have F24 := fun_mk (st := s_deepness) l24 c24 k24
  have b24 := F24.binds (ps := ["formula"]) fun _ _ _ _ _ _ us hl => by obtain ⟨_, rfl⟩ := len_1 hl; rfl
  have F25 := fun_mk (st := s__law_whole) l25 c25 k25
  have b25 := F25.binds (ps := ["_law_thing", "_law_due"]) fun _ _ _ _ _ _ us hl => by obtain ⟨_, _, rfl⟩ := len_2 hl; rfl
  have F26 := fun_mk (st := s__law_count) l26 c26 k26
  have b26 := F26.binds (ps := ["_law_formula_here"]) fun _ _ _ _ _ _ us hl => by obtain ⟨_, rfl⟩ := len_1 hl; rfl
  have F27 := fun_mk (st := s__law_deep) l27 c27 k27
  have b27 := F27.binds (ps := ["_law_formula_here"]) fun _ _ _ _ _ _ us hl => by obtain ⟨_, rfl⟩ := len_1 hl; rfl
  have F28 := fun_mk (st := s__law_with) l28 c28 k28
  have b28 := F28.binds (ps := ["_law_formula_here", "_law_parts_here"]) fun _ _ _ _ _ _ us hl => by obtain ⟨_, _, rfl⟩ := len_2 hl; rfl
  have F29 := fun_mk (st := s__law_right) l29 c29 k29
  have b29 := F29.binds (ps := ["_law_pen_here", "_law_formula_here"]) fun _ _ _ _ _ _ us hl => by obtain ⟨_, _, rfl⟩ := len_2 hl; rfl
  have F30 := fun_mk (st := s_law) l30 c30 k30
  have b30 := F30.binds (ps := ["_law_script"]) fun _ _ _ _ _ _ us hl => by obtain ⟨_, rfl⟩ := len_1 hl; rfl
  have T : Txt w K mg ⟨f0, _, f1, _, f2, _, f3, _, f4, _, f5, _, f6, _, f7, _, f8, _, f9, _, f10, _, f11, _, f12, _, f13, _, f14, _, f15, _, f16, _, f17, _, f18, _, f19, _, f20, _, f21, _, f22, _, f23, _, f24, _, f25, _, f26, _, f27, _, f28, _, f29, _, _, _⟩ := ⟨⟨F0, PySem.W.mg_of X G a0, b0⟩, ⟨F1, PySem.W.mg_of X G a1, b1⟩, ⟨F2, PySem.W.mg_of X G a2, b2⟩, ⟨F3, PySem.W.mg_of X G a3, b3⟩, ⟨F4, PySem.W.mg_of X G a4, b4⟩, ⟨F5, PySem.W.mg_of X G a5, b5⟩, ⟨F6, PySem.W.mg_of X G a6, b6⟩, ⟨F7, PySem.W.mg_of X G a7, b7⟩, ⟨F8, PySem.W.mg_of X G a8, b8⟩, ⟨F9, PySem.W.mg_of X G a9, b9⟩, ⟨F10, PySem.W.mg_of X G a10, b10⟩, ⟨F11, PySem.W.mg_of X G a11, b11⟩, ⟨F12, PySem.W.mg_of X G a12, b12⟩, ⟨F13, PySem.W.mg_of X G a13, b13⟩, ⟨F14, PySem.W.mg_of X G a14, b14⟩, ⟨F15, PySem.W.mg_of X G a15, b15⟩, ⟨F16, PySem.W.mg_of X G a16, b16⟩, ⟨F17, PySem.W.mg_of X G a17, b17⟩, ⟨F18, PySem.W.mg_of X G a18, b18⟩, ⟨F19, PySem.W.mg_of X G a19, b19⟩, ⟨F20, PySem.W.mg_of X G a20, b20⟩, ⟨F21, PySem.W.mg_of X G a21, b21⟩, ⟨F22, PySem.W.mg_of X G a22, b22⟩, ⟨F23, PySem.W.mg_of X G a23, b23⟩, ⟨F24, PySem.W.mg_of X G a24, b24⟩, ⟨F25, PySem.W.mg_of X G a25, b25⟩, ⟨F26, PySem.W.mg_of X G a26, b26⟩, ⟨F27, PySem.W.mg_of X G a27, b27⟩, ⟨F28, PySem.W.mg_of X G a28, b28⟩, ⟨F29, PySem.W.mg_of X G a29, b29⟩, ⟨F30, PySem.W.mg_of X G a30, b30⟩, PySem.W.mg_none_of X G z_len, PySem.W.mg_none_of X G z_range, PySem.W.mg_none_of X G z_isinstance, PySem.W.mg_none_of X G z_int, PySem.W.mg_none_of X G z_bool, PySem.W.mg_none_of X G z_tuple, PySem.W.mg_none_of X G z_str, PySem.W.mg_none_of X G z_list, PySem.W.mg_none_of X G z_zip, PySem.W.mg_none_of X G z_max, PySem.W.mg_none_of X G z_sum, PySem.W.mg_none_of X G z_reversed, (let ⟨k, d, p⟩ := r_PART_PLACES; ⟨k, ⟨_, PySem.W.mg_of X G g_PART_PLACES, _, h_PART_PLACES, d, n_PART_PLACES⟩, p⟩), kist, kiit, kib⟩
  exact ⟨_, fun s v => .of_eq rfl, fun base _ _ => ok_law T⟩
theorem walk {l : PySem.W.OpenLaw} {q : Program} {loose : List Str} {XP : (Str → Option Value) → Heap → Prop} {YP : World → Heap → Prop} {d : DefRec} {K : Params → PySem.W.Frag} (hn : l.most = some 63) (hdf : d.params.defaults = [])
    (hY : ∀ (w : World) (h : Heap), YP w h → (K w.params).In h)
    (F : ∀ (w : World) (mg : Str → Option Value) (fa : Addr) (h : Heap), (K w.params).In h → h.Ns mainGlobals mg → mg d.name = some (.ref fa) →
      ∃ fd : FuncData, (∀ (s : Shared) (u : Value), BindsTo s fd ⟨[u], []⟩ [("_law_script", u)]) ∧ ∀ base : Heap, (K w.params).In base → base.Ns mainGlobals mg → FnOk l.prog w (K w.params) mg base CX0 66 fa fd ["_law_script"] (spLaw (K w.params))) :
    PySem.W.WalkO q loose XP YP l.row.toRowW d [] (fun f vs => PySem.call f vs) :=
  L2.walk_of (n := 63) (k := 66) (x := "_law_script") (CX := fun _ => CX0) (sp := fun w => spLaw (K w.params)) hn (by decide) hdf ⟨rfl, by decide, by decide⟩ hY F (fun _ _ a ns hl _ hS => ⟨a, ns, rfl, hS, hl, fun _ => rfl⟩) fun _ _ _ _ _ z => z
end Fs
open PySem PySem.W PyProof.Rows
set_option maxRecDepth 100000 in
set_option maxHeartbeats 0 in
theorem PySem.Challenge.cw_freshsheet_k14_parts_of_formulas_holds : PySem.Challenge.rw_freshsheet_k14_parts_of_formulas.Holds := by
  w_on; o_law; k_head; (case hw => w_witness2)
  k_fill
  refine Fs.walk (l := PySem.Challenge.rw_freshsheet_k14_parts_of_formulas) rfl rfl (fun w h Y => PySem.W.kIn_of Y) ?F
  case F =>
    intro w mg fa h KX G hmg
    refine' Fs.all_mk KX G hmg ?a0 ?l0 ?c0 ?k0 ?a1 ?l1 ?c1 ?k1 ?a2 ?l2 ?c2 ?k2 ?a3 ?l3 ?c3 ?k3 ?a4 ?l4 ?c4 ?k4 ?a5 ?l5 ?c5 ?k5 ?a6 ?l6 ?c6 ?k6 ?a7 ?l7 ?c7 ?k7 ?a8 ?l8 ?c8 ?k8 ?a9 ?l9 ?c9 ?k9 ?a10 ?l10 ?c10 ?k10 ?a11 ?l11 ?c11 ?k11 ?a12 ?l12 ?c12 ?k12 ?a13 ?l13 ?c13 ?k13 ?a14 ?l14 ?c14 ?k14 ?a15 ?l15 ?c15 ?k15 ?a16 ?l16 ?c16 ?k16 ?a17 ?l17 ?c17 ?k17 ?a18 ?l18 ?c18 ?k18 ?a19 ?l19 ?c19 ?k19 ?a20 ?l20 ?c20 ?k20 ?a21 ?l21 ?c21 ?k21 ?a22 ?l22 ?c22 ?k22 ?a23 ?l23 ?c23 ?k23 ?a24 ?l24 ?c24 ?k24 ?a25 ?l25 ?c25 ?k25 ?a26 ?l26 ?c26 ?k26 ?a27 ?l27 ?c27 ?k27 ?a28 ?l28 ?c28 ?k28 ?a29 ?l29 ?c29 ?k29 ?a30 ?l30 ?c30 ?k30 ?z_len ?z_range ?z_isinstance ?z_int ?z_bool ?z_tuple ?z_str ?z_list ?z_zip ?z_max ?z_sum ?z_reversed ?g_PART_PLACES ?h_PART_PLACES ?r_PART_PLACES ?n_PART_PLACES ?kist ?kiit ?kib
    (case a0 => k_is)
    (case l0 => k_is)
    (case c0 => k_is)
    (case k0 => k_is)
    (case a1 => k_is)
    (case l1 => k_is)
    (case c1 => k_is)
    (case k1 => k_is)
    (case a2 => k_is)
    (case l2 => k_is)
    (case c2 => k_is)
    (case k2 => k_is)
    (case a3 => k_is)
    (case l3 => k_is)
    (case c3 => k_is)
    (case k3 => k_is)
    (case a4 => k_is)
    (case l4 => k_is)
    (case c4 => k_is)
    (case k4 => k_is)
    (case a5 => k_is)
    (case l5 => k_is)
    (case c5 => k_is)
    (case k5 => k_is)
    (case a6 => k_is)
    (case l6 => k_is)
    (case c6 => k_is)
    (case k6 => k_is)
    (case a7 => k_is)
    (case l7 => k_is)
    (case c7 => k_is)
    (case k7 => k_is)
    (case a8 => k_is)
    (case l8 => k_is)
    (case c8 => k_is)
    (case k8 => k_is)
    (case a9 => k_is)
    (case l9 => k_is)
    (case c9 => k_is)
    (case k9 => k_is)
    (case a10 => k_is)
    (case l10 => k_is)
    (case c10 => k_is)
    (case k10 => k_is)
    (case a11 => k_is)
    (case l11 => k_is)
    (case c11 => k_is)
    (case k11 => k_is)
    (case a12 => k_is)
    (case l12 => k_is)
    (case c12 => k_is)
    (case k12 => k_is)
    (case a13 => k_is)
    (case l13 => k_is)
    (case c13 => k_is)
    (case k13 => k_is)
    (case a14 => k_is)
    (case l14 => k_is)
    (case c14 => k_is)
    (case k14 => k_is)
    (case a15 => k_is)
    (case l15 => k_is)
    (case c15 => k_is)
    (case k15 => k_is)
    (case a16 => k_is)
    (case l16 => k_is)
    (case c16 => k_is)
    (case k16 => k_is)
    (case a17 => k_is)
    (case l17 => k_is)
    (case c17 => k_is)
    (case k17 => k_is)
    (case a18 => k_is)
    (case l18 => k_is)
    (case c18 => k_is)
    (case k18 => k_is)
    (case a19 => k_is)
    (case l19 => k_is)
    (case c19 => k_is)
    (case k19 => k_is)
    (case a20 => k_is)
    (case l20 => k_is)
    (case c20 => k_is)
    (case k20 => k_is)
    (case a21 => k_is)
    (case l21 => k_is)
    (case c21 => k_is)
    (case k21 => k_is)
    (case a22 => k_is)
    (case l22 => k_is)
    (case c22 => k_is)
    (case k22 => k_is)
    (case a23 => k_is)
    (case l23 => k_is)
    (case c23 => k_is)
    (case k23 => k_is)
    (case a24 => k_is)
    (case l24 => k_is)
    (case c24 => k_is)
    (case k24 => k_is)
    (case a25 => k_is)
    (case l25 => k_is)
    (case c25 => k_is)
    (case k25 => k_is)
    (case a26 => k_is)
    (case l26 => k_is)
    (case c26 => k_is)
    (case k26 => k_is)
    (case a27 => k_is)
    (case l27 => k_is)
    (case c27 => k_is)
    (case k27 => k_is)
    (case a28 => k_is)
    (case l28 => k_is)
    (case c28 => k_is)
    (case k28 => k_is)
    (case a29 => k_is)
    (case l29 => k_is)
    (case c29 => k_is)
    (case k29 => k_is)
    (case a30 => k_is)
    (case l30 => k_is)
    (case c30 => k_is)
    (case k30 => k_is)
    (case z_len => k_is)
    (case z_range => k_is)
    (case z_isinstance => k_is)
    (case z_int => k_is)
    (case z_bool => k_is)
    (case z_tuple => k_is)
    (case z_str => k_is)
    (case z_list => k_is)
    (case z_zip => k_is)
    (case z_max => k_is)
    (case z_sum => k_is)
    (case z_reversed => k_is)
    (case g_PART_PLACES => k_is)
    (case h_PART_PLACES => k_is)
    (case r_PART_PLACES => exact ⟨[(Sum.inr (Str.ofString "op"), L2.V.ref _), (Sum.inr (Str.ofString "neg"), L2.V.ref _), (Sum.inr (Str.ofString "if"), L2.V.ref _), (Sum.inr (Str.ofString "sum"), L2.V.ref _), (Sum.inr (Str.ofString "count"), L2.V.ref _), (Sum.inr (Str.ofString "least"), L2.V.ref _), (Sum.inr (Str.ofString "most"), L2.V.ref _), (Sum.inr (Str.ofString "sumif"), L2.V.ref _), (Sum.inr (Str.ofString "find"), L2.V.ref _), (Sum.inr (Str.ofString "turn"), L2.V.ref _), (Sum.inr (Str.ofString "stack"), L2.V.ref _), (Sum.inr (Str.ofString "grid"), L2.V.ref _), (Sum.inr (Str.ofString "outer"), L2.V.ref _)], ⟨⟨rfl, rfl, rfl⟩, _, _, rfl, .cons ⟨rfl, rfl, rfl⟩ (.cons ⟨rfl, rfl, rfl⟩ (.cons ⟨rfl, rfl, rfl⟩ (.cons ⟨rfl, rfl, rfl⟩ (.cons ⟨rfl, rfl, rfl⟩ (.cons ⟨rfl, rfl, rfl⟩ (.cons ⟨rfl, rfl, rfl⟩ (.cons ⟨rfl, rfl, rfl⟩ (.cons ⟨rfl, rfl, rfl⟩ (.cons ⟨rfl, rfl, rfl⟩ (.cons ⟨rfl, rfl, rfl⟩ (.cons ⟨rfl, rfl, rfl⟩ (.cons ⟨rfl, rfl, rfl⟩ (.nil))))))))))))), by decide⟩, .cons ⟨rfl, _, rfl, fun _ => .inr ⟨_, _, _, (by k_is), rfl, rfl, by decide, .cons ⟨_, rfl⟩ (.cons ⟨_, rfl⟩ (.nil))⟩⟩ (.cons ⟨rfl, _, rfl, fun _ => .inr ⟨_, _, _, (by k_is), rfl, rfl, by decide, .cons ⟨_, rfl⟩ (.nil)⟩⟩ (.cons ⟨rfl, _, rfl, fun _ => .inr ⟨_, _, _, (by k_is), rfl, rfl, by decide, .cons ⟨_, rfl⟩ (.cons ⟨_, rfl⟩ (.cons ⟨_, rfl⟩ (.nil)))⟩⟩ (.cons ⟨rfl, _, rfl, fun _ => .inr ⟨_, _, _, (by k_is), rfl, rfl, by decide, .cons ⟨_, rfl⟩ (.nil)⟩⟩ (.cons ⟨rfl, _, rfl, fun _ => .inr ⟨_, _, _, (by k_is), rfl, rfl, by decide, .cons ⟨_, rfl⟩ (.nil)⟩⟩ (.cons ⟨rfl, _, rfl, fun _ => .inr ⟨_, _, _, (by k_is), rfl, rfl, by decide, .cons ⟨_, rfl⟩ (.nil)⟩⟩ (.cons ⟨rfl, _, rfl, fun _ => .inr ⟨_, _, _, (by k_is), rfl, rfl, by decide, .cons ⟨_, rfl⟩ (.nil)⟩⟩ (.cons ⟨rfl, _, rfl, fun _ => .inr ⟨_, _, _, (by k_is), rfl, rfl, by decide, .cons ⟨_, rfl⟩ (.cons ⟨_, rfl⟩ (.cons ⟨_, rfl⟩ (.nil)))⟩⟩ (.cons ⟨rfl, _, rfl, fun _ => .inr ⟨_, _, _, (by k_is), rfl, rfl, by decide, .cons ⟨_, rfl⟩ (.cons ⟨_, rfl⟩ (.cons ⟨_, rfl⟩ (.nil)))⟩⟩ (.cons ⟨rfl, _, rfl, fun _ => .inr ⟨_, _, _, (by k_is), rfl, rfl, by decide, .cons ⟨_, rfl⟩ (.nil)⟩⟩ (.cons ⟨rfl, _, rfl, fun _ => .inr ⟨_, _, _, (by k_is), rfl, rfl, by decide, .cons ⟨_, rfl⟩ (.cons ⟨_, rfl⟩ (.nil))⟩⟩ (.cons ⟨rfl, _, rfl, fun _ => .inr ⟨_, _, _, (by k_is), rfl, rfl, by decide, .cons ⟨_, rfl⟩ (.cons ⟨_, rfl⟩ (.nil))⟩⟩ (.cons ⟨rfl, _, rfl, fun _ => .inr ⟨_, _, _, (by k_is), rfl, rfl, by decide, .cons ⟨_, rfl⟩ (.nil)⟩⟩ (.nil)))))))))))))⟩)
    (case n_PART_PLACES => decide)
    (case kist => kit_is)
    (case kiit => kit_is)
    (case kib => kit_is)
