import PyProof.Rows.All
import Wide.All
import OpenK.AllK
import Wide.FinOn
import Lean
import PyProof.EqAt
import PyProof.EqKinds
import PyProof.TupleCall
import PySem.Challenge.RW_freshsheet_k13_what_is_a_formula
set_option Elab.async false
set_option linter.all false
set_option maxRecDepth 100000
set_option maxHeartbeats 4000000
namespace Hw
open PySem PySem.W PyProof.Rows PySem.Calls
def topRunT (tb : String → Option Builtin) (p : Program) (w : World) (n₀ : Nat) (ann : Option Value) : Nat → SharedT → Thread → Option SharedT
  | 0, _, _ => none
  | n + 1, s, t => match through t with
    | true => some s
    | false => match stepOk n₀ ann t with
      | false => none
      | true => match stepT (denote tb) p w s t with
        | some (s', t') => topRunT tb p w n₀ ann n s' t'
        | none => none
theorem topRun_ofT {tb : String → Option Builtin} {p : Program} {w : World} {n₀ : Nat} {ann : Option Value} : ∀ {n : Nat} {s s' : SharedT} {t : Thread}, topRunT tb p w n₀ ann n s t = some s' → topRun tb p w n₀ ann n s.abs t = some s'.abs
  | 0, _, _, _, h => by cases h
  | n + 1, s, s', t, h => by
    unfold topRunT at h
    unfold topRun
    cases he : through t with
    | true => rw [he] at h; cases h; rfl
    | false =>
      rw [he] at h
      cases hk : stepOk n₀ ann t with
      | false => rw [hk] at h; cases h
      | true =>
        rw [hk] at h
        cases hs : stepT (denote tb) p w s t with
        | none => rw [hs] at h; cases h
        | some r => obtain ⟨s₂, t₂⟩ := r; rw [hs] at h; rw [stepT_spec hs]; exact topRun_ofT h
def toBT : List Obj → Nat → BT → BT
  | [], _, t => t
  | o :: r, n, t => toBT r (n + 1) (t.ins n o)
noncomputable def bootT (P : Params) : BT := toBT (boot_heap P).objs.toList 0 .nil
noncomputable def bootS (w : World) (os : OsState) : SharedT := ⟨bootT w.params, (boot_heap w.params).objs.size, (boot_heap w.params).life, Array.mk [], boot_drawn, boot_toks, os⟩
theorem bootT_abs (P : Params) : absHeap (bootT P) (boot_heap P).objs.size (boot_heap P).life = boot_heap P := by kernel_rfl
theorem boot_size (w : World) : ((boot_heap w.params).isNs mainGlobals && (Array.mk [] : Array GenState).size == 0, (boot_heap w.params).objs.size, (boot_heap w.params).nsMap mainGlobals "__annotations__") = (true, 11, some (.ref 6)) := by kernel_rfl
noncomputable def tops (p : Program) (N : Nat) (w : World) (os : OsState) : Option SharedT := topRunT treeTable p w 11 (some (.ref 6)) N (bootS w os) (topStub p)
def look1 (p : Program) (h : Heap) (s : Shared) : Bool := staticsOk (importedModules p.main.body) h s.heap && namesBound p s.heap && gensDone s && laidKept h s.heap
def look3 (q : Program) (loose mods : List Str) (Xt : Shared → Bool) (g0 : Bool) (s : Shared) : Bool := (openSeen q loose mods Xt g0 s).2.2.1
theorem left_whole {p q : Program} {loose : List Str} {Xt : Shared → Bool} {α : Type} {Yf : Shared → α} {Ya : World → α} {N : Nat} {g0 : Bool}
    (e : opening p = plainProg p.main.scope.names) (hN : Nat.ble 600 N = true) (f : ∀ s, fenceModules? p s = some s)
    (run1 : ∀ (w : World) (os : OsState), (tops p N w os).map (fun s => (look1 p (boot_heap w.params) s.abs, s.abs.heap.bltView, tabsOk q s.abs)) = some (true, bltViewBooted, true))
    (run2 : ∀ (w : World) (os : OsState), (tops p N w os).map (fun s => seen ((recsOf q).map (·.name)) (ownsOf q) [] { s.abs with gens := #[] }) = some (expectedOf q))
    (run3 : ∀ (w : World) (os : OsState), (tops p N w os).map (fun s => look3 q loose (importedModules p.main.body) Xt g0 s.abs) = some true)
    (run4 : ∀ (w : World) (os : OsState), (tops p N w os).map (fun s => (pinSeenD q (drecsOf q) s.abs, plainSeenE q (looseW q loose) s.abs, plainSeenD q loose s.abs, wideSeen q s.abs, clsSeenW q loose s.abs)) = some (pinGoodD (drecsOf q), plainGoodE q (looseW q loose), plainGoodD q loose, wideGood q, clsGoodW q loose))
    (run5 : ∀ (w : World) (os : OsState), (tops p N w os).map (fun s => Yf s.abs) = some (Ya w)) : LeftO p q loose Xt Yf Ya N g0 := fun w => by
  obtain ⟨⟨h, gs, d, k, os⟩, e1, e'⟩ := Option.map_eq_some_iff.mp (boot_open e hN f w)
  obtain ⟨rfl, rfl, rfl, rfl⟩ : h = boot_heap w.params ∧ gs = Array.mk [] ∧ d = boot_drawn ∧ k = boot_toks := by simpa using e'
  obtain ⟨z1, z2, z3⟩ : _ ∧ _ ∧ _ := by simpa only [Prod.mk.injEq] using boot_size w
  obtain ⟨s', hs, l1⟩ := Option.map_eq_some_iff.mp (run1 w os)
  have l2 := run2 w os
  have l3 := run3 w os
  have l4 := run4 w os
  have l5 := run5 w os
  rw [hs] at l2 l3 l4 l5
  replace l2 := Option.some.inj l2
  replace l3 := Option.some.inj l3
  replace l4 := Option.some.inj l4
  replace l5 := Option.some.inj l5
  dsimp only at l1 l2 l3 l4 l5
  obtain ⟨l1, l6, l7⟩ : _ ∧ _ ∧ _ := by simpa only [Prod.mk.injEq] using l1
  have l8 : openSeen q loose (importedModules p.main.body) Xt g0 s'.abs = openGood q loose := Prod.ext l2 (Prod.ext l6 (Prod.ext l3 (Prod.ext l7 l4)))
  have r := topRun_ofT hs
  have hb : (bootS w os).abs = ⟨boot_heap w.params, Array.mk [], boot_drawn, boot_toks, os⟩ := by
    show Shared.mk _ _ _ _ _ = _
    rw [show absHeap (bootS w os).tree (bootS w os).n (bootS w os).life = boot_heap w.params from bootT_abs w.params]
    rfl
  rw [hb] at r
  have t : topFrom treeTable p w N ⟨boot_heap w.params, Array.mk [], boot_drawn, boot_toks, os⟩ = some s'.abs := by
    unfold topFrom
    dsimp only
    rw [z1, z2, z3, r]
    show (match look1 p (boot_heap w.params) s'.abs with | true => some s'.abs | false => none) = _
    rw [l1]
  unfold openEnds
  rw [e1]
  show (topFrom treeTable p w N _).map _ = _
  rw [t]
  exact congrArg some (Prod.ext l8 l5)
end Hw
namespace Hw
open PySem PySem.W PyProof.Rows PySem.Calls
abbrev pw := PySem.Challenge.pw_freshsheet_k13_what_is_a_formula
abbrev lw := PySem.Challenge.rw_freshsheet_k13_what_is_a_formula
section
local macro_rules | `(tactic| o_head $H) => do let f := Lean.mkIdent `foo; `(tactic| exact $f $H)
theorem pack (foo : PySem.W.Hook → (OpenLaw.row lw).Holds) : (OpenLaw.row lw).Holds := by k_head
end
def hAs : List Addr := [2, 3, 15, 17, 18, 20, 21, 22, 24, 25, 27, 28, 29, 31, 32, 34, 35, 36, 39, 40, 41, 43, 44, 46, 47, 48, 50, 51, 53, 54, 55, 56, 58, 59, 61, 62, 63, 65, 66, 68, 69, 70, 73, 74, 75, 77, 78, 80, 81, 82, 84, 85, 87, 88, 89, 90, 91, 92, 94, 95, 96, 97, 98, 99, 100, 101, 102, 103, 104, 105, 106, 107, 108, 111, 112, 113, 115, 116, 118, 119, 120, 122, 123, 125, 126, 127, 129, 130, 132, 133, 134, 136, 137, 139, 140, 141, 143, 144, 146, 147, 148, 150, 151, 153, 154, 155, 157, 158, 160, 161, 162, 164, 165, 167, 168, 169, 171, 172, 174, 175, 176, 178, 179, 181, 182, 183, 185, 186, 188, 189, 190, 192, 193, 195, 196, 197, 200, 201, 202, 204, 205, 207, 208, 209, 211, 212, 214, 215, 216, 218, 219, 221, 222, 223, 226, 227, 228, 230, 231, 233, 234, 235, 237, 238, 240, 241, 242, 244, 245, 247, 248, 249, 252, 253, 254, 256, 257, 259, 260, 261, 263, 264, 266, 267, 268, 270, 271, 273, 274, 275, 277, 278, 280, 281, 282, 284, 285, 287, 288, 289, 291, 292, 294, 295, 296, 298, 299, 301, 302, 303, 306, 307, 308, 310, 311, 313, 314, 315, 317, 318, 320, 321, 322, 325, 326, 327, 329, 330, 332, 333, 334, 336, 337, 339, 340, 341, 343, 344, 346, 347, 348, 350, 351, 353, 354, 355, 357, 358, 360, 361, 362, 364, 365, 367, 368, 369, 371, 372, 374, 375, 376, 379, 380, 381, 384, 385]
theorem hAs_eq : ∀ P, hAs = (pack.heap_1 P).map (·.1) := fun _ => by kernel_rfl
def qv : Program := view pw [1, 2, 3, 5, 6, 7, 8, 9, 10, 11, 13, 14, 15, 16, 17, 18, 19, 20, 21, 23, 24, 25, 26, 27, 28, 29, 30, 31, 32, 33, 34, 35, 36, 37, 38, 39, 40, 41, 42, 43, 44, 45, 46, 47, 49, 50, 51, 52, 53, 54, 55, 56, 57, 58, 59, 60, 61, 62, 63, 64, 65, 66, 67, 68, 69, 70, 71, 72, 73, 74, 75]
def Xv : Shared → Bool := fun s => xlAt qv [] s && recOk (RowW.records (OpenRow.toRowW (OpenLaw.row lw))) s
abbrev N0 : Nat := 4000
abbrev lo : List PySem.Str := [PySem.Str.ofString "LENGTHS", PySem.Str.ofString "PART_PLACES"]
noncomputable def lhs1 (w : World) (os : OsState) := (tops pw N0 w os).map (fun s => (look1 pw (boot_heap w.params) s.abs, s.abs.heap.bltView, tabsOk qv s.abs))
theorem lhs1_self : lhs1 = lhs1 := rfl
name_quick hw1 for Hw.lhs1 by Hw.lhs1_self
set_option maxHeartbeats 0 in
theorem run1f : ∀ (w : World) (os : OsState), PySem.W.Fast.hw1 (w.withFollow "special-get-raises" false) os = some (true, bltViewBooted, true) := by
  intro w os
  kernel_rfl
set_option maxHeartbeats 0 in
theorem run1t : ∀ (w : World) (os : OsState), PySem.W.Fast.hw1 (w.withFollow "special-get-raises" true) os = some (true, bltViewBooted, true) := by
  intro w os
  kernel_rfl
theorem run1 : ∀ w os, PySem.W.Fast.hw1 w os = some (true, bltViewBooted, true) := fun w => PySem.W.byRow2 "special-get-raises" (P := fun w => ∀ os, PySem.W.Fast.hw1 w os = some (true, bltViewBooted, true)) run1f run1t w
noncomputable def lhs2 (w : World) (os : OsState) := (tops pw N0 w os).map (fun s => seen ((recsOf qv).map (·.name)) (ownsOf qv) [] { s.abs with gens := #[] })
theorem lhs2_self : lhs2 = lhs2 := rfl
name_quick hw2 for Hw.lhs2 by Hw.lhs2_self
noncomputable def rhs2 := expectedOf qv
theorem rhs2_self : rhs2 = rhs2 := rfl
name_quick hg2 for Hw.rhs2 by Hw.rhs2_self
set_option maxHeartbeats 0 in
theorem run2f : ∀ (w : World) (os : OsState), PySem.W.Fast.hw2 (w.withFollow "special-get-raises" false) os = some (PySem.W.Fast.hg2) := by
  intro w os
  kernel_rfl
set_option maxHeartbeats 0 in
theorem run2t : ∀ (w : World) (os : OsState), PySem.W.Fast.hw2 (w.withFollow "special-get-raises" true) os = some (PySem.W.Fast.hg2) := by
  intro w os
  kernel_rfl
theorem run2 : ∀ w os, PySem.W.Fast.hw2 w os = some (PySem.W.Fast.hg2) := fun w => PySem.W.byRow2 "special-get-raises" (P := fun w => ∀ os, PySem.W.Fast.hw2 w os = some (PySem.W.Fast.hg2)) run2f run2t w
noncomputable def lhs3 (w : World) (os : OsState) := (tops pw N0 w os).map (fun s => look3 qv lo (importedModules pw.main.body) Xv true s.abs)
theorem lhs3_self : lhs3 = lhs3 := rfl
name_quick hw3 for Hw.lhs3 by Hw.lhs3_self
set_option maxHeartbeats 0 in
theorem run3f : ∀ (w : World) (os : OsState), PySem.W.Fast.hw3 (w.withFollow "special-get-raises" false) os = some (true) := by
  intro w os
  kernel_rfl
set_option maxHeartbeats 0 in
theorem run3t : ∀ (w : World) (os : OsState), PySem.W.Fast.hw3 (w.withFollow "special-get-raises" true) os = some (true) := by
  intro w os
  kernel_rfl
theorem run3 : ∀ w os, PySem.W.Fast.hw3 w os = some (true) := fun w => PySem.W.byRow2 "special-get-raises" (P := fun w => ∀ os, PySem.W.Fast.hw3 w os = some (true)) run3f run3t w
noncomputable def lhs4 (w : World) (os : OsState) := (tops pw N0 w os).map (fun s => (pinSeenD qv (drecsOf qv) s.abs, plainSeenE qv (looseW qv lo) s.abs, plainSeenD qv lo s.abs, wideSeen qv s.abs, clsSeenW qv lo s.abs))
theorem lhs4_self : lhs4 = lhs4 := rfl
name_quick hw4 for Hw.lhs4 by Hw.lhs4_self
noncomputable def rhs4 := (pinGoodD (drecsOf qv), plainGoodE qv (looseW qv lo), plainGoodD qv lo, wideGood qv, clsGoodW qv lo)
theorem rhs4_self : rhs4 = rhs4 := rfl
name_quick hg4 for Hw.rhs4 by Hw.rhs4_self
set_option maxHeartbeats 0 in
theorem run4f : ∀ (w : World) (os : OsState), PySem.W.Fast.hw4 (w.withFollow "special-get-raises" false) os = some (PySem.W.Fast.hg4) := by
  intro w os
  kernel_rfl
set_option maxHeartbeats 0 in
theorem run4t : ∀ (w : World) (os : OsState), PySem.W.Fast.hw4 (w.withFollow "special-get-raises" true) os = some (PySem.W.Fast.hg4) := by
  intro w os
  kernel_rfl
theorem run4 : ∀ w os, PySem.W.Fast.hw4 w os = some (PySem.W.Fast.hg4) := fun w => PySem.W.byRow2 "special-get-raises" (P := fun w => ∀ os, PySem.W.Fast.hw4 w os = some (PySem.W.Fast.hg4)) run4f run4t w
noncomputable def lhs5 (w : World) (os : OsState) := (tops pw N0 w os).map (fun s => hAs.map s.abs.heap.get?)
theorem lhs5_self : lhs5 = lhs5 := rfl
name_quick hw5 for Hw.lhs5 by Hw.lhs5_self
set_option maxHeartbeats 0 in
theorem run5f : ∀ (w : World) (os : OsState), PySem.W.Fast.hw5 (w.withFollow "special-get-raises" false) os = some ((pack.heap_1 (w.withFollow "special-get-raises" false).params).map fun p => some p.2) := by
  intro w os
  kernel_rfl
set_option maxHeartbeats 0 in
theorem run5t : ∀ (w : World) (os : OsState), PySem.W.Fast.hw5 (w.withFollow "special-get-raises" true) os = some ((pack.heap_1 (w.withFollow "special-get-raises" true).params).map fun p => some p.2) := by
  intro w os
  kernel_rfl
theorem run5 : ∀ w os, PySem.W.Fast.hw5 w os = some ((pack.heap_1 w.params).map fun p => some p.2) := fun w => PySem.W.byRow2 "special-get-raises" (P := fun w => ∀ os, PySem.W.Fast.hw5 w os = some ((pack.heap_1 w.params).map fun p => some p.2)) run5f run5t w
theorem q_open : opening pw = plainProg pw.main.scope.names := by kernel_rfl
theorem q_fence : ∀ s, fenceModules? pw s = some s := fun s => by kernel_rfl
theorem left : LeftO pw qv lo Xv (Hook.obs (kHook pack.heap_1 hAs hAs_eq)) (Hook.val (kHook pack.heap_1 hAs hAs_eq)) N0 true :=
  left_whole q_open rfl q_fence (fun w os => (congrFun (congrFun PySem.W.Fast.hw1_eq w) os).trans (run1 w os))
    (fun w os => ((congrFun (congrFun PySem.W.Fast.hw2_eq w) os).trans (run2 w os)).trans (congrArg some PySem.W.Fast.hg2_eq.symm))
    (fun w os => (congrFun (congrFun PySem.W.Fast.hw3_eq w) os).trans (run3 w os))
    (fun w os => ((congrFun (congrFun PySem.W.Fast.hw4_eq w) os).trans (run4 w os)).trans (congrArg some PySem.W.Fast.hg4_eq.symm))
    (fun w os => (congrFun (congrFun PySem.W.Fast.hw5_eq w) os).trans (run5 w os))
end Hw
set_option Elab.async false
set_option linter.all false
set_option maxRecDepth 100000
namespace L2
open PySem PySem.Spec PyProof.Rows
abbrev Key := Sum Int Str
def keyIs : Key → Value → Bool
  | .inl k, v => Value.isInt k v
  | .inr x, v => Value.isStrOf x v
def keyH (w : World) : Key → Int
  | .inl k => hashInt k
  | .inr x => hashStr w x
theorem keyIs_shape : ∀ {k : Key} {v : Value}, keyIs k v = true → (∃ i t, k = Sum.inl i ∧ v = Value.int i t) ∨ (∃ x t, k = Sum.inr x ∧ v = Value.str x t)
  | .inl i, v, h => by
    obtain ⟨t, e⟩ := Value.isInt_shape (k := i) (v := v) h
    exact .inl ⟨i, t, rfl, e⟩
  | .inr x, v, h => by
    obtain ⟨t, e⟩ := Value.isStrOf_shape (x := x) (v := v) h
    exact .inr ⟨x, t, rfl, e⟩
theorem keyIs_int (i : Int) (t : Tok) : keyIs (.inl i) (.int i t) = true := by simp [keyIs, Value.isInt]
theorem keyIs_str (x : Str) (t : Tok) : keyIs (.inr x) (.str x t) = true := by simp [keyIs, Value.isStrOf]
theorem key_ll (a b : Int) : decide ((Sum.inl a : Key) = Sum.inl b) = (a == b) := by
  by_cases e : a = b
  · subst e; simp
  · have h : ¬ (Sum.inl a : Key) = Sum.inl b := fun q => e (Sum.inl.inj q)
    rw [decide_eq_false h]
    exact (beq_eq_false_iff_ne.mpr e).symm
theorem key_rr (a b : Str) : decide ((Sum.inr a : Key) = Sum.inr b) = decide (a = b) := by
  by_cases e : a = b
  · subst e; simp
  · have h : ¬ (Sum.inr a : Key) = Sum.inr b := fun q => e (Sum.inr.inj q)
    rw [decide_eq_false h, decide_eq_false e]
theorem key_lr (a : Int) (b : Str) : decide ((Sum.inl a : Key) = Sum.inr b) = false := decide_eq_false (fun q => nomatch q)
theorem key_rl (a : Str) (b : Int) : decide ((Sum.inr a : Key) = Sum.inl b) = false := decide_eq_false (fun q => nomatch q)
def mixKind (prog : Program) (w : World) : PySem.KeyKind prog w Key where
  is := keyIs
  hash := keyH w
  inj := fun v a b ha hb => by
    rcases keyIs_shape ha with ⟨i, t, rfl, rfl⟩ | ⟨x, t, rfl, rfl⟩
    · rcases keyIs_shape hb with ⟨j, u, rfl, e⟩ | ⟨y, u, rfl, e⟩
      · injection e with e1 _; rw [e1]
      · exact nomatch e
    · rcases keyIs_shape hb with ⟨j, u, rfl, e⟩ | ⟨y, u, rfl, e⟩
      · exact nomatch e
      · injection e with e1 _; rw [e1]
  byValue := fun k v h => by
    rcases keyIs_shape h with ⟨i, t, rfl, rfl⟩ | ⟨x, t, rfl, rfl⟩ <;> rfl
  pyHash := fun hv h => by
    rcases keyIs_shape hv with ⟨i, t, rfl, rfl⟩ | ⟨x, t, rfl, rfl⟩
    · exact wpAny_pyHash_int h
    · exact wpAny_pyHash_str h
  eqBool := fun hu hv h => by
    rcases keyIs_shape hu with ⟨i, t, rfl, rfl⟩ | ⟨x, t, rfl, rfl⟩
    · rcases keyIs_shape hv with ⟨j, u, rfl, rfl⟩ | ⟨y, u, rfl, rfl⟩
      · rw [key_ll] at h; exact wpAny_eqBool_int h
      · rw [key_lr] at h; exact SeqAt.EqAt.int_str i t y u _ _ _ _ h
    · rcases keyIs_shape hv with ⟨j, u, rfl, rfl⟩ | ⟨y, u, rfl, rfl⟩
      · rw [key_rl] at h; exact SeqAt.EqAt.str_int x t j u _ _ _ _ h
      · rw [key_rr] at h; exact wpAny_eqBool_str h
  «strs» := fun k x t v h => by
    rcases keyIs_shape h with ⟨i, u, rfl, e⟩ | ⟨y, u, rfl, e⟩
    · exact nomatch e
    · injection e with e1 _
      subst e1
      cases v <;> rfl
theorem mixKind_int (prog : Program) (w : World) (i : Int) (t : Tok) : (mixKind prog w).is (.inl i) (.int i t) = true := keyIs_int i t
theorem mixKind_str (prog : Program) (w : World) (x : Str) (t : Tok) : (mixKind prog w).is (.inr x) (.str x t) = true := keyIs_str x t
end L2
namespace L2
open PySem PySem.Spec PyProof.Rows
inductive V where
  | non | bl (b : Bool) | int (i : Int) | str (x : Str) | byt (b : Array UInt8) | flt (b : UInt64) | ref (a : Addr) | ty (n : String)
  deriving DecidableEq
def RelV : V → Value → Prop
  | .non, u => u = Value.none
  | .bl b, u => u = Value.bool b
  | .int i, u => ∃ t, u = Value.int i t
  | .str x, u => ∃ t, u = Value.str x t
  | .byt b, u => ∃ t, u = Value.bytes b t
  | .flt b, u => ∃ t, u = Value.float b t
  | .ref a, u => u = Value.ref a
  | .ty n, u => u = Value.type n
abbrev Vals : List V → List Value → Prop := Paired RelV
theorem Vals.length {xs : List V} {us : List Value} (r : Vals xs us) : xs.length = us.length := Paired.length r
theorem Vals.get : ∀ {xs : List V} {us : List Value} {i : Nat} {x : V}, Vals xs us → xs[i]? = some x → ∃ u, us[i]? = some u ∧ RelV x u
  | _, _, _, _, .nil, e => by simp at e
  | _, _, 0, _, .cons r _, e => by simp at e; subst e; exact ⟨_, rfl, r⟩
  | _, _, i + 1, x, .cons _ t, e => by
    obtain ⟨u, h1, h2⟩ := Vals.get (i := i) (x := x) t (by simpa using e)
    exact ⟨u, by simpa using h1, h2⟩
theorem Vals.set {x : V} {u : Value} (r : RelV x u) : ∀ {xs : List V} {us : List Value} (i : Nat), Vals xs us → Vals (xs.set i x) (us.set i u)
  | _, _, _, .nil => .nil
  | _, _, 0, .cons _ t => .cons r t
  | _, _, i + 1, .cons q t => .cons q (Vals.set r i t)
theorem Vals.append : ∀ {xs ys : List V} {us ws : List Value}, Vals xs us → Vals ys ws → Vals (xs ++ ys) (us ++ ws)
  | _, _, _, _, .nil, s => s
  | _, _, _, _, .cons r t, s => .cons r (Vals.append t s)
theorem Vals.take : ∀ {xs : List V} {us : List Value} (n : Nat), Vals xs us → Vals (xs.take n) (us.take n)
  | _, _, 0, _ => .nil
  | _, _, _ + 1, .nil => .nil
  | _, _, n + 1, .cons r t => .cons r (Vals.take n t)
theorem Vals.drop : ∀ {xs : List V} {us : List Value} (n : Nat), Vals xs us → Vals (xs.drop n) (us.drop n)
  | _, _, 0, r => r
  | _, _, _ + 1, .nil => .nil
  | _, _, n + 1, .cons _ t => Vals.drop n t
def RelO : Option V → Option Value → Prop
  | some v, some u => RelV v u
  | none, none => True
  | _, _ => False
def KV {κ : Type} : List (κ × V) → List (κ × Value) → Prop := Paired fun (p : κ × V) (q : κ × Value) => p.1 = q.1 ∧ RelV p.2 q.2
def kV : Key → V
  | .inl i => .int i
  | .inr x => .str x
inductive HO where
    | lst (xs : List V)
    | tup (xs : List V)
    | dK (kvs : List (Key × V)) | dT (kvs : List (List Key × V))
    | set (S : Int → Bool) (n : Nat)
    | ins (C dx : Addr) (fs : List (Str × V))
    | own (x : Addr)
    | xd (fs : List (Str × V))
    | met (f x : Addr)
    | rng (lo hi : Int)
    | frz (o : Obj) (u : HO)
    | tbl (ps : Array Value)
    | ext (φ : Heap → Prop)
abbrev Hp := Addr → Option HO
def upd (H : Hp) (a : Addr) (o : HO) : Hp := fun b => if b = a then some o else H b
theorem upd_same {H : Hp} {a : Addr} {o : HO} : upd H a o a = some o := by unfold upd; rw [if_pos rfl]
theorem upd_ne {H : Hp} {a b : Addr} {o : HO} (h : b ≠ a) : upd H a o b = H b := by unfold upd; rw [if_neg h]
theorem upd_upd {H : Hp} {a : Addr} {o u : HO} : upd (upd H a o) a u = upd H a u := by
  funext b; unfold upd; split <;> rfl
theorem ne_of {H : Hp} {a b : Addr} {o u : HO} (h : H a = some o) (h' : H b = some u) (d : o ≠ u) : a ≠ b := by
  intro e; subst e; rw [h] at h'; exact d (Option.some.inj h')
theorem ne_of_none {H : Hp} {a b : Addr} {o : HO} (h : H a = some o) (h' : H b = none) : a ≠ b := by
  intro e; subst e; rw [h] at h'; cases h'
section
variable (P : Program) (w : World)
def ObjOk (H : Hp) (h : Heap) (a : Addr) : HO → Prop
  | .lst xs => xs.length ≤ sizeLine ∧ ∃ (its : List Value) (n : Nat), Vals xs its ∧ h.get? a = some { cls := .type "list", data := .seq its.toArray n }
  | .tup xs => xs.length ≤ sizeLine ∧ ∃ its : List Value, Vals xs its ∧ IsTup h a its.toArray
  | .dK kvs => kvs.length ≤ sizeLine ∧ (a == sysModules) = false ∧ ∃ vs, KV kvs vs ∧ h.DictOf (mixKind P w) a vs
  | .dT kvs => kvs.length ≤ sizeLine ∧ (a == sysModules) = false ∧ ∃ xs : List (List Key × Addr × Value),
      Paired (fun (p : List Key × V) (q : List Key × Addr × Value) => p.1 = q.1 ∧ H q.2.1 = some (.tup (p.1.map kV)) ∧ RelV p.2 q.2.2) kvs xs ∧
      ∃ o es ep, h.get? a = some o ∧ o.ExactDict ∧ o.data = .dict es ep ∧ es.toList = xs.map (entryOfKey (tupleKind (mixKind P w))) ∧ (xs.map (·.1)).Nodup
  | .set S n => h.SetOf (intKind P w) a S n
  | .ins C dx fs => H dx = some (.own a) ∧ fs.length ≤ 1000 ∧ dx ≠ a ∧ h.get? a = some (PySem.W.instObj C dx) ∧
      ∃ mA, h.Ns1 dx mA ∧ (∀ f, RelO (fs.lookup f) (mA f)) ∧ PySem.Within mA (fs.map (·.1))
  | .own _ => ∃ o, h.get? a = some o
  | .xd fs => ∃ mA, h.Ns1 a mA ∧ ∀ f, RelO (fs.lookup f) (mA f)
  | .rng lo hi => ∃ t u v, h.get? a = some { cls := .type "range", data := .fields #[.int lo t, .int hi u, .int 1 v] }
  | .frz o u => h.get? a = some o ∧ ObjOk H h a u
  | .tbl ps => h.get? a = some { cls := .none, data := .fields ps }
  | .met f x => h.get? a = some (PySem.W.methodObj (.ref f) (.ref x))
  | .ext φ => φ h ∧ (∃ o, h.get? a = some o) ∧ ∀ h1 h2 : Heap, φ h1 → (∀ o, h1.get? a = some o → h2.get? a = some o) → φ h2
def HOk (H : Hp) (h : Heap) : Prop := ∀ a o, H a = some o → ObjOk P w H h a o
end
section
variable {P : Program} {w : World} {H H' : Hp} {h h' : Heap} {a : Addr} {o : HO}
theorem ObjOk.lt (x : ObjOk P w H h a o) : a < h.objs.size := by
  cases o with
  | lst xs => obtain ⟨_, _, _, _, e⟩ := x; exact Heap.lt_size e
  | tup xs => obtain ⟨_, _, _, p⟩ := x; exact p.lt
  | dK kvs => obtain ⟨_, _, _, _, o, _, _, e, _⟩ := x; exact Heap.lt_size e
  | dT kvs => obtain ⟨_, _, _, _, o, _, _, e, _⟩ := x; exact Heap.lt_size e
  | set S n => obtain ⟨o, _, _, _, e, _⟩ := x; exact Heap.lt_size e
  | ins C dx fs => obtain ⟨_, _, _, e, _⟩ := x; exact Heap.lt_size e
  | own y => obtain ⟨_, e⟩ := x; exact Heap.lt_size e
  | xd fs => obtain ⟨_, ⟨_, _, _, e, _⟩, _⟩ := x; exact Heap.lt_size e
  | rng lo hi => obtain ⟨_, _, _, e⟩ := x; exact Heap.lt_size e
  | frz ob u => obtain ⟨e, _⟩ := x; exact Heap.lt_size e
  | tbl ps => exact Heap.lt_size (show h.get? a = some _ from x)
  | met f y => exact Heap.lt_size (show h.get? a = some _ from x)
  | ext φ => obtain ⟨_, ⟨_, e⟩, _⟩ := x; exact Heap.lt_size e
theorem Paired.mapP {α β : Type} {F G : α → β → Prop} : ∀ {l₁ : List α} {l₂ : List β}, Paired F l₁ l₂ → (∀ a b, F a b → G a b) → Paired G l₁ l₂
  | _, _, .nil, _ => .nil
  | _, _, .cons r t, f => .cons (f _ _ r) (Paired.mapP t f)
theorem Paired.imp' {α β : Type} {F G : α → β → Prop} (f : ∀ a b, F a b → G a b) {l₁ : List α} {l₂ : List β} (r : Paired F l₁ l₂) : Paired G l₁ l₂ := Paired.mapP r f
theorem ObjOk.stay (x : ObjOk P w H h a o) (k : ∀ b u, (b = a ∨ H b = some (.own a)) → h.get? b = some u → h'.get? b = some u)
    (ho : ∀ b, H b = some (.own a) → H' b = some (.own a)) (ht : ∀ b xs, H b = some (.tup xs) → H' b = some (.tup xs)) : ObjOk P w H' h' a o := by
  induction o with
  | lst xs => obtain ⟨z, its, n, r, e⟩ := x; exact ⟨z, its, n, r, k _ _ (.inl rfl) e⟩
  | tup xs => obtain ⟨z, its, r, ob, e, c⟩ := x; exact ⟨z, its, r, ob, k _ _ (.inl rfl) e, c⟩
  | dK kvs => obtain ⟨z, y, vs, r, ob, es, ep, e, c⟩ := x; exact ⟨z, y, vs, r, ob, es, ep, k _ _ (.inl rfl) e, c⟩
  | dT kvs =>
    obtain ⟨z, y, xs, r, ob, es, ep, e, c⟩ := x
    exact ⟨z, y, xs, Paired.mapP r fun p q z => ⟨z.1, ht _ _ z.2.1, z.2.2⟩, ob, es, ep, k _ _ (.inl rfl) e, c⟩
  | set S n => obtain ⟨ob, es, ep, t, e, c⟩ := x; exact ⟨ob, es, ep, t, k _ _ (.inl rfl) e, c⟩
  | ins C dx fs =>
    obtain ⟨d, z, ne, e, mA, ⟨od, es, ep, e2, c⟩, r⟩ := x
    exact ⟨ho _ d, z, ne, k _ _ (.inl rfl) e, mA, ⟨od, es, ep, k _ _ (.inr d) e2, c⟩, r⟩
  | own y => obtain ⟨ob, e⟩ := x; exact ⟨ob, k _ _ (.inl rfl) e⟩
  | xd fs => obtain ⟨mA, ⟨od, es, ep, e, c⟩, r⟩ := x; exact ⟨mA, ⟨od, es, ep, k _ _ (.inl rfl) e, c⟩, r⟩
  | rng lo hi => obtain ⟨t, u, v, e⟩ := x; exact ⟨t, u, v, k _ _ (.inl rfl) e⟩
  | frz ob u ih => obtain ⟨e, q⟩ := x; exact ⟨k _ _ (.inl rfl) e, ih q⟩
  | tbl ps =>
    have e : h.get? a = some { cls := .none, data := .fields ps } := x
    show h'.get? a = some { cls := .none, data := .fields ps }
    exact k a _ (.inl rfl) e
  | met f y =>
    have e : h.get? a = some (PySem.W.methodObj (.ref f) (.ref y)) := x
    show h'.get? a = some (PySem.W.methodObj (.ref f) (.ref y))
    exact k a _ (.inl rfl) e
  | ext φ => obtain ⟨p, ⟨o, e⟩, st⟩ := x; exact ⟨st _ _ p fun o q => k _ _ (.inl rfl) q, ⟨o, k _ _ (.inl rfl) e⟩, st⟩
theorem HOk.lt (x : HOk P w H h) (e : H a = some o) : a < h.objs.size := (x a o e).lt
theorem HOk.fresh (x : HOk P w H h) (e : h.objs.size ≤ a) : H a = none := by
  cases q : H a with
  | none => rfl
  | some u => exact absurd (Nat.lt_of_lt_of_le (x.lt q) e) (Nat.lt_irrefl _)
theorem HOk.kept (x : HOk P w H h) (k : ∀ b u, h.get? b = some u → h'.get? b = some u) : HOk P w H h' := fun a o e =>
  (x a o e).stay (fun b u _ q => k b u q) (fun _ q => q) fun _ _ q => q
theorem HOk.laid (x : HOk P w H h) (k : ∀ b u, h.get? b = some u → h'.get? b = some u) (hp : h.objs.size ≤ a) (new : ObjOk P w (upd H a o) h' a o) : HOk P w (upd H a o) h' := fun b u e => by
  have hn := x.fresh hp
  by_cases hb : b = a
  · subst hb; rw [upd_same] at e; cases e; exact new
  · rw [upd_ne hb] at e
    exact (x b u e).stay (fun c v _ q => k c v q) (fun c q => by rw [upd_ne (ne_of_none q hn)]; exact q) fun c xs q => by rw [upd_ne (ne_of_none q hn)]; exact q
end
def Rd (H : Hp) (a : Addr) (u : HO) : Prop := H a = some u ∨ ∃ o, H a = some (.frz o u)
theorem Rd.of {H : Hp} {a : Addr} {u : HO} (h : H a = some u) : Rd H a u := .inl h
theorem Rd.ok {P : Program} {w : World} {H : Hp} {h : Heap} {a : Addr} {u : HO} (r : Rd H a u) (x : HOk P w H h) : ObjOk P w H h a u := by
  rcases r with r | ⟨o, r⟩
  · exact x a u r
  · obtain ⟨_, q⟩ := x a _ r
    exact q
def Mut : Option HO → Prop
  | some (.lst _) => True
  | some (.dK _) => True
  | some (.dT _) => True
  | some (.set _ _) => True
  | some (.ins _ _ _) => True
  | some (.ext _) => True
  | _ => False
section
variable {P : Program} {w : World} {H : Hp} {h h' : Heap} {x e : Addr} {o' : HO}
theorem HOk.write (ok : HOk P w H h) (mu : Mut (H x)) (he : e = x ∨ H e = some (.own x)) (k : ∀ b u, b ≠ e → h.get? b = some u → h'.get? b = some u) (heo : ∃ u, h'.get? e = some u)
    (new : ObjOk P w (upd H x o') h' x o') : HOk P w (upd H x o') h' := fun b u q => by
  have nown : ∀ c y, H c = some (.own y) → c ≠ x := fun c y r z => by subst z; rw [r] at mu; exact mu
  have ntup : ∀ c xs, H c = some (.tup xs) → c ≠ x := fun c xs r z => by subst z; rw [r] at mu; exact mu
  by_cases hb : b = x
  · subst hb; rw [upd_same] at q; cases q; exact new
  · rw [upd_ne hb] at q
    by_cases hbe : b = e
    · have q' : H b = some (.own x) := by
        rcases he with z | z
        · exact absurd (hbe.trans z) hb
        · rw [hbe]; exact z
      rw [q] at q'; cases q'
      obtain ⟨v, hv⟩ := heo
      exact ⟨v, by rw [hbe]; exact hv⟩
    · refine (ok b u q).stay (fun c v hc r => k c v ?_ r) (fun c r => by rw [upd_ne (nown c b r)]; exact r) fun c xs r => by rw [upd_ne (ntup c xs r)]; exact r
      rcases hc with rfl | hc
      · exact hbe
      · rintro rfl
        rcases he with z | z
        · exact nown c b hc z
        · rw [hc] at z; cases z; exact hb rfl
end
structure Un (fs ex : List Addr) (H H' : Hp) (h h' : Heap) : Prop where
  keep : ∀ b o, h.get? b = some o → H b = none → b ∉ fs → b ∉ ex → h'.get? b = some o
  slot : ∀ b o, h.get? b = some o → H b = none → b ∈ fs → b ∉ ex → ∃ sl, h'.get? b = some { o with slots := sl }
  free : ∀ b o, h.get? b = some o → H b = none → b ∉ ex → H' b = none
  there : ∀ b o, h.get? b = some o → b ∉ ex → ∃ o', h'.get? b = some o'
  tups : ∀ b xs, H b = some (.tup xs) → H' b = some (.tup xs)
  frzs : ∀ b o u, H b = some (.frz o u) → H' b = some (.frz o u)
  tbls : ∀ b ps, H b = some (.tbl ps) → ∃ more, H' b = some (.tbl (ps ++ more))
section
variable {fs fs' ex ex' : List Addr} {H H1 H2 : Hp} {h h1 h2 h' : Heap} {a x e : Addr} {o : HO}
theorem Un.any (u : Un fs ex H H1 h h1) {b : Addr} {ob : Obj} (q : h.get? b = some ob) (n : H b = none) (hx : b ∉ ex) : ∃ sl, h1.get? b = some { ob with slots := sl } := by
  by_cases hb : b ∈ fs
  · exact u.slot b ob q n hb hx
  · exact ⟨ob.slots, u.keep b ob q n hb hx⟩
theorem Un.trans (a : Un fs ex H H1 h h1) (b : Un fs ex H1 H2 h1 h2) : Un fs ex H H2 h h2 where
  keep := fun c ob q n hc hx => b.keep c ob (a.keep c ob q n hc hx) (a.free c ob q n hx) hc hx
  slot := fun c ob q n hc hx => by
    obtain ⟨sl, e1⟩ := a.slot c ob q n hc hx
    obtain ⟨sl', e2⟩ := b.slot c _ e1 (a.free c ob q n hx) hc hx
    exact ⟨sl', e2⟩
  free := fun c ob q n hx => by
    obtain ⟨o', e1⟩ := a.there c ob q hx
    exact b.free c o' e1 (a.free c ob q n hx) hx
  there := fun c ob q hx => by
    obtain ⟨o', e1⟩ := a.there c ob q hx
    exact b.there c o' e1 hx
  tups := fun c xs q => b.tups c xs (a.tups c xs q)
  frzs := fun c ob xs q => b.frzs c ob xs (a.frzs c ob xs q)
  tbls := fun c ps q => by
    obtain ⟨m1, e1⟩ := a.tbls c ps q
    obtain ⟨m2, e2⟩ := b.tbls c _ e1
    exact ⟨m1 ++ m2, by rw [e2, Array.append_assoc]⟩
theorem Un.kept (k : ∀ b u, h.get? b = some u → h'.get? b = some u) : Un fs ex H H h h' :=
  ⟨fun b ob q _ _ _ => k b ob q, fun b ob q _ _ _ => ⟨ob.slots, k b ob q⟩, fun _ _ _ n _ => n, fun b ob q _ => ⟨ob, k b ob q⟩, fun _ _ q => q, fun _ _ _ q => q, fun _ ps q => ⟨#[], by rw [q]; simp⟩⟩
theorem Un.refl : Un fs ex H H h h := Un.kept fun _ _ q => q
theorem Un.laid (k : ∀ b u, h.get? b = some u → h'.get? b = some u) (hp : h.objs.size ≤ a) (hn : H a = none) : Un fs ex H (upd H a o) h h' where
  keep := fun b u q _ _ _ => k b u q
  slot := fun b u q _ _ _ => ⟨u.slots, k b u q⟩
  free := fun b u q n _ => by rw [upd_ne (Nat.ne_of_lt (Nat.lt_of_lt_of_le (Heap.lt_size q) hp))]; exact n
  there := fun b u q _ => ⟨u, k b u q⟩
  tups := fun b xs q => by rw [upd_ne (ne_of_none q hn)]; exact q
  frzs := fun b u xs q => by rw [upd_ne (ne_of_none q hn)]; exact q
  tbls := fun b ps q => ⟨#[], by rw [upd_ne (ne_of_none q hn), q]; simp⟩
theorem Un.write (mu : Mut (H x)) (he : e = x ∨ H e = some (.own x)) (k : ∀ b u, b ≠ e → h.get? b = some u → h'.get? b = some u) (heo : ∃ u, h'.get? e = some u) : Un fs ex H (upd H x o) h h' := by
  have hx : ∀ b, H b = none → b ≠ x := fun b n z => by subst z; rw [n] at mu; exact mu
  have hb : ∀ b, H b = none → b ≠ e := fun b n z => by
    subst z
    rcases he with r | r
    · exact hx b n r
    · rw [n] at r; cases r
  have hm : ∀ b u, H b = some u → ¬ Mut (some u) → b ≠ x := fun b u q nm z => by subst z; rw [q] at mu; exact nm mu
  refine ⟨fun b u q n _ _ => k b u (hb b n) q, fun b u q n _ _ => ⟨u.slots, k b u (hb b n) q⟩, fun b u q n _ => by rw [upd_ne (hx b n)]; exact n, fun b u q _ => ?_,
    fun b xs q => by rw [upd_ne (hm b _ q fun z => z)]; exact q, fun b u xs q => by rw [upd_ne (hm b _ q fun z => z)]; exact q, fun b ps q => ⟨#[], by rw [upd_ne (hm b _ q fun z => z), q]; simp⟩⟩
  by_cases hbe : b = e
  · subst hbe; exact heo
  · exact ⟨u, k b u hbe q⟩
theorem Un.mono (u : Un fs ex H H1 h h1) (hs : ∀ b ∈ fs, b ∈ fs') (hx : ∀ b ∈ ex, b ∈ ex') : Un fs' ex' H H1 h h1 :=
  ⟨fun b ob q n hb he => u.keep b ob q n (fun z => hb (hs b z)) fun z => he (hx b z), fun _ _ q n _ he => u.any q n fun z => he (hx _ z), fun b ob q n he => u.free b ob q n fun z => he (hx b z), fun b ob q he => u.there b ob q fun z => he (hx b z), u.tups, u.frzs, u.tbls⟩
end
def trk (h : Heap) (H : Hp) : List Addr := (List.range h.objs.size).filter fun a => (H a).isSome
def hidT (h : Heap) (H : Hp) : Heap := PySem.W.hideAll h (trk h H)
theorem hidT_size (h : Heap) (H : Hp) : (hidT h H).objs.size = h.objs.size := PySem.W.hideAll_size _ _
theorem hidT_get {h : Heap} {H : Hp} {b : Addr} {o : Obj} (e : h.get? b = some o) (n : H b = none) : (hidT h H).get? b = some o :=
  PySem.W.hideAll_get _ e fun hm => by
    have q : (H b).isSome = true := (List.mem_filter.mp hm).2
    rw [n] at q; simp at q
theorem of_hidT {h : Heap} {H : Hp} {b : Addr} {o : Obj} (e : (hidT h H).get? b = some o) : h.get? b = some o ∧ H b = none := by
  have e' : h.get? b = some o := PySem.W.of_hideAll (trk h H) e
  refine ⟨e', ?_⟩
  cases q : H b with
  | none => rfl
  | some x =>
    have hm : b ∈ trk h H := List.mem_filter.mpr ⟨List.mem_range.mpr (Heap.lt_size e'), by simp [q]⟩
    have z : (hidT h H).get? b = none := PySem.W.hideAll_none (trk h H) hm
    rw [z] at e; cases e
def allNews (g h : Heap) (L : Addr) : List (Addr × Obj) := (List.range h.objs.size).filterMap fun a => if a = L ∨ (g.get? a).isSome = true then none else (h.get? a).map fun o => (a, o)
def rest (g h : Heap) (L d : Addr) : List (Addr × Obj) := (allNews g h L).filter fun p => decide (p.1 ≠ d)
end L2
namespace L2
open PySem PySem.Spec PyProof.Rows
structure Mod (K : PySem.W.Frag) (mg : Str → Option Value) (base : Heap) : Prop where
  kin : K.In base
  glob : base.Ns mainGlobals mg
  blt : ∃ mb, base.Ns builtinsNs mb ∧ ∀ x : Str, x ≠ "__name__" → mb x = bootBuiltins x
  nolimit : base.NoLimit
structure Cx where
  prog : Program
  w : World
  K : PySem.W.Frag
  mg : Str → Option Value
  base : Heap
  A : Around
  N : List Str
  s₀ : Shared
  H₀ : Hp
  env : Env
  outer : List Env
  stack : List Env
  ex : List Addr
  fn : Str → Bool
  calm : Bool
  pn : List (Addr × Obj)
  xe : Value → Shared → Prop
def frs (l : List Env) : List Addr := l.filterMap (·.frame)
abbrev Cx.fs (X : Cx) : List Addr := frs X.outer
def Vis (sc : Scope) (x : Str) : Prop := sc.names.lookup x = some .local ∨ sc.names.lookup x = some .cell ∨ sc.names.lookup x = some .free
def Loc (sc : Scope) (x : Str) : Prop := sc.names.lookup x = some .local ∨ sc.names.lookup x = some .cell
def Look (env : Env) (h : Heap) (m : Str → Option Value) (x : Str) (u : Value) : Prop :=
  (env.kindOf x = some .local ∧ m x = some u) ∨ ((env.kindOf x = some .cell ∨ env.kindOf x = some .free) ∧ ∃ c, env.cells.lookup x = some c ∧ h.IsCell c (some u))
structure Cx.Ok (X : Cx) : Prop where
  mod : Mod X.K X.mg X.base
  kind : X.env.scope.kind = .function
  glob : X.env.globals = mainGlobals
  blt : X.env.builtins = builtinsNs
  above : X.s₀.heap.objs.size ≤ X.env.locals
  inj : ∀ x y c, X.env.cells.lookup x = some c → X.env.cells.lookup y = some c → x = y
  has : ∀ x, (X.env.kindOf x = some .cell ∨ X.env.kindOf x = some .free) → ∃ c, X.env.cells.lookup x = some c
  cab : ∀ x c, X.fn x = true → X.env.cells.lookup x = some c → X.s₀.heap.objs.size ≤ c
  hd : X.calm = true → X.A.handled = none
  frames : X.A.frames = some X.stack
  stk : X.stack = X.outer ∨ (X.stack = X.env :: X.outer ∧ X.env.frame = some X.env.locals)
  exf : ∀ b ∈ X.ex, b ≠ X.env.locals ∧ ∀ x c, X.env.cells.lookup x = some c → c ≠ b
  bs : ∀ b o, X.base.get? b = some o → X.s₀.heap.get? b = some o ∧ X.H₀ b = none
  bsz : X.base.objs.size ≤ X.s₀.heap.objs.size
  noex : ∀ b o, X.base.get? b = some o → b ∉ X.ex
  exfs : ∀ b ∈ X.ex, b ∉ X.fs
  funs : X.s₀.heap.FunFrames X.base X.outer
  frf : ∀ b ∈ X.fs, X.H₀ b = none
structure Inv (X : Cx) (pins : List (Addr × Obj)) (σ : List (Option V)) (H : Hp) (s : Shared) : Prop where
  ok : X.Ok
  os : s.os = X.s₀.os
  bare : AllBare s.gens
  base : Un X.fs X.ex X.H₀ H X.s₀.heap s.heap
  loc : ∃ m, s.heap.Ns X.env.locals m ∧ ∀ (i : Nat) (x : Str) (v : V), X.N[i]? = some x → σ[i]? = some (some v) → Vis X.env.scope x → ∃ u, RelV v u ∧ Look X.env s.heap m x u
  cell : ∀ x c, X.env.cells.lookup x = some c → ∃ v, s.heap.IsCell c v
  free : H X.env.locals = none
  freeC : ∀ x c, X.env.cells.lookup x = some c → H c = none
  pin : ∀ p ∈ X.pn ++ pins, s.heap.get? p.1 = some p.2 ∧ H p.1 = none ∧ p.1 ≠ X.env.locals ∧ p.1 ∉ X.fs ∧ ∀ v, p.2.data ≠ .cell v
  hok : HOk X.prog X.w H s.heap
  len : σ.length = X.N.length
section
variable {X : Cx} {pins : List (Addr × Obj)} {σ : List (Option V)} {H H' : Hp} {s : Shared} {h' : Heap}
theorem Cx.Ok.nofr (ok : X.Ok) {b : Addr} {o : Obj} (e : X.base.get? b = some o) : b ∉ X.fs := fun hb => by
  have := (ok.funs.mem hb).1
  rw [e] at this; cases this
theorem Inv.bs (I : Inv X pins σ H s) : ∀ b o, X.base.get? b = some o → s.heap.get? b = some o ∧ H b = none := fun b o e =>
  ⟨I.base.keep b o (I.ok.bs b o e).1 (I.ok.bs b o e).2 (I.ok.nofr e) (I.ok.noex b o e), I.base.free b o (I.ok.bs b o e).1 (I.ok.bs b o e).2 (I.ok.noex b o e)⟩
theorem Inv.bk (I : Inv X pins σ H s) : ∀ b o, X.base.get? b = some o → s.heap.get? b = some o := fun b o e => (I.bs b o e).1
theorem Inv.mod (I : Inv X pins σ H s) : Mod X.K X.mg X.base := I.ok.mod
theorem Inv.kIn (I : Inv X pins σ H s) : X.K.In s.heap := I.ok.mod.kin.keeps I.bk
theorem Inv.nolimit (I : Inv X pins σ H s) : s.heap.NoLimit := I.ok.mod.nolimit.keeps I.bk
theorem Inv.fr (I : Inv X pins σ H s) : ∃ m, Fr X.base X.env.locals s.heap m :=
  let ⟨m, hn, _⟩ := I.loc
  ⟨m, hn, I.bk, Nat.le_trans I.ok.bsz I.ok.above⟩
theorem Inv.lt (I : Inv X pins σ H s) : X.env.locals < s.heap.objs.size := let ⟨_, hn, _⟩ := I.loc; hn.lt
theorem Inv.sz (I : Inv X pins σ H s) : X.s₀.heap.objs.size ≤ s.heap.objs.size := Nat.le_trans I.ok.above (Nat.le_of_lt I.lt)
theorem Inv.nofs (I : Inv X pins σ H s) {a : Addr} (h : s.heap.objs.size ≤ a) : a ∉ X.fs := fun hb => by
  obtain ⟨_, o, ho, _⟩ := I.ok.funs.mem hb
  exact absurd (Nat.lt_of_lt_of_le (Heap.lt_size ho) (Nat.le_trans I.sz h)) (Nat.lt_irrefl _)
theorem Inv.cne (I : Inv X pins σ H s) : ∀ x c, X.env.cells.lookup x = some c → c ≠ X.env.locals := fun x c e z => by
  obtain ⟨v, o, ho, hd⟩ := I.cell x c e
  obtain ⟨m, ⟨o', es, ep, ho', hd', _⟩, _⟩ := I.loc
  rw [z, ho'] at ho; cases ho; rw [hd'] at hd; cases hd
theorem Inv.funs (I : Inv X pins σ H s) : s.heap.FunFrames X.base X.outer := by
  have all : ∀ (l : List Env), (∀ b ∈ frs l, b ∈ X.fs) → X.s₀.heap.FunFrames X.base l → s.heap.FunFrames X.base l := by
    intro l
    induction l with
    | nil => intro _ _; trivial
    | cons env r ih =>
      intro hs hl
      obtain ⟨hk, ⟨L, o, hf, hn, ho, hd⟩, hr⟩ := hl
      have hL : L ∈ X.fs := hs L (by unfold frs; rw [List.filterMap_cons, hf]; exact List.mem_cons_self)
      obtain ⟨sl, e⟩ := I.base.slot L o ho (I.ok.frf L hL) hL fun z => I.ok.exfs L z hL
      exact ⟨hk, ⟨L, _, hf, hn, e, hd⟩, ih (fun b hb => hs b (by unfold frs; rw [List.filterMap_cons, hf]; exact List.mem_cons_of_mem _ hb)) hr⟩
  exact all X.outer (fun _ hb => hb) I.ok.funs
theorem Inv.stack (I : Inv X pins σ H s) : s.heap.FunFrames X.base X.stack := by
  rcases I.ok.stk with e | ⟨e, hf⟩
  · rw [e]; exact I.funs
  · rw [e]
    obtain ⟨m, hn, _⟩ := I.loc
    refine .cons (by rw [I.ok.kind]; decide) hf hn ?_ I.funs
    exact Heap.get?_none_of_le (Nat.le_trans I.ok.bsz I.ok.above)
theorem Inv.stkSub (I : Inv X pins σ H s) : ∀ b ∈ frs X.stack, b ∈ X.env.locals :: X.fs := fun b hb => by
  rcases I.ok.stk with e | ⟨e, hf⟩
  · rw [e] at hb; exact List.mem_cons_of_mem _ hb
  · rw [e] at hb
    unfold frs at hb
    rw [List.filterMap_cons, hf] at hb
    exact hb
theorem Inv.stkFree (I : Inv X pins σ H s) : ∀ b ∈ frs X.stack, H b = none := fun b hb => by
  rcases List.mem_cons.mp (I.stkSub b hb) with e | hb
  · rw [e]; exact I.free
  · obtain ⟨_, o, ho, _⟩ := I.ok.funs.mem hb
    exact I.base.free b o ho (I.ok.frf b hb) fun z => I.ok.exfs b z hb
theorem Inv.step {g' : Array GenState} {t' : Nat} {d' : Drawn} {ch : List Addr} (I : Inv X pins σ H s)
    (hch : ∀ b ∈ ch, (b ∈ X.ex ∨ X.s₀.heap.objs.size ≤ b) ∧ b ≠ X.env.locals ∧ (∀ x c, X.env.cells.lookup x = some c → c ≠ b) ∧ ∀ p ∈ X.pn ++ pins, p.1 ≠ b)
    (keep : ∀ b o, b ≠ X.env.locals → b ∉ X.fs → b ∉ ch → s.heap.get? b = some o → H b = none → h'.get? b = some o)
    (slot : ∀ b o, b ≠ X.env.locals → b ∈ X.fs → b ∉ ch → s.heap.get? b = some o → H b = none → ∃ sl, h'.get? b = some { o with slots := sl }) (free : ∀ b o, b ∉ ch → s.heap.get? b = some o → H b = none → H' b = none)
    (there : ∀ b o, b ∉ ch → s.heap.get? b = some o → ∃ o', h'.get? b = some o')
    (tups : ∀ b xs, H b = some (.tup xs) → H' b = some (.tup xs)) (frzs : ∀ b o u, H b = some (.frz o u) → H' b = some (.frz o u)) (tbls : ∀ b ps, H b = some (.tbl ps) → ∃ more, H' b = some (.tbl (ps ++ more)))
    (ns : ∀ m, s.heap.Ns X.env.locals m → h'.Ns X.env.locals m) (hok : HOk X.prog X.w H' h') (hg : AllBare g') :
    Inv X pins σ H' { s with heap := h', gens := g', drawn := d', toks := t' } := by
  have neL : ∀ b o, X.s₀.heap.get? b = some o → b ≠ X.env.locals := fun b o e => Nat.ne_of_lt (Nat.lt_of_lt_of_le (Heap.lt_size e) I.ok.above)
  have neC : ∀ b o, X.s₀.heap.get? b = some o → b ∉ X.ex → b ∉ ch := fun b o e hx hb => by
    rcases (hch b hb).1 with z | z
    · exact hx z
    · exact absurd (Nat.lt_of_lt_of_le (Heap.lt_size e) z) (Nat.lt_irrefl _)
  have cellK : ∀ x c, X.env.cells.lookup x = some c → ∀ v, s.heap.IsCell c v → h'.IsCell c v := fun x c e v ⟨o, ho, hd⟩ => by
    have nch : c ∉ ch := fun z => (hch c z).2.2.1 x c e rfl
    by_cases hc : c ∈ X.fs
    · obtain ⟨sl, q⟩ := slot c o (I.cne x c e) hc nch ho (I.freeC x c e)
      exact ⟨_, q, hd⟩
    · exact ⟨o, keep c o (I.cne x c e) hc nch ho (I.freeC x c e), hd⟩
  refine ⟨I.ok, I.os, hg, ⟨fun b o e n hb hx => ?_, fun b o e n hb hx => ?_, fun b o e n hx => ?_, fun b o e hx => ?_, fun b xs e => tups b xs (I.base.tups b xs e), fun b o xs e => frzs b o xs (I.base.frzs b o xs e), fun b ps e => ?_⟩, ?_, fun x c e => ?_, ?_, fun x c e => ?_, fun p hp => ?_, hok, I.len⟩
  · exact keep b o (neL b o e) hb (neC b o e hx) (I.base.keep b o e n hb hx) (I.base.free b o e n hx)
  · obtain ⟨sl, e1⟩ := I.base.slot b o e n hb hx
    obtain ⟨sl', e2⟩ := slot b _ (neL b o e) hb (neC b o e hx) e1 (I.base.free b o e n hx)
    exact ⟨sl', e2⟩
  · obtain ⟨o', e1⟩ := I.base.there b o e hx
    exact free b o' (neC b o e hx) e1 (I.base.free b o e n hx)
  · obtain ⟨o', e1⟩ := I.base.there b o e hx
    exact there b o' (neC b o e hx) e1
  · obtain ⟨m1, e1⟩ := I.base.tbls b ps e
    obtain ⟨m2, e2⟩ := tbls b _ e1
    exact ⟨m1 ++ m2, by rw [e2, Array.append_assoc]⟩
  · obtain ⟨m, hn, hl⟩ := I.loc
    refine ⟨m, ns m hn, fun i x v e1 e2 e3 => ?_⟩
    obtain ⟨u, r, l⟩ := hl i x v e1 e2 e3
    refine ⟨u, r, ?_⟩
    rcases l with l | ⟨k, c, e, z⟩
    · exact .inl l
    · exact .inr ⟨k, c, e, cellK x c e _ z⟩
  · obtain ⟨v, z⟩ := I.cell x c e
    exact ⟨v, cellK x c e v z⟩
  · obtain ⟨m, ⟨o, _, _, ho, _⟩, _⟩ := I.loc
    exact free _ o (fun z => (hch _ z).2.1 rfl) ho I.free
  · obtain ⟨v, o, ho, hd⟩ := I.cell x c e
    exact free c o (fun z => (hch c z).2.2.1 x c e rfl) ho (I.freeC x c e)
  · obtain ⟨e, n, ne, nf, d⟩ := I.pin p hp
    have nch : p.1 ∉ ch := fun z => (hch p.1 z).2.2.2 p hp rfl
    exact ⟨keep p.1 p.2 ne nf nch e n, free p.1 p.2 nch e n, ne, nf, d⟩
theorem Inv.un {t' : Nat} (I : Inv X pins σ H s) (u : Un X.fs [] H H' s.heap h') (hok : HOk X.prog X.w H' h') : Inv X pins σ H' { s with heap := h', toks := t' } := by
  obtain ⟨m, ⟨o, es, ep, ho, r⟩, _⟩ := id I.loc
  obtain ⟨sl, hL⟩ := u.any ho I.free (by simp)
  exact I.step (g' := s.gens) (d' := s.drawn) (ch := []) (fun _ z => nomatch z) (fun b o _ hb _ e n => u.keep b o e n hb (by simp)) (fun b o _ hb _ e n => u.slot b o e n hb (by simp)) (fun b o _ e n => u.free b o e n (by simp)) (fun b o _ e => u.there b o e (by simp)) u.tups u.frzs u.tbls (fun m' hm => by
    obtain ⟨o', es', ep', ho', r'⟩ := hm
    rw [ho] at ho'; cases ho'
    exact ⟨_, es', ep', hL, r'⟩) hok I.bare
theorem Inv.call {g' : Array GenState} {t' : Nat} {d' : Drawn} {ch : List Addr} (I : Inv X pins σ H s) (u : Un (frs X.stack) ch H H' s.heap h') (hok : HOk X.prog X.w H' h') (hg : AllBare g')
    (hch : ∀ b ∈ ch, (b ∈ X.ex ∨ X.s₀.heap.objs.size ≤ b) ∧ b ≠ X.env.locals ∧ (∀ x c, X.env.cells.lookup x = some c → c ≠ b) ∧ ∀ p ∈ X.pn ++ pins, p.1 ≠ b) :
    Inv X pins σ H' { s with heap := h', gens := g', drawn := d', toks := t' } := by
  obtain ⟨m, ⟨o, es, ep, ho, r⟩, _⟩ := id I.loc
  obtain ⟨sl, hL⟩ := u.any ho I.free fun z => (hch _ z).2.1 rfl
  exact I.step (ch := ch) hch (fun b o hL hb hc e n => u.keep b o e n (fun z => (List.mem_cons.mp (I.stkSub b z)).elim hL hb) hc) (fun b o _ _ hc e n => u.any e n hc) (fun b o hc e n => u.free b o e n hc) (fun b o hc e => u.there b o e hc) u.tups u.frzs u.tbls (fun m' hm => by
    obtain ⟨o', es', ep', ho', r'⟩ := hm
    rw [ho] at ho'; cases ho'
    exact ⟨_, es', ep', hL, r'⟩) hok hg
theorem Inv.turned {t' : Nat} {it : Addr} (I : Inv X pins σ H s) (k : ∀ b o, b ≠ it → s.heap.get? b = some o → h'.get? b = some o) (hn : H it = none) (hL : it ≠ X.env.locals)
    (h1 : it ∈ X.ex ∨ X.s₀.heap.objs.size ≤ it) (h2 : ∀ x c, X.env.cells.lookup x = some c → c ≠ it) (h3 : ∀ p ∈ X.pn ++ pins, p.1 ≠ it) : Inv X pins σ H { s with heap := h', toks := t' } := by
  have nit : ∀ b u, H b = some u → b ≠ it := fun b u e z => by rw [z, hn] at e; cases e
  refine I.step (g' := s.gens) (d' := s.drawn) (ch := [it]) (fun b hb => ?_) (fun b o _ _ hc e _ => k b o (fun z => hc (by simp [z])) e) (fun b o _ _ hc e _ => ⟨o.slots, k b o (fun z => hc (by simp [z])) e⟩) (fun _ _ _ _ n => n)
    (fun b o hc e => ⟨o, k b o (fun z => hc (by simp [z])) e⟩) (fun _ _ e => e) (fun _ _ _ e => e) (fun b ps e => ⟨#[], by rw [e]; simp⟩) (fun m hm => ?_) (fun b u e => ?_) I.bare
  · have e : b = it := by simpa using hb
    subst e
    exact ⟨h1, hL, h2, h3⟩
  · obtain ⟨o, es, ep, ho, r⟩ := hm
    exact ⟨o, es, ep, k _ o (Ne.symm hL) ho, r⟩
  · refine (I.hok b u e).stay (fun c v hc q => k c v ?_ q) (fun _ q => q) fun _ _ q => q
    rcases hc with z | z
    · rw [z]; exact nit b u e
    · exact nit c _ z
theorem Inv.tok (I : Inv X pins σ H s) (t : Nat) : Inv X pins σ H { s with toks := t } := I.un (h' := s.heap) (t' := t) Un.refl I.hok
theorem Inv.kept {t' : Nat} (I : Inv X pins σ H s) (k : ∀ b u, s.heap.get? b = some u → h'.get? b = some u) : Inv X pins σ H { s with heap := h', toks := t' } := I.un (Un.kept k) (I.hok.kept k)
theorem Inv.laid {a : Addr} {o : HO} {t' : Nat} (I : Inv X pins σ H s) (k : ∀ b u, s.heap.get? b = some u → h'.get? b = some u) (hp : s.heap.objs.size ≤ a) (new : ObjOk X.prog X.w (upd H a o) h' a o) :
    Inv X pins σ (upd H a o) { s with heap := h', toks := t' } := I.un (Un.laid k hp (I.hok.fresh hp)) (I.hok.laid k hp new)
theorem Inv.write {x e : Addr} {o : HO} {t' : Nat} (I : Inv X pins σ H s) (mu : Mut (H x)) (he : e = x ∨ H e = some (.own x)) (k : ∀ b u, b ≠ e → s.heap.get? b = some u → h'.get? b = some u) (heo : ∃ u, h'.get? e = some u)
    (new : ObjOk X.prog X.w (upd H x o) h' x o) : Inv X pins σ (upd H x o) { s with heap := h', toks := t' } := I.un (Un.write mu he k heo) (I.hok.write mu he k heo new)
theorem Inv.pins_of {pins' : List (Addr × Obj)} (I : Inv X pins σ H s) (h : ∀ p ∈ pins', s.heap.get? p.1 = some p.2 ∧ H p.1 = none ∧ p.1 ≠ X.env.locals ∧ p.1 ∉ X.fs ∧ ∀ v, p.2.data ≠ .cell v) : Inv X pins' σ H s :=
  ⟨I.ok, I.os, I.bare, I.base, I.loc, I.cell, I.free, I.freeC, fun p hp => (List.mem_append.mp hp).elim (fun z => I.pin p (List.mem_append_left _ z)) (h p), I.hok, I.len⟩
theorem nodup_ix {N : List Str} (hN : N.Nodup) {i j : Nat} {x : Str} (a : N[i]? = some x) (b : N[j]? = some x) : i = j := by
  obtain ⟨h1, e1⟩ := List.getElem?_eq_some_iff.mp a
  obtain ⟨h2, e2⟩ := List.getElem?_eq_some_iff.mp b
  exact (List.getElem_inj hN).mp (e1.trans e2.symm)
theorem store_ok2 {M : Model} {A : Around} {E : Value → Shared → Prop} {i : Nat} {x : Str} {v : V} {u : Value} {Q : Unit → Shared → Prop} (I : Inv X pins σ H s) (hN : X.N.Nodup) (hi : X.N[i]? = some x) (hx : Loc X.env.scope x) (r : RelV v u)
    (h : ∀ s', Inv X pins (σ.set i (some v)) H s' → (∃ a, Heap.SameBut a s.heap s'.heap ∧ (a = X.env.locals ∨ X.env.cells.lookup x = some a)) → Q () s') (hf : X.fn x = true ∨ X.env.scope.names.lookup x = some .local := by first | exact .inl rfl | exact .inr rfl | assumption) : wpAny M A (storeName X.env x u) Q E s := by
  obtain ⟨m, hn, hl⟩ := id I.loc
  have hcls : (X.env.scope.kind == .class || (X.env.scope.kind == .module && X.env.locals != X.env.globals)) = false := by rw [I.ok.kind]; rfl
  have hiσ : i < σ.length := by rw [I.len]; exact (List.getElem?_eq_some_iff.mp hi).1
  have cne := I.cne
  have tracked : ∀ {a : Addr} {h' : Heap}, (∃ o, s.heap.get? a = some o ∧ H a = none) → Heap.SameBut a s.heap h' → HOk X.prog X.w H h' := fun {a h'} ha hs b ob e => by
    obtain ⟨_, _, hfree⟩ := ha
    refine (I.hok b ob e).stay (fun c w' hc q => (hs.2 c ?_).trans q) (fun _ q => q) fun _ _ q => q
    rintro rfl
    rcases hc with rfl | hc
    · rw [hfree] at e; cases e
    · rw [hfree] at hc; cases hc
  rcases hx with hk | hk
  · refine wpAny_storeName_local hk hn (fun h' hn' hs => ?_) hcls
    obtain ⟨oL, _, _, hoL, _⟩ := id hn
    refine h _ ⟨I.ok, I.os, I.bare, ⟨fun b o e n hb hx => ?_, fun b o e n hb hx => ?_, I.base.free, fun b o e hx => ?_, I.base.tups, I.base.frzs, I.base.tbls⟩, ⟨_, hn', fun j y v' e1 e2 e3 => ?_⟩, fun y c e => ?_, I.free, I.freeC, fun p hp => ?_, tracked ⟨oL, hoL, I.free⟩ hs, by simpa using I.len⟩ ⟨_, hs, .inl rfl⟩
    · exact (hs.2 b (Nat.ne_of_lt (Nat.lt_of_lt_of_le (Heap.lt_size e) I.ok.above))).trans (I.base.keep b o e n hb hx)
    · obtain ⟨sl, e1⟩ := I.base.slot b o e n hb hx
      exact ⟨sl, (hs.2 b (Nat.ne_of_lt (Nat.lt_of_lt_of_le (Heap.lt_size e) I.ok.above))).trans e1⟩
    · obtain ⟨o', e1⟩ := I.base.there b o e hx
      exact ⟨o', (hs.2 b (Nat.ne_of_lt (Nat.lt_of_lt_of_le (Heap.lt_size e) I.ok.above))).trans e1⟩
    · by_cases hj : j = i
      · subst hj
        rw [hi] at e1; cases e1
        rw [List.getElem?_set_self hiσ] at e2
        cases e2
        exact ⟨u, r, .inl ⟨hk, by simp⟩⟩
      · rw [List.getElem?_set_ne (Ne.symm hj)] at e2
        obtain ⟨u', r', q⟩ := hl j y v' e1 e2 e3
        refine ⟨u', r', ?_⟩
        rcases q with ⟨k, e⟩ | ⟨k, c, e, z⟩
        · refine .inl ⟨k, ?_⟩
          have : y ≠ x := fun e => hj (nodup_ix hN e1 (e ▸ hi))
          simp [this, e]
        · exact .inr ⟨k, c, e, z.sameBut hs (cne y c e)⟩
    · obtain ⟨w', z⟩ := I.cell y c e
      exact ⟨w', z.sameBut hs (cne y c e)⟩
    · obtain ⟨e, n, ne, nf, d⟩ := I.pin p hp
      exact ⟨(hs.2 p.1 ne).trans e, n, ne, nf, d⟩
  · have hfn : X.fn x = true := by
      rcases hf with z | z
      · exact z
      · rw [z] at hk; cases hk
    obtain ⟨c, hc⟩ := I.ok.has x (.inl hk)
    obtain ⟨w', z⟩ := I.cell x c hc
    refine wpAny_storeName_cell I.ok.kind hk hc z (fun h' hc' hs => ?_)
    obtain ⟨oc, hoc, hocd⟩ := id z
    refine h { s with heap := h' } ⟨I.ok, I.os, I.bare, ⟨fun b o e n hb hx => ?_, fun b o e n hb hx => ?_, I.base.free, fun b o e hx => ?_, I.base.tups, I.base.frzs, I.base.tbls⟩, ⟨m, hn.sameBut hs (Ne.symm (cne x c hc)), fun j y v' e1 e2 e3 => ?_⟩, fun y c' e => ?_, I.free, I.freeC, fun p hp => ?_, tracked ⟨oc, hoc, I.freeC x c hc⟩ hs, by simpa using I.len⟩ ⟨c, hs, .inr hc⟩
    · exact (hs.2 b (Nat.ne_of_lt (Nat.lt_of_lt_of_le (Heap.lt_size e) (I.ok.cab x c hfn hc)))).trans (I.base.keep b o e n hb hx)
    · obtain ⟨sl, e1⟩ := I.base.slot b o e n hb hx
      exact ⟨sl, (hs.2 b (Nat.ne_of_lt (Nat.lt_of_lt_of_le (Heap.lt_size e) (I.ok.cab x c hfn hc)))).trans e1⟩
    · obtain ⟨o', e1⟩ := I.base.there b o e hx
      exact ⟨o', (hs.2 b (Nat.ne_of_lt (Nat.lt_of_lt_of_le (Heap.lt_size e) (I.ok.cab x c hfn hc)))).trans e1⟩
    · by_cases hj : j = i
      · subst hj
        rw [hi] at e1; cases e1
        rw [List.getElem?_set_self hiσ] at e2
        cases e2
        exact ⟨u, r, .inr ⟨.inl hk, c, hc, hc'⟩⟩
      · rw [List.getElem?_set_ne (Ne.symm hj)] at e2
        obtain ⟨u', r', q⟩ := hl j y v' e1 e2 e3
        refine ⟨u', r', ?_⟩
        rcases q with q | ⟨k, c', e, z'⟩
        · exact .inl q
        · refine .inr ⟨k, c', e, z'.sameBut hs ?_⟩
          rintro rfl
          exact hj (nodup_ix hN e1 (I.ok.inj _ _ _ e hc ▸ hi))
    · by_cases hcc : c' = c
      · subst hcc; exact ⟨_, hc'⟩
      · obtain ⟨w2, z2⟩ := I.cell y c' e
        exact ⟨w2, z2.sameBut hs hcc⟩
    · obtain ⟨e, n, ne, nf, d⟩ := I.pin p hp
      refine ⟨(hs.2 p.1 ?_).trans e, n, ne, nf, d⟩
      intro q
      rw [q, hoc] at e
      have q' : oc = p.2 := Option.some.inj e
      exact d w' (by rw [← q']; exact hocd)
theorem store_ok {M : Model} {A : Around} {E : Value → Shared → Prop} {i : Nat} {x : Str} {v : V} {u : Value} {Q : Unit → Shared → Prop} (I : Inv X pins σ H s) (hN : X.N.Nodup) (hi : X.N[i]? = some x) (hx : Loc X.env.scope x) (r : RelV v u)
    (h : ∀ s', Inv X pins (σ.set i (some v)) H s' → Q () s') (hf : X.fn x = true ∨ X.env.scope.names.lookup x = some .local := by first | exact .inl rfl | exact .inr rfl | assumption) : wpAny M A (storeName X.env x u) Q E s :=
  store_ok2 I hN hi hx r (fun s' I' _ => h s' I') hf
theorem Inv.call' {s' : Shared} {ch : List Addr} (I : Inv X pins σ H s) (ho : s'.os = s.os) (u : Un (frs X.stack) ch H H' s.heap s'.heap) (hok : HOk X.prog X.w H' s'.heap) (hg : AllBare s'.gens)
    (hch : ∀ b ∈ ch, (b ∈ X.ex ∨ X.s₀.heap.objs.size ≤ b) ∧ b ≠ X.env.locals ∧ (∀ x c, X.env.cells.lookup x = some c → c ≠ b) ∧ ∀ p ∈ X.pn ++ pins, p.1 ≠ b) : Inv X pins σ H' s' := by
  obtain ⟨h', g', d', t', o'⟩ := s'
  have e : o' = s.os := ho
  subst e
  exact I.call (g' := g') (t' := t') (d' := d') u hok hg hch
end
abbrev XK := Value → Option Addr → Hp → Prop
abbrev St := List (Option V)
abbrev VK := V → Hp → Prop
abbrev TE := St → Hp → VK → Prop
abbrev TT := St → Hp → (Bool → Hp → Prop) → Prop
abbrev TA := St → Hp → (List V → Hp → Prop) → Prop
structure Ends where
  nx : St → Hp → Prop
  rt : VK
  bk : St → Hp → Prop := fun _ _ => False
  ct : St → Hp → Prop := fun _ _ => False
abbrev TS := Ends → St → Hp → Prop
def EP (X : Cx) (pins : List (Addr × Obj)) (σ : St) (Q : VK) (u : Value) (s' : Shared) : Prop := ∃ v H', Inv X pins σ H' s' ∧ RelV v u ∧ Q v H'
def TP (X : Cx) (pins : List (Addr × Obj)) (σ : St) (Q : Bool → Hp → Prop) (b : Bool) (s' : Shared) : Prop := ∃ H', Inv X pins σ H' s' ∧ Q b H'
def AP (X : Cx) (pins : List (Addr × Obj)) (σ : St) (Q : List V → Hp → Prop) (us : List Value) (s' : Shared) : Prop := ∃ vs H', Inv X pins σ H' s' ∧ Vals vs us ∧ Q vs H'
def SP (X : Cx) (pins : List (Addr × Obj)) (D : Ends) (f : Flow) (s' : Shared) : Prop :=
  match f with
  | .next => ∃ σ' H', Inv X pins σ' H' s' ∧ D.nx σ' H'
  | .brk => ∃ σ' H', Inv X pins σ' H' s' ∧ D.bk σ' H'
  | .cont => ∃ σ' H', Inv X pins σ' H' s' ∧ D.ct σ' H'
  | .ret u => ∃ v σ' H', Inv X pins σ' H' s' ∧ RelV v u ∧ D.rt v H'
def PE (X : Cx) (e : Expr) (t : TE) : Prop :=
  ∀ (pins : List (Addr × Obj)) (s : Shared) (σ : St) (H : Hp) (Q : VK), Inv X pins σ H s → t σ H Q → wpAny (model X.prog X.w) X.A (eval e X.env) (EP X pins σ Q) X.xe s
def PT (X : Cx) (e : Expr) (t : TT) : Prop :=
  ∀ (pins : List (Addr × Obj)) (s : Shared) (σ : St) (H : Hp) (Q : Bool → Hp → Prop), Inv X pins σ H s → t σ H Q → wpAny (model X.prog X.w) X.A (isTrue e X.env (eval e X.env)) (TP X pins σ Q) X.xe s
def PW (X : Cx) (e : Expr) (t : TT) : Prop :=
  ∀ (whole : Sem Value) (pins : List (Addr × Obj)) (s : Shared) (σ : St) (H : Hp) (Q : Bool → Hp → Prop), Inv X pins σ H s → t σ H Q → wpAny (model X.prog X.w) X.A (isTrue e X.env whole) (TP X pins σ Q) X.xe s
theorem PW.pt {X : Cx} {e : Expr} {t : TT} (h : PW X e t) : PT X e t := h _
def PA (X : Cx) (es : List Expr) (t : TA) : Prop :=
  ∀ (pos : Pos) (pins : List (Addr × Obj)) (s : Shared) (σ : St) (H : Hp) (Q : List V → Hp → Prop), Inv X pins σ H s → t σ H Q → wpAny (model X.prog X.w) X.A (spliced (backTo pos (starEach es X.env))) (AP X pins σ Q) X.xe s
def PS (X : Cx) (st : Stmt) (t : TS) : Prop :=
  ∀ (pins : List (Addr × Obj)) (s : Shared) (σ : St) (H : Hp) (D : Ends), Inv X pins σ H s → t D σ H → wpAny (model X.prog X.w) X.A (exec st X.env) (SP X pins D) X.xe s
def PSs (X : Cx) (st : List Stmt) (t : TS) : Prop :=
  ∀ (pins : List (Addr × Obj)) (s : Shared) (σ : St) (H : Hp) (D : Ends), Inv X pins σ H s → t D σ H → wpAny (model X.prog X.w) X.A (execs st X.env) (SP X pins D) X.xe s
theorem thn {α : Type} {t : Sem α} {Q Q' : α → Shared → Prop} {M : Model} {A : Around} {E : Value → Shared → Prop} {s : Shared} (h : wpAny M A t Q E s) (hQ : ∀ a s, Q a s → Q' a s) : wpAny M A t Q' E s := wpAny_mono h hQ fun _ _ x => x
end L2
namespace L2
open PySem PySem.Spec PyProof.Rows
section
variable {X : Cx}
def tVar (i : Nat) : TE := fun σ H Q => ∃ v, σ[i]? = some (some v) ∧ Q v H
def tC (v : V) : TE := fun _ H Q => Q v H
theorem pe_var {i : Nat} {x : Str} {pos : Pos} (hN : X.N[i]? = some x) (hv : Vis X.env.scope x) (hd : (x == ("__debug__" : Str)) = false := by decide) (hcd : (x == ("__classdict__" : Str)) = false := by decide) : PE X (.Name x pos) (tVar i) := by
  intro pins s σ H Q I h
  obtain ⟨v, e, h⟩ := h
  obtain ⟨m, hn, hl⟩ := I.loc
  obtain ⟨u, r, l⟩ := hl i x v hN e hv
  have fin : EP X pins σ Q u s := ⟨v, H, I, r, h⟩
  rcases l with ⟨hk, hm⟩ | ⟨hk, c, hc, hcell⟩
  · exact wpAny_Name (wpAny_loadName_local I.ok.kind hk hn hm fin) hd
  · rcases hk with hk | hk
    · exact wpAny_Name (wpAny_loadName_cell I.ok.kind hk hc hcell fin) hd
    · exact wpAny_Name (wpAny_loadName_free I.ok.kind hk hc hcell fin hcd) hd
theorem pe_int {i j pos} : PE X (.Constant (.int i) j pos) (tC (.int i)) := fun _ _ _ H _ I h => wpAny_Constant_int ⟨.int i, H, I.tok _, ⟨_, rfl⟩, h⟩
theorem pe_bl {b j pos} : PE X (.Constant (.bool b) j pos) (tC (.bl b)) := fun _ _ _ H _ I h => Constant_bool ⟨.bl b, H, I, rfl, h⟩
theorem pe_non {j pos} : PE X (.Constant .none j pos) (tC .non) := fun _ _ _ H _ I h => Constant_none ⟨.non, H, I, rfl, h⟩
theorem pe_str {x j pos} : PE X (.Constant (.str x) j pos) (tC (.str x)) := fun _ _ _ H _ I h => Calls.Constant_str ⟨.str x, H, I.tok _, ⟨_, rfl⟩, h⟩
def Gl (X : Cx) (x : Str) : Prop := X.env.kindOf x = some .globalImplicit
theorem ld_glob {E : Value → Shared → Prop} {pins : List (Addr × Obj)} {s : Shared} {σ : St} {H : Hp} {x : Str} {u : Value} {pos : Pos} {Q : Value → Shared → Prop} (I : Inv X pins σ H s) (hg : Gl X x) (hm : X.mg x = some u) (h : Q u s)
    (hd : (x == ("__debug__" : Str)) = false := by decide) : wpAny (model X.prog X.w) X.A (eval (.Name x pos) X.env) Q E s :=
  Calls.Name_function_global I.ok.kind hg (Calls.loadGlobal_global (by rw [I.ok.glob]; exact I.mod.glob.keeps I.bk) hm h) hd
theorem ld_blt {E : Value → Shared → Prop} {pins : List (Addr × Obj)} {s : Shared} {σ : St} {H : Hp} {x : Str} {u : Value} {pos : Pos} {Q : Value → Shared → Prop} (I : Inv X pins σ H s) (hg : Gl X x) (hm : X.mg x = none) (hv : bootBuiltins x = some u) (h : Q u s)
    (hn : x ≠ "__name__" := by decide) (hd : (x == ("__debug__" : Str)) = false := by decide) : wpAny (model X.prog X.w) X.A (eval (.Name x pos) X.env) Q E s := by
  obtain ⟨mb, h1, h2⟩ := I.mod.blt
  exact Calls.Name_function_global I.ok.kind hg (Calls.loadGlobal_builtin (by rw [I.ok.glob]; exact I.mod.glob.keeps I.bk) hm (by rw [I.ok.blt]; exact h1.keeps I.bk) ((h2 x hn).trans hv) h) hd
theorem pe_glob {x : Str} {v : V} {u : Value} {pos : Pos} (hg : Gl X x) (hm : X.mg x = some u) (r : RelV v u) (hd : (x == ("__debug__" : Str)) = false := by decide) : PE X (.Name x pos) (tC v) :=
  fun _ _ _ H _ I h => ld_glob I hg hm ⟨v, H, I, r, h⟩ hd
theorem pe_bltn {x : Str} {v : V} {u : Value} {pos : Pos} (hg : Gl X x) (hm : X.mg x = none) (hv : bootBuiltins x = some u) (r : RelV v u) (hn : x ≠ "__name__" := by decide) (hd : (x == ("__debug__" : Str)) = false := by decide) : PE X (.Name x pos) (tC v) :=
  fun _ _ _ H _ I h => ld_blt I hg hm hv ⟨v, H, I, r, h⟩ hn hd
def t2I (ta tb : TE) (k : Int → Int → Hp → Prop) : St → Hp → Prop := fun σ H => ta σ H fun x H1 => tb σ H1 fun y H2 => ∃ i j, x = .int i ∧ y = .int j ∧ k i j H2
def tAdd (ta tb : TE) : TE := fun σ H Q => t2I ta tb (fun i j H2 => Q (.int (i + j)) H2) σ H
def tSub (ta tb : TE) : TE := fun σ H Q => t2I ta tb (fun i j H2 => Q (.int (i - j)) H2) σ H
def tMul (ta tb : TE) : TE := fun σ H Q => t2I ta tb (fun i j H2 => (-(2 ^ 64) < i ∧ i < 2 ^ 64) ∧ Q (.int (i * j)) H2) σ H
variable {a b : Expr} {ta tb : TE} {pos : Pos}
def PC (X : Cx) (op : CmpOp) (a b : Expr) (t : TE) : Prop :=
  ∀ (pins : List (Addr × Obj)) (s : Shared) (σ : St) (H : Hp) (Q : VK), Inv X pins σ H s → t σ H Q →
    wpAny (model X.prog X.w) X.A (eval a X.env) (fun v s₁ => wpAny (model X.prog X.w) X.A (eval b X.env) (fun u s₂ => wpAny (model X.prog X.w) X.A (compareOp op v u) (EP X pins σ Q) X.xe s₂) X.xe s₁) X.xe s
def tCmp (p : Int → Int → Bool) (ta tb : TE) : TE := fun σ H Q => t2I ta tb (fun i j H2 => Q (.bl (p i j)) H2) σ H
abbrev tLt : TE → TE → TE := tCmp fun i j => decide (i < j)
abbrev tLe : TE → TE → TE := tCmp fun i j => decide (i ≤ j)
abbrev tGt : TE → TE → TE := tCmp fun i j => decide (j < i)
abbrev tGe : TE → TE → TE := tCmp fun i j => decide (j ≤ i)
abbrev tEqI : TE → TE → TE := tCmp fun i j => decide (i = j)
abbrev tNeI : TE → TE → TE := tCmp fun i j => !decide (i = j)
def tIsN (ta : TE) : TE := fun σ H Q => ta σ H fun x H1 => Q (.bl (decide (x = .non))) H1
def tNotN (ta : TE) : TE := fun σ H Q => ta σ H fun x H1 => Q (.bl (!decide (x = .non))) H1
def tB (t : TE) : TT := fun σ H Q => t σ H fun x H1 => ∃ c, x = .bl c ∧ Q c H1
theorem pt_val {e : Expr} {t : TE} (h : PE X e t) (he : ∀ whole, isTrue e X.env whole = (do let v ← whole; standAt e.pos; holding [v] (truthy v)) := by intro _; rfl) : PT X e (tB t) := by
  intro pins s σ H Q I hw
  refine isTrue_plain (thn (h pins s σ H _ I hw) fun v s1 ⟨x, H1, I1, r1, q1⟩ => ?_) (he _)
  obtain ⟨d, rfl, q⟩ := q1
  cases r1
  exact wpAny_truthy_bool ⟨H1, I1, q⟩
variable {tA tB' : TT} {rest : List Expr}
def tAnd (t u : TT) : TT := fun σ H Q => t σ H fun c H1 => if c = true then u σ H1 Q else Q false H1
def tOr (t u : TT) : TT := fun σ H Q => t σ H fun c H1 => if c = true then Q true H1 else u σ H1 Q
def tNot (t : TT) : TT := fun σ H Q => t σ H fun c H1 => Q (!c) H1
theorem pw_and1 (ha : PT X a tA) : PW X (.BoolOp .And [a] pos) tA := by
  intro wh pins s σ H Q I h
  refine isTrue_and (thn (ha pins s σ H Q I h) fun c s1 e => ?_)
  cases c with
  | true => exact isTrue_and_nil e
  | false => exact e
theorem pw_or1 (ha : PT X a tA) : PW X (.BoolOp .Or [a] pos) tA := by
  intro wh pins s σ H Q I h
  refine isTrue_or (thn (ha pins s σ H Q I h) fun c s1 e => ?_)
  cases c with
  | false => exact isTrue_or_nil e
  | true => exact e
theorem pw_and (ha : PT X a tA) (hb : PW X (.BoolOp .And (b :: rest) pos) tB') : PW X (.BoolOp .And (a :: b :: rest) pos) (tAnd tA tB') := by
  intro wh pins s σ H Q I h
  refine isTrue_and (thn (ha pins s σ H _ I h) fun c s1 ⟨H1, I1, q1⟩ => ?_)
  cases c with
  | true => exact hb wh pins s1 σ H1 Q I1 q1
  | false => exact ⟨H1, I1, q1⟩
theorem pw_or (ha : PT X a tA) (hb : PW X (.BoolOp .Or (b :: rest) pos) tB') : PW X (.BoolOp .Or (a :: b :: rest) pos) (tOr tA tB') := by
  intro wh pins s σ H Q I h
  refine isTrue_or (thn (ha pins s σ H _ I h) fun c s1 ⟨H1, I1, q1⟩ => ?_)
  cases c with
  | true => exact ⟨H1, I1, q1⟩
  | false => exact hb wh pins s1 σ H1 Q I1 q1
theorem pt_not (ha : PT X a tA) : PT X (.UnaryOp .Not a pos) (tNot tA) := by
  intro pins s σ H Q I h
  exact isTrue_not (ha pins s σ H (fun c H1 => Q (!c) H1) I h)
def tAndV (ta tb : TE) : TE := fun σ H Q => ta σ H fun x H1 => ∃ c, x = .bl c ∧ if c = true then tb σ H1 Q else Q (.bl false) H1
def tOrV (ta tb : TE) : TE := fun σ H Q => ta σ H fun x H1 => ∃ c, x = .bl c ∧ if c = true then Q (.bl true) H1 else tb σ H1 Q
def tNotV (ta : TE) : TE := fun σ H Q => ta σ H fun x H1 => ∃ c, x = .bl c ∧ Q (.bl (!c)) H1
theorem pe_one {op} {t : TE} (h : PE X a t) : PE X (.BoolOp op [a] pos) t := fun pins s σ H Q I hw => BoolOp_one (h pins s σ H Q I hw)
theorem pe_and (ha : PE X a ta) (hb : PE X (.BoolOp .And (b :: rest) pos) tb) : PE X (.BoolOp .And (a :: b :: rest) pos) (tAndV ta tb) := by
  intro pins s σ H Q I h
  refine BoolOp_and (thn (ha pins s σ H _ I h) fun v s1 ⟨x, H1, I1, r1, q1⟩ => ?_)
  obtain ⟨c, rfl, q1⟩ := q1
  cases r1
  refine wpAny_truthy_bool ?_
  cases c with
  | true => exact hb pins s1 σ H1 Q I1 q1
  | false => exact ⟨.bl false, H1, I1, rfl, q1⟩
theorem pe_or (ha : PE X a ta) (hb : PE X (.BoolOp .Or (b :: rest) pos) tb) : PE X (.BoolOp .Or (a :: b :: rest) pos) (tOrV ta tb) := by
  intro pins s σ H Q I h
  refine BoolOp_or (thn (ha pins s σ H _ I h) fun v s1 ⟨x, H1, I1, r1, q1⟩ => ?_)
  obtain ⟨c, rfl, q1⟩ := q1
  cases r1
  refine wpAny_truthy_bool ?_
  cases c with
  | false => exact hb pins s1 σ H1 Q I1 q1
  | true => exact ⟨.bl true, H1, I1, rfl, q1⟩
theorem pe_not (ha : PE X a ta) : PE X (.UnaryOp .Not a pos) (tNotV ta) := by
  intro pins s σ H Q I h
  refine UnaryOp_ (thn (ha pins s σ H _ I h) fun v s1 ⟨x, H1, I1, r1, q1⟩ => ?_)
  obtain ⟨c, rfl, q1⟩ := q1
  cases r1
  exact not_of (wpAny_truthy_bool ⟨.bl (!c), H1, I1, rfl, q1⟩)
def tIf (t : TT) (ta tb : TE) : TE := fun σ H Q => t σ H fun c H1 => if c = true then ta σ H1 Q else tb σ H1 Q
end
end L2
namespace L2
open PySem PySem.Spec PyProof.Rows
def SqL (K : PySem.W.Frag) (H : Hp) (a : Addr) (xs : List V) : Prop :=
  Rd H a (.lst xs) ∨
    ∃ (o : Obj) (its : Array Value) (n : Nat), K.lookup a = some o ∧ o.cls = .type "list" ∧ o.dict = none ∧ o.data = .seq its n ∧ its.size ≤ sizeLine ∧ Vals xs its.toList
def SqT (K : PySem.W.Frag) (H : Hp) (a : Addr) (xs : List V) : Prop :=
  Rd H a (.tup xs) ∨
    ∃ (o : Obj) (its : Array Value) (n : Nat), K.lookup a = some o ∧ o.cls = .type "tuple" ∧ o.data = .seq its n ∧ its.size ≤ sizeLine ∧ Vals xs its.toList
def absV : Value → Option V
  | .none => some .non
  | .bool b => some (.bl b)
  | .int i _ => some (.int i)
  | .str x _ => some (.str x)
  | .bytes b _ => some (.byt b)
  | .float b _ => some (.flt b)
  | .ref a => some (.ref a)
  | .type n => some (.ty n)
  | _ => none
theorem RelV.abs {x : V} {u : Value} (r : RelV x u) : absV u = some x := by
  cases x with
  | non => cases r; rfl
  | bl _ => cases r; rfl
  | int _ => obtain ⟨t, rfl⟩ := r; rfl
  | str _ => obtain ⟨t, rfl⟩ := r; rfl
  | byt _ => obtain ⟨t, rfl⟩ := r; rfl
  | flt _ => obtain ⟨t, rfl⟩ := r; rfl
  | ref _ => cases r; rfl
  | ty _ => cases r; rfl
theorem RelV.inj {x y : V} {u : Value} (r : RelV x u) (q : RelV y u) : x = y := Option.some.inj (r.abs.symm.trans q.abs)
theorem Vals.inj : ∀ {xs ys : List V} {us : List Value}, Vals xs us → Vals ys us → xs = ys
  | _, _, _, .nil, .nil => rfl
  | _, _, _, .cons r t, .cons r' t' => by rw [r.inj r', Vals.inj t t']
section
variable {X : Cx} {pins : List (Addr × Obj)} {σ : St} {H : Hp} {s : Shared} {a : Addr} {xs ys : List V}
theorem SqL.of {K : PySem.W.Frag} (h : H a = some (.lst xs)) : SqL K H a xs := .inl (.inl h)
theorem SqT.of {K : PySem.W.Frag} (h : H a = some (.tup xs)) : SqT K H a xs := .inl (.inl h)
theorem Inv.list (I : Inv X pins σ H s) (h : SqL X.K H a xs) : ∃ its : List Value, Vals xs its ∧ PlainL s.heap a its.toArray ∧ xs.length ≤ sizeLine := by
  rcases h with h | ⟨o, its, n, hk, hc, hd, hs, hz, r⟩
  · obtain ⟨z, its, n, r, e⟩ := h.ok I.hok
    exact ⟨its, r, ⟨_, n, e, rfl, rfl, rfl⟩, z⟩
  · refine ⟨its.toList, r, ⟨o, n, I.kIn a o hk, hc, hd, by simpa using hs⟩, ?_⟩
    have e := r.length
    simp only [Array.length_toList] at e
    omega
theorem Inv.tuple (I : Inv X pins σ H s) (h : SqT X.K H a xs) : ∃ its : List Value, Vals xs its ∧ IsTup s.heap a its.toArray ∧ xs.length ≤ sizeLine := by
  rcases h with h | ⟨o, its, n, hk, hc, hs, hz, r⟩
  · obtain ⟨z, its, r, p⟩ := h.ok I.hok
    exact ⟨its, r, p, z⟩
  · refine ⟨its.toList, r, ⟨o, I.kIn a o hk, hc, n, by simpa using hs⟩, ?_⟩
    have e := r.length
    simp only [Array.length_toList] at e
    omega
theorem Inv.list_inj (I : Inv X pins σ H s) (h : SqL X.K H a xs) (h' : SqL X.K H a ys) : xs = ys := by
  obtain ⟨its, r, ⟨o, n, e, _, _, d⟩, _⟩ := I.list h
  obtain ⟨its', r', ⟨o', n', e', _, _, d'⟩, _⟩ := I.list h'
  rw [e] at e'; cases e'
  rw [d] at d'
  injection d' with d1 _
  have : its = its' := by simpa using congrArg Array.toList d1
  subst this
  exact r.inj r'
theorem Inv.tuple_inj (I : Inv X pins σ H s) (h : SqT X.K H a xs) (h' : SqT X.K H a ys) : xs = ys := by
  obtain ⟨its, r, ⟨o, e, _, n, d⟩, _⟩ := I.tuple h
  obtain ⟨its', r', ⟨o', e', _, n', d'⟩, _⟩ := I.tuple h'
  rw [e] at e'; cases e'
  rw [d] at d'
  injection d' with d1 _
  have : its = its' := by simpa using congrArg Array.toList d1
  subst this
  exact r.inj r'
end
abbrev Cx.wish (X : Cx) (E : Value → Shared → Prop) : Cx := { X with xe := E }
abbrev Cx.nox (X : Cx) : Cx := X.wish fun _ _ => False
theorem Cx.Ok.wish {X : Cx} (ok : X.Ok) (E : Value → Shared → Prop) : (X.wish E).Ok :=
  ⟨ok.mod, ok.kind, ok.glob, ok.blt, ok.above, ok.inj, ok.has, ok.cab, ok.hd, ok.frames, ok.stk, ok.exf, ok.bs, ok.bsz, ok.noex, ok.exfs, ok.funs, ok.frf⟩
theorem Cx.Ok.unwish {X : Cx} {E : Value → Shared → Prop} (ok : (X.wish E).Ok) : X.Ok :=
  ⟨ok.mod, ok.kind, ok.glob, ok.blt, ok.above, ok.inj, ok.has, ok.cab, ok.hd, ok.frames, ok.stk, ok.exf, ok.bs, ok.bsz, ok.noex, ok.exfs, ok.funs, ok.frf⟩
section
variable {X : Cx} {pins : List (Addr × Obj)} {σ : St} {H : Hp} {s : Shared} {E : Value → Shared → Prop}
theorem Inv.wish (I : Inv X pins σ H s) (E : Value → Shared → Prop) : Inv (X.wish E) pins σ H s := ⟨I.ok.wish E, I.os, I.bare, I.base, I.loc, I.cell, I.free, I.freeC, I.pin, I.hok, I.len⟩
theorem Inv.unwish (I : Inv (X.wish E) pins σ H s) : Inv X pins σ H s := ⟨I.ok.unwish, I.os, I.bare, I.base, I.loc, I.cell, I.free, I.freeC, I.pin, I.hok, I.len⟩
theorem SP.unwish {D : Ends} {f : Flow} {s' : Shared} (h : SP (X.wish E) pins D f s') : SP X pins D f s' := by
  cases f with
  | next => obtain ⟨σ', H', I, q⟩ := h; exact ⟨σ', H', I.unwish, q⟩
  | brk => obtain ⟨σ', H', I, q⟩ := h; exact ⟨σ', H', I.unwish, q⟩
  | cont => obtain ⟨σ', H', I, q⟩ := h; exact ⟨σ', H', I.unwish, q⟩
  | ret u => obtain ⟨v, σ', H', I, r, q⟩ := h; exact ⟨v, σ', H', I.unwish, r, q⟩
theorem PE.nox {e : Expr} {t : TE} (h : PE X.nox e t) : PE X e t := fun pins s σ H Q I hw =>
  wpAny_mono (h pins s σ H Q (I.wish _) hw) (fun _ _ ⟨v, H', I', r, q⟩ => ⟨v, H', I'.unwish, r, q⟩) fun _ _ z => False.elim z
theorem PT.nox {e : Expr} {t : TT} (h : PT X.nox e t) : PT X e t := fun pins s σ H Q I hw =>
  wpAny_mono (h pins s σ H Q (I.wish _) hw) (fun _ _ ⟨H', I', q⟩ => ⟨H', I'.unwish, q⟩) fun _ _ z => False.elim z
theorem PSs.nox {st : List Stmt} {t : TS} (h : PSs X.nox st t) : PSs X st t := fun pins s σ H D I hw =>
  wpAny_mono (h pins s σ H D (I.wish _) hw) (fun _ _ q => q.unwish) fun _ _ z => False.elim z
end
section
variable {X : Cx} {st : Stmt} {rest : List Stmt} {t u : TS} {e : Expr} {te : TE} {pos : Pos}
def tNext : TS := fun D σ H => D.nx σ H
def tSeq (t u : TS) : TS := fun D σ H => t { D with nx := u D } σ H
theorem pss_nil : PSs X [] tNext := fun _ _ σ H _ I h => wpAny_execs_nil ⟨σ, H, I, h⟩
theorem pss_cons (h1 : PS X st t) (h2 : PSs X rest u) : PSs X (st :: rest) (tSeq t u) := by
  intro pins s σ H D I h
  refine wpAny_execs_cons (thn (h1 pins s σ H { D with nx := u D } I h) fun f s1 q => ?_)
  cases f with
  | next =>
    obtain ⟨σ', H', I', q⟩ := q
    exact h2 pins s1 σ' H' D I' q
  | ret v => exact q
  | brk => exact q
  | cont => exact q
theorem pss_one (h1 : PS X st t) : PSs X [st] t := by
  intro pins s σ H D I h
  refine wpAny_execs_cons (thn (h1 pins s σ H D I h) fun f s1 q => ?_)
  cases f with
  | next => exact wpAny_execs_nil q
  | ret v => exact q
  | brk => exact q
  | cont => exact q
def tBreak : TS := fun D σ H => D.bk σ H
def tCont : TS := fun D σ H => D.ct σ H
theorem Inv.quiet {pins : List (Addr × Obj)} {σ : St} {H : Hp} {s : Shared} (I : Inv X pins σ H s) : interactive X.env = false := by simp [interactive, I.ok.kind]
def tDrop (te : TE) : TS := fun D σ H => te σ H fun _ H1 => D.nx σ H1
theorem ps_expr (he : PE X e te) (hs : swapsWith e none pos.line X.env = pure false := by rfl) : PS X (.Expr e pos) (tDrop te) := by
  intro pins s σ H D I h
  exact wpAny_Expr_any (thn (he pins s σ H _ I h) fun v s1 ⟨x, H1, I1, r1, q1⟩ => ⟨σ, H1, I1, q1⟩) I.quiet hs
def tRet (te : TE) : TS := fun D σ H => te σ H D.rt
theorem ps_ret (he : PE X e te) : PS X (.Return (some e) pos) (tRet te) := by
  intro pins s σ H D I h
  exact wpAny_Return_some (thn (he pins s σ H _ I h) fun v s1 ⟨x, H1, I1, r1, q1⟩ => ⟨x, σ, H1, I1, r1, q1⟩)
def tRetN : TS := fun D _ H => D.rt .non H
def tIfS (c : TT) (t u : TS) : TS := fun D σ H => c σ H fun b H1 => if b = true then t D σ H1 else u D σ H1
theorem ps_if {c : Expr} {a b : List Stmt} {tc : TT} (hc : PT X c tc) (ha : PSs X a t) (hb : PSs X b u) : PS X (.If c a b pos) (tIfS tc t u) := by
  intro pins s σ H D I h
  refine wpAny_If (thn (hc pins s σ H _ I h) fun d s1 ⟨H1, I1, q1⟩ => ?_)
  cases d with
  | true => exact ha pins s1 σ H1 D I1 q1
  | false => exact hb pins s1 σ H1 D I1 q1
def tNever : TS := fun _ _ _ => False
theorem ps_never : PS X st tNever := fun _ _ _ _ _ _ h => h.elim
end
abbrev TG := V → St → Hp → (St → Hp → Prop) → Prop
abbrev TGs := List V → St → Hp → (St → Hp → Prop) → Prop
def PG (X : Cx) (target : Expr) (t : TG) : Prop :=
  ∀ (pins : List (Addr × Obj)) (s : Shared) (σ : St) (H : Hp) (v : V) (u : Value) (Q : St → Hp → Prop), Inv X pins σ H s → RelV v u → t v σ H Q →
    wpAny (model X.prog X.w) X.A (assign target X.env u) (fun _ s' => ∃ σ' H', Inv X pins σ' H' s' ∧ Q σ' H') X.xe s
def PGs (X : Cx) (ts : List Expr) (t : TGs) : Prop :=
  ∀ (pins : List (Addr × Obj)) (s : Shared) (σ : St) (H : Hp) (vs : List V) (us : List Value) (Q : St → Hp → Prop), Inv X pins σ H s → Vals vs us → t vs σ H Q →
    wpAny (model X.prog X.w) X.A (assignInOrder ((assignEach ts X.env).map (·.2)) us) (fun _ s' => ∃ σ' H', Inv X pins σ' H' s' ∧ Q σ' H') X.xe s
abbrev TSet := V → V → V → Hp → (Hp → Prop) → Prop
def PSet (X : Cx) (t : TSet) : Prop :=
  ∀ (pins : List (Addr × Obj)) (s : Shared) (σ : St) (H : Hp) (o i v : V) (ov iv u : Value) (Q : Hp → Prop), Inv X pins σ H s → RelV o ov → RelV i iv → RelV v u → t o i v H Q →
    wpAny (model X.prog X.w) X.A (setItem ov iv u) (fun _ s' => ∃ H', Inv X pins σ H' s' ∧ Q H') X.xe s
abbrev TIp := V → V → Hp → VK → Prop
def PIp (X : Cx) (op : Operator) (t : TIp) : Prop :=
  ∀ (pins : List (Addr × Obj)) (s : Shared) (σ : St) (H : Hp) (x y : V) (v u : Value) (Q : VK), Inv X pins σ H s → RelV x v → RelV y u → t x y H Q →
    wpAny (model X.prog X.w) X.A (inplaceOp op v u) (EP X pins σ Q) X.xe s
section
variable {X : Cx} {pos : Pos}
def gName (i : Nat) : TG := fun v σ H Q => Q (σ.set i (some v)) H
theorem pg_name {i : Nat} {x : Str} (hN : X.N.Nodup) (hi : X.N[i]? = some x) (hx : Loc X.env.scope x) (hf : X.fn x = true ∨ X.env.scope.names.lookup x = some .local := by first | exact .inl rfl | exact .inr rfl | assumption) : PG X (.Name x pos) (gName i) := by
  intro pins s σ H v u Q I r h
  exact wpAny_assign_Name (store_ok I hN hi hx r (fun s' I' => ⟨_, H, I', h⟩) hf)
def gNil : TGs := fun vs σ H Q => vs = [] ∧ Q σ H
def gCons (t : TG) (u : TGs) : TGs := fun vs σ H Q => ∃ v r, vs = v :: r ∧ t v σ H fun σ' H' => u r σ' H' Q
theorem pgs_nil : PGs X [] gNil := by
  intro pins s σ H vs us Q I r h
  obtain ⟨e, h⟩ := h
  subst e
  cases r
  exact assignInOrder_nil ⟨σ, H, I, h⟩
theorem pgs_cons {e : Expr} {es : List Expr} {t : TG} {u : TGs} (h1 : PG X e t) (h2 : PGs X es u)
    (hs : (assignEach (e :: es) X.env).map (·.2) = assign e X.env :: (assignEach es X.env).map (·.2) := by rfl) : PGs X (e :: es) (gCons t u) := by
  intro pins s σ H vs us Q I r h
  obtain ⟨v, vr, e1, h⟩ := h
  subst e1
  cases r with
  | cons r rr =>
    rw [hs]
    refine assignInOrder_cons (thn (h1 pins s σ H _ _ _ I r h) fun _ s1 ⟨σ1, H1, I1, q1⟩ => ?_)
    exact h2 pins s1 σ1 H1 _ _ Q I1 rr q1
def gTup (K : PySem.W.Frag) (n : Nat) (t : TGs) : TG := fun v σ H Q => ∃ a xs, v = .ref a ∧ SqT K H a xs ∧ xs.length = n ∧ t xs σ H Q
theorem pg_tup {es : List Expr} {k : Nat} {t : TGs} {n : Nat} (hc : X.calm = true) (h : PGs X es t)
    (hn : (assignEach es X.env).length = n := by rfl) (hst : (assignEach es X.env).findIdx? (·.1) = none := by rfl) : PG X (.Tuple es k pos) (gTup X.K n t) := by
  intro pins s σ H v u Q I r hw
  obtain ⟨a, xs, e1, hq, hl, hw⟩ := hw
  subst e1
  cases r
  obtain ⟨its, rv, ht, hz⟩ := I.tuple hq
  refine assign_Tuple_tuple (I.ok.hd hc) ht (by simp [hn, ← hl, rv.length]) hst fun h' hx => ?_
  have I1 : Inv X pins σ H { s with heap := h' } := I.kept (t' := s.toks) fun b o e => hx b o (Nat.ne_of_lt (Heap.lt_size e)) e
  exact h pins _ σ H xs _ Q I1 (by simpa using rv) hw
def gSub (to ti : TE) (t : TSet) : TG := fun v σ H Q => to σ H fun o H1 => ti σ H1 fun i H2 => t o i v H2 fun H3 => Q σ H3
def tAsg (te : TE) (g : TG) : TS := fun D σ H => te σ H fun x H1 => g x σ H1 D.nx
theorem ps_asg {tg e : Expr} {te : TE} {g : TG} (he : PE X e te) (hg : PG X tg g) (hs : swapsWithSole [tg] e pos.line X.env = pure false := by rfl) (hw : swappedStores [tg] e X.env = pure none := by rfl)
    (h1 : (assignEach [tg] X.env).map (·.2) = [assign tg X.env] := by rfl) : PS X (.Assign [tg] e pos) (tAsg te g) := by
  intro pins s σ H D I h
  refine wpAny_Assign_stores (thn (he pins s σ H _ I h) fun v s1 ⟨x, H1, I1, r1, q1⟩ => ?_) hs hw
  rw [h1]
  exact thn (hg pins s1 σ H1 x v _ I1 r1 q1) fun _ s2 q => q
theorem ps_set {i : Nat} {x : Str} {e : Expr} {te : TE} {pos' : Pos} (hN : X.N.Nodup) (hi : X.N[i]? = some x) (hx : Loc X.env.scope x) (he : PE X e te) (hs : swapsWith e (some (.Name x pos')) pos.line X.env = pure false := by rfl) (hf : X.fn x = true ∨ X.env.scope.names.lookup x = some .local := by first | exact .inl rfl | exact .inr rfl | assumption) :
    PS X (.Assign [.Name x pos'] e pos) (tAsg te (gName i)) := by
  intro pins s σ H D I h
  refine wpAny_Assign_Name (thn (he pins s σ H _ I h) fun v s1 ⟨y, H1, I1, r1, q1⟩ => ?_) hs
  exact store_ok I1 hN hi hx r1 (fun s2 I2 => ⟨_, H1, I2, q1⟩) hf
def tPar (i j : Nat) (ta : TA) : TS := fun D σ H => ta σ H fun vs H1 => ∃ v w, vs = [v, w] ∧ D.nx ((σ.set i (some v)).set j (some w)) H1
def tAug (i : Nat) (te : TE) (ti : TIp) : TS := fun D σ H => ∃ x, σ[i]? = some (some x) ∧ te σ H fun y H1 => ti x y H1 fun z H2 => D.nx (σ.set i (some z)) H2
def tAugS (to ti te : TE) (tget : V → V → Hp → VK → Prop) (tip : TIp) (tset : TSet) : TS := fun D σ H => to σ H fun o H1 => ti σ H1 fun i H2 => tget o i H2 fun x H3 => te σ H3 fun y H4 => tip x y H4 fun z H5 => tset o i z H5 fun H6 => D.nx σ H6
def PGet (X : Cx) (t : V → V → Hp → VK → Prop) : Prop :=
  ∀ (pins : List (Addr × Obj)) (s : Shared) (σ : St) (H : Hp) (o i : V) (ov iv : Value) (Q : VK), Inv X pins σ H s → RelV o ov → RelV i iv → t o i H Q →
    wpAny (model X.prog X.w) X.A (getItem ov iv) (EP X pins σ Q) X.xe s
def ipI (f : Int → Int → Int) : TIp := fun x y H Q => ∃ i j, x = .int i ∧ y = .int j ∧ Q (.int (f i j)) H
end
section
variable {X : Cx} {pos : Pos}
def tWhile (c : TT) (tb : TS) : TS := fun D σ H => ∃ W : Nat → St → Hp → Prop, (∃ m, W m σ H) ∧ ∀ m σ H, W m σ H →
  c σ H fun b H1 => if b = true then ∃ N : St → Hp → Prop, (∀ σ' H', N σ' H' → ∃ m', m' < m ∧ W m' σ' H') ∧ tb { D with nx := N, ct := N, bk := D.nx } σ H1 else D.nx σ H1
theorem ps_while {c : Expr} {body : List Stmt} {tc : TT} {tb : TS} (hp : PassesOwn (model X.prog X.w) X.A X.env X.xe) (hc : PT X c tc) (hb : PSs X body tb) : PS X (.While c body [] pos) (tWhile tc tb) := by
  intro pins s σ H D I h
  obtain ⟨W, ⟨m0, w0⟩, turn⟩ := h
  refine wpAny_While (codeAny_whileLoop (fun n s' => ∃ σ' H', Inv X pins σ' H' s' ∧ W n σ' H') ?_ m0 ⟨σ, H, I, w0⟩)
  rintro n s1 ⟨σ1, H1, I1, w1⟩
  refine wpAny_passesOwn hp (thn (hc pins s1 σ1 H1 _ I1 (turn n σ1 H1 w1)) fun b s2 ⟨H2, I2, q2⟩ => ?_)
  cases b with
  | true =>
    obtain ⟨N, hN, q2⟩ := q2
    rw [if_pos rfl]
    refine wpAny_passesOwn hp (thn (hb pins s2 σ1 H2 _ I2 q2) fun f s3 q3 => ?_)
    cases f with
    | next =>
      obtain ⟨σ3, H3, I3, n3⟩ := q3
      obtain ⟨m', hm, w3⟩ := hN σ3 H3 n3
      exact ⟨m', hm, σ3, H3, I3, w3⟩
    | cont =>
      obtain ⟨σ3, H3, I3, n3⟩ := q3
      obtain ⟨m', hm, w3⟩ := hN σ3 H3 n3
      exact ⟨m', hm, σ3, H3, I3, w3⟩
    | brk => exact q3
    | ret v => exact q3
  | false =>
    rw [if_neg Bool.false_ne_true]
    exact wpAny_execs_nil ⟨σ1, H2, I2, q2⟩
end
structure It where
  go : Nat → Hp → Prop
  yld : Nat → Hp → V → Hp → Prop
  stop : Nat → Hp → Prop
def FpOk (X : Cx) (pins : List (Addr × Obj)) (H : Hp) (b : Addr) : Prop :=
  H b = none ∧ b ≠ X.env.locals ∧ b ∉ X.fs ∧ (b ∈ X.ex ∨ X.s₀.heap.objs.size ≤ b) ∧ (∀ x c, X.env.cells.lookup x = some c → c ≠ b) ∧ ∀ p ∈ X.pn ++ pins, p.1 ≠ b
theorem Inv.fpOk {X : Cx} {pins : List (Addr × Obj)} {σ : St} {H H' : Hp} {s : Shared} {b : Addr} (I : Inv X pins σ H s) (hb : s.heap.objs.size ≤ b) (hn : H' b = none) : FpOk X pins H' b := by
  refine ⟨hn, Nat.ne_of_gt (Nat.lt_of_lt_of_le I.lt hb), I.nofs hb, .inr (Nat.le_trans I.sz hb), fun x c e z => ?_, fun p hp z => ?_⟩
  · obtain ⟨v, q⟩ := I.cell x c e
    exact absurd (Nat.lt_of_lt_of_le q.lt (by rw [z]; exact hb)) (Nat.lt_irrefl _)
  · exact absurd (Nat.lt_of_lt_of_le (Heap.lt_size (I.pin p hp).1) (by rw [z]; exact hb)) (Nat.lt_irrefl _)
structure Turn (P : Program) (w : World) (K : PySem.W.Frag) (tg : Expr) (J : It) (fp : List Addr) (it : Addr) (tn : Nat → Heap → Prop) : Prop where
  mem : it ∈ fp
  obj : ∀ i h, tn i h → ∀ b ∈ fp, ∃ o, h.get? b = some o ∧ ∀ v, o.data ≠ .cell v
  keep : ∀ i h h', tn i h → (∀ b ∈ fp, ∀ o, h.get? b = some o → h'.get? b = some o) → tn i h'
  item : ∀ (X : Cx), X.prog = P → X.w = w → X.K = K → X.calm = true → ∀ (i : Nat) (pins : List (Addr × Obj)) (s : Shared) (σ : St) (H : Hp) (E : Value → Shared → Prop), Inv X pins σ H s → (∀ b ∈ fp, FpOk X pins H b) → tn i s.heap → J.go i H →
    wpAny (model P w) X.A (pyNext (.ref it)) (fun r s1 => ∃ u, r = some u ∧
      wpAny (model P w) X.A (letOwnedTupleGo tg (.ref it) u) (fun _ s2 => ∃ x H', Inv X pins σ H' s2 ∧ RelV x u ∧ J.yld i H x H' ∧ tn (i + 1) s2.heap ∧ ∀ b ∈ fp, H' b = none) E s1) E s
  done : ∀ (X : Cx), X.prog = P → X.w = w → X.K = K → X.calm = true → ∀ (i : Nat) (pins : List (Addr × Obj)) (s : Shared) (σ : St) (H : Hp) (E : Value → Shared → Prop), Inv X pins σ H s → (∀ b ∈ fp, FpOk X pins H b) → tn i s.heap → J.stop i H →
    wpAny (model P w) X.A (pyNext (.ref it)) (fun r s1 => r = none ∧ Inv X pins σ H s1) E s
  self : ∀ (A : Around) (i : Nat) (s : Shared) (Q : Value → Shared → Prop) (E : Value → Shared → Prop), tn i s.heap → Q (.ref it) s → wpAny (model P w) A (pyIter (.ref it)) Q E s
abbrev TI := St → Hp → (It → Hp → Prop) → Prop
def PIE (X : Cx) (pins : List (Addr × Obj)) (σ : St) (tg : Expr) (R : It → Hp → Prop) (itv : Value) (s2 : Shared) : Prop :=
  ∃ (it : Addr) (fp : List Addr) (tn : Nat → Heap → Prop) (J : It) (H' : Hp), itv = .ref it ∧ Inv X pins σ H' s2 ∧ Turn X.prog X.w X.K tg J fp it tn ∧ tn 0 s2.heap ∧ (∀ b ∈ fp, FpOk X pins H' b) ∧ R J H'
def PI (X : Cx) (tg iter : Expr) (wi : TI) : Prop :=
  ∀ (pins : List (Addr × Obj)) (s : Shared) (σ : St) (H : Hp) (R : It → Hp → Prop), Inv X pins σ H s → wi σ H R →
    wpAny (model X.prog X.w) X.A (eval iter X.env) (fun v s1 => wpAny (model X.prog X.w) X.A (pyIter v) (PIE X pins σ tg R) X.xe s1) X.xe s
theorem go_of {M : Model} {A : Around} {E : Value → Shared → Prop} {s : Shared} {tg : Expr} {it : Addr} {u : Value} {o : Obj} {n : String} {vs : Array Value} {Q : Unit → Shared → Prop} (ho : s.heap.get? it = some o) (hc : o.cls = .type n) (hd : o.data = .fields vs)
    (hn : ["enumerate", "zip", "dict_itemiterator", "dict_reverseitemiterator", "odict_iterator", "itertools.zip_longest", "itertools.pairwise"].contains n = false) (hQ : Q () s) : wpAny M A (letOwnedTupleGo tg (.ref it) u) Q E s := by
  unfold letOwnedTupleGo
  cases tg <;> first
    | exact wpAny_pure hQ
    | (cases u <;> first
        | exact wpAny_pure hQ
        | (refine wpAny_bind (wpAny_load ho ?_)
           rw [hc, hd]
           show wpAny M A (if (["enumerate", "zip", "dict_itemiterator", "dict_reverseitemiterator", "odict_iterator", "itertools.zip_longest", "itertools.pairwise"].contains n && vs[0]? == some (rawInt _)) = true then _ else _) Q E s
           rw [if_neg (by intro h; rw [hn, Bool.false_and] at h; cases h)]
           exact wpAny_pure hQ))
def Itl (K : PySem.W.Frag) (a : Addr) : It :=
  ⟨fun i H => ∃ xs x, SqL K H a xs ∧ xs[i]? = some x, fun i H x H' => H' = H ∧ ∀ xs, SqL K H a xs → xs[i]? = some x, fun i H => ∃ xs, SqL K H a xs ∧ xs.length ≤ i⟩
def Itt (K : PySem.W.Frag) (a : Addr) : It :=
  ⟨fun i H => ∃ xs x, SqT K H a xs ∧ xs[i]? = some x, fun i H x H' => H' = H ∧ ∀ xs, SqT K H a xs → xs[i]? = some x, fun i H => ∃ xs, SqT K H a xs ∧ xs.length ≤ i⟩
def Itr (lo : Int) (n : Nat) : It := ⟨fun i _ => i < n, fun i H x H' => H' = H ∧ x = .int (lo + i), fun i _ => n ≤ i⟩
theorem turn_list {P : Program} {w : World} {K : PySem.W.Frag} {tg : Expr} (a it : Addr) : Turn P w K tg (Itl K a) [it] it (fun i h => h.IsListIter it a i) where
  mem := by simp
  obj := fun i h st b hb => by
    have e : b = it := by simpa using hb
    subst e
    obtain ⟨o, e, c, d⟩ := st
    exact ⟨o, e, fun v z => by rw [d] at z; cases z⟩
  keep := fun i h h' st k => st.at fun o e => k it (by simp) o e
  item := by
    intro X hP hw hK hc i pins s σ H E I hf st hg
    subst hP hw hK
    obtain ⟨xs, x, hq, hx⟩ := hg
    obtain ⟨its, rv, p, hz⟩ := I.list hq
    obtain ⟨u, hu, ru⟩ := rv.get hx
    obtain ⟨f0, f1, f2, f3, f4, f5⟩ := hf it (by simp)
    refine wpAny_pyNext_list_item st p.isList (x := u) (by simpa using hu) fun h' st' sb => ?_
    have I1 : Inv X pins σ H { s with heap := h' } := I.turned (t' := s.toks) (fun b o hb e => (sb.2 b hb).trans e) f0 f1 f3 f4 f5
    obtain ⟨o, e, c, d⟩ := id st'
    exact ⟨u, rfl, go_of (s := { s with heap := h' }) e c d (by decide) ⟨x, H, I1, ru, ⟨rfl, fun ys hy => by rw [I.list_inj hy hq]; exact hx⟩, st', fun b hb => (hf b hb).1⟩⟩
  done := by
    intro X hP hw hK hc i pins s σ H E I hf st hg
    subst hP hw hK
    obtain ⟨xs, hq, hx⟩ := hg
    obtain ⟨its, rv, p, hz⟩ := I.list hq
    obtain ⟨f0, f1, f2, f3, f4, f5⟩ := hf it (by simp)
    have hl := rv.length
    exact wpAny_pyNext_list_end (I.ok.hd hc) st p.isList (by simp; omega) fun h' eb => ⟨rfl, I.turned (t' := s.toks) (fun b o hb e => eb b o hb e) f0 f1 f3 f4 f5⟩
  self := fun _ _ _ _ _ st h => wpAny_pyIter_listiter st h
theorem turn_tuple {P : Program} {w : World} {K : PySem.W.Frag} {tg : Expr} (a it : Addr) : Turn P w K tg (Itt K a) [it] it (fun i h => h.IsTupleIter it a i) where
  mem := by simp
  obj := fun i h st b hb => by
    have e : b = it := by simpa using hb
    subst e
    obtain ⟨o, e, c, d⟩ := st
    exact ⟨o, e, fun v z => by rw [d] at z; cases z⟩
  keep := fun i h h' st k => st.at fun o e => k it (by simp) o e
  item := by
    intro X hP hw hK hc i pins s σ H E I hf st hg
    subst hP hw hK
    obtain ⟨xs, x, hq, hx⟩ := hg
    obtain ⟨its, rv, p, hz⟩ := I.tuple hq
    obtain ⟨u, hu, ru⟩ := rv.get hx
    obtain ⟨f0, f1, f2, f3, f4, f5⟩ := hf it (by simp)
    refine wpAny_pyNext_tuple_item st (show s.heap.IsTuple a its.toArray from p) (x := u) (by simpa using hu) fun h' st' sb => ?_
    have I1 : Inv X pins σ H { s with heap := h' } := I.turned (t' := s.toks) (fun b o hb e => (sb.2 b hb).trans e) f0 f1 f3 f4 f5
    obtain ⟨o, e, c, d⟩ := id st'
    exact ⟨u, rfl, go_of (s := { s with heap := h' }) e c d (by decide) ⟨x, H, I1, ru, ⟨rfl, fun ys hy => by rw [I.tuple_inj hy hq]; exact hx⟩, st', fun b hb => (hf b hb).1⟩⟩
  done := by
    intro X hP hw hK hc i pins s σ H E I hf st hg
    subst hP hw hK
    obtain ⟨xs, hq, hx⟩ := hg
    obtain ⟨its, rv, p, hz⟩ := I.tuple hq
    obtain ⟨f0, f1, f2, f3, f4, f5⟩ := hf it (by simp)
    have hl := rv.length
    exact wpAny_pyNext_tuple_end (I.ok.hd hc) st (show s.heap.IsTuple a its.toArray from p) (by simp; omega) fun h' eb => ⟨rfl, I.turned (t' := s.toks) (fun b o hb e => eb b o hb e) f0 f1 f3 f4 f5⟩
  self := fun _ _ _ _ _ st h => wpAny_pyIter_tupleiter st h
theorem turn_range {P : Program} {w : World} {K : PySem.W.Frag} {tg : Expr} (it : Addr) (lo : Int) (n : Nat) : Turn P w K tg (Itr lo n) [it] it (fun i h => IsRangeIter h it (lo + (i : Nat) * 1) ((n : Int) - (i : Nat)) 1) where
  mem := by simp
  obj := fun i h st b hb => by
    have e : b = it := by simpa using hb
    subst e
    exact ⟨_, st, fun v z => by
      have z' : Data.fields _ = Data.cell v := z
      cases z'⟩
  keep := fun i h h' st k => k it (by simp) _ st
  item := by
    intro X hP hw hK hc i pins s σ H E I hf st hg
    subst hP hw hK
    obtain ⟨f0, f1, f2, f3, f4, f5⟩ := hf it (by simp)
    have W := Walks.range (prog := X.prog) (w := X.w) (I.ok.hd hc) it lo 1 n
    refine W.item i s _ _ hg st fun v h' tk hv st' kk => ?_
    obtain ⟨t, rfl⟩ := hv
    have I1 : Inv X pins σ H { s with heap := h', toks := tk } := I.turned (fun b o hb e => kk b o (by simpa using hb) e) f0 f1 f3 f4 f5
    refine ⟨_, rfl, go_of (s := { s with heap := h', toks := tk }) (n := "range_iterator") st' rfl rfl (by decide) ⟨.int (lo + i), H, I1, ⟨t, ?_⟩, ⟨rfl, rfl⟩, st', fun b hb => (hf b hb).1⟩⟩
    rw [Int.mul_one]
  done := by
    intro X hP hw hK hc i pins s σ H E I hf st hg
    subst hP hw hK
    obtain ⟨f0, f1, f2, f3, f4, f5⟩ := hf it (by simp)
    exact wpAny_pyNext_range_end (I.ok.hd hc) st (by have : n ≤ i := hg; omega) fun h' eb => ⟨rfl, I.turned (t' := s.toks) (fun b o hb e => eb b o hb e) f0 f1 f3 f4 f5⟩
  self := fun _ _ _ _ _ st h => wpAny_pyIter_rangeiter st h
end L2
namespace L2
open PySem PySem.Spec PyProof.Rows
section
variable {X : Cx} {tg : Expr}
def iList (K : PySem.W.Frag) (tl : TE) : TI := fun σ H R => tl σ H fun x H1 => ∃ a, x = .ref a ∧ (∃ xs, SqL K H1 a xs) ∧ R (Itl K a) H1
def iTup (K : PySem.W.Frag) (tl : TE) : TI := fun σ H R => tl σ H fun x H1 => ∃ a, x = .ref a ∧ (∃ xs, SqT K H1 a xs) ∧ R (Itt K a) H1
theorem pi_list {l : Expr} {tl : TE} (hl : PE X l tl) : PI X tg l (iList X.K tl) := by
  intro pins s σ H R I h
  refine thn (hl pins s σ H _ I h) fun v s1 ⟨x, H1, I1, r1, q1⟩ => ?_
  obtain ⟨a, e, ⟨xs, hq⟩, q⟩ := q1
  subst e
  cases r1
  obtain ⟨its, rv, p, hz⟩ := I1.list hq
  refine wpAny_pyIter_list p.isList ?_
  refine ⟨s1.heap.objs.size, [s1.heap.objs.size], _, _, H1, rfl, I1.kept (t' := s1.toks) fun b o e => Heap.get?_push_of_some _ e, turn_list a _, ⟨_, Heap.get?_push_size _ rfl, rfl, rfl⟩, fun b hb => ?_, q⟩
  have e : b = s1.heap.objs.size := by simpa using hb
  subst e
  exact I1.fpOk (Nat.le_refl _) (I1.hok.fresh (Nat.le_refl _))
theorem pi_tup {l : Expr} {tl : TE} (hl : PE X l tl) : PI X tg l (iTup X.K tl) := by
  intro pins s σ H R I h
  refine thn (hl pins s σ H _ I h) fun v s1 ⟨x, H1, I1, r1, q1⟩ => ?_
  obtain ⟨a, e, ⟨xs, hq⟩, q⟩ := q1
  subst e
  cases r1
  obtain ⟨its, rv, p, hz⟩ := I1.tuple hq
  refine wpAny_pyIter_tuple (show s1.heap.IsTuple a its.toArray from p) ?_
  refine ⟨s1.heap.objs.size, [s1.heap.objs.size], _, _, H1, rfl, I1.kept (t' := s1.toks) fun b o e => Heap.get?_push_of_some _ e, turn_tuple a _, ⟨_, Heap.get?_push_size _ rfl, rfl, rfl⟩, fun b hb => ?_, q⟩
  have e : b = s1.heap.objs.size := by simpa using hb
  subst e
  exact I1.fpOk (Nat.le_refl _) (I1.hok.fresh (Nat.le_refl _))
theorem range_it {pins : List (Addr × Obj)} {σ : St} {H : Hp} {s : Shared} {R : It → Hp → Prop} {E : Value → Shared → Prop} {lo hi : Int} {t u v : Tok} {tk : Nat} (I : Inv X pins σ H s) (h1 : -(2 ^ 62) ≤ lo) (h2 : lo < 2 ^ 62) (h3 : -(2 ^ 62) ≤ hi) (h4 : hi < 2 ^ 62)
    (q : R (Itr lo (hi - lo).toNat) H) : wpAny (model X.prog X.w) X.A (pyIter (.ref s.heap.objs.size)) (PIE X pins σ tg R) E { s with heap := s.heap.push { cls := .type "range", data := .fields #[.int lo t, .int hi u, .int 1 v] }, toks := tk } := by
  refine wpAny_pyIter_range (IsRange.new ..) (small_one h1 h2 h3 h4) ?_
  have I1 : Inv X pins σ H { s with heap := s.heap.push { cls := .type "range", data := .fields #[.int lo t, .int hi u, .int 1 v] }, toks := tk } := I.kept fun b o e => Heap.get?_push_of_some _ e
  refine ⟨(s.heap.push { cls := .type "range", data := .fields #[.int lo t, .int hi u, .int 1 v] }).objs.size, [(s.heap.push { cls := .type "range", data := .fields #[.int lo t, .int hi u, .int 1 v] }).objs.size], _, _, H, rfl,
    I1.kept (t' := tk) fun b o e => Heap.get?_push_of_some _ e, turn_range _ lo (hi - lo).toNat, ?_, fun b hb => ?_, q⟩
  · have e1 : lo + ((0 : Nat) : Int) * 1 = lo := by simp
    have e2 : (((hi - lo).toNat : Nat) : Int) - ((0 : Nat) : Int) = Builtin.Range.rangeSize lo hi 1 := by rw [rangeSize_one]; split <;> omega
    show IsRangeIter _ _ (lo + ((0 : Nat) : Int) * 1) ((((hi - lo).toNat : Nat) : Int) - ((0 : Nat) : Int)) 1
    rw [e1, e2]
    exact Heap.get?_push_size _ rfl
  · have e : b = (s.heap.push { cls := .type "range", data := .fields #[.int lo t, .int hi u, .int 1 v] }).objs.size := by simpa using hb
    subst e
    exact I1.fpOk (Nat.le_refl _) (I1.hok.fresh (Nat.le_refl _))
def iRng1 (ta : TA) : TI := fun σ H R => ta σ H fun vs H1 => ∃ j : Int, vs = [.int j] ∧ -(2 ^ 62) ≤ j ∧ j < 2 ^ 62 ∧ R (Itr 0 j.toNat) H1
def iRng2 (ta : TA) : TI := fun σ H R => ta σ H fun vs H1 => ∃ i j : Int, vs = [.int i, .int j] ∧ (-(2 ^ 62) ≤ i ∧ i < 2 ^ 62 ∧ -(2 ^ 62) ≤ j ∧ j < 2 ^ 62) ∧ R (Itr i (j - i).toNat) H1
theorem pi_range1 {a : Expr} {ta : TA} {p pos : Pos} (hg : Gl X "range") (hm : X.mg "range" = none) (ha : PA X [a] ta) (hs : starEach [a] X.env = [(false, eval a X.env)] := by rfl) : PI X tg (.Call (.Name "range" p) [a] [] pos) (iRng1 ta) := by
  intro pins s σ H R I h
  refine Call_ (ld_blt I hg hm boot_range (PyProof.Rows.callWith_type1 (thn (ha pos pins s σ H _ I h) fun us s1 ⟨vs, H1, I1, r1, q1⟩ => ?_) hs rfl))
  obtain ⟨j, e, q1, q2, q⟩ := q1
  subst e
  cases r1 with
  | cons r rr =>
    cases rr
    obtain ⟨t, rfl⟩ := r
    exact call_range_1 (range_it I1 (by omega) (by omega) q1 q2 (by simpa using q))
def tFor (wi : TI) (g : TG) (tb : TS) : TS := fun D σ H => wi σ H fun J H1 => ∃ W : Nat → Nat → St → Hp → Prop, (∃ m, W 0 m σ H1) ∧ ∀ i m σ H, W i m σ H →
  (J.stop i H ∧ D.nx σ H) ∨ (J.go i H ∧ ∃ N : St → Hp → Prop, (∀ σ' H', N σ' H' → ∃ m', m' < m ∧ W (i + 1) m' σ' H') ∧ ∀ x H', J.yld i H x H' → g x σ H' fun σ2 H2 => tb { D with nx := N, ct := N, bk := D.nx } σ2 H2)
def pinsAt (fp : List Addr) (h : Heap) : List (Addr × Obj) := fp.filterMap fun b => (h.get? b).map fun o => (b, o)
theorem mem_pinsAt {fp : List Addr} {h : Heap} {b : Addr} {o : Obj} (hb : b ∈ fp) (e : h.get? b = some o) : (b, o) ∈ pinsAt fp h := List.mem_filterMap.mpr ⟨b, hb, by rw [e]; rfl⟩
theorem of_pinsAt {fp : List Addr} {h : Heap} {p : Addr × Obj} (hp : p ∈ pinsAt fp h) : p.1 ∈ fp ∧ h.get? p.1 = some p.2 := by
  obtain ⟨b, hb, e⟩ := List.mem_filterMap.mp hp
  cases q : h.get? b with
  | none => rw [q] at e; cases e
  | some o =>
    rw [q] at e
    have e' : (b, o) = p := Option.some.inj e
    subst e'
    exact ⟨hb, q⟩
theorem Inv.pinned {pins : List (Addr × Obj)} {σ : St} {H : Hp} {s : Shared} {fp : List Addr} (I : Inv X pins σ H s) (hf : ∀ b ∈ fp, FpOk X pins H b) (ho : ∀ b ∈ fp, ∃ o, s.heap.get? b = some o ∧ ∀ v, o.data ≠ .cell v) : Inv X (pins ++ pinsAt fp s.heap) σ H s :=
  I.pins_of fun p hp => (List.mem_append.mp hp).elim (fun z => I.pin p (List.mem_append_right _ z)) fun z => by
    obtain ⟨hb, e⟩ := of_pinsAt z
    obtain ⟨f0, f1, f2, _⟩ := hf p.1 hb
    obtain ⟨o, e', d⟩ := ho p.1 hb
    rw [e] at e'; cases e'
    exact ⟨e, f0, f1, f2, d⟩
theorem Inv.unpinned {pins pl : List (Addr × Obj)} {σ : St} {H : Hp} {s : Shared} (I : Inv X (pins ++ pl) σ H s) : Inv X pins σ H s := I.pins_of fun p hp => I.pin p (List.mem_append_right _ (List.mem_append_left _ hp))
theorem ps_for {iter : Expr} {body : List Stmt} {wi : TI} {g : TG} {tb : TS} {pos : Pos} (hp : PassesOwn (model X.prog X.w) X.A X.env X.xe) (hc : X.calm = true) (hi : PI X tg iter wi) (hg : PG X tg g) (hb : PSs X body tb)
    (hs : ∀ x, foldedSetIterable iter X.env x = pure x := by intro _; rfl) : PS X (.For tg iter body [] pos) (tFor wi g tb) := by
  intro pins s σ H D I h
  refine wpAny_For (thn (hi pins s σ H _ I h) fun v s1 h1 => thn h1 fun itv s2 h2 => ?_) hs
  obtain ⟨it, fp, tn, J, H2, e, I2, T, st2, f2, W, ⟨m0, w0⟩, turn⟩ := h2
  subst e
  -- what stays true of the iterator's objects through the loop
  have stat : ∀ {H' : Hp}, (∀ b ∈ fp, H' b = none) → ∀ b ∈ fp, FpOk X pins H' b := fun hn b hb => ⟨hn b hb, (f2 b hb).2⟩
  refine codeAny_forLoop_any (fun n s' => ∃ i σ' H', Inv X pins σ' H' s' ∧ tn i s'.heap ∧ (∀ b ∈ fp, H' b = none) ∧ W i n σ' H') ?_ m0 ⟨0, σ, H2, I2, st2, fun b hb => (f2 b hb).1, w0⟩
  rintro n s3 ⟨i, σ3, H3, I3, st3, fr3, w3⟩
  rcases turn i n σ3 H3 w3 with ⟨stop, qn⟩ | ⟨go, N, hN, step⟩
  · refine wpAny_passesOwn hp (thn (T.done X rfl rfl rfl hc i pins s3 σ3 H3 X.xe I3 (stat fr3) st3 stop) fun r s4 ⟨hr, I4⟩ => ?_)
    subst hr
    exact wpAny_execs_nil ⟨σ3, H3, I4, qn⟩
  · refine wpAny_passesOwn hp (thn (T.item X rfl rfl rfl hc i pins s3 σ3 H3 X.xe I3 (stat fr3) st3 go) fun r s4 ⟨u, hr, h4⟩ => ?_)
    subst hr
    refine wpAny_passesOwn hp (thn h4 fun _ s5 ⟨x, H5, I5, r5, y5, st5, fr5⟩ => ?_)
    have I5' := I5.pinned (stat fr5) (T.obj _ _ st5)
    refine wpAny_passesOwn hp (thn (hg _ s5 σ3 H5 x u _ I5' r5 (step x H5 y5)) fun _ s6 ⟨σ6, H6, I6, q6⟩ => ?_)
    refine wpAny_passesOwn hp (thn (hb _ s6 σ6 H6 _ I6 q6) fun f s7 q7 => ?_)
    have again : ∀ {σ7 : St} {H7 : Hp}, Inv X (pins ++ pinsAt fp s5.heap) σ7 H7 s7 → N σ7 H7 → ∃ m, m < n ∧ ∃ i σ' H', Inv X pins σ' H' s7 ∧ tn i s7.heap ∧ (∀ b ∈ fp, H' b = none) ∧ W i m σ' H' := fun {σ7 H7} I7 n7 => by
      obtain ⟨m', hm, w7⟩ := hN σ7 H7 n7
      refine ⟨m', hm, i + 1, σ7, H7, I7.unpinned, T.keep _ _ _ st5 fun b hb o e => (I7.pin (b, o) (List.mem_append_right _ (List.mem_append_right _ (mem_pinsAt hb e)))).1, fun b hb => ?_, w7⟩
      obtain ⟨o, e, d⟩ := T.obj _ _ st5 b hb
      exact (I7.pin (b, o) (List.mem_append_right _ (List.mem_append_right _ (mem_pinsAt hb e)))).2.1
    cases f with
    | next => obtain ⟨σ7, H7, I7, n7⟩ := q7; exact again I7 n7
    | cont => obtain ⟨σ7, H7, I7, n7⟩ := q7; exact again I7 n7
    | brk => obtain ⟨σ7, H7, I7, q7⟩ := q7; exact ⟨σ7, H7, I7.unpinned, q7⟩
    | ret v => obtain ⟨x7, σ7, H7, I7, r7, q7⟩ := q7; exact ⟨x7, σ7, H7, I7.unpinned, r7, q7⟩
end
theorem for_range {lo : Int} {n : Nat} {g : TG} {tb : TS} {D : Ends} {σ : St} {H : Hp} (Pv : Nat → St → Hp → Prop) (h0 : Pv 0 σ H)
    (hs : ∀ i σ H, i < n → Pv i σ H → g (.int (lo + i)) σ H fun σ2 H2 => tb { D with nx := Pv (i + 1), ct := Pv (i + 1), bk := D.nx } σ2 H2) (hd : ∀ σ H, Pv n σ H → D.nx σ H) :
    ∃ W : Nat → Nat → St → Hp → Prop, (∃ m, W 0 m σ H) ∧ ∀ i m σ H, W i m σ H →
      ((Itr lo n).stop i H ∧ D.nx σ H) ∨ ((Itr lo n).go i H ∧ ∃ N : St → Hp → Prop, (∀ σ' H', N σ' H' → ∃ m', m' < m ∧ W (i + 1) m' σ' H') ∧ ∀ x H', (Itr lo n).yld i H x H' → g x σ H' fun σ2 H2 => tb { D with nx := N, ct := N, bk := D.nx } σ2 H2) := by
  refine ⟨fun i m σ H => m = n - i ∧ i ≤ n ∧ Pv i σ H, ⟨n, by simp, Nat.zero_le _, h0⟩, ?_⟩
  rintro i m σ H ⟨rfl, hi, p⟩
  by_cases hlt : i < n
  · refine .inr ⟨hlt, Pv (i + 1), fun σ' H' p' => ⟨n - (i + 1), by omega, rfl, hlt, p'⟩, fun x H' y => ?_⟩
    obtain ⟨e, y⟩ := y
    subst e y
    exact hs i σ _ hlt p
  · have e : i = n := by omega
    subst e
    exact .inl ⟨Nat.le_refl _, hd σ H p⟩
theorem while_by {c : TT} {tb : TS} {D : Ends} {σ : St} {H : Hp} (Pv : St → Hp → Prop) (μ : St → Hp → Nat) (h0 : Pv σ H)
    (hs : ∀ σ H, Pv σ H → c σ H fun b H1 => if b = true then tb { D with nx := fun σ' H' => Pv σ' H' ∧ μ σ' H' < μ σ H, ct := fun σ' H' => Pv σ' H' ∧ μ σ' H' < μ σ H, bk := D.nx } σ H1 else D.nx σ H1)
    (mono : ∀ σ H Q Q', (∀ b H1, Q b H1 → Q' b H1) → c σ H Q → c σ H Q') : tWhile c tb D σ H := by
  refine ⟨fun m σ H => m = μ σ H ∧ Pv σ H, ⟨_, rfl, h0⟩, ?_⟩
  rintro m σ H ⟨rfl, p⟩
  refine mono σ H _ _ (fun b H1 q => ?_) (hs σ H p)
  cases b with
  | true => exact ⟨_, fun σ' H' ⟨p', l⟩ => ⟨_, l, rfl, p'⟩, q⟩
  | false => exact q
end L2
namespace L2
open PySem PySem.Spec PyProof.Rows
abbrev R2 := V → V → Hp → VK → Prop
def OpR (X : Cx) (f : Value → Value → Sem Value) (r : R2) : Prop :=
  ∀ (pins : List (Addr × Obj)) (s : Shared) (σ : St) (H : Hp) (x y : V) (v u : Value) (Q : VK), Inv X pins σ H s → RelV x v → RelV y u → r x y H Q →
    wpAny (model X.prog X.w) X.A (f v u) (EP X pins σ Q) X.xe s
def UnR (X : Cx) (f : Value → Sem Value) (r : V → Hp → VK → Prop) : Prop :=
  ∀ (pins : List (Addr × Obj)) (s : Shared) (σ : St) (H : Hp) (x : V) (v : Value) (Q : VK), Inv X pins σ H s → RelV x v → r x H Q →
    wpAny (model X.prog X.w) X.A (f v) (EP X pins σ Q) X.xe s
def CallR (X : Cx) (f : Value) (r : List V → Hp → VK → Prop) : Prop :=
  ∀ (pins : List (Addr × Obj)) (s : Shared) (σ : St) (H : Hp) (xs : List V) (us : List Value) (Q : VK), Inv X pins σ H s → Vals xs us → r xs H Q →
    wpAny (model X.prog X.w) X.A (call f us) (EP X pins σ Q) X.xe s
def TruR (X : Cx) (r : V → Hp → (Bool → Hp → Prop) → Prop) : Prop :=
  ∀ (pins : List (Addr × Obj)) (s : Shared) (σ : St) (H : Hp) (x : V) (v : Value) (Q : Bool → Hp → Prop), Inv X pins σ H s → RelV x v → r x H Q →
    wpAny (model X.prog X.w) X.A (truthy v) (TP X pins σ Q) X.xe s
def tOp (r : R2) (ta tb : TE) : TE := fun σ H Q => ta σ H fun x H1 => tb σ H1 fun y H2 => r x y H2 Q
def tUn (r : V → Hp → VK → Prop) (ta : TE) : TE := fun σ H Q => ta σ H fun x H1 => r x H1 Q
def rI (C : Int → Int → Prop) (g : Int → Int → V) : R2 := fun x y H Q => ∃ i j, x = .int i ∧ y = .int j ∧ C i j ∧ Q (g i j) H
def rI0 (g : Int → Int → V) : R2 := fun x y H Q => ∃ i j, x = .int i ∧ y = .int j ∧ Q (g i j) H
def rU (g : Int → V) : V → Hp → VK → Prop := fun x H Q => ∃ i, x = .int i ∧ Q (g i) H
section
variable {X : Cx} {a b c : Expr} {ta tb tc : TE} {pos : Pos}
theorem binT (ha : PE X a ta) (hb : PE X b tb) {pins : List (Addr × Obj)} {s : Shared} {σ : St} {H : Hp} {R : V → V → Hp → Prop} (I : Inv X pins σ H s)
    (h : ta σ H fun x H1 => tb σ H1 fun y H2 => R x y H2) {Q : Value → Shared → Prop} {f : Value → Value → Sem Value}
    (hf : ∀ v u s2 x y H2, Inv X pins σ H2 s2 → RelV x v → RelV y u → R x y H2 → wpAny (model X.prog X.w) X.A (f v u) Q X.xe s2) :
    wpAny (model X.prog X.w) X.A (eval a X.env) (fun v s₁ => wpAny (model X.prog X.w) X.A (eval b X.env) (fun u s₂ => wpAny (model X.prog X.w) X.A (f v u) Q X.xe s₂) X.xe s₁) X.xe s := by
  refine thn (ha pins s σ H _ I h) fun v s1 ⟨x, H1, I1, r1, q1⟩ => ?_
  refine thn (hb pins s1 σ H1 _ I1 q1) fun u s2 ⟨y, H2, I2, r2, q2⟩ => ?_
  exact hf v u s2 x y H2 I2 r1 r2 q2
theorem pe_op {op : Operator} {r : R2} (ho : OpR X (binaryOp op) r) (ha : PE X a ta) (hb : PE X b tb) : PE X (.BinOp a op b pos) (tOp r ta tb) := by
  intro pins s σ H Q I h
  exact wpAny_BinOp (binT ha hb I h fun v u s2 x y H2 I2 rx ry q => ho pins s2 σ H2 x y v u Q I2 rx ry q)
theorem pe_un {op : UnaryOp} {r : V → Hp → VK → Prop} (ho : UnR X (unaryOp op) r) (ha : PE X a ta) : PE X (.UnaryOp op a pos) (tUn r ta) := by
  intro pins s σ H Q I h
  exact UnaryOp_ (thn (ha pins s σ H _ I h) fun v s1 ⟨x, H1, I1, r1, q1⟩ => ho pins s1 σ H1 x v Q I1 r1 q1)
theorem opI {f : Value → Value → Sem Value} {C : Int → Int → Prop} {g : Int → Int → Int}
    (rule : ∀ (i j : Int) (t u : Tok) (s : Shared) (Q : Value → Shared → Prop) (E : Value → Shared → Prop), C i j → Q (.int (g i j) s.toks) { s with toks := s.toks + 1 } → wpAny (model X.prog X.w) X.A (f (.int i t) (.int j u)) Q E s) :
    OpR X f (rI C fun i j => .int (g i j)) := by
  intro pins s σ H x y v u Q I rx ry h
  obtain ⟨i, j, rfl, rfl, hc, q⟩ := h
  obtain ⟨t, rfl⟩ := rx
  obtain ⟨t', rfl⟩ := ry
  exact rule i j t t' s _ _ hc ⟨.int (g i j), H, I.tok _, ⟨_, rfl⟩, q⟩
theorem opI0 {f : Value → Value → Sem Value} {g : Int → Int → Int}
    (rule : ∀ (i j : Int) (t u : Tok) (s : Shared) (Q : Value → Shared → Prop) (E : Value → Shared → Prop), Q (.int (g i j) s.toks) { s with toks := s.toks + 1 } → wpAny (model X.prog X.w) X.A (f (.int i t) (.int j u)) Q E s) :
    OpR X f (rI0 fun i j => .int (g i j)) := by
  intro pins s σ H x y v u Q I rx ry h
  obtain ⟨i, j, rfl, rfl, q⟩ := h
  obtain ⟨t, rfl⟩ := rx
  obtain ⟨t', rfl⟩ := ry
  exact rule i j t t' s _ _ ⟨.int (g i j), H, I.tok _, ⟨_, rfl⟩, q⟩
theorem opB0 {f : Value → Value → Sem Value} {g : Int → Int → Bool}
    (rule : ∀ (i j : Int) (t u : Tok) (s : Shared) (Q : Value → Shared → Prop) (E : Value → Shared → Prop), Q (.bool (g i j)) s → wpAny (model X.prog X.w) X.A (f (.int i t) (.int j u)) Q E s) :
    OpR X f (rI0 fun i j => .bl (g i j)) := by
  intro pins s σ H x y v u Q I rx ry h
  obtain ⟨i, j, rfl, rfl, q⟩ := h
  obtain ⟨t, rfl⟩ := rx
  obtain ⟨t', rfl⟩ := ry
  exact rule i j t t' s _ _ ⟨.bl (g i j), H, I, rfl, q⟩
def CDiv (i j : Int) : Prop := 0 < j ∧ j < 1073741824
def CDivN (i j : Int) : Prop := j ≠ 0 ∧ j.natAbs < 1073741824
def CPow (i j : Int) : Prop := 0 ≤ j ∧ j ≤ 1000000 ∧ i.natAbs < 2 ^ 64
def CMul (i j : Int) : Prop := (-(2 ^ 64) < i ∧ i < 2 ^ 64) ∨ (-(2 ^ 64) < j ∧ j < 2 ^ 64)
theorem CMul.ok {i j : Int} (h : CMul i j) : IntMulOk i j := by
  rcases h with ⟨h1, h2⟩ | ⟨h1, h2⟩
  · exact .of_left (intBits_le_64 h1 h2)
  · exact .of_right (intBits_le_64 h1 h2)
theorem op_add : OpR X (binaryOp .Add) (rI0 fun i j => .int (i + j)) := opI0 fun _ _ _ _ _ _ _ q => add_int q
theorem op_sub : OpR X (binaryOp .Sub) (rI0 fun i j => .int (i - j)) := opI0 fun _ _ _ _ _ _ _ q => sub_int q
theorem op_fdiv : OpR X (binaryOp .FloorDiv) (rI CDiv fun i j => .int (i / j)) := opI fun i j _ _ _ _ _ hc q => by
  have h1 : (0 : Int) < j := hc.1
  have h2 : j < 1073741824 := hc.2
  exact floordiv_int (by omega) (by rw [Int.fdiv_eq_ediv_of_nonneg i (by omega)]; exact q) (.inl (PyProof.noPylong_small (by omega)))
theorem op_mod : OpR X (binaryOp .Mod) (rI (fun _ j => 0 < j) fun i j => .int (i % j)) := opI fun i j _ _ _ _ _ hc q => by
  have h1 : (0 : Int) < j := hc
  exact mod_int' (by omega) (by rw [Int.fmod_eq_emod_of_nonneg i (by omega)]; exact q)
theorem unI {f : Value → Sem Value} {g : Int → Int}
    (rule : ∀ (i : Int) (t : Tok) (s : Shared) (Q : Value → Shared → Prop) (E : Value → Shared → Prop), Q (.int (g i) s.toks) { s with toks := s.toks + 1 } → wpAny (model X.prog X.w) X.A (f (.int i t)) Q E s) :
    UnR X f (rU fun i => .int (g i)) := by
  intro pins s σ H x v Q I rx h
  obtain ⟨i, rfl, q⟩ := h
  obtain ⟨t, rfl⟩ := rx
  exact rule i t s _ _ ⟨.int (g i), H, I.tok _, ⟨_, rfl⟩, q⟩
theorem un_neg : UnR X (unaryOp .USub) (rU fun i => .int (-i)) := unI fun _ _ _ _ _ q => neg_int q
end
def scal : V → V → Bool
  | .non, .non => true | .non, .int _ => true | .int _, .non => true | .non, .bl _ => true | .bl _, .non => true | .non, .str _ => true | .str _, .non => true
  | .int _, .int _ => true | .bl _, .bl _ => true | .str _, .str _ => true | .byt _, .byt _ => true
  | .int _, .str _ => true | .str _, .int _ => true | .bl _, .str _ => true | .str _, .bl _ => true
  | _, _ => false
def rEq : R2 := fun x y H Q => scal x y = true ∧ Q (.bl (decide (x = y))) H
def rNe : R2 := fun x y H Q => scal x y = true ∧ Q (.bl (!decide (x = y))) H
theorem dec_int {i j : Int} : decide (V.int i = V.int j) = (i == j) := by
  rw [Bool.eq_iff_iff]
  simp
theorem dec_bl {i j : Bool} : decide (V.bl i = V.bl j) = (i == j) := by
  rw [Bool.eq_iff_iff]
  simp
theorem dec_str {i j : Str} : decide (V.str i = V.str j) = (i == j) := by
  rw [Bool.eq_iff_iff]
  simp
theorem dec_byt {i j : Array UInt8} : decide (V.byt i = V.byt j) = (i.toList == j.toList) := by
  rw [Bool.eq_iff_iff]
  cases i
  cases j
  simp
section
variable {X : Cx} {a b c : Expr} {ta tb tc : TE} {pos : Pos}
theorem fin_bl {pins : List (Addr × Obj)} {σ : St} {H : Hp} {s : Shared} {Q : VK} {k k' : Bool} (I : Inv X pins σ H s) (q : Q (.bl k) H) (e : k = k') : EP X pins σ Q (.bool k') s := by
  subst e
  exact ⟨.bl k, H, I, rfl, q⟩
theorem op_eq : OpR X (compareOp .Eq) rEq := by
  intro pins s σ H x y v u Q I rx ry h
  obtain ⟨hs, q⟩ := h
  cases x with
  | non =>
    cases rx
    cases y with
    | non => cases ry; exact PySem.EqNone.eq_none_none (fin_bl I q (by simp))
    | bl j => cases ry; exact PySem.EqNone.eq_none_bool (fin_bl I q (by simp))
    | int j => obtain ⟨t', rfl⟩ := ry; exact PySem.EqNone.eq_none_int (fin_bl I q (by simp))
    | str j => obtain ⟨t', rfl⟩ := ry; exact PySem.EqNone.eq_none_str (fin_bl I q (by simp))
    | _ => exact absurd (show false = true from hs) Bool.false_ne_true
  | bl i =>
    cases rx
    cases y with
    | non => cases ry; exact PySem.EqNone.eq_bool_none (fin_bl I q (by simp))
    | bl j => cases ry; exact eq_bool (fin_bl I q dec_bl)
    | str j => obtain ⟨t', rfl⟩ := ry; exact PySem.EqMixed.eq_bool_str (fin_bl I q (by simp))
    | _ => exact absurd (show false = true from hs) Bool.false_ne_true
  | int i =>
    obtain ⟨t, rfl⟩ := rx
    cases y with
    | non => cases ry; exact PySem.EqNone.eq_int_none (fin_bl I q (by simp))
    | int j => obtain ⟨t', rfl⟩ := ry; exact eq_int (fin_bl I q dec_int)
    | str j => obtain ⟨t', rfl⟩ := ry; exact PySem.EqMixed.eq_int_str (fin_bl I q (by simp))
    | _ => exact absurd (show false = true from hs) Bool.false_ne_true
  | str i =>
    obtain ⟨t, rfl⟩ := rx
    cases y with
    | non => cases ry; exact PySem.EqNone.eq_str_none (fin_bl I q (by simp))
    | bl j => cases ry; exact PySem.EqMixed.eq_str_bool (fin_bl I q (by simp))
    | int j => obtain ⟨t', rfl⟩ := ry; exact PySem.EqMixed.eq_str_int (fin_bl I q (by simp))
    | str j => obtain ⟨t', rfl⟩ := ry; exact eq_str (fin_bl I q dec_str)
    | _ => exact absurd (show false = true from hs) Bool.false_ne_true
  | byt i =>
    obtain ⟨t, rfl⟩ := rx
    cases y with
    | byt j => obtain ⟨t', rfl⟩ := ry; exact PySem.W.eq_bytes (fin_bl I q dec_byt)
    | _ => exact absurd (show false = true from hs) Bool.false_ne_true
  | _ => cases y <;> exact absurd (show false = true from hs) Bool.false_ne_true
theorem op_ne : OpR X (compareOp .NotEq) rNe := by
  intro pins s σ H x y v u Q I rx ry h
  obtain ⟨hs, q⟩ := h
  cases x with
  | non =>
    cases rx
    cases y with
    | non => cases ry; exact PySem.EqNone.ne_none_none (fin_bl I q (by simp))
    | bl j => cases ry; exact PySem.EqNone.ne_none_bool (fin_bl I q (by simp))
    | int j => obtain ⟨t', rfl⟩ := ry; exact PySem.EqNone.ne_none_int (fin_bl I q (by simp))
    | str j => obtain ⟨t', rfl⟩ := ry; exact PySem.EqNone.ne_none_str (fin_bl I q (by simp))
    | _ => exact absurd (show false = true from hs) Bool.false_ne_true
  | bl i =>
    cases rx
    cases y with
    | non => cases ry; exact PySem.EqNone.ne_bool_none (fin_bl I q (by simp))
    | bl j => cases ry; exact ne_bool (fin_bl I q (congrArg not dec_bl))
    | str j => obtain ⟨t', rfl⟩ := ry; exact PySem.EqMixed.ne_bool_str (fin_bl I q (by simp))
    | _ => exact absurd (show false = true from hs) Bool.false_ne_true
  | int i =>
    obtain ⟨t, rfl⟩ := rx
    cases y with
    | non => cases ry; exact PySem.EqNone.ne_int_none (fin_bl I q (by simp))
    | int j => obtain ⟨t', rfl⟩ := ry; exact ne_int (fin_bl I q (congrArg not dec_int))
    | str j => obtain ⟨t', rfl⟩ := ry; exact PySem.EqMixed.ne_int_str (fin_bl I q (by simp))
    | _ => exact absurd (show false = true from hs) Bool.false_ne_true
  | str i =>
    obtain ⟨t, rfl⟩ := rx
    cases y with
    | non => cases ry; exact PySem.EqNone.ne_str_none (fin_bl I q (by simp))
    | bl j => cases ry; exact PySem.EqMixed.ne_str_bool (fin_bl I q (by simp))
    | int j => obtain ⟨t', rfl⟩ := ry; exact PySem.EqMixed.ne_str_int (fin_bl I q (by simp))
    | str j => obtain ⟨t', rfl⟩ := ry; exact ne_str (fin_bl I q (congrArg not dec_str))
    | _ => exact absurd (show false = true from hs) Bool.false_ne_true
  | byt i =>
    obtain ⟨t, rfl⟩ := rx
    cases y with
    | byt j => obtain ⟨t', rfl⟩ := ry; exact PySem.W.ne_bytes (fin_bl I q (congrArg not dec_byt))
    | _ => exact absurd (show false = true from hs) Bool.false_ne_true
  | _ => cases y <;> exact absurd (show false = true from hs) Bool.false_ne_true
theorem op_lt : OpR X (compareOp .Lt) (rI0 fun i j => .bl (decide (i < j))) := opB0 fun _ _ _ _ _ _ _ q => lt_int q
theorem op_le : OpR X (compareOp .LtE) (rI0 fun i j => .bl (decide (i ≤ j))) := opB0 fun _ _ _ _ _ _ _ q => le_int q
theorem op_gt : OpR X (compareOp .Gt) (rI0 fun i j => .bl (decide (j < i))) := opB0 fun _ _ _ _ _ _ _ q => gt_int q
theorem op_ge : OpR X (compareOp .GtE) (rI0 fun i j => .bl (decide (j ≤ i))) := opB0 fun _ _ _ _ _ _ _ q => ge_int q
theorem op_in_str : OpR X (compareOp .In) (fun x y H Q => ∃ i j, x = .str i ∧ y = .str j ∧ Q (.bl (!(Builtin.Str.occurrences j i 0 j.length 1).isEmpty)) H) := by
  intro pins s σ H x y v u Q I rx ry h
  obtain ⟨i, j, rfl, rfl, q⟩ := h
  obtain ⟨t, rfl⟩ := rx
  obtain ⟨t', rfl⟩ := ry
  exact in_str (fin_bl I q rfl)
theorem op_isN : OpR X (compareOp .Is) (fun x y H Q => y = .non ∧ Q (.bl (decide (x = .non))) H) := by
  intro pins s σ H x y v u Q I rx ry h
  obtain ⟨rfl, q⟩ := h
  cases ry
  refine is_none_gen (fin_bl I q ?_)
  cases x <;> first
    | (cases rx; rfl)
    | (obtain ⟨t, rfl⟩ := rx; rfl)
theorem op_notN : OpR X (compareOp .IsNot) (fun x y H Q => y = .non ∧ Q (.bl (!decide (x = .non))) H) := by
  intro pins s σ H x y v u Q I rx ry h
  obtain ⟨rfl, q⟩ := h
  cases ry
  refine isnot_none_gen (fin_bl I q ?_)
  cases x <;> first
    | (cases rx; rfl)
    | (obtain ⟨t, rfl⟩ := rx; rfl)
def isObj : HO → Bool
  | .lst _ => true
  | .ins _ _ _ => true
  | _ => false
theorem OpR.or {f : Value → Value → Sem Value} {r r' : R2} (h : OpR X f r) (h' : OpR X f r') : OpR X f (fun x y H Q => r x y H Q ∨ r' x y H Q) := by
  intro pins s σ H x y v u Q I rx ry q
  rcases q with q | q
  · exact h pins s σ H x y v u Q I rx ry q
  · exact h' pins s σ H x y v u Q I rx ry q
theorem nomark (b : Expr) {op : CmpOp} (h : op ≠ .In := by decide) (h2 : op ≠ .NotIn := by decide) : behindInMarks op b = false := by
  have e1 : (op == CmpOp.In) = false := by cases op <;> first | rfl | exact absurd rfl h
  have e2 : (op == CmpOp.NotIn) = false := by cases op <;> first | rfl | exact absurd rfl h2
  cases b <;> simp [behindInMarks, e1, e2]
theorem pe_cmpR {op : CmpOp} {r : R2} (ho : OpR X (compareOp op) r) (ha : PE X a ta) (hb : PE X b tb) (hm : behindInMarks op b = false) : PE X (.Compare a [op] [b] pos) (tOp r ta tb) := by
  intro pins s σ H Q I h
  exact wpAny_Compare1 (binT ha hb I h fun v u s2 x y H2 I2 rx ry q => ho pins s2 σ H2 x y v u Q I2 rx ry q) hm
def tTest (t : TE) : TT := fun σ H Q => t σ H fun x H' => ∃ k, x = .bl k ∧ Q k H'
theorem pt_cmpR {op : CmpOp} {r : R2} (ho : OpR X (compareOp op) r) (ha : PE X a ta) (hb : PE X b tb) (hm : behindInMarks op b = false) : PT X (.Compare a [op] [b] pos) (tTest (tOp r ta tb)) := by
  intro pins s σ H Q I h
  refine wpAny_isTrue_Compare1 (thn (ha pins s σ H _ I h) fun v s1 ⟨x, H1, I1, r1, q1⟩ => thn (hb pins s1 σ H1 _ I1 q1) fun u s2 ⟨y, H2, I2, r2, q2⟩ =>
    thn (ho pins s2 σ H2 x y v u _ I2 r1 r2 q2) fun c s3 ⟨z, H3, I3, r3, k, e, q3⟩ => ?_) hm
  subst e
  cases r3
  exact wpAny_truthy_bool ⟨H3, I3, q3⟩
def tChain (r r' : R2) (ta tb tc : TE) : TE := fun σ H Q => ta σ H fun x H1 => tb σ H1 fun y H2 => r x y H2 fun z H3 => ∃ k, z = .bl k ∧
  (if k = true then tc σ H3 fun w' H4 => r' y w' H4 Q else Q (.bl false) H3)
theorem pt_chain {op op' : CmpOp} {r r' : R2} (ho : OpR X (compareOp op) r) (ho' : OpR X (compareOp op') r') (ha : PE X a ta) (hb : PE X b tb) (hc : PE X c tc)
    (hm : lastMarks [op, op'] [b, c] = false := by with_unfolding_all rfl) : PT X (.Compare a [op, op'] [b, c] pos) (tTest (tChain r r' ta tb tc)) := by
  intro pins s σ H Q I h
  refine isTrue_chain (thn (ha pins s σ H _ I h) fun v s1 ⟨x, H1, I1, r1, q1⟩ => test_link (thn (hb pins s1 σ H1 _ I1 q1) fun u s2 ⟨y, H2, I2, r2, q2⟩ =>
    thn (ho pins s2 σ H2 x y v u _ I2 r1 r2 q2) fun d s3 ⟨z, H3, I3, r3, k, e, q3⟩ => ?_)) hm
  subst e
  cases r3
  refine wpAny_truthy_bool ?_
  cases k with
  | false =>
    obtain ⟨k', e', q'⟩ := q3
    cases e'
    exact ite_ff ⟨H3, I3, q'⟩
  | true =>
    refine ite_tt (test_last (thn (hc pins s3 σ H3 _ I3 q3) fun w' s4 ⟨z', H4, I4, r4, q4⟩ => thn (ho' pins s4 σ H4 y z' u w' _ I4 r2 r4 q4) fun d' s5 ⟨z2, H5, I5, r5, k2, e2, q5⟩ => ?_))
    subst e2
    cases r5
    exact wpAny_truthy_bool ⟨H5, I5, q5⟩
def TruV (K : PySem.W.Frag) (x : V) (H : Hp) (k : Bool) : Prop :=
  match x with
  | .non => k = false
  | .bl b => k = b
  | .int i => k = (i != 0)
  | .str y => y.length ≤ sizeLine ∧ k = ((y.length : Int) != 0)
  | .byt y => y.size ≤ sizeLine ∧ k = ((y.size : Int) != 0)
  | .ref p => (∃ xs, SqL K H p xs ∧ k = !xs.isEmpty) ∨ (∃ xs, SqT K H p xs ∧ k = !xs.isEmpty) ∨ ∃ kvs, H p = some (.dK kvs) ∧ k = !kvs.isEmpty
  | _ => False
theorem line63 : (sizeLine : Nat) < 2 ^ 63 := by rw [sizeLine_eq]; decide
theorem op_add_str : OpR X (binaryOp .Add) (fun x y H Q => ∃ i j, x = .str i ∧ y = .str j ∧ i.length + j.length ≤ sizeLine ∧ Q (.str (i ++ j)) H) := by
  intro pins s σ H x y v u Q I rx ry h
  obtain ⟨i, j, rfl, rfl, hz, q⟩ := h
  obtain ⟨t, rfl⟩ := rx
  obtain ⟨t', rfl⟩ := ry
  exact add_str (fun t' tk => ⟨.str (i ++ j), H, I.tok _, ⟨_, rfl⟩, q⟩) hz
def PlainIxT (b : Expr) : Prop := ∀ o i, subscripted b false o i = operate [o, i] (getItem o i)
theorem vals1 {x : V} {us : List Value} (r : Vals [x] us) : ∃ u, us = [u] ∧ RelV x u := by
  cases r with
  | cons r1 r2 => cases r2; exact ⟨_, rfl, r1⟩
theorem vals2 {x y : V} {us : List Value} (r : Vals [x, y] us) : ∃ u w', us = [u, w'] ∧ RelV x u ∧ RelV y w' := by
  cases r with
  | cons r1 r2 =>
    cases r2 with
    | cons r3 r4 => cases r4; exact ⟨_, _, rfl, r1, r3⟩
theorem call_abs : CallR X (.builtin "abs") (fun xs H Q => ∃ i, xs = [.int i] ∧ Q (.int (if i < 0 then -i else i)) H) := by
  intro pins s σ H xs us Q I r h
  obtain ⟨i, rfl, q⟩ := h
  obtain ⟨u, rfl, t, rfl⟩ := vals1 r
  exact call_abs_int fun u tk => ⟨.int (if i < 0 then -i else i), H, I.tok _, ⟨_, rfl⟩, q⟩
theorem call_min2 (hc : X.calm = true) : CallR X (.builtin "min") (fun xs H Q => ∃ i j, xs = [.int i, .int j] ∧ Q (.int (if j < i then j else i)) H) := by
  intro pins s σ H xs us Q I r h
  obtain ⟨i, j, rfl, q⟩ := h
  obtain ⟨u, w', rfl, ⟨t, rfl⟩, ⟨t', rfl⟩⟩ := vals2 r
  refine min_two_ints (I.ok.hd hc) fun h' tk k => ⟨_, H, I.kept k, ?_, q⟩
  by_cases hj : j < i
  · rw [if_pos hj, if_pos hj]; exact ⟨_, rfl⟩
  · rw [if_neg hj, if_neg hj]; exact ⟨_, rfl⟩
theorem call_int1 : CallR X (.type "int") (fun xs H Q => (∃ i, xs = [.int i] ∧ Q (.int i) H) ∨ ∃ k, xs = [.bl k] ∧ Q (.int (if k then 1 else 0)) H) := by
  intro pins s σ H xs us Q I r h
  rcases h with ⟨i, rfl, q⟩ | ⟨k, rfl, q⟩
  · obtain ⟨u, rfl, t, rfl⟩ := vals1 r
    exact call_int_int ⟨.int i, H, I, ⟨_, rfl⟩, q⟩
  · obtain ⟨u, rfl, r1⟩ := vals1 r
    cases r1
    exact call_int_bool ⟨.int (if k then 1 else 0), H, I.tok _, ⟨_, rfl⟩, q⟩
theorem call_str_int : CallR X (.type "str") (fun xs H Q => ∃ i, xs = [.int i] ∧ i.natAbs.log2 < 1920 ∧ Q (.str (toString i)) H) := by
  intro pins s σ H xs us Q I r h
  obtain ⟨i, rfl, hz, q⟩ := h
  obtain ⟨u, rfl, t, rfl⟩ := vals1 r
  exact PySem.P.str_of_int hz ⟨.str _, H, I.tok _, ⟨_, rfl⟩, q⟩
def LenV (K : PySem.W.Frag) (x : V) (H : Hp) (n : Nat) : Prop :=
  match x with
  | .str y => y.length ≤ sizeLine ∧ n = y.length
  | .byt y => y.size ≤ sizeLine ∧ n = y.size
  | .ref p => (∃ xs, SqL K H p xs ∧ n = xs.length) ∨ ∃ xs, SqT K H p xs ∧ n = xs.length
  | _ => False
end
end L2
namespace L2
open PySem PySem.Spec PyProof.Rows
structure ObjM (h : Heap) (x dx C : Addr) (mA : Str → Option Value) : Prop where
  obj : h.get? x = some (PySem.W.instObj C dx)
  ns : h.Ns1 dx mA
  ne : dx ≠ x
theorem lookIn_ns {h : Heap} {dx : Addr} {mA : Str → Option Value} (n : h.Ns1 dx mA) : ∃ od, h.get? dx = some od ∧ ∀ name, PySem.W.lookIn name od = some (mA name) := by
  obtain ⟨o, es, ep, ho, hd, hk, _, hm⟩ := n
  refine ⟨o, ho, fun name => ?_⟩
  have e := hm name
  unfold nsFind findBy at e
  rw [← Array.find?_toList] at e
  unfold PySem.W.lookIn
  rw [hd]
  dsimp only
  split
  · rename_i y q
    rw [q] at e
    exact congrArg some e
  · rename_i q
    rw [q] at e
    have a : es.toList.any (·.refKey) = false := by
      rw [List.any_eq_false]
      intro y hy
      obtain ⟨z, t, hkey⟩ := hk y (Array.mem_toList_iff.mp hy)
      simp [DictEntry.refKey, hkey]
    have a' : ¬ es.toList.any (·.refKey) = true := by rw [a]; exact Bool.false_ne_true
    rw [if_neg a']
    exact congrArg some e
theorem ObjM.look {h : Heap} {x dx C : Addr} {mA : Str → Option Value} (I : ObjM h x dx C mA) : ∃ od, PySem.W.InstAt h x (PySem.W.instObj C dx) C (some od) ∧ ∀ name, PySem.W.lookIn name od = some (mA name) :=
  let ⟨od, ho, hl⟩ := lookIn_ns I.ns
  ⟨od, ⟨I.obj, rfl, rfl, ho⟩, hl⟩
section
variable {prog : Program} {w : World} {A : Around} {E : Value → Shared → Prop} {s : Shared} {K : PySem.W.Frag} {x dx C f : Addr} {mA : Str → Option Value} {name : Str} {v : Value}
end
def putF (f : Str) (v : V) : List (Str × V) → List (Str × V)
  | [] => [(f, v)]
  | (g, x) :: r => if g = f then (g, v) :: r else (g, x) :: putF f v r
theorem RelO.some_of {v : V} {o : Option Value} (r : RelO (some v) o) : ∃ u, o = some u ∧ RelV v u := by
  cases o with
  | none => exact (show False from r).elim
  | some u => exact ⟨u, rfl, r⟩
section
variable {P : Program} {w : World} {H H' : Hp} {h h' : Heap} {a C dx : Addr} {fs fs' : List (Str × V)}
theorem ins_get (hok : HOk P w H h) (e : H a = some (.ins C dx fs)) : ∃ mA, ObjM h a dx C mA ∧ (∀ f, RelO (fs.lookup f) (mA f)) ∧ PySem.Within mA (fs.map (·.1)) ∧ fs.length ≤ 1000 ∧ H dx = some (.own a) := by
  obtain ⟨d, z, ne, ob, mA, n, r, q⟩ := (show ObjOk P w H h a (.ins C dx fs) from hok a _ e)
  exact ⟨mA, ⟨ob, n, ne⟩, r, q, z, d⟩
end
structure Cls (K : PySem.W.Frag) (C : Addr) : Prop where
  pg : PySem.W.plainGet K C Str.empty = true
  hd : PySem.W.hasDictIn K C = true
  po : PySem.W.plainOver K C = true
  sa : PySem.W.findIn K (.ref C) "__setattr__" = some (some (.builtin "object.__setattr__"))
theorem Cls.get {K : PySem.W.Frag} {C : Addr} (c : Cls K C) (f : Str) : PySem.W.plainGet K C f = true := c.pg
def NoAttr (K : PySem.W.Frag) (C : Addr) (f : Str) : Prop := PySem.W.findIn K (.ref C) f = some none
structure Con (K : PySem.W.Frag) (C : Addr) (f : Str) (v : V) (u : Value) : Prop where
  at_ : PySem.W.findIn K (.ref C) f = some (some u)
  rel : RelV v u
  get : PySem.W.specialIn K u "__get__" = some none
  cp : PySem.W.copiedNames.contains f = false
structure Meth (K : PySem.W.Frag) (C : Addr) (m : Str) (f : Addr) : Prop where
  at_ : PySem.W.findIn K (.ref C) m = some (some (.ref f))
  fn : PySem.W.isFn K (.ref f) = true
  kp : PySem.W.keepIn K (.ref f) = true
section
variable {X : Cx} {pins : List (Addr × Obj)} {σ : St} {H : Hp} {s : Shared} {a C dx : Addr} {fs : List (Str × V)} {f : Str} {v : V} {A : Around} {E : Value → Shared → Prop}
end
def tFld (K : PySem.W.Frag) (ta : TE) (f : Str) : TE := fun σ H Q => ta σ H fun x H1 => ∃ a C dx fs v, x = .ref a ∧ H1 a = some (.ins C dx fs) ∧ Cls K C ∧ NoAttr K C f ∧ fs.lookup f = some v ∧ Q v H1
def tCon (K : PySem.W.Frag) (ta : TE) (f : Str) : TE := fun σ H Q => ta σ H fun x H1 => ∃ a C dx fs v u, x = .ref a ∧ H1 a = some (.ins C dx fs) ∧ Cls K C ∧ Con K C f v u ∧ fs.lookup f = none ∧ Q v H1
def sFld (K : PySem.W.Frag) (ta tv : TE) (f : Str) : TS := fun D σ H => tv σ H fun y H1 => ta σ H1 fun x H2 => ∃ a C dx fs, x = .ref a ∧ H2 a = some (.ins C dx fs) ∧ Cls K C ∧ NoAttr K C f ∧ fs.length < 1000 ∧
  D.nx σ (upd H2 a (.ins C dx (putF f y fs)))
def InOp (X : Cx) (op : Operator) (rd : V → V → Hp → VK → Prop) : Prop :=
  ∀ (pins : List (Addr × Obj)) (s : Shared) (σ : St) (H : Hp) (x y : V) (u v : Value) (Q : VK), Inv X pins σ H s → RelV x u → RelV y v → rd x y H Q → wpAny (model X.prog X.w) X.A (inplaceOp op u v) (EP X pins σ Q) X.xe s
def sFldAug (K : PySem.W.Frag) (ta tv : TE) (rd : V → V → Hp → VK → Prop) (f : Str) : TS := fun D σ H => ta σ H fun x H1 => ∃ a C dx fs v, x = .ref a ∧ H1 a = some (.ins C dx fs) ∧ Cls K C ∧ NoAttr K C f ∧ fs.lookup f = some v ∧
  tv σ H1 fun y H2 => rd v y H2 fun z H3 => ∃ dx' fs', H3 a = some (.ins C dx' fs') ∧ fs'.length < 1000 ∧ D.nx σ (upd H3 a (.ins C dx' (putF f z fs')))
section
variable {X : Cx} {o e value : Expr} {f : Str} {pos pos' tpos : Pos} {ta tv : TE}
def rAdd : V → V → Hp → VK → Prop := fun x y H Q => ∃ i j, x = .int i ∧ y = .int j ∧ Q (.int (i + j)) H
def rSub : V → V → Hp → VK → Prop := fun x y H Q => ∃ i j, x = .int i ∧ y = .int j ∧ Q (.int (i - j)) H
end
section
variable {X : Cx} {pins : List (Addr × Obj)} {σ : St} {H : Hp} {s : Shared} {A : Around} {E : Value → Shared → Prop} {Q : Value → Shared → Prop} {c : Value} {b : Bool}
inductive TyOf (K : PySem.W.Frag) (H : Hp) : V → Value → Prop where
  | non : TyOf K H .non (.type "NoneType")
  | bl (x : Bool) : TyOf K H (.bl x) (.type "bool")
  | int (i : Int) : TyOf K H (.int i) (.type "int")
  | str (x : Str) : TyOf K H (.str x) (.type "str")
  | flt (x : UInt64) : TyOf K H (.flt x) (.type "float")
  | lst {a : Addr} {xs : List V} (e : H a = some (.lst xs)) : TyOf K H (.ref a) (.type "list")
  | frz {a : Addr} {o : Obj} {xs : List V} (e : H a = some (.frz o (.lst xs))) : TyOf K H (.ref a) (.type "list")
  | tup {a : Addr} {xs : List V} (e : H a = some (.tup xs)) : TyOf K H (.ref a) (.type "tuple")
  | dK {a : Addr} {kvs : List (Key × V)} (e : H a = some (.dK kvs)) : TyOf K H (.ref a) (.type "dict")
  | dT {a : Addr} {kvs : List (List Key × V)} (e : H a = some (.dT kvs)) : TyOf K H (.ref a) (.type "dict")
  | ins {a C dx : Addr} {fs : List (Str × V)} (e : H a = some (.ins C dx fs)) (cl : Cls K C) (ha : PySem.W.findIn K (.ref C) "__class__" = some (some (.builtin "object.__class__")))
      (hn : PySem.W.specialIn K (.builtin "object.__class__") "__get__" = some (some (.builtin "getset_descriptor.__get__"))) (htk : PySem.W.takesIn K (.builtin "object.__class__") = some true)
      (hm : PySem.W.mroIn K C (.type "object") = some true) : TyOf K H (.ref a) (.ref C)
theorem isinst_ok {x : V} {u t : Value} (I : Inv X pins σ H s) (rx : RelV x u) (ty : TyOf X.K H x t) (e : PySem.W.kitOne X.K t c = some b) (h : ∀ tk, Q (.bool b) { s with toks := tk }) :
    wpAny (model X.prog X.w) A (call (.builtin "isinstance") [u, c]) Q E s := by
  cases ty with
  | non => cases (show u = Value.none from rx); exact PySem.W.kia_one PySem.W.kitx_none I.kIn True.intro e (fun z => nomatch z) h
  | bl y => cases (show u = Value.bool y from rx); exact PySem.W.kia_one PySem.W.kitx_bool I.kIn True.intro e (fun z => nomatch z) h
  | int i => obtain ⟨t, q⟩ := (show ∃ t, u = Value.int i t from rx); cases q; exact PySem.W.kia_one PySem.W.kitx_int I.kIn True.intro e (fun z => nomatch z) h
  | str y => obtain ⟨t, q⟩ := (show ∃ t, u = Value.str y t from rx); cases q; exact PySem.W.kia_one PySem.W.kitx_str I.kIn True.intro e (fun z => nomatch z) h
  | flt y => obtain ⟨t, q⟩ := (show ∃ t, u = Value.float y t from rx); cases q; exact PySem.W.kia_one PySem.W.kitx_float I.kIn True.intro e (fun z => nomatch z) h
  | @lst a xs ea =>
    cases (show u = Value.ref a from rx)
    obtain ⟨_, _, n, _, h1⟩ := (show ObjOk X.prog X.w H s.heap a (.lst xs) from I.hok a _ ea)
    exact PySem.W.kia_one PySem.W.kitx_list I.kIn ⟨_, h1, rfl⟩ e (fun z => nomatch z) h
  | @frz a ob xs ea =>
    cases (show u = Value.ref a from rx)
    obtain ⟨_, _, _, n, _, h1⟩ := (show ObjOk X.prog X.w H s.heap a (.frz ob (.lst xs)) from I.hok a _ ea)
    exact PySem.W.kia_one PySem.W.kitx_list I.kIn ⟨_, h1, rfl⟩ e (fun z => nomatch z) h
  | @tup a xs ea =>
    cases (show u = Value.ref a from rx)
    obtain ⟨_, _, _, p⟩ := (show ObjOk X.prog X.w H s.heap a (.tup xs) from I.hok a _ ea)
    obtain ⟨o, h1, h2, _⟩ := p
    exact PySem.W.kia_one PySem.W.kitx_tuple I.kIn ⟨o, h1, h2⟩ e (fun z => nomatch z) h
  | @dK a kvs ea =>
    cases (show u = Value.ref a from rx)
    obtain ⟨_, _, vs, _, p⟩ := (show ObjOk X.prog X.w H s.heap a (.dK kvs) from I.hok a _ ea)
    obtain ⟨o, es, ep, h1, h2, _⟩ := p
    exact PySem.W.kia_one PySem.W.kitx_dict I.kIn ⟨o, h1, h2.1⟩ e (fun z => nomatch z) h
  | @dT a kvs ea =>
    cases (show u = Value.ref a from rx)
    obtain ⟨_, _, xs, _, o, es, ep, h1, h2, _⟩ := (show ObjOk X.prog X.w H s.heap a (.dT kvs) from I.hok a _ ea)
    exact PySem.W.kia_one PySem.W.kitx_dict I.kIn ⟨o, h1, h2.1⟩ e (fun z => nomatch z) h
  | @ins a C dx fs ea cl ha hn htk hm =>
    cases (show u = Value.ref a from rx)
    obtain ⟨mA, O, _⟩ := ins_get I.hok ea
    obtain ⟨od, J, _⟩ := O.look
    exact PySem.W.kia_one (PySem.W.kitx_own (cl.get _) cl.hd ha hn htk hm) I.kIn J e (fun z => nomatch z) h
end
end L2
namespace L2
open PySem PySem.Spec PyProof.Rows
structure Room (k : Nat) (A : Around) : Prop where
  hd : A.handled = none
  dp : A.depth + 3 * k + 5 < recursionLimit
  un : A.units + 16 * k + 200 < cLine
theorem Room.mono {j k : Nat} {A : Around} (r : Room k A) (h : j ≤ k) : Room j A := ⟨r.hd, by have := r.dp; omega, by have := r.un; omega⟩
theorem Room.deeper {k : Nat} {A : Around} (r : Room (k + 1) A) (env : Env) : Room k (A.deeper env) :=
  ⟨r.hd, by have := r.dp; show A.depth + 1 + 3 * k + 5 < _; omega, by have := r.un; show A.units + 3 + 16 * k + 200 < _; omega⟩
theorem Room.in1 {k : Nat} {A : Around} (r : Room (k + 1) A) : Room k A.in1 :=
  ⟨r.hd, by have := r.dp; show A.depth + 3 * k + 5 < _; omega, by have := r.un; show A.units + 1 + 16 * k + 200 < _; omega⟩
theorem Room.depth {k : Nat} {A : Around} (r : Room k A) : A.depth < recursionLimit := by have := r.dp; omega
theorem Room.units {k : Nat} {A : Around} (r : Room k A) : A.units + 64 < cLine := by have := r.un; omega
theorem Room.units0 {k : Nat} {A : Around} (r : Room k A) : A.units < cLine := by have := r.un; omega
def tNil : TA := fun _ H Q => Q [] H
def tCons (ta : TE) (tr : TA) : TA := fun σ H Q => ta σ H fun x H1 => tr σ H1 fun xs H2 => Q (x :: xs) H2
section
variable {X : Cx} {e : Expr} {es : List Expr} {te : TE} {t : TA} {pos : Pos}
theorem pa_nil : PA X [] tNil := fun _ _ _ _ H Q I h => Calls.spliced_nil ⟨[], H, I, .nil, h⟩
theorem pa_cons (ha : PE X e te) (hr : PA X es t) (hs : starEach (e :: es) X.env = (false, eval e X.env) :: starEach es X.env := by rfl) : PA X (e :: es) (tCons te t) := by
  intro pos pins s σ H Q I h
  rw [hs]
  show wpAny _ _ (spliced ((false, eval e X.env) :: backTo pos (starEach es X.env))) _ _ s
  refine Calls.spliced_cons (thn (ha pins s σ H _ I h) fun u s1 ⟨x, H1, I1, r1, q1⟩ => ?_)
  exact thn (hr pos pins s1 σ H1 _ I1 q1) fun us s2 ⟨xs, H2, I2, r2, q2⟩ => ⟨x :: xs, H2, I2, .cons r1 r2, q2⟩
def tTup (t : TA) : TE := fun σ H Q => t σ H fun xs H1 => xs.length ≤ sizeLine ∧ ∀ p, H1 p = none → Q (.ref p) (upd H1 p (.tup xs))
def tLst (t : TA) : TE := fun σ H Q => t σ H fun xs H1 => xs.length ≤ sizeLine ∧ ∀ p, H1 p = none → Q (.ref p) (upd H1 p (.lst xs))
theorem pe_tup {x1} (h : PA X es t) : PE X (.Tuple es x1 pos) (tTup t) := by
  intro pins s σ H Q I hq
  refine wpAny_Tuple_spliced (thn (h pos pins s σ H _ I hq) fun us s1 ⟨xs, H1, I1, r, z, q⟩ => ⟨by rw [← r.length]; exact z, ?_⟩)
  have hf : H1 s1.heap.objs.size = none := I1.hok.fresh (Nat.le_refl _)
  refine ⟨.ref s1.heap.objs.size, upd H1 s1.heap.objs.size (.tup xs), I1.laid (t' := s1.toks) (fun b u e => Heap.get?_push_of_some _ e) (Nat.le_refl _) ?_, rfl, q _ hf⟩
  exact ⟨z, us, r, ⟨_, Heap.get?_push_size _ rfl, rfl, _, rfl⟩⟩
theorem pe_lst (h : PA X es t) : PE X (.List es pos) (tLst t) := by
  intro pins s σ H Q I hq
  refine wpAny_List_spliced (thn (h pos pins s σ H _ I hq) fun us s1 ⟨xs, H1, I1, r, z, q⟩ => ⟨by rw [← r.length]; exact z, ?_⟩)
  have hf : H1 s1.heap.objs.size = none := I1.hok.fresh (Nat.le_refl _)
  refine ⟨.ref s1.heap.objs.size, upd H1 s1.heap.objs.size (.lst xs), I1.laid (t' := s1.toks) (fun b u e => Heap.get?_push_of_some _ e) (Nat.le_refl _) ?_, rfl, q _ hf⟩
  exact ⟨z, us, 0, r, Heap.get?_push_size _ rfl⟩
end
abbrev Sp := List V → Hp → VK → XK → Prop
abbrev CXT := List Env → Hp → Shared → XK → Value → Shared → Prop
structure Env0 (P : Program) (w : World) (K : PySem.W.Frag) (mg : Str → Option Value) (base : Heap) (A : Around) (outer : List Env) (s : Shared) (H : Hp) : Prop where
  frames : A.frames = some outer
  mod : Mod K mg base
  bs : ∀ b o, base.get? b = some o → s.heap.get? b = some o ∧ H b = none
  bsz : base.objs.size ≤ s.heap.objs.size
  funs : s.heap.FunFrames base outer
  frf : ∀ b ∈ frs outer, H b = none
  hok : HOk P w H s.heap
  bare : AllBare s.gens
def CE (outer : List Env) (P : Program) (w : World) (H : Hp) (s : Shared) (Q : VK) (u : Value) (s' : Shared) : Prop :=
  ∃ v H', s'.os = s.os ∧ AllBare s'.gens ∧ Un (frs outer) [] H H' s.heap s'.heap ∧ HOk P w H' s'.heap ∧ RelV v u ∧ Q v H'
def CR (CX : CXT) (outer : List Env) (P : Program) (w : World) (H : Hp) (s : Shared) (Q : VK) (E : XK) (r : Result) (s' : Shared) : Prop :=
  match r with
  | .ok (.ret u) => CE outer P w H s Q u s'
  | .ok _ => False
  | .error e => CX outer H s E e s'
structure FnOk (P : Program) (w : World) (K : PySem.W.Frag) (mg : Str → Option Value) (base : Heap) (CX : CXT) (k : Nat) (f : Addr) (fd : FuncData) (ps : List Str) (sp : Sp) : Prop where
  len : ∀ vs H Q E, sp vs H Q E → vs.length = ps.length
  run : ∀ (A : Around) (outer : List Env) (s : Shared) (H : Hp) (args : Args) (us : List Value) (vs : List V) (Q : VK) (E : XK), Room k A → Env0 P w K mg base A outer s H → BindsTo s fd args (ps.zip us) → Vals vs us → sp vs H Q E →
    codeAny (model P w) A (.call (.ref f) args) (CR CX outer P w H s Q E) s
theorem FnOk.mono {P : Program} {w : World} {K : PySem.W.Frag} {mg : Str → Option Value} {base : Heap} {CX : CXT} {j k : Nat} {f : Addr} {fd : FuncData} {ps : List Str} {sp : Sp} (F : FnOk P w K mg base CX j f fd ps sp) (h : j ≤ k) :
    FnOk P w K mg base CX k f fd ps sp := ⟨F.len, fun A outer s H args us vs Q E hr => F.run A outer s H args us vs Q E (hr.mono h)⟩
theorem Env0.in1 {P : Program} {w : World} {K : PySem.W.Frag} {mg : Str → Option Value} {base : Heap} {A : Around} {outer : List Env} {s : Shared} {H : Hp} (e : Env0 P w K mg base A outer s H) :
    Env0 P w K mg base A.in1 outer s H := ⟨e.frames, e.mod, e.bs, e.bsz, e.funs, e.frf, e.hok, e.bare⟩
section
variable {X : Cx} {pins : List (Addr × Obj)} {σ : St} {H : Hp} {s s' : Shared}
theorem Inv.env0 (I : Inv X pins σ H s) : Env0 X.prog X.w X.K X.mg X.base X.A X.stack s H :=
  ⟨I.ok.frames, I.ok.mod, I.bs, Nat.le_trans I.ok.bsz I.sz, I.stack, I.stkFree, I.hok, I.bare⟩
theorem Inv.after {Q : VK} {u : Value} (I : Inv X pins σ H s) (h : CE X.stack X.prog X.w H s Q u s') : EP X pins σ Q u s' := by
  obtain ⟨v, H', os, bare, un, hok, r, q⟩ := h
  obtain ⟨hh, g, d, t, os'⟩ := s'
  obtain rfl : os' = s.os := os
  exact ⟨v, H', I.call (h' := hh) (g' := g) (d' := d) (t' := t) (ch := []) un hok bare (fun b z => absurd z (by simp)), r, q⟩
end
def tCall (sp : Sp) (dvs : List V) (E : XK) (t : TA) : TE := fun σ H Q => t σ H fun vs H1 => sp (vs ++ dvs) H1 Q E
def tMeth (C : Addr) (m : Str) (sp : Sp) (dvs : List V) (E : XK) (ta : TE) (t : TA) : TE := fun σ H Q => ta σ H fun x H1 => ∃ a dx fs, x = .ref a ∧ H1 a = some (.ins C dx fs) ∧ fs.lookup m = none ∧
  t σ H1 fun vs H2 => sp (x :: (vs ++ dvs)) H2 Q E
def tMake (C : Addr) (sp : Sp) (dvs : List V) (E : XK) (t : TA) : TE := fun σ H Q => t σ H fun vs H1 => ∀ x dx, H1 x = none → H1 dx = none → dx ≠ x →
  sp (.ref x :: (vs ++ dvs)) (upd (upd H1 dx (.own x)) x (.ins C dx [])) (fun v H2 => v = .non ∧ Q (.ref x) H2) E
def Binds (K : PySem.W.Frag) (fd : FuncData) (ps : List Str) (ds : List Value) : Prop :=
  ∀ (s : Shared) (us : List Value), K.In s.heap → (us ++ ds).length = ps.length → BindsTo s fd ⟨us, []⟩ (ps.zip (us ++ ds))
theorem Binds.all {K : PySem.W.Frag} {fd : FuncData} {ps : List Str} (h : ∀ us : List Value, us.length = ps.length → bindArgs fd ⟨us, []⟩ = pure (ps.zip us)) : Binds K fd ps [] := fun s us _ hl => by
  rw [List.append_nil] at hl ⊢
  exact .of_eq (h us hl)
def Passes (CX : CXT) (X : Cx) (E : XK) : Prop := ∀ (pins : List (Addr × Obj)) (σ : St) (H : Hp) (s : Shared) (e : Value) (s' : Shared), Inv X pins σ H s → CX X.stack H s E e s' → X.xe e s'
section
variable {X : Cx} {CX : CXT} {k : Nat} {f C : Addr} {fd : FuncData} {ps : List Str} {sp : Sp} {dvs : List V} {ds : List Value} {E : XK} {x m : Str} {p pos apos : Pos} {e o : Expr} {es : List Expr} {ta : TE} {t : TA}
theorem run_fn {pins : List (Addr × Obj)} {σ : St} {H : Hp} {s : Shared} {Q : VK} {us : List Value} {vs : List V} (F : FnOk X.prog X.w X.K X.mg X.base CX k f fd ps sp) (hr : Room k X.A) (hb : Binds X.K fd ps ds) (hd : Vals dvs ds) (hx : Passes CX X E)
    (I : Inv X pins σ H s) (r : Vals vs us) (h : sp (vs ++ dvs) H Q E) : wpAny (model X.prog X.w) X.A (call (.ref f) us) (EP X pins σ Q) X.xe s := by
  have r2 : Vals (vs ++ dvs) (us ++ ds) := r.append hd
  have hl : (us ++ ds).length = ps.length := by rw [← r2.length]; exact F.len _ _ _ _ h
  refine wpAny_call (codeAny_mono (F.run X.A X.stack s H ⟨us, []⟩ (us ++ ds) (vs ++ dvs) Q E hr I.env0 (hb s us I.kIn hl) r2 h) fun r s' hq => ?_)
  cases r with
  | error e => exact hx pins σ H s e s' I hq
  | ok fl =>
    cases fl with
    | ret u => exact I.after hq
    | next => exact False.elim hq
    | brk => exact False.elim hq
    | cont => exact False.elim hq
theorem pe_call (F : FnOk X.prog X.w X.K X.mg X.base CX k f fd ps sp) (hr : Room k X.A) (hg : Gl X x) (hm : X.mg x = some (.ref f)) (hk : PySem.W.keepIn X.K (.ref f) = true) (hb : Binds X.K fd ps ds) (hd : Vals dvs ds) (hx : Passes CX X E)
    (ha : PA X (e :: es) t) (hdb : (x == ("__debug__" : Str)) = false := by decide) (he : starEach (e :: es) X.env = (false, eval e X.env) :: starEach es X.env := by rfl) (hpl : (backTo pos (starEach es X.env)).any (·.1) = false := by rfl) :
    PE X (.Call (.Name x p) (e :: es) [] pos) (tCall sp dvs E t) := by
  intro pins s σ H Q I h
  refine wpAny_Call_Name_kw (ld_glob I hg hm ?_ hdb)
  refine PySem.W.callWith_K (h₀ := X.base) I.ok.mod.kin hk (thn (ha pos pins s σ H _ I h) fun us s1 ⟨vs, H1, I1, r, q⟩ => ⟨I1.kIn, ?_⟩) he hpl
  exact run_fn F hr hb hd hx I1 r q
theorem pe_call0 (F : FnOk X.prog X.w X.K X.mg X.base CX k f fd ps sp) (hr : Room k X.A) (hg : Gl X x) (hm : X.mg x = some (.ref f)) (hk : PySem.W.keepIn X.K (.ref f) = true) (hb : Binds X.K fd ps ds) (hd : Vals dvs ds) (hx : Passes CX X E)
    (hdb : (x == ("__debug__" : Str)) = false := by decide) : PE X (.Call (.Name x p) [] [] pos) (tCall sp dvs E tNil) := by
  intro pins s σ H Q I h
  refine wpAny_Call_Name_kw (ld_glob I hg hm ?_ hdb)
  exact PySem.W.callWith_K0 I.kIn hk (run_fn (us := []) F hr hb hd hx I .nil h)
structure Mk (K : PySem.W.Frag) (C f : Addr) : Prop where
  makes : PySem.W.makesIn K C = true
  init : PySem.W.findIn K (.ref C) "__init__" = some (some (.ref f))
  fn : PySem.W.isFn K (.ref f) = true
  kp : PySem.W.keepIn K (.ref C) = true
end
def PK (X : Cx) (kws : List Keyword) (t : TA) : Prop :=
  ∀ (pos : Pos) (pins : List (Addr × Obj)) (s : Shared) (σ : St) (H : Hp) (Q : List V → Hp → Prop), Inv X pins σ H s → t σ H Q → wpAny (model X.prog X.w) X.A (evalAll ((backToKw pos (keywordEach kws X.env)).map (·.2))) (AP X pins σ Q) X.xe s
section
variable {X : Cx} {CX : CXT} {k : Nat} {f C : Addr} {fd : FuncData} {ps ks : List Str} {sp : Sp} {E : XK} {x m : Str} {p pos apos kpos : Pos} {e o : Expr} {es : List Expr} {kws : List Keyword} {te ta : TE} {t tk : TA} {nm : Option Str}
structure KBinds (K : PySem.W.Frag) (fd : FuncData) (ps ks : List Str) (g : List Value → List Value → List Value) (gV : List V → List V → List V) : Prop where
  to : ∀ (s : Shared) (us ws : List Value), K.In s.heap → (g us ws).length = ps.length → BindsTo s fd ⟨us, ks.zip ws⟩ (ps.zip (g us ws))
  rel : ∀ {vs : List V} {us : List Value} {zs : List V} {ws : List Value}, Vals vs us → Vals zs ws → Vals (gV vs zs) (g us ws)
def tCallK (sp : Sp) (gV : List V → List V → List V) (E : XK) (t tk : TA) : TE := fun σ H Q => t σ H fun vs H1 => tk σ H1 fun zs H2 => sp (gV vs zs) H2 Q E
variable {g : List Value → List Value → List Value} {gV : List V → List V → List V}
end
structure FnScope (N P : List Str) (sc : Scope) : Prop where
  kind : sc.kind = .function
  co : sc.isCoroutine = false
  gen : sc.isGenerator = false
  nd : N.Nodup
  pre : N.take P.length = P
  par : ∀ x ∈ P, sc.names.lookup x = some .local ∨ sc.names.lookup x = some .cell
  nofree : ∀ y ∈ sc.names, y.2 ≠ .free
theorem bindL_out {kindOf : Str → Option NameKind} {x : Str} : ∀ {binds : List (Str × Value)} {m : Str → Option Value}, (∀ v, (x, v) ∉ binds) → bindL kindOf binds m x = m x
  | [], _, _ => rfl
  | (n, v) :: r, m, h => by
    unfold bindL
    rw [bindL_out fun w hw => h w (List.mem_cons_of_mem _ hw)]
    split
    · have : x ≠ n := by rintro rfl; exact h v List.mem_cons_self
      simp [this]
    · rfl
theorem bindC_out {kindOf : Str → Option NameKind} {x : Str} : ∀ {binds : List (Str × Value)} {m : Str → Option Value}, (∀ v, (x, v) ∉ binds) → bindC kindOf binds m x = m x
  | [], _, _ => rfl
  | (n, v) :: r, m, h => by
    unfold bindC
    rw [bindC_out fun w hw => h w (List.mem_cons_of_mem _ hw)]
    split
    · rfl
    · have : x ≠ n := by rintro rfl; exact h v List.mem_cons_self
      simp [this]
theorem bindL_get {kindOf : Str → Option NameKind} {x : Str} {v : Value} : ∀ {P : List Str} {vs : List Value} {i : Nat} {m : Str → Option Value}, P.Nodup → P[i]? = some x → vs[i]? = some v → kindOf x = some .local →
    bindL kindOf (P.zip vs) m x = some v
  | [], _, _, _, _, h, _, _ => by simp at h
  | _ :: _, [], _, _, _, _, h, _ => by simp at h
  | p :: P, w :: vs, 0, m, nd, h1, h2, hk => by
    simp at h1 h2; subst h1; subst h2
    show bindL kindOf ((p, w) :: P.zip vs) m p = _
    unfold bindL
    rw [bindL_out fun v hv => (List.nodup_cons.mp nd).1 (List.of_mem_zip hv).1, if_pos hk]
    simp
  | p :: P, w :: vs, i + 1, m, nd, h1, h2, hk => by
    show bindL kindOf ((p, w) :: P.zip vs) m x = _
    unfold bindL
    exact bindL_get (i := i) (List.nodup_cons.mp nd).2 (by simpa using h1) (by simpa using h2) hk
theorem bindC_get {kindOf : Str → Option NameKind} {x : Str} {v : Value} : ∀ {P : List Str} {vs : List Value} {i : Nat} {m : Str → Option Value}, P.Nodup → P[i]? = some x → vs[i]? = some v → kindOf x ≠ some .local →
    bindC kindOf (P.zip vs) m x = some v
  | [], _, _, _, _, h, _, _ => by simp at h
  | _ :: _, [], _, _, _, _, h, _ => by simp at h
  | p :: P, w :: vs, 0, m, nd, h1, h2, hk => by
    simp at h1 h2; subst h1; subst h2
    show bindC kindOf ((p, w) :: P.zip vs) m p = _
    unfold bindC
    rw [bindC_out fun v hv => (List.nodup_cons.mp nd).1 (List.of_mem_zip hv).1, if_neg hk]
    simp
  | p :: P, w :: vs, i + 1, m, nd, h1, h2, hk => by
    show bindC kindOf ((p, w) :: P.zip vs) m x = _
    unfold bindC
    exact bindC_get (i := i) (List.nodup_cons.mp nd).2 (by simpa using h1) (by simpa using h2) hk
def start (N : List Str) (vs : List V) : St := vs.map some ++ List.replicate (N.length - vs.length) none
def cxOf (CX : CXT) (P : Program) (w : World) (K : PySem.W.Frag) (mg : Str → Option Value) (base : Heap) (N : List Str) (qual : Str) (scope : Scope) (f : Addr) (cd : Value) (A : Around) (outer : List Env) (s : Shared) (H : Hp) (E : XK) : Cx where
  prog := P
  w := w
  K := K
  mg := mg
  base := base
  A := A.deeper (envOfC qual scope s.heap.objs.size f cd)
  N := N
  s₀ := s
  H₀ := H
  env := envOfC qual scope s.heap.objs.size f cd
  outer := outer
  stack := envOfC qual scope s.heap.objs.size f cd :: outer
  ex := []
  calm := true
  fn := fun _ => true
  pn := []
  xe := fun e s' => wpAny (model P w) (A.deeper (envOfC qual scope s.heap.objs.size f cd)) (leaving (envOfC qual scope s.heap.objs.size f cd) e) (fun _ s'' => CX outer H s E e s'') (fun e' s'' => CX outer H s E e' s'') s'
theorem cell_has {sc : Scope} {n : Nat} {x : Str} (h : sc.names.lookup x = some .cell) : ∃ c, (cellsFrom n sc.names []).lookup x = some c := by
  have q := PySem.W.cellsFrom_some sc.names n [] (.inl h)
  exact Option.isSome_iff_exists.mp q
theorem inv_start {CX : CXT} {P : Program} {w : World} {K : PySem.W.Frag} {mg : Str → Option Value} {base : Heap} {N ps : List Str} {qual : Str} {scope : Scope} {f : Addr} {cd : Value} {A : Around} {outer : List Env} {s s1 : Shared} {H : Hp} {E : XK} {us : List Value} {vs : List V}
    (S : FnScope N ps scope) (hd : A.handled = none) (e0 : Env0 P w K mg base A outer s H) (hl : vs.length = ps.length) (r : Vals vs us)
    (x : InCallC s s.heap.objs.size (bindL (envOfC qual scope s.heap.objs.size f cd).kindOf (ps.zip us) fun _ => none) (cellsFrom (s.heap.objs.size + 1) scope.names []) (bindC (envOfC qual scope s.heap.objs.size f cd).kindOf (ps.zip us) fun _ => none) s1) :
    Inv (cxOf CX P w K mg base N qual scope f cd A outer s H E) [] (start N vs) H s1 := by
  have hpl : ps.length ≤ N.length := by have := congrArg List.length S.pre; rw [List.length_take] at this; omega
  obtain ⟨h1, tk, rfl, hk⟩ := x.done
  have noA : ∀ b : Addr, b ∉ (cxOf CX P w K mg base N qual scope f cd A outer s H E).ex := fun b z => absurd (show b ∈ ([] : List Addr) from z) (by simp)
  refine ⟨⟨e0.mod, S.kind, rfl, rfl, Nat.le_refl _, fun y z c h1 h2 => ?_, fun y hy => ?_, fun y c _ h => ?_, fun _ => hd, Around.frames_deeper e0.frames, .inr ⟨rfl, rfl⟩, fun b z => absurd z (noA b), e0.bs, e0.bsz, fun b _ _ => noA b, fun b z => absurd z (noA b), e0.funs, e0.frf⟩,
    rfl, e0.bare, Un.kept hk, ⟨_, x.toInCall.ns, fun i y v h1 h2 h3 => ?_⟩, fun y c h => ⟨_, x.cell y c h⟩, e0.hok.fresh (Nat.le_refl _), fun y c h => ?_, fun p hp => absurd (show p ∈ ([] : List (Addr × Obj)) from hp) (by simp), e0.hok.kept hk, ?_⟩
  · exact name_of_addr x.apart (PySem.mem_of_lookup h1) (PySem.mem_of_lookup h2)
  · have hy : scope.names.lookup y = some .cell ∨ scope.names.lookup y = some .free := hy
    rcases hy with hy | hy
    · exact cell_has hy
    · exact absurd rfl (S.nofree _ (PySem.mem_of_lookup hy))
  · exact Nat.le_of_lt (x.above y c (PySem.mem_of_lookup h))
  · have hi : i < vs.length := by
      unfold start at h2
      by_cases hi : i < vs.length
      · exact hi
      · rw [List.getElem?_append_right (by simpa using hi)] at h2
        rw [List.getElem?_replicate] at h2
        split at h2 <;> cases h2
    have ha : vs[i]? = some v := by
      unfold start at h2
      rw [List.getElem?_append_left (by simpa using hi), List.getElem?_map] at h2
      cases e : vs[i]? with
      | none => rw [e] at h2; cases h2
      | some a => rw [e] at h2; cases h2; rfl
    obtain ⟨u, hu, rv⟩ := r.get ha
    have hp : ps[i]? = some y := by
      rw [← S.pre, List.getElem?_take_of_lt (by omega)]; exact h1
    have ndP : ps.Nodup := by rw [← S.pre]; exact S.nd.sublist (List.take_sublist _ _)
    refine ⟨u, rv, ?_⟩
    rcases S.par y (List.mem_of_getElem? hp) with k | k
    · exact .inl ⟨k, bindL_get ndP hp hu k⟩
    · obtain ⟨c, e⟩ := cell_has (n := s.heap.objs.size + 1) k
      refine .inr ⟨.inl k, c, e, ?_⟩
      have q := x.cell y c e
      rw [bindC_get ndP hp hu (by show scope.names.lookup y ≠ _; rw [k]; decide)] at q
      exact q
  · exact e0.hok.fresh (Nat.le_of_lt (x.above y c (PySem.mem_of_lookup h)))
  · unfold start
    show _ = N.length
    rw [List.length_append, List.length_map, List.length_replicate]
    omega
theorem fn_of {CX : CXT} {P : Program} {w : World} {K : PySem.W.Frag} {mg : Str → Option Value} {base : Heap} {k : Nat} {f : Addr} {name qual : Str} {params : Arguments} {body : List Stmt} {scope : Scope} {dV kV doc pm cdv ct oc : Value} {an od : Option Addr}
    {osl : Array (Option Value)} {N ps : List Str} {sp : Sp} (lk : K.lookup f = some ⟨oc, od, .func (PySem.W.fnOf name qual params body scope dV kV doc pm an cdv ct), osl⟩) (hcd : PySem.W.codeIn K cdv qual = true) (S : FnScope N ps scope)
    (len : ∀ vs H Q E, sp vs H Q E → vs.length = ps.length)
    (hbody : ∀ (A : Around) (outer : List Env) (s : Shared) (H : Hp) (vs : List V) (Q : VK) (E : XK), Room k (A.deeper (envOfC qual scope s.heap.objs.size f cdv)) → sp vs H Q E →
      ∃ t, PSs (cxOf CX P w K mg base N qual scope f cdv A outer s H E) body t ∧ t { nx := fun _ H' => Q .non H', rt := Q } (start N vs) H) :
    FnOk P w K mg base CX (k + 1) f (PySem.W.fnOf name qual params body scope dV kV doc pm an cdv ct) ps sp := by
  refine ⟨len, fun A outer s H args us vs Q E hr e0 hb r hsp => ?_⟩
  have hl := len _ _ _ _ hsp
  have KX : K.In s.heap := e0.mod.kin.keeps fun b o e => (e0.bs b o e).1
  have lim : s.heap.NoLimit := e0.mod.nolimit.keeps fun b o e => (e0.bs b o e).1
  have hkind : ∀ y ∈ ps.zip us, scope.names.lookup y.1 = some .local ∨ (scope.names.lookup y.1 = some .cell ∧ ((cellsFrom (s.heap.objs.size + 1) scope.names []).lookup y.1).isSome = true) := fun ⟨n, v⟩ hy => by
    rcases S.par n (List.of_mem_zip hy).1 with q | q
    · exact .inl q
    · exact .inr ⟨q, PySem.W.cellsFrom_some _ _ _ (.inl q)⟩
  refine codeAny_call_function hr.depth (KX _ _ lk) rfl S.co S.gen rfl (PySem.W.codeRec_of KX hcd) (hb _ _ _ _ ?_)
  refine wpAny_newFunctionEnv_cells S.kind hkind fun env he s1 x => ?_
  subst he
  refine ⟨lim.keeps x.toInCall.keep, codeAny_func ?_⟩
  obtain ⟨t, ht, hq⟩ := hbody A outer s H vs Q E (hr.deeper _) hsp
  have I : Inv (cxOf CX P w K mg base N qual scope f cdv A outer s H E) [] (start N vs) H s1 := inv_start S hr.hd e0 hl r x
  refine wpAny_mono (ht [] s1 (start N vs) H _ I hq) (fun fl s' hs => ?_) fun e s' hs => hs
  have fin : ∀ {σ' : St} {H' : Hp} {v : V} {u : Value}, Inv (cxOf CX P w K mg base N qual scope f cdv A outer s H E) [] σ' H' s' → RelV v u → Q v H' → CE outer P w H s Q u s' :=
    fun {σ' H' v u} J rv q => ⟨v, H', J.os, J.bare, J.base, J.hok, rv, q⟩
  cases fl with
  | ret u =>
    obtain ⟨v, σ', H', J, rv, q⟩ := hs
    exact fin J rv q
  | next =>
    obtain ⟨σ', H', J, q⟩ := hs
    exact fin (v := V.non) (u := Value.none) J rfl q
  | brk =>
    obtain ⟨_, _, _, q⟩ := hs
    exact False.elim q
  | cont =>
    obtain ⟨_, _, _, q⟩ := hs
    exact False.elim q
end L2
namespace L2
open PySem PySem.Spec PyProof.Rows
section
variable {X : Cx} {x : Str} {p pos : Pos} {e : Expr} {es : List Expr} {t : TA} {id T : String} {r : List V → Hp → VK → Prop}
def tCB (r : List V → Hp → VK → Prop) (t : TA) : TE := fun σ H Q => t σ H fun vs H1 => r vs H1 Q
theorem pe_callB (hc : CallR X (.builtin id) r) (hg : Gl X x) (hm : X.mg x = none) (hv : bootBuiltins x = some (.builtin id)) (ha : PA X (e :: es) t) (hn : x ≠ "__name__" := by decide) (hdb : (x == ("__debug__" : Str)) = false := by decide)
    (he : starEach (e :: es) X.env = (false, eval e X.env) :: starEach es X.env := by rfl) (hpl : (backTo pos (starEach es X.env)).any (·.1) = false := by rfl) : PE X (.Call (.Name x p) (e :: es) [] pos) (tCB r t) := by
  intro pins s σ H Q I h
  refine wpAny_Call_Name_kw (ld_blt I hg hm hv ?_ hn hdb)
  exact PyProof.Rows.callWith_builtin1 (thn (ha pos pins s σ H _ I h) fun us s1 ⟨vs, H1, I1, r1, q1⟩ => hc pins s1 σ H1 vs us Q I1 r1 q1) he hpl
theorem pe_callTy (hc : CallR X (.type T) r) (hg : Gl X x) (hm : X.mg x = none) (hv : bootBuiltins x = some (.type T)) (ha : PA X (e :: es) t) (hn : x ≠ "__name__" := by decide) (hdb : (x == ("__debug__" : Str)) = false := by decide)
    (he : starEach (e :: es) X.env = (false, eval e X.env) :: starEach es X.env := by rfl) (hpl : (backTo pos (starEach es X.env)).any (·.1) = false := by rfl) : PE X (.Call (.Name x p) (e :: es) [] pos) (tCB r t) := by
  intro pins s σ H Q I h
  refine wpAny_Call_Name_kw (ld_blt I hg hm hv ?_ hn hdb)
  exact PyProof.Rows.callWith_type1 (thn (ha pos pins s σ H _ I h) fun us s1 ⟨vs, H1, I1, r1, q1⟩ => hc pins s1 σ H1 vs us Q I1 r1 q1) he hpl
end
end L2
namespace HT
open PySem PyProof.Rows
def lexLt : List Int → List Int → Bool
  | [], [] => false
  | [], _ :: _ => true
  | _ :: _, [] => false
  | x :: xs, y :: ys => if x = y then lexLt xs ys else decide (x < y)
section
open PySem.SeqAt
open PySem.AutoSeq1 (wpAny_loadPart')
open PySem.MeetsSeq PySem.MeetsSeq2 PySem.MeetsSeq3
end
section
variable {prog : Program} {w : World} {A : Around} {E : Value → Shared → Prop} {s : Shared}
theorem cat_tup {t b : Addr} {vs ws : List Value} {Q : Value → Shared → Prop} (ht : IsTup s.heap t vs.toArray) (hb : IsTup s.heap b ws.toArray) (hv : vs ≠ [])
    (h1 : ws = [] → Q (.ref t) s) (h2 : ws ≠ [] → Q (.ref s.heap.objs.size) { s with heap := s.heap.push { cls := .type "tuple", data := .seq (vs ++ ws).toArray } })
    (hsz : vs.length + ws.length ≤ sizeLine) : wpAny (model prog w) A (binaryOp .Add (.ref t) (.ref b)) Q E s := by
  obtain ⟨⟨cls, dd, data, sl⟩, ho, hc, n, hd⟩ := id ht
  obtain ⟨⟨cls2, dd2, data2, sl2⟩, ho2, hc2, n2, hd2⟩ := id hb
  simp only at hc hd hc2 hd2
  subst hc hd hc2 hd2
  have e : vs.toArray ++ ws.toArray = (vs ++ ws).toArray := by simp
  by_cases hw : ws = []
  · exact concat_meets ⟨_, ho, rfl⟩ ⟨_, ho2, rfl⟩ noFill_tuple_add seq_tuple_add PySem.F.slot_tuple_add PySem.F.entry_tuple_add (PySem.F.args_tuple_add_2 _ _)
      (tuple_addW1 t b vs.toArray ws.toArray n n2 dd dd2 sl sl2 (by simpa using hv) (by simp [hw])) ⟨ho, ho2, h1 hw⟩
  · refine concat_meets ⟨_, ho, rfl⟩ ⟨_, ho2, rfl⟩ noFill_tuple_add seq_tuple_add PySem.F.slot_tuple_add PySem.F.entry_tuple_add (PySem.F.args_tuple_add_2 _ _)
      (tuple_addW2 t b vs.toArray ws.toArray n n2 dd dd2 sl sl2 (by simpa using hv) (by simpa using hw) (by rw [List.size_toArray, List.size_toArray]; exact hsz)) ⟨ho, ho2, ?_⟩
    rw [e]
    exact h2 hw
def sIx (n d : Nat) : Option Int → Nat
  | none => d
  | some v => if v < 0 then (v + (n : Int)).toNat else min v.toNat n
theorem sIx_le (n d : Nat) (hd : d ≤ n) (o : Option Int) : sIx n d o ≤ n := by
  cases o with
  | none => exact hd
  | some v =>
    show (if v < 0 then (v + (n : Int)).toNat else min v.toNat n) ≤ n
    by_cases hv : v < 0
    · rw [if_pos hv]; omega
    · rw [if_neg hv]; exact Nat.min_le_right _ _
theorem clip_eq (v : Int) (n d : Nat) : (if v < 0 then max (v + (n : Int)) 0 else min v (n : Int)) = ((sIx n d (some v) : Nat) : Int) := by
  show (if v < 0 then max (v + (n : Int)) 0 else min v (n : Int)) = (((if v < 0 then (v + (n : Int)).toNat else min v.toNat n) : Nat) : Int)
  by_cases hv : v < 0
  · simp only [if_pos hv]; omega
  · simp only [if_neg hv]; omega
theorem adjust_gen (lo hi : Option Int) (n : Nat) : Builtin.Slice.sliceAdjust lo hi 1 (n : Int) = (((sIx n 0 lo : Nat) : Int), ((sIx n n hi : Nat) : Int)) := by
  have h1 : ¬ ((1 : Int) < 0) := by omega
  unfold Builtin.Slice.sliceAdjust
  simp only [h1, if_false]
  refine Prod.ext ?_ ?_
  · cases lo with
    | none => rfl
    | some v => exact clip_eq v n 0
  · cases hi with
    | none => rfl
    | some v => exact clip_eq v n n
theorem places_gen (i j : Nat) : Builtin.Slice.slicePlaces (i : Int) (j : Int) 1 = j - i := by
  unfold Builtin.Slice.slicePlaces
  have h1 : (1 : Int) > 0 := by omega
  simp only [h1, if_true, Int.ediv_one]
  split <;> omega
theorem slicePart_ {v : Value} {o : Option Int} {Q : Option Int → Shared → Prop} (p : IsPart v o) (h : Q o s) : wpAny (model prog w) A (Builtin.Slice.slicePartIndex v) Q E s := by
  cases p with
  | none => exact slicePart_none h
  | int i t => exact slicePart_int h
theorem sliceApplied_gen {sl : Addr} {vl vu : Value} {lo hi : Option Int} {n : Nat} {Q : Int × Int × Nat → Shared → Prop} (hs : s.heap.IsSliceOf sl vl vu .none) (pl : IsPart vl lo) (pu : IsPart vu hi)
    (h : Q (((sIx n 0 lo : Nat) : Int), 1, sIx n n hi - sIx n 0 lo) s) : wpAny (model prog w) A (Builtin.Slice.sliceApplied (.ref sl) (pure (n : Int))) Q E s := by
  obtain ⟨os, hos, hcs, hds⟩ := id hs
  unfold Builtin.Slice.sliceApplied Builtin.Slice.sliceFields
  refine wpAny_bind (wpAny_bind (wpAny_field hos hds (x := vl) rfl (wpAny_bind (wpAny_field hos hds (x := vu) rfl (wpAny_bind (wpAny_field hos hds (x := .none) rfl (wpAny_pure ?_)))))))
  refine wpAny_bind (slicePart_none ?_)
  show wpAny _ _ (if ((1 : Int) == 0) = true then _ else _) _ _ s
  rw [if_neg (by decide)]
  refine wpAny_bind (slicePart_ pl (wpAny_bind (slicePart_ pu (wpAny_bind (wpAny_pure ?_)))))
  show wpAny _ _ (match Builtin.Slice.sliceAdjust lo hi 1 (n : Int) with | (lo, hi) => pure (lo, (1 : Int), Builtin.Slice.slicePlaces lo hi 1)) _ _ s
  rw [adjust_gen lo hi n]
  show wpAny _ _ (pure (((sIx n 0 lo : Nat) : Int), (1 : Int), Builtin.Slice.slicePlaces ((sIx n 0 lo : Nat) : Int) ((sIx n n hi : Nat) : Int) 1)) _ _ s
  rw [places_gen]
  exact wpAny_pure h
theorem pick_gen (xs : Array Value) (i k : Nat) : ((List.range k).filterMap fun (m : Nat) => xs[((i : Int) + (m : Int) * 1).toNat]?).toArray = ((xs.toList.drop i).take k).toArray := by
  have e : (fun (m : Nat) => xs[((i : Int) + (m : Int) * 1).toNat]?) = fun m => xs[i + m]? := by
    funext m
    have : ((i : Int) + (m : Int) * 1).toNat = i + m := by omega
    rw [this]
  rw [e]
  have := pick_run xs i k
  rw [List.filterMap_map] at this
  have e2 : ((fun x => xs[x]?) ∘ fun x => i + x) = fun m => xs[i + m]? := rfl
  rw [e2] at this
  rw [this]
theorem getItem_tuple_cut {t sl : Addr} {items : Array Value} {vl vu : Value} {lo hi : Option Int} {Q : Value → Shared → Prop} (ht : IsTup s.heap t items) (hs : s.heap.IsSliceOf sl vl vu .none) (pl : IsPart vl lo) (pu : IsPart vu hi)
    (hw : ¬ (sIx items.size 0 lo = 0 ∧ sIx items.size items.size hi = items.size))
    (h : Q (.ref s.heap.objs.size) { s with heap := s.heap.push { cls := .type "tuple", data := .seq ((items.toList.drop (sIx items.size 0 lo)).take (sIx items.size items.size hi - sIx items.size 0 lo)).toArray } })
    (hsz : items.size ≤ sizeLine) : wpAny (model prog w) A (getItem (.ref t) (.ref sl)) Q E s := by
  have htake : sizeOk (.seq ((items.toList.drop (sIx items.size 0 lo)).take (sIx items.size items.size hi - sIx items.size 0 lo)).toArray) := by
    show ((items.toList.drop (sIx items.size 0 lo)).take (sIx items.size items.size hi - sIx items.size 0 lo)).toArray.size ≤ sizeLine
    rw [List.size_toArray, List.length_take, List.length_drop, Array.length_toList]
    omega
  have hj : sIx items.size items.size hi ≤ items.size := sIx_le _ _ (Nat.le_refl _) hi
  obtain ⟨os, hos, hcs, hds⟩ := id hs
  have hTs : s.TypeIs (.ref sl) "slice" := ⟨os, hos, hcs⟩
  unfold getItem
  try with_reducible refine wpAny_holding ?_
  first | refine wpAny_bind (wpAny_pure ?_) | skip
  refine wpAny_bind (wpAny_sequenceKey ht.typeIs (by decide) ?_)
  refine wpAny_bind (wpAny_callSpecial?_slot (name := Str.ofString "__getitem__") ht.typeIs PyProof.Rows.slot_tuple_getitem
    (wpAny_call_entry PyProof.Rows.slot_tuple_getitem ht.typeIs entry_tuple_getitem ?_ (args_tuple_getitem _ _)))
  show wpAny _ _ (Builtin.Tuple.tupleItemsOf (.ref t) >>= _) _ _ s
  refine wpAny_bind (tupleItemsOf_ ht ?_)
  refine wpAny_bind (wpAny_typeOf hTs ?_)
  rw [if_pos (by decide)]
  refine wpAny_bind (sliceApplied_gen hs pl pu ?_)
  have hno : ¬ ((((sIx items.size 0 lo : Nat) : Int) == 0 && (1 : Int) == 1 && (sIx items.size items.size hi - sIx items.size 0 lo) == items.size) = true) := by
    intro q
    rw [Bool.and_eq_true, Bool.and_eq_true] at q
    have q1 : ((sIx items.size 0 lo : Nat) : Int) = 0 := eq_of_beq q.1.1
    have q2 : sIx items.size items.size hi - sIx items.size 0 lo = items.size := eq_of_beq q.2
    exact hw ⟨by omega, by omega⟩
  show wpAny _ _ (if (((sIx items.size 0 lo : Nat) : Int) == 0 && (1 : Int) == 1 && (sIx items.size items.size hi - sIx items.size 0 lo) == items.size) = true then _ else _) _ _ s
  rw [if_neg hno, pick_gen]
  first
    | exact wpAny_bind (m := Builtin.Tuple.tupleExact _) (wpAny_newObj_type (wpAny_pure ⟨_, rfl, wpAny_pure h⟩) htake)
    | exact wpAny_bind (m := Builtin.Tuple.tupleExact _) (wpAny_newObj_type (wpAny_bind (wpAny_pure (wpAny_pure ⟨_, rfl, wpAny_pure h⟩))) htake)
    | exact wpAny_bind (wpAny_bind (m := Builtin.Tuple.tupleExact _) (wpAny_newObj_type (wpAny_pure (wpAny_pure ⟨_, rfl, wpAny_pure h⟩)) htake))
    | exact wpAny_bind (wpAny_bind (m := Builtin.Tuple.tupleExact _) (wpAny_newObj_type (wpAny_pure ⟨_, rfl, wpAny_pure h⟩) htake))
end
end HT
namespace L2
open PySem PySem.Spec PyProof.Rows
abbrev TO := St → Hp → (Option Int → Hp → Prop) → Prop
def PO (X : Cx) (e : Option Expr) (t : TO) : Prop :=
  ∀ (pins : List (Addr × Obj)) (s : Shared) (σ : St) (H : Hp) (Q : Option Int → Hp → Prop), Inv X pins σ H s → t σ H Q →
    wpAny (model X.prog X.w) X.A (evalPart e X.env) (fun u s' => ∃ o H', Inv X pins σ H' s' ∧ IsPart u o ∧ Q o H') X.xe s
def tNoPart : TO := fun _ H Q => Q none H
def tPart (t : TE) : TO := fun σ H Q => t σ H fun x H1 => ∃ i, x = .int i ∧ Q (some i) H1
section
variable {X : Cx} {e : Expr} {te : TE} {lo hi : Option Expr} {tl th : TO} {pos p2 : Pos}
theorem po_none : PO X none tNoPart := by
  intro pins s σ H Q I h
  rw [evalPart_none]
  exact wpAny_pure ⟨none, H, I, .none, h⟩
theorem po_some (h : PE X e te) : PO X (some e) (tPart te) := by
  intro pins s σ H Q I hw
  rw [evalPart_some]
  refine thn (h pins s σ H _ I hw) fun u s1 ⟨x, H1, I1, r1, q1⟩ => ?_
  obtain ⟨i, rfl, q⟩ := q1
  obtain ⟨t, rfl⟩ := r1
  exact ⟨some i, H1, I1, .int i t, q⟩
def SlR (X : Cx) (r : V → Option Int → Option Int → Hp → VK → Prop) : Prop :=
  ∀ (pins : List (Addr × Obj)) (s : Shared) (σ : St) (H : Hp) (x : V) (v vl vu : Value) (lo hi : Option Int) (sl : Addr) (Q : VK), Inv X pins σ H s → RelV x v → s.heap.IsSliceOf sl vl vu .none → IsPart vl lo → IsPart vu hi → r x lo hi H Q →
    ∃ T id, typeLookup (.type T) "__getitem__" = pure (some (.builtin id)) ∧ s.TypeIs v T ∧ wpAny (model X.prog X.w) X.A (getItem v (.ref sl)) (EP X pins σ Q) X.xe s
theorem SlR.or {r r' : V → Option Int → Option Int → Hp → VK → Prop} (h : SlR X r) (h' : SlR X r') : SlR X (fun x lo hi H Q => r x lo hi H Q ∨ r' x lo hi H Q) := by
  intro pins s σ H x v vl vu lo hi sl Q I rx hs pl pu q
  rcases q with q | q
  · exact h pins s σ H x v vl vu lo hi sl Q I rx hs pl pu q
  · exact h' pins s σ H x v vl vu lo hi sl Q I rx hs pl pu q
def tSl (r : V → Option Int → Option Int → Hp → VK → Prop) (te : TE) (tl th : TO) : TE := fun σ H Q => te σ H fun x H1 => tl σ H1 fun l H2 => th σ H2 fun u H3 => r x l u H3 Q
theorem pe_slice {r : V → Option Int → Option Int → Hp → VK → Prop} (hr : SlR X r) (he : PE X e te) (hl : PO X lo tl) (hu : PO X hi th) : PE X (.Subscript e (.Slice lo hi none p2) pos) (tSl r te tl th) := by
  intro pins s σ H Q I h
  refine Subscript_ (thn (he pins s σ H _ I h) fun v s1 ⟨x, H1, I1, r1, q1⟩ => ?_)
  refine wpAny_Slice (thn (hl pins s1 σ H1 _ I1 q1) fun vl s2 ⟨l, H2, I2, pl, q2⟩ => thn (hu pins s2 σ H2 _ I2 q2) fun vu s3 ⟨u, H3, I3, pu, q3⟩ => ?_)
  rw [evalPart_none]
  refine wpAny_pure ?_
  have I4 : Inv X pins σ H3 { s3 with heap := s3.heap.push { cls := .type "slice", data := .fields #[vl, vu, .none] } } := I3.kept (t' := s3.toks) fun b ob q => Heap.get?_push_of_some _ q
  obtain ⟨T, id, hT, ht, hg⟩ := hr pins { s3 with heap := s3.heap.push { cls := .type "slice", data := .fields #[vl, vu, .none] } } σ H3 x v vl vu l u s3.heap.objs.size Q I4 r1 (Heap.IsSliceOf.new ..) pl pu q3
  show wpAny (model X.prog X.w) X.A (subscriptTail e (.Slice lo hi none p2) v (.ref s3.heap.objs.size)) (EP X pins σ Q) X.xe { s3 with heap := s3.heap.push { cls := .type "slice", data := .fields #[vl, vu, .none] } }
  exact tail_any (ops := [.ref s3.heap.objs.size, v]) ht hT hg (by with_unfolding_all rfl)
def cutV (xs : List V) (lo hi : Option Int) : List V := (xs.drop (HT.sIx xs.length 0 lo)).take (HT.sIx xs.length xs.length hi - HT.sIx xs.length 0 lo)
theorem cutV_length (xs : List V) (lo hi : Option Int) : (cutV xs lo hi).length ≤ xs.length := by
  unfold cutV
  rw [List.length_take, List.length_drop]
  omega
def rSlT (K : PySem.W.Frag) : V → Option Int → Option Int → Hp → VK → Prop := fun x lo hi H Q => ∃ a xs, x = .ref a ∧ SqT K H a xs ∧
  ¬ (HT.sIx xs.length 0 lo = 0 ∧ HT.sIx xs.length xs.length hi = xs.length) ∧ ∀ p, H p = none → Q (.ref p) (upd H p (.tup (cutV xs lo hi)))
theorem sl_tup : SlR X (rSlT X.K) := by
  intro pins s σ H x v vl vu lo hi sl Q I rx hs pl pu h
  obtain ⟨a, xs, rfl, hx, hw, q⟩ := h
  cases rx
  obtain ⟨its, r, ht, hz⟩ := I.tuple hx
  have hlen : its.toArray.size = xs.length := by rw [List.size_toArray]; exact r.length.symm
  refine ⟨"tuple", _, PyProof.Rows.slot_tuple_getitem.lookup, ht.typeIs, ?_⟩
  refine HT.getItem_tuple_cut ht hs pl pu (by rw [hlen]; exact hw) ?_ (by rw [hlen]; exact hz)
  rw [hlen]
  refine ⟨.ref s.heap.objs.size, _, I.laid (t' := s.toks) (o := .tup (cutV xs lo hi)) (fun b ob q => Heap.get?_push_of_some _ q) (Nat.le_refl _) ?_, rfl, q _ (I.hok.fresh (Nat.le_refl _))⟩
  exact ⟨Nat.le_trans (cutV_length xs lo hi) hz, _, (r.drop (HT.sIx xs.length 0 lo)).take (HT.sIx xs.length xs.length hi - HT.sIx xs.length 0 lo), IsTup.new _ _⟩
def rLtT (K : PySem.W.Frag) : R2 := fun x y H Q => ∃ a b ns ms, x = .ref a ∧ y = .ref b ∧ SqT K H a (ns.map V.int) ∧ SqT K H b (ms.map V.int) ∧ Q (.bl (HT.lexLt ns ms)) H
def rCatT (K : PySem.W.Frag) : R2 := fun x y H Q => ∃ a b xs ys, x = .ref a ∧ y = .ref b ∧ SqT K H a xs ∧ SqT K H b ys ∧ xs ≠ [] ∧ xs.length + ys.length ≤ sizeLine ∧
  (ys = [] → Q (.ref a) H) ∧ (ys ≠ [] → ∀ p, H p = none → Q (.ref p) (upd H p (.tup (xs ++ ys))))
theorem Vals.nil_iff {xs : List V} {us : List Value} (r : Vals xs us) : us = [] ↔ xs = [] := by
  cases r with
  | nil => simp
  | cons _ _ => simp
theorem op_catT : OpR X (binaryOp .Add) (rCatT X.K) := by
  intro pins s σ H x y v u Q I rx ry h
  obtain ⟨a, b, xs, ys, rfl, rfl, ha, hb, hx, hz, q1, q2⟩ := h
  cases rx
  cases ry
  obtain ⟨its, r1, p1, _⟩ := I.tuple ha
  obtain ⟨its2, r2, p2, _⟩ := I.tuple hb
  refine HT.cat_tup p1 p2 (fun z => hx (r1.nil_iff.mp z)) (fun z => ⟨.ref a, H, I, rfl, q1 (r2.nil_iff.mp z)⟩) (fun z => ?_) (by rw [← r1.length, ← r2.length]; exact hz)
  refine ⟨.ref s.heap.objs.size, _, I.laid (t' := s.toks) (o := .tup (xs ++ ys)) (fun b ob q => Heap.get?_push_of_some _ q) (Nat.le_refl _) ?_, rfl, q2 (fun w => z (r2.nil_iff.mpr w)) _ (I.hok.fresh (Nat.le_refl _))⟩
  exact ⟨by rw [List.length_append]; exact hz, _, r1.append r2, IsTup.new _ _⟩
end
end L2
namespace L2
open PySem PySem.Spec PyProof.Rows
def ixN (n : Nat) (i : Int) : Option Nat := if 0 ≤ i then (if i < n then some i.toNat else none) else if -(n : Int) ≤ i then some (i + n).toNat else none
def atI {α : Type} (xs : List α) (i : Int) : Option α := (ixN xs.length i).bind fun j => xs[j]?
theorem ixN_seq {n : Nat} {i : Int} {j : Nat} (h : ixN n i = some j) : seqIndex? i n = some j ∧ j < n ∧ -(n : Int) ≤ i ∧ i < n := by
  unfold ixN at h
  by_cases h0 : 0 ≤ i
  · rw [if_pos h0] at h
    by_cases h1 : i < n
    · rw [if_pos h1] at h
      have e : i.toNat = j := Option.some.inj h
      exact ⟨by rw [seqIndex_of h0 h1, e], by omega, by omega, h1⟩
    · rw [if_neg h1] at h; cases h
  · rw [if_neg h0] at h
    by_cases h1 : -(n : Int) ≤ i
    · rw [if_pos h1] at h
      have e : (i + n).toNat = j := Option.some.inj h
      exact ⟨by rw [seqIndex_neg (by omega) h1, e], by omega, h1, by omega⟩
    · rw [if_neg h1] at h; cases h
theorem atI_get {α : Type} {xs : List α} {i : Int} {v : α} (h : atI xs i = some v) : ∃ j, seqIndex? i xs.length = some j ∧ xs[j]? = some v ∧ j < xs.length ∧ -(xs.length : Int) ≤ i ∧ i < xs.length := by
  unfold atI at h
  cases e : ixN xs.length i with
  | none => rw [e] at h; cases h
  | some j =>
    rw [e] at h
    obtain ⟨h1, h2, h3, h4⟩ := ixN_seq e
    exact ⟨j, h1, h, h2, h3, h4⟩
theorem atI_nat {α : Type} {xs : List α} {j : Nat} {v : α} (h : xs[j]? = some v) : atI xs (j : Int) = some v := by
  have hj : j < xs.length := (List.getElem?_eq_some_iff.mp h).1
  have e : ixN xs.length (j : Int) = some j := by
    unfold ixN
    rw [if_pos (by omega), if_pos (by omega)]; simp
  unfold atI; rw [e]; exact h
def PlainIx (b : Expr) : Prop := ∀ o i, subscripted b false o i = operate [o, i] (getItem o i)
def IxR (X : Cx) (r : R2) : Prop :=
  ∀ (value slice : Expr) (pins : List (Addr × Obj)) (s : Shared) (σ : St) (H : Hp) (x y : V) (v u : Value) (Q : VK), Inv X pins σ H s → RelV x v → RelV y u → r x y H Q →
    subscripted slice false v u = operate [v, u] (getItem v u) → wpAny (model X.prog X.w) X.A (subscriptTail value slice v u) (EP X pins σ Q) X.xe s
def MtR (X : Cx) (id : String) (r : V → List V → Hp → VK → Prop) : Prop :=
  ∀ (pins : List (Addr × Obj)) (s : Shared) (σ : St) (H : Hp) (x : V) (xs : List V) (v : Value) (us : List Value) (Q : VK), Inv X pins σ H s → RelV x v → Vals xs us → r x xs H Q →
    wpAny (model X.prog X.w) X.A (call (.builtin id) (v :: us)) (EP X pins σ Q) X.xe s
section
variable {X : Cx} {a b : Expr} {ta tb : TE} {pos : Pos}
theorem IxR.or {r r' : R2} (h : IxR X r) (h' : IxR X r') : IxR X (fun x y H Q => r x y H Q ∨ r' x y H Q) := by
  intro value slice pins s σ H x y v u Q I rx ry q hs
  rcases q with q | q
  · exact h value slice pins s σ H x y v u Q I rx ry q hs
  · exact h' value slice pins s σ H x y v u Q I rx ry q hs
theorem MtR.or {id : String} {r r' : V → List V → Hp → VK → Prop} (h : MtR X id r) (h' : MtR X id r') : MtR X id (fun x xs H Q => r x xs H Q ∨ r' x xs H Q) := by
  intro pins s σ H x xs v us Q I rx rs q
  rcases q with q | q
  · exact h pins s σ H x xs v us Q I rx rs q
  · exact h' pins s σ H x xs v us Q I rx rs q
theorem pe_ix {r : R2} (hr : IxR X r) (ha : PE X a ta) (hb : PE X b tb) (hs : PlainIx b) : PE X (.Subscript a b pos) (tOp r ta tb) := by
  intro pins s σ H Q I h
  exact Subscript_ (binT ha hb I h fun v u s2 x y H2 I2 rx ry q => hr a b pins s2 σ H2 x y v u Q I2 rx ry q (hs _ _))
def rIxL (K : PySem.W.Frag) : R2 := fun x y H Q => ∃ p xs i v, x = .ref p ∧ y = .int i ∧ SqL K H p xs ∧ atI xs i = some v ∧ Q v H
def rIxT (K : PySem.W.Frag) : R2 := fun x y H Q => ∃ p xs i v, x = .ref p ∧ y = .int i ∧ SqT K H p xs ∧ atI xs i = some v ∧ Q v H
def rIxS : R2 := fun x y H Q => ∃ z i c, x = .str z ∧ y = .int i ∧ z.length ≤ sizeLine ∧ atI z.cps.toList i = some c ∧ Q (.str ⟨#[c]⟩) H
theorem ix_list : IxR X (rIxL X.K) := by
  intro value slice pins s σ H x y v u Q I rx ry h hs
  obtain ⟨p, xs, i, z, rfl, rfl, hq, he, q⟩ := h
  cases rx
  obtain ⟨t, rfl⟩ := ry
  obtain ⟨its, r, pl, hz⟩ := I.list hq
  obtain ⟨j, h1, h2, h3, h4, h5⟩ := atI_get he
  obtain ⟨w, ew, rw'⟩ := r.get h2
  have hl := r.length
  have hn := line63
  have fin : EP X pins σ Q w s := ⟨z, H, I, rw', q⟩
  by_cases h0 : 0 ≤ i
  · have hj : i.toNat = j := by
      rw [seqIndex_of h0 h5] at h1
      exact Option.some.inj h1
    exact item_listR pl.isList h0 (by omega) (by rw [hj]; simpa using ew) fin hs
  · have hj : (i + (its.toArray.size : Int)).toNat = j := by
      rw [seqIndex_neg (by omega) h4] at h1
      rw [List.size_toArray, ← hl]
      exact Option.some.inj h1
    exact subscriptTail_builtinR (x := w) pl.isList.typeIs slot_list_getitem.lookup
      (wpAny_getItem_list_neg (Q := fun r s' => r = w ∧ EP X pins σ Q r s') pl.isList (by omega) (by rw [List.size_toArray] <;> omega) (by omega) (by rw [hj]; simpa using ew) ⟨rfl, fin⟩) hs
theorem ix_tup : IxR X (rIxT X.K) := by
  intro value slice pins s σ H x y v u Q I rx ry h hs
  obtain ⟨p, xs, i, z, rfl, rfl, hq, he, q⟩ := h
  cases rx
  obtain ⟨t, rfl⟩ := ry
  obtain ⟨its, r, pl, hz⟩ := I.tuple hq
  obtain ⟨j, h1, h2, h3, h4, h5⟩ := atI_get he
  obtain ⟨w, ew, rw'⟩ := r.get h2
  have hl := r.length
  have hn := line63
  have fin : EP X pins σ Q w s := ⟨z, H, I, rw', q⟩
  exact subscriptTail_builtinR (x := w) pl.typeIs slot_tuple_getitem.lookup
    (getItem_tuple (j := j) (Q := fun r s' => r = w ∧ EP X pins σ Q r s') pl (by omega) (by omega) (by rw [List.size_toArray, ← hl]; exact h1) (by simpa using ew) ⟨rfl, fin⟩) hs
theorem ix_str : IxR X rIxS := by
  intro value slice pins s σ H x y v u Q I rx ry h hs
  obtain ⟨z, i, c, rfl, rfl, hz, he, q⟩ := h
  obtain ⟨t, rfl⟩ := rx
  obtain ⟨t', rfl⟩ := ry
  obtain ⟨j, h1, h2, h3, h4, h5⟩ := atI_get he
  have hl : z.cps.toList.length = z.length := by simp [Str.length]
  rw [hl] at h1 h4 h5
  have hn := line63
  exact tail_any (typeIs_str s z t) slot_str_getitem.lookup (getItem_str (c := c) (by
    have e1 : decide (i < -(2 ^ 63 : Int)) = false := decide_eq_false (by omega)
    have e2 : decide (i ≥ 2 ^ 63) = false := decide_eq_false (by omega)
    rw [e1, e2, Bool.or_false]) (by rw [h1]; simpa using h2) ⟨.str ⟨#[c]⟩, H, I.tok _, ⟨_, rfl⟩, q⟩) hs
def rIx (K : PySem.W.Frag) : R2 := fun x y H Q => rIxL K x y H Q ∨ rIxT K x y H Q ∨ rIxS x y H Q
theorem Inv.lst {pins : List (Addr × Obj)} {σ : St} {H : Hp} {s : Shared} {p : Addr} {xs : List V} (I : Inv X pins σ H s) (h : H p = some (.lst xs)) :
    ∃ (its : List Value) (n : Nat), Vals xs its ∧ s.heap.get? p = some { cls := .type "list", data := .seq its.toArray n } ∧ xs.length ≤ sizeLine := by
  obtain ⟨z, its, n, r, e⟩ := I.hok p _ h
  exact ⟨its, n, r, e, z⟩
def rSetL : V → V → V → Hp → (Hp → Prop) → Prop := fun o i v H Q => ∃ p xs k j, o = .ref p ∧ i = .int k ∧ H p = some (.lst xs) ∧ ixN xs.length k = some j ∧ Q (upd H p (.lst (xs.set j v)))
theorem slice_bounds (lo hi : Option Int) (n : Nat) : (sliceBounds lo hi none n).1 = ((HT.sIx n 0 lo : Nat) : Int) ∧ (sliceBounds lo hi none n).2.1 = ((HT.sIx n n hi : Nat) : Int) ∧ (sliceBounds lo hi none n).2.2 = 1 := by
  refine ⟨?_, ?_, rfl⟩
  · cases lo with
    | none => simp [sliceBounds, HT.sIx]
    | some i =>
      simp only [sliceBounds, HT.sIx, Option.getD_none, show (1 : Int) > 0 by decide, if_true]
      by_cases h : i < 0
      · simp only [h, if_true] <;> omega
      · simp only [h, if_false] <;> omega
  · cases hi with
    | none => simp [sliceBounds, HT.sIx]
    | some i =>
      simp only [sliceBounds, HT.sIx, Option.getD_none, show (1 : Int) > 0 by decide, if_true]
      by_cases h : i < 0
      · simp only [h, if_true] <;> omega
      · simp only [h, if_false] <;> omega
theorem slicePick_cut (its : List Value) (lo hi : Option Int) : slicePick its.toArray lo hi none = ((its.drop (HT.sIx its.length 0 lo)).take (HT.sIx its.length its.length hi - HT.sIx its.length 0 lo)).toArray := by
  obtain ⟨h1, h2, h3⟩ := slice_bounds lo hi its.toArray.size
  unfold slicePick
  rw [h1, h2, h3]
  simp only [sliceRange_one, pick_run, List.size_toArray] <;> rfl
def rSlL (K : PySem.W.Frag) : V → Option Int → Option Int → Hp → VK → Prop := fun x lo hi H Q => ∃ a xs, x = .ref a ∧ SqL K H a xs ∧ ∀ p, H p = none → Q (.ref p) (upd H p (.lst (cutV xs lo hi)))
theorem sl_list : SlR X (rSlL X.K) := by
  intro pins s σ H x v vl vu lo hi sl Q I rx hs pl pu h
  obtain ⟨a, xs, rfl, hx, q⟩ := h
  cases rx
  obtain ⟨its, r, ht, hz⟩ := I.list hx
  have hlen := r.length
  refine ⟨"list", _, slot_list_getitem.lookup, ht.isList.typeIs, ?_⟩
  refine wpAny_getItem_list_slice ht.isList hs pl pu .none (by simp) ?_ (by rw [List.size_toArray] <;> omega)
  rw [slicePick_cut, ← hlen]
  refine ⟨.ref s.heap.objs.size, _, I.laid (t' := s.toks) (o := .lst (cutV xs lo hi)) (fun b ob q => Heap.get?_push_of_some _ q) (Nat.le_refl _) ?_, rfl, q _ (I.hok.fresh (Nat.le_refl _))⟩
  exact ⟨Nat.le_trans (cutV_length xs lo hi) hz, _, 0, (r.drop (HT.sIx xs.length 0 lo)).take (HT.sIx xs.length xs.length hi - HT.sIx xs.length 0 lo), Heap.get?_push_size _ rfl⟩
def flatV : V → Bool
  | .non => true
  | .bl _ => true
  | .int _ => true
  | .str _ => true
  | _ => false
def eqV : V → V → Bool
  | .non, .non => true
  | .bl a, .bl b => a == b
  | .bl a, .int b => (if a then 1 else 0) == b
  | .int a, .bl b => a == (if b then 1 else 0)
  | .int a, .int b => a == b
  | .str a, .str b => a == b
  | _, _ => false
theorem eqAt_V {A : Around} {s : Shared} {y x : V} {u v : Value} (ry : RelV y u) (rx : RelV x v) (fy : flatV y = true) (fx : flatV x = true) : SeqAt.EqAt A s u v (eqV y x) := by
  cases y with
  | non =>
    cases ry
    cases x with
    | non => cases rx; exact SeqAt.EqAt.same _
    | bl b => cases rx; exact SeqAt.EqAt.none_bool b
    | int b => obtain ⟨t, rfl⟩ := rx; exact SeqAt.EqAt.none_int b t
    | str b => obtain ⟨t, rfl⟩ := rx; exact SeqAt.EqAt.none_str b t
    | _ => exact absurd (show false = true from fx) Bool.false_ne_true
  | bl a =>
    cases ry
    cases x with
    | non => cases rx; exact SeqAt.EqAt.bool_none a
    | bl b => cases rx; exact SeqAt.EqAt.bool_bool a b
    | int b => obtain ⟨t, rfl⟩ := rx; exact SeqAt.EqAt.bool_int a b t
    | str b => obtain ⟨t, rfl⟩ := rx; exact SeqAt.EqAt.bool_str a b t
    | _ => exact absurd (show false = true from fx) Bool.false_ne_true
  | int a =>
    obtain ⟨t', rfl⟩ := ry
    cases x with
    | non => cases rx; exact SeqAt.EqAt.int_none a t'
    | bl b => cases rx; exact SeqAt.EqAt.int_bool a t' b
    | int b => obtain ⟨t, rfl⟩ := rx; exact SeqAt.EqAt.int_int a t' b t
    | str b => obtain ⟨t, rfl⟩ := rx; exact SeqAt.EqAt.int_str a t' b t
    | _ => exact absurd (show false = true from fx) Bool.false_ne_true
  | str a =>
    obtain ⟨t', rfl⟩ := ry
    cases x with
    | non => cases rx; exact SeqAt.EqAt.str_none a t'
    | bl b => cases rx; exact SeqAt.EqAt.str_bool a t' b
    | int b => obtain ⟨t, rfl⟩ := rx; exact SeqAt.EqAt.str_int a t' b t
    | str b => obtain ⟨t, rfl⟩ := rx; exact SeqAt.EqAt.str_str a t' b t
    | _ => exact absurd (show false = true from fx) Bool.false_ne_true
  | _ => exact absurd (show false = true from fy) Bool.false_ne_true
def eqU (x : V) (u : Value) : Bool := match u with
  | .none => eqV .non x
  | .bool b => eqV (.bl b) x
  | .int i _ => eqV (.int i) x
  | .str z _ => eqV (.str z) x
  | _ => false
theorem eqU_of {x y : V} {u : Value} (r : RelV y u) (f : flatV y = true) : eqU x u = eqV y x := by
  cases y with
  | non => cases r; rfl
  | bl b => cases r; rfl
  | int i => obtain ⟨t, rfl⟩ := r; rfl
  | str z => obtain ⟨t, rfl⟩ := r; rfl
  | _ => exact absurd (show false = true from f) Bool.false_ne_true
theorem any_eqU {x : V} : ∀ {xs : List V} {us : List Value}, Vals xs us → xs.all flatV = true → us.any (eqU x) = xs.any fun y => eqV y x
  | _, _, .nil, _ => rfl
  | y :: xs, u :: us, .cons r t, f => by
    rw [List.all_cons, Bool.and_eq_true] at f
    rw [List.any_cons, List.any_cons, eqU_of r f.1, any_eqU t f.2]
theorem mem_eqAt {A : Around} {s : Shared} {x : V} {v : Value} (rx : RelV x v) (fx : flatV x = true) : ∀ {xs : List V} {us : List Value}, Vals xs us → xs.all flatV = true → ∀ u ∈ us, SeqAt.EqAt A s u v (eqU x u)
  | _, _, .nil, _ => fun u hu => by cases hu
  | y :: xs, u :: us, .cons r t, f => fun u' hu => by
    rw [List.all_cons, Bool.and_eq_true] at f
    rcases List.mem_cons.mp hu with rfl | hu
    · rw [eqU_of r f.1]; exact eqAt_V r rx f.1 fx
    · exact mem_eqAt rx fx t f.2 u' hu
def inV (x : V) (xs : List V) : Bool := xs.any fun y => eqV y x
def rIn (K : PySem.W.Frag) (neg : Bool) : R2 := fun x y H Q => ∃ p xs, y = .ref p ∧ (SqL K H p xs ∨ SqT K H p xs) ∧ flatV x = true ∧ xs.all flatV = true ∧ Q (.bl (if neg then !inV x xs else inV x xs)) H
theorem op_in_seq : OpR X (compareOp .In) (rIn X.K false) := by
  intro pins s σ H x y v u Q I rx ry h
  obtain ⟨p, xs, rfl, hq, fx, fs, q⟩ := h
  cases ry
  rcases hq with hq | hq
  · obtain ⟨its, r, pl, hz⟩ := I.list hq
    refine SeqAt.in_listAt (eqU x) pl.isList (fun w hw => mem_eqAt rx fx r fs w (by simpa using hw)) ⟨.bl _, H, I, rfl, ?_⟩
    rw [show its.toArray.any (eqU x) = its.any (eqU x) by simp, any_eqU r fs]
    exact q
  · obtain ⟨its, r, pl, hz⟩ := I.tuple hq
    refine SeqAt.in_tupleAt (eqU x) pl (fun w hw => mem_eqAt rx fx r fs w (by simpa using hw)) ⟨.bl _, H, I, rfl, ?_⟩
    rw [show its.toArray.any (eqU x) = its.any (eqU x) by simp, any_eqU r fs]
    exact q
theorem op_notIn_seq : OpR X (compareOp .NotIn) (rIn X.K true) := by
  intro pins s σ H x y v u Q I rx ry h
  obtain ⟨p, xs, rfl, hq, fx, fs, q⟩ := h
  cases ry
  rcases hq with hq | hq
  · obtain ⟨its, r, pl, hz⟩ := I.list hq
    refine SeqAt.notIn_listAt (eqU x) pl.isList (fun w hw => mem_eqAt rx fx r fs w (by simpa using hw)) ⟨.bl _, H, I, rfl, ?_⟩
    rw [show its.toArray.any (eqU x) = its.any (eqU x) by simp, any_eqU r fs]
    exact q
  · obtain ⟨its, r, pl, hz⟩ := I.tuple hq
    refine SeqAt.notIn_tupleAt (eqU x) pl (fun w hw => mem_eqAt rx fx r fs w (by simpa using hw)) ⟨.bl _, H, I, rfl, ?_⟩
    rw [show its.toArray.any (eqU x) = its.any (eqU x) by simp, any_eqU r fs]
    exact q
theorem call_len_seq : CallR X (.builtin "len") (fun xs H Q => ∃ p ys, xs = [.ref p] ∧ (SqL X.K H p ys ∨ SqT X.K H p ys) ∧ Q (.int ys.length) H) := by
  intro pins s σ H xs us Q I r h
  obtain ⟨p, ys, rfl, hq, q⟩ := h
  obtain ⟨u, rfl, rx⟩ := vals1 r
  cases rx
  have hn := line63
  rcases hq with hq | hq
  · obtain ⟨its, r', pl, hz⟩ := I.list hq
    have hlen := r'.length
    exact Calls.call_len_list pl.isList (by simp only [List.size_toArray] <;> omega) ⟨.int ys.length, H, I.tok _, ⟨s.toks + 1, by rw [List.size_toArray, hlen]⟩, q⟩
  · obtain ⟨its, r', pl, hz⟩ := I.tuple hq
    have hlen := r'.length
    exact len_tuple pl (by simp only [List.size_toArray] <;> omega) ⟨.int ys.length, H, I.tok _, ⟨s.toks + 1, by rw [List.size_toArray, hlen]⟩, q⟩
theorem call_len_str : CallR X (.builtin "len") (fun xs H Q => ∃ z, xs = [.str z] ∧ z.length ≤ sizeLine ∧ Q (.int z.length) H) := by
  intro pins s σ H xs us Q I r h
  obtain ⟨z, rfl, hz, q⟩ := h
  obtain ⟨u, rfl, t, rfl⟩ := vals1 r
  have hn := line63
  exact len_str (by omega) ⟨.int z.length, H, I.tok _, ⟨_, rfl⟩, q⟩
theorem CallR.or {f : Value} {r r' : List V → Hp → VK → Prop} (h : CallR X f r) (h' : CallR X f r') : CallR X f (fun xs H Q => r xs H Q ∨ r' xs H Q) := by
  intro pins s σ H xs us Q I rs q
  rcases q with q | q
  · exact h pins s σ H xs us Q I rs q
  · exact h' pins s σ H xs us Q I rs q
theorem call_list_of : CallR X (.type "list") (fun xs H Q => ∃ p ys, xs = [.ref p] ∧ (SqL X.K H p ys ∨ SqT X.K H p ys) ∧ ∀ l, H l = none → Q (.ref l) (upd H l (.lst ys))) := by
  intro pins s σ H xs us Q I r h
  obtain ⟨p, ys, rfl, hq, q⟩ := h
  obtain ⟨u, rfl, rx⟩ := vals1 r
  cases rx
  have fin : ∀ (its : List Value), Vals ys its → ys.length ≤ sizeLine → ∀ (h' : Heap) (c' : Nat), (∀ b o', s.heap.get? b = some o' → h'.get? b = some o') →
      h'.get? s.heap.objs.size = some { cls := .type "list", dict := none, data := .seq its.toArray c', slots := #[] } → EP X pins σ Q (.ref s.heap.objs.size) { s with heap := h' } := fun its r' hz h' c' kp e =>
    ⟨.ref s.heap.objs.size, _, I.laid (t' := s.toks) kp (Nat.le_refl _) (show ObjOk X.prog X.w _ h' _ (.lst ys) from ⟨hz, its, c', r', e⟩), rfl, q _ (I.hok.fresh (Nat.le_refl _))⟩
  rcases hq with hq | hq
  · obtain ⟨its, r', pl, hz⟩ := I.list hq
    have hlen := r'.length
    obtain ⟨o, ho, hc, n, hd⟩ := pl.isList
    exact call_list_seq p (.inl rfl) ho hc hd (fun h' c' kp e => fin its r' hz h' c' kp e) (by simp only [List.size_toArray] <;> omega)
  · obtain ⟨its, r', pl, hz⟩ := I.tuple hq
    have hlen := r'.length
    obtain ⟨o, ho, hc, n, hd⟩ := pl
    exact call_list_seq p (.inr rfl) ho hc hd (fun h' c' kp e => fin its r' hz h' c' kp e) (by simp only [List.size_toArray] <;> omega)
theorem call_tuple_of : CallR X (.type "tuple") (fun xs H Q => ∃ p ys, xs = [.ref p] ∧ ((SqL X.K H p ys ∧ ∀ l, H l = none → Q (.ref l) (upd H l (.tup ys))) ∨ (SqT X.K H p ys ∧ Q (.ref p) H))) := by
  intro pins s σ H xs us Q I r h
  obtain ⟨p, ys, rfl, h⟩ := h
  obtain ⟨u, rfl, rx⟩ := vals1 r
  cases rx
  rcases h with ⟨hq, q⟩ | ⟨hq, q⟩
  · obtain ⟨its, r', pl, hz⟩ := I.list hq
    have hlen := r'.length
    refine call_tuple_list pl.isList (fun h' kp => ?_) (by simp only [List.size_toArray] <;> omega)
    have I1 : Inv X pins σ H { s with heap := h' } := I.kept (t' := s.toks) kp
    have I2 : Inv X pins σ (upd H h'.objs.size (.tup ys)) { s with heap := h'.push { cls := .type "tuple", data := .seq its.toArray } } :=
      I1.laid (t' := s.toks) (fun b o e => Heap.get?_push_of_some _ e) (Nat.le_refl _) (show ObjOk X.prog X.w _ _ _ (.tup ys) from ⟨hz, its, r', IsTup.new _ _⟩)
    exact ⟨.ref h'.objs.size, _, I2, rfl, q _ (I1.hok.fresh (Nat.le_refl _))⟩
  · obtain ⟨its, r', pl, hz⟩ := I.tuple hq
    exact call_tuple_same pl ⟨.ref p, H, I, rfl, q⟩
def tyV (K : PySem.W.Frag) (T : String) (x : V) (H : Hp) : Prop := match x with
  | .str _ => T = "str"
  | .int _ => T = "int"
  | .ref p => (T = "list" ∧ ∃ xs, SqL K H p xs) ∨ (T = "tuple" ∧ ∃ o, K.lookup p = some o ∧ o.cls = .type "tuple" ∧ o.dict = none) ∨
      (T = "dict" ∧ ((∃ kvs, H p = some (.dK kvs)) ∨ ∃ kvs, H p = some (.dT kvs))) ∨ (T = "set" ∧ ∃ S n, H p = some (.set S n))
  | _ => False
theorem tyV_is {pins : List (Addr × Obj)} {σ : St} {H : Hp} {s : Shared} {T : String} {x : V} {v : Value} (I : Inv X pins σ H s) (r : RelV x v) (ty : tyV X.K T x H) :
    s.TypeIs v T ∧ ∀ a, v = .ref a → ∃ ob, s.heap.get? a = some ob ∧ ob.dict = none := by
  cases x with
  | str z =>
    obtain ⟨t, rfl⟩ := r
    cases (show T = "str" from ty)
    exact ⟨typeIs_str s z t, fun _ e => nomatch e⟩
  | int i =>
    obtain ⟨t, rfl⟩ := r
    cases (show T = "int" from ty)
    exact ⟨typeIs_int s i t, fun _ e => nomatch e⟩
  | ref p =>
    cases r
    rcases ty with ⟨rfl, xs, hq⟩ | ⟨rfl, o, hk, hc, hd⟩ | ⟨rfl, hk⟩ | ⟨rfl, S, n, hk⟩
    · obtain ⟨its, _, pl, _⟩ := I.list hq
      refine ⟨pl.isList.typeIs, fun a e => ?_⟩
      cases e
      obtain ⟨o, n, e, c, hd, _⟩ := pl
      exact ⟨o, e, hd⟩
    · refine ⟨⟨o, I.kIn p o hk, hc⟩, fun a e => ?_⟩
      cases e
      exact ⟨o, I.kIn _ o hk, hd⟩
    · have z : ∃ o, s.heap.get? p = some o ∧ o.ExactDict := by
        rcases hk with ⟨kvs, hk⟩ | ⟨kvs, hk⟩
        · obtain ⟨_, _, _, _, o, _, _, e, ex, _⟩ := I.hok p _ hk
          exact ⟨o, e, ex⟩
        · obtain ⟨_, _, _, _, o, _, _, e, ex, _⟩ := I.hok p _ hk
          exact ⟨o, e, ex⟩
      obtain ⟨o, e, ex⟩ := z
      refine ⟨⟨o, e, ex.1⟩, fun a e2 => ?_⟩
      cases e2
      exact ⟨o, e, ex.2.1⟩
    · obtain ⟨o, _, _, _, e, ex, _⟩ := I.hok p _ hk
      refine ⟨⟨o, e, ex.1⟩, fun a e2 => ?_⟩
      cases e2
      exact ⟨o, e, ex.2.1⟩
  | _ => exact False.elim ty
def tBM0 (K : PySem.W.Frag) (T : String) (r : V → List V → Hp → VK → Prop) (to : TE) : TE := fun σ H Q => to σ H fun x H1 => tyV K T x H1 ∧ r x [] H1 Q
def tBM (K : PySem.W.Frag) (T : String) (r : V → List V → Hp → VK → Prop) (to : TE) (t : TA) : TE := fun σ H Q => to σ H fun x H1 => tyV K T x H1 ∧ t σ H1 fun xs H2 => r x xs H2 Q
variable {o e : Expr} {es : List Expr} {to : TE} {t : TA} {name : Str} {apos cpos : Pos} {T id : String} {r : V → List V → Hp → VK → Prop}
theorem pe_bm0 (pa : PlainAttrs T) (slot : Slot T name id) (hty : typeOf (.builtin id) = pure (.type "method_descriptor")) (hm : MtR X id r) (ho : PE X o to)
    (hbase : attributeBase o name X.env (eval o X.env) = eval o X.env := by rfl) (hline : (apos.endLine == cpos.line) = true := by rfl) : PE X (.Call (.Attribute o name apos) [] [] cpos) (tBM0 X.K T r to) := by
  intro pins s σ H Q I h
  refine wpAny_Call_method0_late hbase hline (thn (ho pins s σ H _ I h) fun v s1 ⟨x, H1, I1, r1, ty, q1⟩ => ?_)
  obtain ⟨h1, h2⟩ := tyV_is I1 r1 ty
  exact ⟨T, id, pa, slot, hty, h1, h2, Calls.callWith_builtin rfl (PySem.evalArgs_none (hm pins s1 σ H1 x [] v [] Q I1 r1 .nil q1))⟩
theorem pe_bm (pa : PlainAttrs T) (slot : Slot T name id) (hty : typeOf (.builtin id) = pure (.type "method_descriptor")) (hm : MtR X id r) (ho : PE X o to) (ha : PA X (e :: es) t)
    (hbase : attributeBase o name X.env (eval o X.env) = eval o X.env := by rfl)
    (hfew : ((backTo cpos (starEach (e :: es) X.env)).all (fun x => !x.1) && (backToKw cpos (keywordEach [] X.env)).all (fun x => x.1.isSome)
      && decide ((e :: es).length + ([] : List Keyword).length + (if ([] : List Keyword).isEmpty then 0 else 1) < 30)) = true := by rfl)
    (hline : (apos.endLine == cpos.line) = true := by rfl) (hs : starEach (e :: es) X.env = (false, eval e X.env) :: starEach es X.env := by rfl) (hplain : (backTo cpos (starEach es X.env)).any (·.1) = false := by rfl) :
    PE X (.Call (.Attribute o name apos) (e :: es) [] cpos) (tBM X.K T r to t) := by
  intro pins s σ H Q I h
  refine wpAny_Call_method_late hbase hfew hline rfl (thn (ho pins s σ H _ I h) fun v s1 ⟨x, H1, I1, r1, ty, q1⟩ => ?_)
  obtain ⟨h1, h2⟩ := tyV_is I1 r1 ty
  refine ⟨T, id, pa, slot, hty, h1, h2, ?_⟩
  have hA := ha cpos pins s1 σ H1 _ I1 q1
  rw [hs] at hA ⊢
  refine Calls.callWith_builtin (by show (false || (backTo cpos (starEach es X.env)).any (·.1)) = false; rw [hplain] <;> rfl) (Calls.evalArgs_plain ?_)
  exact thn hA fun us s2 ⟨vs, H2, I2, r2, q2⟩ => hm pins s2 σ H2 x vs v us Q I2 r1 r2 q2
/- xs.append(e), list.index on a module's tuple .. are MtR facts of 06m -/
end
end L2
namespace L2
open PySem PySem.Spec PyProof.Rows
def MtM (X : Cx) (id : String) (r : V → List V → Hp → VK → Prop) : Prop :=
  ∀ (pins : List (Addr × Obj)) (s : Shared) (σ : St) (H : Hp) (x : V) (xs : List V) (v : Value) (us : List Value) (Q : VK), Inv X pins σ H s → RelV x v → Vals xs us → r x xs H Q →
    wpAny (model X.prog X.w) X.A (call (.builtin id) (v :: us)) (EP X pins σ Q) X.xe s
theorem Vals.one : ∀ {x : V} {us : List Value}, Vals [x] us → ∃ u, us = [u] ∧ RelV x u
  | _, _, .cons r .nil => ⟨_, rfl, r⟩
theorem Vals.two : ∀ {x y : V} {us : List Value}, Vals [x, y] us → ∃ u v, us = [u, v] ∧ RelV x u ∧ RelV y v
  | _, _, _, .cons r (.cons q .nil) => ⟨_, _, rfl, r, q⟩
theorem Vals.zero : ∀ {us : List Value}, Vals [] us → us = []
  | _, .nil => rfl
theorem Vals.dropLast {xs : List V} {us : List Value} (h : Vals xs us) : Vals xs.dropLast us.dropLast := by
  induction h with
  | nil => exact .nil
  | cons r t ih =>
    cases t with
    | nil => exact .nil
    | cons q t' => exact .cons r ih
theorem Vals.eraseIdx : ∀ {xs : List V} {us : List Value} (i : Nat), Vals xs us → Vals (xs.eraseIdx i) (us.eraseIdx i)
  | _, _, _, .nil => .nil
  | _, _, 0, .cons _ t => t
  | _, _, i + 1, .cons r t => .cons r (Vals.eraseIdx i t)
theorem Vals.reverse {xs : List V} {us : List Value} (h : Vals xs us) : Vals xs.reverse us.reverse := by
  induction h with
  | nil => exact .nil
  | cons r t ih => rw [List.reverse_cons, List.reverse_cons]; exact Vals.append ih (.cons r .nil)
theorem erase_last {α : Type} (l : List α) : l.eraseIdx (l.length - 1) = l.dropLast := by
  induction l with
  | nil => rfl
  | cons a r ih =>
    cases r with
    | nil => rfl
    | cons b r =>
      have e : (a :: b :: r).length - 1 = ((b :: r).length - 1) + 1 := by
        have h1 : (a :: b :: r).length = r.length + 2 := rfl
        have h2 : (b :: r).length = r.length + 1 := rfl
        omega
      rw [e, List.eraseIdx_cons_succ, ih]
      all_goals rfl
section
variable {X : Cx} {pins : List (Addr × Obj)} {σ : St} {H : Hp} {s : Shared} {l b : Addr} {xs ys zs : List V}
theorem Inv.lset {its its' : List Value} {n : Nat} {f : Array Value → Array Value} {t' : Nat} (I : Inv X pins σ H s) (hH : H l = some (.lst xs))
    (e : s.heap.get? l = some { cls := .type "list", data := .seq its.toArray n }) (hf : f its.toArray = its'.toArray) (hv : Vals ys its') (hz : ys.length ≤ sizeLine) :
    Inv X pins σ (upd H l (.lst ys)) { s with heap := s.heap.update l (Obj.mapSeq f), toks := t' } := by
  have q := PySem.IsL.update e f
  rw [hf] at q
  refine I.write (x := l) (e := l) (by rw [hH]; exact trivial) (.inl rfl) (fun b' u hb hu => (Heap.get?_update_other s.heap (Obj.mapSeq f) (Ne.symm hb)).trans hu) ⟨_, q⟩ ?_
  exact ⟨hz, its', _, hv, q⟩
theorem Inv.lnew {its : List Value} {t' : Nat} (I : Inv X pins σ H s) (hv : Vals ys its) (hz : ys.length ≤ sizeLine) :
    Inv X pins σ (upd H s.heap.objs.size (.lst ys)) { s with heap := s.heap.push { cls := .type "list", data := .seq its.toArray }, toks := t' } :=
  I.laid (fun _ _ q => Heap.get?_push_of_some _ q) (Nat.le_refl _) ⟨hz, its, 0, hv, Heap.get?_push_size _ rfl⟩
theorem Inv.fresh (I : Inv X pins σ H s) : H s.heap.objs.size = none := I.hok.fresh (Nat.le_refl _)
theorem Inv.lstM (I : Inv X pins σ H s) (hH : H l = some (.lst xs)) : xs.length ≤ sizeLine ∧ ∃ (its : List Value) (n : Nat), Vals xs its ∧ xs.length = its.length ∧ s.heap.get? l = some { cls := .type "list", data := .seq its.toArray n } := by
  obtain ⟨z, its, n, r, e⟩ := I.hok l _ hH
  exact ⟨z, its, n, r, r.length, e⟩
theorem notLongL {n : Nat} (h : n ≤ sizeLine) : Builtin.List.listTooLong n = false := by
  unfold Builtin.List.listTooLong
  exact decide_eq_false (by omega)
end
section
variable {X : Cx}
def rAppend : V → List V → Hp → VK → Prop := fun x vs H Q => ∃ l xs y, x = .ref l ∧ vs = [y] ∧ H l = some (.lst xs) ∧ xs.length < sizeLine ∧ Q .non (upd H l (.lst (xs ++ [y])))
theorem mt_append : MtM X "list.append" rAppend := by
  intro pins s σ H x vs v us Q I rx rv h
  obtain ⟨l, xs, y, rfl, rfl, hH, hz, q⟩ := h
  cases rx
  obtain ⟨u, rfl, ru⟩ := rv.one
  obtain ⟨z, its, n, r, hl, e⟩ := I.lstM hH
  refine call_meets F.slot_list_append ⟨_, e, rfl⟩ F.entry_list_append (F.args_list_append_2 _ _) (PySem.list_append l its.toArray n u (by rw [List.size_toArray]; omega)) ⟨e, ?_⟩
  refine ⟨.non, _, I.lset (its' := its ++ [u]) hH e (by simp) (r.append (.cons ru .nil)) ?_, rfl, q⟩
  rw [List.length_append, List.length_singleton]
  omega
def rExtend : V → List V → Hp → VK → Prop := fun x vs H Q => ∃ l b xs zs, x = .ref l ∧ vs = [.ref b] ∧ H l = some (.lst xs) ∧ H b = some (.lst zs) ∧ xs.length + zs.length ≤ sizeLine ∧ Q .non (upd H l (.lst (xs ++ zs)))
theorem mt_extend : MtM X "list.extend" rExtend := by
  intro pins s σ H x vs v us Q I rx rv h
  obtain ⟨l, b, xs, zs, rfl, rfl, hH, hB, hz, q⟩ := h
  cases rx
  obtain ⟨u, rfl, ru⟩ := rv.one
  cases ru
  obtain ⟨z, its, n, r, hl, e⟩ := I.lstM hH
  obtain ⟨z2, its2, n2, r2, hl2, e2⟩ := I.lstM hB
  have hsz : its.toArray.size + its2.toArray.size ≤ sizeLine := by rw [List.size_toArray, List.size_toArray]; omega
  have hlong : ¬ (!its.toArray.isEmpty && Builtin.List.listTooLong (its.toArray.size + its2.toArray.size)) = true := by
    rw [notLongL hsz, Bool.and_false]
    exact Bool.false_ne_true
  refine call_meets F.slot_list_extend ⟨_, e, rfl⟩ F.entry_list_extend (F.args_list_extend_2 _ _)
    (AutoSeq1.list_extend_list_list_0 l its.toArray n b its2.toArray n2 hlong (by rw [List.size_toArray]; omega) (by omega)) ⟨e, e2, ?_⟩
  refine ⟨.non, _, I.lset (its' := its ++ its2) hH e (by simp) (r.append r2) ?_, rfl, q⟩
  rw [List.length_append]
  omega
def rPop : V → List V → Hp → VK → Prop := fun x vs H Q => ∃ l xs y, x = .ref l ∧ vs = [] ∧ H l = some (.lst xs) ∧ xs[xs.length - 1]? = some y ∧ Q y (upd H l (.lst xs.dropLast))
theorem mt_pop : MtM X "list.pop" rPop := by
  intro pins s σ H x vs v us Q I rx rv h
  obtain ⟨l, xs, y, rfl, rfl, hH, hy, q⟩ := h
  cases rx
  have hus := rv.zero
  subst hus
  obtain ⟨z, its, n, r, hl, e⟩ := I.lstM hH
  obtain ⟨u, hu, ru⟩ := r.get hy
  have hy' : its.toArray[its.toArray.size - 1]? = some u := by
    show its.toArray[its.length - 1]? = some u
    rw [← Array.getElem?_toList, ← hl]
    exact hu
  refine call_meets F.slot_list_pop ⟨_, e, rfl⟩ F.entry_list_pop (F.args_list_pop_1 _) (MeetsSeq.list_pop_last l its.toArray n u hy' (by rw [List.size_toArray]; omega)) ⟨e, ?_⟩
  refine ⟨y, _, I.lset (its' := its.dropLast) hH e ?_ r.dropLast ?_, ru, q⟩
  · show its.toArray.eraseIdxIfInBounds (its.toArray.size - 1) = its.dropLast.toArray
    rw [List.size_toArray, List.eraseIdxIfInBounds_toArray, erase_last]
  · rw [List.length_dropLast]
    omega
def rPopAt : V → List V → Hp → VK → Prop := fun x vs H Q => ∃ l xs i k y, x = .ref l ∧ vs = [.int i] ∧ H l = some (.lst xs) ∧ -(2 ^ 63) ≤ i ∧ i < 2 ^ 63 ∧ seqIndex? i xs.length = some k ∧ xs[k]? = some y ∧ Q y (upd H l (.lst (xs.eraseIdx k)))
def rReverse : V → List V → Hp → VK → Prop := fun x vs H Q => ∃ l xs, x = .ref l ∧ vs = [] ∧ H l = some (.lst xs) ∧ Q .non (upd H l (.lst xs.reverse))
def rClear : V → List V → Hp → VK → Prop := fun x vs H Q => ∃ l xs, x = .ref l ∧ vs = [] ∧ H l = some (.lst xs) ∧ Q .non (upd H l (.lst []))
def rCat : R2 := fun x y H Q => ∃ l b xs zs, x = .ref l ∧ y = .ref b ∧ H l = some (.lst xs) ∧ H b = some (.lst zs) ∧ xs.length + zs.length ≤ sizeLine ∧ ∀ p, H p = none → Q (.ref p) (upd H p (.lst (xs ++ zs)))
theorem op_cat : OpR X (binaryOp .Add) rCat := by
  intro pins s σ H x y v u Q I rx ry h
  obtain ⟨l, b, xs, zs, rfl, rfl, hH, hB, hz, q⟩ := h
  cases rx
  cases ry
  obtain ⟨z, its, n, r, hl, e⟩ := I.lstM hH
  obtain ⟨z2, its2, n2, r2, hl2, e2⟩ := I.lstM hB
  refine PySem.P.add_list e e2 ?_ (by rw [List.size_toArray, List.size_toArray]; omega)
  have ea : its.toArray ++ its2.toArray = (its ++ its2).toArray := by simp
  rw [ea]
  exact ⟨.ref _, _, I.lnew (t' := s.toks) (r.append r2) (by rw [List.length_append]; omega), rfl, q _ I.fresh⟩
def rRep : R2 := fun x y H Q => ∃ l k xs, x = .ref l ∧ y = .int k ∧ H l = some (.lst xs) ∧ -(2 ^ 63) ≤ k ∧ k < 2 ^ 63 ∧ xs.length * k.toNat ≤ sizeLine ∧
  ∀ p, H p = none → Q (.ref p) (upd H p (.lst (List.replicate k.toNat xs).flatten))
end
section
variable {prog : Program} {w : World} {A : Around} {E : Value → Shared → Prop} {s : Shared}
end
section
variable {X : Cx}
end
end L2
namespace Att
open PySem PySem.W PySem.Calls PyProof.Rows
theorem ints_of_wellAll {P : Params} {h : Heap} : ∀ (ns : List Int) (vs : List Value), WellAll P h vs (ns.map WData.int) → IntsAre vs ns := by
  intro ns
  induction ns with
  | nil =>
    intro vs w
    rw [List.map_nil] at w
    cases w
    exact .nil
  | cons n ns ih =>
    intro vs w
    rw [List.map_cons] at w
    cases w with
    | cons a b =>
      cases a
      exact .cons _ _ (ih _ b)
theorem script_of {l : OpenLaw} {n : Nat} (hn : l.most = some n) {P : Params} {h : Heap} {args : List WData} {vals : List Value}
    (hpre : l.row.toRowW.claim.pre args = true) (hwl : WellAll P h vals args) :
    ∃ a vs ns, vals = [Value.ref a] ∧ args = [WData.list (ns.map WData.int)] ∧ h.get? a = some { cls := .type "list", data := .seq vs.toArray } ∧ IntsAre vs ns ∧ ns.length ≤ n := by
  have hsh : WShape.hasAll [] args [.list .int] = true := (pre_splitW hpre).1
  have hc : l.pre.holds [] { args := args } = true := (pre_splitW hpre).2
  obtain ⟨d, r, rfl, h1, h2⟩ := hasAllW_cons hsh
  obtain rfl := hasAllW_nil h2
  obtain ⟨xs, rfl, h3⟩ := hasW_list h1
  obtain ⟨ns, rfl⟩ := items_int h3
  have hlen : ns.length ≤ n := by
    unfold OpenLaw.pre at hc
    have h4 : (WTm.not (.lt (.lit (.int (n : Int))) (.len (.arg 0)))).holds [] { args := [.list (ns.map .int)] } = true := by
      have h4 := (holds_andW hc).1
      rw [hn] at h4
      exact h4
    have h5 := condW_of h4 (w_not (w_lt w_lit (w_len_list (w_arg rfl))))
    rw [List.length_map] at h5
    refine Nat.le_of_not_lt fun q => ?_
    have q' : (n : Int) < ((ns.length : Nat) : Int) := by omega
    first
      | (rw [decide_eq_true q'] at h5; exact absurd h5 (by decide))
      | (simp at h5; omega)
  cases hwl with
  | cons w1 w2 =>
    cases w2
    cases w1 with
    | list ho hall => exact ⟨_, _, ns, rfl, rfl, ho, ints_of_wellAll ns _ hall, hlen⟩
theorem post_true (l : OpenLaw) (args : List WData) : l.row.toRowW.claim.post args (.bool true) args = true :=
  postW_of (r := l.row.toRowW) (X := (true == true))
    (show WShape.has [] (.bool true) .bool = true by first | rfl | decide | simp [WShape.has, WShape.arms, WShape.armsAll])
    (show (WTm.eq .res (.lit (.bool true))).value [] { args := args, res := some (.bool true), after := args } = some (.bool (true == true)) from w_eq_bool (w_res rfl) w_lit) rfl
theorem attach_call {l : OpenLaw} {n : Nat} {q : Program} {loose : List Str} {XP : (Str → Option Value) → Heap → Prop} {YP : World → Heap → Prop} {d : DefRec}
    (hn : l.most = some n) (hdf : d.params.defaults = [])
    (call : ∀ (w : World) (s₀ s₁ : Shared) (mg mb : Str → Option Value) (fa : Addr) (o : Obj) (pm cd doc : Value) (a : Addr) (vs : List Value) (ns : List Int),
      Ground q loose [] XP w s₀ mg mb s₁.heap → YP w s₁.heap →
      s₁.heap.get? fa = some o → o.data = .func (docDef d.name d.params d.body d.scope pm cd doc) → s₁.heap.CodeRec cd d.name → mg d.name = some (.ref fa) →
      s₁.heap.get? a = some { cls := .type "list", data := .seq vs.toArray } → IntsAre vs ns → ns.length ≤ n → s₁.gens = #[] →
      codeAny (model l.prog w) callerA (.call (.ref fa) ⟨[.ref a], []⟩) (fun r s' => r = .ok (.ret (.bool true)) ∧ OldK s₁.heap s'.heap ∧ s'.os = s₁.os ∧ AllBare s'.gens) s₁) :
    WalkO q loose XP YP l.row.toRowW d [] (fun f vs => PySem.call f vs) := by
  intro w s₀ s₁ mg mb G Y fa o pm cd doc dV kV ho hd hcd hD hmg hg args vals as hpre hlay hrd hwl hlo
  obtain rfl : dV = .none := Dflts.none hD hdf
  obtain rfl : kV = .none := Dflts.noKw hD
  obtain ⟨a, vs, ns, rfl, rfl, hobj, hints, hlen⟩ := script_of hn hpre hwl
  refine enter_call (codeAny_mono (call w s₀ s₁ mg mb fa o pm cd doc a vs ns G Y ho (fd_plain hd) hcd hmg hobj hints hlen hg) fun r s' hq => ?_)
  obtain ⟨rfl, h2, h3, h4⟩ := hq
  exact ⟨.inl ⟨.bool true, .bool true, [], rfl, fun _ => rfl, .bool true, post_true l _, fun _ => ⟨List.Pairwise.nil, fun _ hm => (nomatch hm)⟩⟩, h2, h3, h4⟩
section
variable {prog : Program} {w : World} {A : Around} {E : Value → Shared → Prop} {s : Shared} {K : Frag}
def noObjs (h : Heap) : Heap := { h with objs := #[] }
def ledger (h : Heap) (L d : Addr) : List (Addr × Obj) := (List.range h.objs.size).filterMap fun a => if a = L ∨ a = d then none else (h.get? a).map fun o => (a, o)
end
end Att
namespace L2
open PySem PySem.Spec PyProof.Rows
theorem vals_ints : ∀ {vs : List Value} {ns : List Int}, IntsAre vs ns → Vals (ns.map V.int) vs
  | _, _, .nil => .nil
  | _, _, .cons n t h => .cons ⟨t, rfl⟩ (vals_ints h)
def Only (H : Hp) : Prop := ∀ b, H b = none ∨ ∃ o xs, H b = some (.frz o (.lst xs))
theorem law_call {P : Program} {w : World} {K : PySem.W.Frag} {mg mb : Str → Option Value} {CX : CXT} {k : Nat} {fa a : Addr} {fd : FuncData} {x : Str} {sp : Sp} {s₁ : Shared} {vs : List Value} {ns : List Int}
    (KX : K.In s₁.heap) (hns : s₁.heap.Ns mainGlobals mg) (hb : s₁.heap.Ns builtinsNs mb) (hbb : ∀ x : Str, x ≠ "__name__" → mb x = bootBuiltins x) (hlim : s₁.heap.NoLimit) (hg : s₁.gens = #[])
    (ha : s₁.heap.get? a = some { cls := .type "list", data := .seq vs.toArray }) (hi : IntsAre vs ns) (hl : ns.length ≤ sizeLine) (hr : Room k callerA)
    (F : ∀ base : Heap, K.In base → base.Ns mainGlobals mg → FnOk P w K mg base CX k fa fd [x] sp) (hbind : ∀ (s : Shared) (u : Value), BindsTo s fd ⟨[u], []⟩ [(x, u)])
    (hsp : ∀ H : Hp, Only H → SqL K H a (ns.map V.int) → sp [.ref a] H (fun v _ => v = .bl true) fun _ _ _ => False)
    (hCX : ∀ H e s', CX [] H s₁ (fun _ _ _ => False) e s' → False) :
    codeAny (model P w) callerA (.call (.ref fa) ⟨[.ref a], []⟩) (fun r s' => r = .ok (.ret (.bool true)) ∧ OldK s₁.heap s'.heap ∧ s'.os = s₁.os ∧ AllBare s'.gens) s₁ := by
  have rv := vals_ints hi
  have lenV := hi.length
  -- from an abstract heap in which nothing but the script may be tracked
  have core : ∀ H : Hp, Only H → SqL K H a (ns.map V.int) → HOk P w H s₁.heap → (∀ b, H b ≠ none → b = a) → (H a ≠ none → K.lookup a = none) →
      codeAny (model P w) callerA (.call (.ref fa) ⟨[.ref a], []⟩) (fun r s' => r = .ok (.ret (.bool true)) ∧ OldK s₁.heap s'.heap ∧ s'.os = s₁.os ∧ AllBare s'.gens) s₁ := by
    intro H hO hS hok hA hK
    have base_of : ∀ {b : Addr} {o : Obj}, s₁.heap.get? b = some o → H b = none → (hidT s₁.heap H).get? b = some o := fun e n => hidT_get e n
    have noA : ∀ {b : Addr} {o : Obj} {es : Array DictEntry} {ep : Nat}, s₁.heap.get? b = some o → o.data = .dict es ep → H b = none := fun {b o es ep} e d => by
      cases q : H b with
      | none => rfl
      | some u =>
        have e' : b = a := hA b (by rw [q]; simp)
        subst e'
        rw [ha] at e; cases e
        have d' : Data.seq vs.toArray _ = Data.dict es ep := d
        cases d'
    have nsK : ∀ {b : Addr} {m : Str → Option Value}, s₁.heap.Ns b m → (hidT s₁.heap H).Ns b m := fun {b m} ⟨o, es, ep, e, d, r⟩ => ⟨o, es, ep, base_of e (noA e d), d, r⟩
    have hKb : K.In (hidT s₁.heap H) := fun b o e => base_of (KX b o e) (by
      cases q : H b with
      | none => rfl
      | some u =>
        have e' : b = a := hA b (by rw [q]; simp)
        subst e'
        rw [hK (by rw [q]; simp)] at e; cases e)
    have hM : Mod K mg (hidT s₁.heap H) := ⟨hKb, nsK hns, ⟨mb, nsK hb, hbb⟩, let ⟨mc, h1, h2⟩ := hlim; ⟨mc, nsK h1, h2⟩⟩
    have e0 : Env0 P w K mg (hidT s₁.heap H) callerA [] s₁ H := ⟨rfl, hM, fun b o e => of_hidT e, Nat.le_of_eq (hidT_size _ _), trivial, fun b hb => absurd (show b ∈ ([] : List Addr) from hb) (by simp), hok, .of_eq hg⟩
    refine codeAny_mono ((F _ hKb (nsK hns)).run callerA [] s₁ H ⟨[.ref a], []⟩ [.ref a] [.ref a] _ _ hr e0 (hbind s₁ (.ref a)) (.cons rfl .nil) (hsp H hO hS)) fun r s' h => ?_
    cases r with
    | error e => exact (hCX H e s' h).elim
    | ok fl =>
      cases fl with
      | next => exact False.elim h
      | brk => exact False.elim h
      | cont => exact False.elim h
      | ret u =>
        obtain ⟨v, H', os, bare, un, hok', r', q⟩ := h
        have q' : v = .bl true := q
        subst q'
        obtain rfl : u = Value.bool true := r'
        refine ⟨rfl, OldK.of_keep fun b o e => ?_, os, bare⟩
        cases q : H b with
        | none => exact un.keep b o e q (by intro z; exact absurd (show b ∈ ([] : List Addr) from z) (by simp)) (by simp)
        | some u =>
          rcases hO b with z | ⟨ob, xs, z⟩
          · rw [q] at z; cases z
          · have z2 := un.frzs b ob _ z
            obtain ⟨e1, _⟩ := hok b _ z
            obtain ⟨e2, _⟩ := hok' b _ z2
            rw [e] at e1; cases e1
            exact e2
  cases hk : K.lookup a with
  | some o =>
    -- the script is one of the module's own objects
    have e := KX a o hk
    rw [ha] at e
    cases e
    refine core (fun _ => none) (fun _ => .inl rfl) (.inr ⟨_, vs.toArray, _, hk, rfl, rfl, rfl, by rw [List.size_toArray, lenV]; exact hl, by simpa using rv⟩) (fun b u z => by have z' : (none : Option HO) = some u := z; cases z') (fun b z => absurd rfl z) fun z => absurd rfl z
  | none =>
    refine core (fun b => if b = a then some (.frz { cls := .type "list", data := .seq vs.toArray } (.lst (ns.map V.int))) else none) (fun b => ?_) (.inl (.inr ⟨{ cls := .type "list", data := .seq vs.toArray }, if_pos rfl⟩)) (fun b u z => ?_) (fun b z => ?_) fun _ => hk
    · by_cases hb : b = a
      · exact .inr ⟨_, _, if_pos hb⟩
      · exact .inl (if_neg hb)
    · by_cases hb : b = a
      · have z' := (if_pos hb).symm.trans z
        cases z'
        subst hb
        exact ⟨ha, by rw [List.length_map]; exact hl, vs, _, rv, ha⟩
      · have z' := (if_neg hb).symm.trans z
        cases z'
    · by_cases hb : b = a
      · exact hb
      · exact absurd (if_neg hb) z
end L2
namespace L2
open PySem PySem.Spec PyProof.Rows
abbrev KOf {K : PySem.W.Frag} {h : Heap} (_ : K.In h) : PySem.W.Frag := K
theorem walk_of {l : PySem.W.OpenLaw} {n k : Nat} {q : Program} {loose : List Str} {XP : (Str → Option Value) → Heap → Prop} {YP : World → Heap → Prop} {d : DefRec} {K : Params → PySem.W.Frag} {CX : World → CXT} {sp : World → Sp} {x : Str}
    (hn : l.most = some n) (hn2 : n ≤ sizeLine) (hdf : d.params.defaults = []) (hr : Room k callerA)
    (hY : ∀ (w : World) (h : Heap), YP w h → (K w.params).In h)
    (F : ∀ (w : World) (mg : Str → Option Value) (fa : Addr) (h : Heap), (K w.params).In h → h.Ns mainGlobals mg → mg d.name = some (.ref fa) →
      ∃ fd : FuncData, (∀ (s : Shared) (u : Value), BindsTo s fd ⟨[u], []⟩ [(x, u)]) ∧
        ∀ base : Heap, (K w.params).In base → base.Ns mainGlobals mg → FnOk l.prog w (K w.params) mg base (CX w) k fa fd [x] (sp w))
    (hsp : ∀ (w : World) (H : Hp) (a : Addr) (ns : List Int), ns.length ≤ n → Only H → SqL (K w.params) H a (ns.map V.int) → sp w [.ref a] H (fun v _ => v = .bl true) fun _ _ _ => False)
    (hCX : ∀ (w : World) (H : Hp) (s : Shared) (e : Value) (s' : Shared), CX w [] H s (fun _ _ _ => False) e s' → False) :
    PySem.W.WalkO q loose XP YP l.row.toRowW d [] (fun f vs => PySem.call f vs) := by
  refine Att.attach_call hn hdf fun w s₀ s₁ mg mb fa o pm cd doc a vs ns G Y ho hd hcd hmg hobj hints hlen hg => ?_
  have KX := hY w _ Y
  obtain ⟨fd, hb, hF⟩ := F w mg fa _ KX G.T.g hmg
  exact law_call KX G.T.g G.T.b G.T.builtins G.T.nolimit hg hobj hints (Nat.le_trans hlen hn2) hr hF hb (fun H hO hS => hsp w H a ns hlen hO hS) fun H e s' => hCX w H s₁ e s'
end L2
/- THE LAST THEOREM (shape; LID, My.* are yours):
   My.Adr: a structure of the addresses that your layer names (classes, functions); My.Txt K t: a structure (Prop) of the equations over K;
   My.txt_mk : {K} {implicit addresses ..} (e1 : nsIn K mainGlobals "law" = some (some (.ref f))) (e2 : K.lookup f = some ⟨oc, od, .func (fnOf "law" "law" params body scope dV kV doc pm an cdv ct), sl⟩) (e3 : codeIn K cdv "law" = true) .. : ∃ t, My.Txt K t
set_option maxRecDepth 100000 in
set_option maxHeartbeats 0 in
theorem PySem.Challenge.cw_LID_holds : PySem.Challenge.rw_LID.Holds := by
  w_on; o_law; k_head; (case hw => w_witness2)
  k_fill
  refine L2.walk_of (l := PySem.Challenge.rw_LID) (n := 63) (k := 40) (x := "script") (CX := fun w => ..) (sp := fun _ => My.sp_law) rfl (by decide) rfl ⟨rfl, by decide, by decide⟩ (fun w h Y => PySem.W.kIn_of Y) ?F ?S ?C
  case F =>
    intro w mg fa h KX G hmg
    have T : ∃ t, My.Txt (L2.KOf KX) t := by
      dsimp only [L2.KOf]                          -- K must stand as «<heap const> w.params» for k_is
      refine' My.txt_mk ?e1 ?e2 ?e3 ..
      (case e1 => PySem.W.k_is)                    -- in the order: a name -> its address -> its object -> its parts
      (case e2 => PySem.W.k_is)
      ..
    obtain ⟨t, T⟩ := T
    have e0 := hmg.symm.trans (PySem.W.mg_of KX G T.law)
    cases e0                                       -- fa is the law's own address
    exact ⟨_, fun s u => .of_eq rfl, fun base kb nb => My.law_fn T kb nb⟩     -- if «.of_eq rfl» comes too early: refine' ⟨_, ?b, fun base kb nb => My.law_fn T kb nb⟩; exact fun s u => .of_eq rfl
  case S => exact fun w H a ns hl hO hS => ..
  case C => exact ..
(the tactic k_is has no namespace: write k_is) -/
namespace L2
open PySem PySem.Spec PyProof.Rows
def inClass (s : Stmt) (j : Nat) : Stmt := match s with
  | .ClassDef _ _ _ body _ _ _ _ _ _ _ => body.getD j (.Pass ⟨0, 0, 0, 0⟩)
  | _ => .Pass ⟨0, 0, 0, 0⟩
def defArgs (s : Stmt) : Arguments := match s with
  | .FunctionDef _ a _ _ _ _ _ _ _ _ => a
  | _ => { posonlyargs := [], args := [], vararg := none, kwonlyargs := [], kw_defaults := [], kwarg := none, defaults := [] }
def defBody (s : Stmt) : List Stmt := match s with
  | .FunctionDef _ _ b _ _ _ _ _ _ _ => b
  | _ => []
def defScope (s : Stmt) : Scope := match s with
  | .FunctionDef _ _ _ _ _ _ sc _ _ _ => sc
  | _ => { kind := .function, names := [], isGenerator := false, isCoroutine := false }
abbrev CX0 : CXT := fun _ _ _ _ _ _ => False
abbrev E0 : XK := fun _ _ _ => False
theorem pass0 {X : Cx} : Passes CX0 X E0 := fun _ _ _ _ _ _ _ h => h.elim
structure Fun (K : PySem.W.Frag) (x qual : Str) (st : Stmt) (f : Addr) (fd : FuncData) : Prop where
  ex : ∃ (oc : Value) (od : Option Addr) (kV doc pm : Value) (an : Option Addr) (cdv ct : Value) (osl : Array (Option Value)),
    fd = PySem.W.fnOf x qual (defArgs st) (defBody st) (defScope st) .none kV doc pm an cdv ct ∧ K.lookup f = some ⟨oc, od, .func fd, osl⟩ ∧ PySem.W.codeIn K cdv qual = true
  kp : PySem.W.keepIn K (.ref f) = true
section
variable {P : Program} {w : World} {K : PySem.W.Frag} {mg : Str → Option Value} {base : Heap}
theorem Fun.ok {x qual : Str} {st : Stmt} {f : Addr} {fd : FuncData} {N ps : List Str} {k : Nat} {sp : Sp} (F : Fun K x qual st f fd) (S : FnScope N ps (defScope st)) (len : ∀ vs H Q E, sp vs H Q E → vs.length = ps.length)
    (hbody : ∀ (cdv : Value) (A : Around) (outer : List Env) (s : Shared) (H : Hp) (vs : List V) (Q : VK) (E : XK), Room k (A.deeper (envOfC qual (defScope st) s.heap.objs.size f cdv)) → sp vs H Q E →
      ∃ t, PSs (cxOf CX0 P w K mg base N qual (defScope st) f cdv A outer s H E).nox (defBody st) t ∧ t { nx := fun _ H' => Q .non H', rt := Q } (start N vs) H) : FnOk P w K mg base CX0 (k + 1) f fd ps sp := by
  obtain ⟨oc, od, kV, doc, pm, an, cdv, ct, osl, rfl, lk, hcd⟩ := F.ex
  refine fn_of lk hcd S len fun A outer s H vs Q E hr hsp => ?_
  obtain ⟨t, h, q⟩ := hbody cdv A outer s H vs Q E hr hsp
  exact ⟨t, h.nox, q⟩
theorem Fun.binds {x qual : Str} {st : Stmt} {f : Addr} {fd : FuncData} {ps : List Str} (F : Fun K x qual st f fd)
    (h : ∀ (kV doc pm : Value) (an : Option Addr) (cdv ct : Value) (us : List Value), us.length = ps.length → bindArgs (PySem.W.fnOf x qual (defArgs st) (defBody st) (defScope st) .none kV doc pm an cdv ct) ⟨us, []⟩ = pure (ps.zip us)) : Binds K fd ps [] := by
  obtain ⟨oc, od, kV, doc, pm, an, cdv, ct, osl, rfl, lk, hcd⟩ := F.ex
  exact .all (h kV doc pm an cdv ct)
theorem fun_mk {x qual : Str} {st : Stmt} {f : Addr} {oc : Value} {od an : Option Addr} {osl : Array (Option Value)} {kV doc pm cdv ct : Value} (l : K.lookup f = some ⟨oc, od, .func (PySem.W.fnOf x qual (defArgs st) (defBody st) (defScope st) .none kV doc pm an cdv ct), osl⟩)
    (c : PySem.W.codeIn K cdv qual = true) (k : PySem.W.keepIn K (.ref f) = true) : Fun K x qual st f (PySem.W.fnOf x qual (defArgs st) (defBody st) (defScope st) .none kV doc pm an cdv ct) := ⟨⟨oc, od, kV, doc, pm, an, cdv, ct, osl, rfl, l, c⟩, k⟩
end
theorem hu_of {A : Around} {k : Nat} (hr : Room k A) : A.units + 1 < cLine := Nat.lt_of_le_of_lt (Nat.add_le_add_left (by decide : 1 ≤ 64) _) hr.units
theorem small1000 {n : Nat} (h : n ≤ 1000) : n < sizeLine := Nat.lt_of_le_of_lt h (by decide)
section
variable {X : Cx}
theorem pv (i : Nat) {x : Str} {pos : Pos} (hN : X.N[i]? = some x := by rfl) (hv : Vis X.env.scope x := by first | exact Or.inl rfl | exact Or.inr (Or.inl rfl) | exact Or.inr (Or.inr rfl)) (hd : (x == ("__debug__" : Str)) = false := by decide)
    (hcd : (x == ("__classdict__" : Str)) = false := by decide) : PE X (.Name x pos) (tVar i) := pe_var hN hv hd hcd
end
theorem iteF {A B : Prop} (h : B) : if false = true then A else B := by
  rw [if_neg Bool.false_ne_true]
  exact h
theorem iteT {A B : Prop} (h : A) : if true = true then A else B := by
  rw [if_pos rfl]
  exact h
theorem ite2 {c A B : Prop} [Decidable c] (h1 : c → A) (h2 : ¬ c → B) : if c then A else B := by
  by_cases h : c
  · rw [if_pos h]
    exact h1 h
  · rw [if_neg h]
    exact h2 h
def Same (H H' : Hp) : Prop := ∀ b o, H b = some o → H' b = some o
theorem Same.refl (H : Hp) : Same H H := fun _ _ h => h
theorem Same.trans {H H1 H2 : Hp} (a : Same H H1) (b : Same H1 H2) : Same H H2 := fun c o h => b c o (a c o h)
theorem Same.free {H H' : Hp} (e : Same H H') {l : Addr} (h : H' l = Option.none) : H l = Option.none := by
  cases q : H l with
  | none => rfl
  | some o =>
    rw [e l o q] at h
    cases h
theorem Same.seq {K : PySem.W.Frag} {H H' : Hp} {a : Addr} {xs : List V} (e : Same H H') (h : SqL K H a xs) : SqL K H' a xs := by
  rcases h with (h | ⟨o, h⟩) | h
  · exact .inl (.inl (e _ _ h))
  · exact .inl (.inr ⟨o, e _ _ h⟩)
  · exact .inr h
end L2
namespace L2
open PySem PySem.Spec PyProof.Rows
def Sz (n : Nat) (x : Int) : Prop := x.natAbs < 2 ^ n
theorem Sz.mono {m n : Nat} {x : Int} (h : Sz m x) (hn : m ≤ n) : Sz n x := Nat.lt_of_lt_of_le h (Nat.pow_le_pow_right (by decide) hn)
theorem Sz.mul {m n : Nat} {x y : Int} (h : Sz m x) (g : Sz n y) : Sz (m + n) (x * y) := by
  unfold Sz at *
  rw [Int.natAbs_mul, Nat.pow_add]
  exact Nat.mul_lt_mul_of_lt_of_lt h g
theorem Sz.neg {n : Nat} {x : Int} (h : Sz n x) : Sz n (-x) := by
  unfold Sz at *
  omega
theorem Sz.of_le {n : Nat} {x y : Int} (h : Sz n y) (g : x.natAbs ≤ y.natAbs) : Sz n x := Nat.lt_of_le_of_lt g h
section
variable {X : Cx}
def CMulW (i j : Int) : Prop := Sz 4000 i ∧ Sz 4000 j
theorem CMulW.ok {i j : Int} (h : CMulW i j) : IntMulOk i j := IntMulOk.of_le (m := 4000) (n := 4000) (intBits_le_iff.mpr h.1) (intBits_le_iff.mpr h.2) (by decide)
theorem op_mulW : OpR X (binaryOp .Mult) (rI CMulW fun i j => .int (i * j)) := opI fun _ _ _ _ _ _ _ hc q => mul_int q hc.ok
def CDivW (_ j : Int) : Prop := j ≠ 0 ∧ Sz 4000 j
theorem CDivW.ok {i j : Int} (h : CDivW i j) : Builtin.divisionGoesByPylong i j = false := by
  refine PyProof.noPylong_of_log2 ?_
  have h0 : j.natAbs ≠ 0 := by have := h.1; omega
  exact Nat.lt_trans ((Nat.log2_lt h0).mpr h.2) (by decide)
theorem op_fdivW : OpR X (binaryOp .FloorDiv) (rI CDivW fun i j => .int (i.fdiv j)) := opI fun _ _ _ _ _ _ _ hc q => floordiv_int hc.1 q (.inl hc.ok)
def eqVs : List V → List V → Bool
  | [], [] => true
  | x :: xs, y :: ys => eqV x y && eqVs xs ys
  | _, _ => false
def eqAtI (xs ys : List V) (j : Nat) : Bool := match xs[j]?, ys[j]? with
  | some x, some y => eqV x y
  | _, _ => false
def rEqT (K : PySem.W.Frag) (neg : Bool) : R2 := fun x y H Q => ∃ a b xs ys, x = .ref a ∧ y = .ref b ∧ SqT K H a xs ∧ SqT K H b ys ∧ xs.all flatV = true ∧ ys.all flatV = true ∧ Q (.bl (if neg then !eqVs xs ys else eqVs xs ys)) H
def gLst (K : PySem.W.Frag) (n : Nat) (t : TGs) : TG := fun v σ H Q => ∃ a xs, v = .ref a ∧ SqL K H a xs ∧ xs.length = n ∧ t xs σ H Q
def rIs (K : PySem.W.Frag) : List V → Hp → VK → Prop := fun xs H Q => ∃ x c t u b, xs = [x, c] ∧ TyOf K H x t ∧ RelV c u ∧ (∀ p, c ≠ .ref p ∨ True) ∧ PySem.W.kitOne K t u = some b ∧ Q (.bl b) H
theorem call_isinst : CallR X (.builtin "isinstance") (rIs X.K) := by
  intro pins s σ H xs us Q I r h
  obtain ⟨x, c, t, u', b, rfl, ty, rc, _, hk, q⟩ := h
  obtain ⟨u, w', rfl, r1, r2⟩ := vals2 r
  have e : w' = u' ∨ ∃ T, c = .ty T := by
    cases c with
    | non => left; cases rc; cases r2; rfl
    | bl _ => left; cases rc; cases r2; rfl
    | int i => obtain ⟨z, rfl⟩ := rc; exact absurd hk (by simp [PySem.W.kitOne, PySem.W.kitCls]; cases ty <;> simp)
    | str i => obtain ⟨z, rfl⟩ := rc; exact absurd hk (by simp [PySem.W.kitOne, PySem.W.kitCls]; cases ty <;> simp)
    | byt i => obtain ⟨z, rfl⟩ := rc; exact absurd hk (by simp [PySem.W.kitOne, PySem.W.kitCls]; cases ty <;> simp)
    | flt i => obtain ⟨z, rfl⟩ := rc; exact absurd hk (by simp [PySem.W.kitOne, PySem.W.kitCls]; cases ty <;> simp)
    | ref _ => left; cases rc; cases r2; rfl
    | ty _ => left; cases rc; cases r2; rfl
  rcases e with rfl | ⟨T, rfl⟩
  · exact isinst_ok I r1 ty hk fun tk => ⟨.bl b, H, I.tok tk, rfl, q⟩
  · cases rc; cases r2
    exact isinst_ok I r1 ty hk fun tk => ⟨.bl b, H, I.tok tk, rfl, q⟩
end
end L2
namespace L2
open PySem PySem.Spec PyProof.Rows
def cxComp (X : Cx) (scope : Scope) (cl : List (Str × Addr)) (C : Addr) (N : List Str) (s₀ : Shared) (H₀ : Hp) (ex : List Addr) (pn : List (Addr × Obj)) : Cx where
  prog := X.prog
  w := X.w
  K := X.K
  mg := X.mg
  base := X.base
  A := X.A
  N := N
  s₀ := s₀
  H₀ := H₀
  env := compEnvC scope cl C X.env
  outer := X.stack
  stack := X.stack
  ex := ex
  fn := fun _ => false
  calm := X.calm
  pn := pn
  xe := fun _ _ => False
structure CompScope (X : Cx) (scope : Scope) (cl : List (Str × Addr)) (x : Str) (fv : List Str) (js : List Nat) : Prop where
  kind : scope.kind = .function
  nc : ∀ y ∈ scope.names, y.2 ≠ .cell
  nm : ∀ y ∈ scope.names, y.2 = .local → scope.names.lookup y.1 = some .local
  hx : scope.names.lookup x = some .local
  fr : ∀ y ∈ scope.names, y.2 = .free → y.1 ∈ fv
  nd : (x :: fv).Nodup
  vis : ∀ y ∈ fv, scope.names.lookup y = some .free ∧ X.env.scope.names.lookup y = some .cell ∧ (cl.lookup y).isSome = true
  cls : ∀ p ∈ cl, X.env.cells.lookup p.1 = some p.2
  sl : Paired (fun y j => X.N[j]? = some y) fv js
def frv (js : List Nat) (σ : St) : St := js.map fun j => (σ[j]?).getD none
theorem lookup_relabel_free {env : Env} (hk : env.scope.kind = .function) : ∀ {names : List (Str × NameKind)} {y : Str}, names.lookup y = some .free → env.kindOf y = some .cell →
    (names.map fun (n, k) => if (k == NameKind.free && env.scope.kind == .function && env.kindOf n == some .cell) then (n, NameKind.cell) else (n, k)).lookup y = some .cell
  | [], _, h, _ => by simp at h
  | (n, k) :: r, y, h, hy => by
    have ih := @lookup_relabel_free env hk r y
    show List.lookup y ((if (k == NameKind.free && env.scope.kind == .function && env.kindOf n == some .cell) = true then (n, NameKind.cell) else (n, k)) :: _) = _
    cases hx : y == n with
    | true =>
      have e : y = n := eq_of_beq hx
      subst e
      simp only [List.lookup_cons, hx] at h
      cases h
      rw [if_pos (by rw [hk, hy]; rfl)]
      simp [List.lookup_cons]
    | false =>
      simp only [List.lookup_cons, hx] at h
      split
      · simp only [List.lookup_cons, hx]; exact ih h hy
      · simp only [List.lookup_cons, hx]; exact ih h hy
theorem lookup_relabel_back {env : Env} : ∀ {names : List (Str × NameKind)} {y : Str} {k' : NameKind},
    (names.map fun (n, k) => if (k == NameKind.free && env.scope.kind == .function && env.kindOf n == some .cell) then (n, NameKind.cell) else (n, k)).lookup y = some k' →
    names.lookup y = some k' ∨ (names.lookup y = some .free ∧ k' = .cell)
  | [], _, _, h => by simp at h
  | (n, k) :: r, y, k', h => by
    have ih := @lookup_relabel_back env r y k'
    have h : List.lookup y ((if (k == NameKind.free && env.scope.kind == .function && env.kindOf n == some .cell) = true then (n, NameKind.cell) else (n, k)) :: (r.map fun (n, k) => if (k == NameKind.free && env.scope.kind == .function && env.kindOf n == some .cell) then (n, NameKind.cell) else (n, k))) = some k' := h
    cases hx : y == n with
    | true =>
      by_cases hc : (k == NameKind.free && env.scope.kind == .function && env.kindOf n == some .cell) = true
      · rw [if_pos hc] at h
        simp only [List.lookup_cons, hx] at h
        cases h
        right
        have hk : k = .free := by
          rw [Bool.and_eq_true, Bool.and_eq_true] at hc
          exact eq_of_beq hc.1.1
        subst hk
        exact ⟨by simp [List.lookup_cons, hx], rfl⟩
      · rw [if_neg hc] at h
        simp only [List.lookup_cons, hx] at h
        left
        simp only [List.lookup_cons, hx]
        exact h
    | false =>
      have h' : (r.map fun (n, k) => if (k == NameKind.free && env.scope.kind == .function && env.kindOf n == some .cell) then (n, NameKind.cell) else (n, k)).lookup y = some k' := by
        by_cases hc : (k == NameKind.free && env.scope.kind == .function && env.kindOf n == some .cell) = true
        · rw [if_pos hc] at h
          simp only [List.lookup_cons, hx] at h
          exact h
        · rw [if_neg hc] at h
          simp only [List.lookup_cons, hx] at h
          exact h
      simp only [List.lookup_cons, hx]
      exact ih h'
section
variable {X : Cx} {scope : Scope} {cl : List (Str × Addr)} {x : Str} {fv : List Str} {js : List Nat}
theorem CompScope.cell_of (S : CompScope X scope cl x fv js) {y : Str} {c : Addr} (h : cl.lookup y = some c) : X.env.cells.lookup y = some c := S.cls (y, c) (PySem.mem_of_lookup h)
theorem CompScope.own (S : CompScope X scope cl x fv js) {C : Addr} {y : Str} {k : NameKind} (h : (compEnvC scope cl C X.env).kindOf y = some k) (hk : k = .cell ∨ k = .free) : y ∈ fv := by
  have h' : (scope.names.map fun (n, k) => if (k == NameKind.free && X.env.scope.kind == .function && X.env.kindOf n == some .cell) then (n, NameKind.cell) else (n, k)).lookup y = some k := h
  rcases lookup_relabel_back h' with q | ⟨q, _⟩
  · rcases hk with rfl | rfl
    · exact absurd rfl (S.nc _ (PySem.mem_of_lookup q))
    · exact S.fr _ (PySem.mem_of_lookup q) rfl
  · exact S.fr _ (PySem.mem_of_lookup q) rfl
theorem paired_get {F : Str → Nat → Prop} : ∀ {ys : List Str} {js : List Nat} {i : Nat} {y : Str}, Paired F ys js → ys[i]? = some y → ∃ j, js[i]? = some j ∧ F y j
  | _, _, _, _, .nil, e => by simp at e
  | _, _, 0, _, .cons r _, e => by simp at e; subst e; exact ⟨_, rfl, r⟩
  | _, _, i + 1, y, .cons _ t, e => by
    obtain ⟨j, h1, h2⟩ := paired_get (i := i) (y := y) t (by simpa using e)
    exact ⟨j, by simpa using h1, h2⟩
theorem comp_start {pins : List (Addr × Obj)} {σ : St} {H : Hp} {s : Shared} {h₁ : Heap} {ex : List Addr} {tk : Nat} (S : CompScope X scope cl x fv js) (I : Inv X pins σ H s)
    (hf : ∀ b ∈ ex, FpOk X pins H b) (hlt : ∀ b ∈ ex, b < s.heap.objs.size) (hns : h₁.Ns s.heap.objs.size (fun _ => none)) (hk : ∀ b o, s.heap.get? b = some o → h₁.get? b = some o) :
    Inv (cxComp X scope cl s.heap.objs.size (x :: fv) s H ex (X.pn ++ pins)) [] (none :: frv js σ) H { s with heap := h₁, toks := tk } := by
  have nstk : ∀ b ∈ ex, b ∉ frs X.stack := fun b hb z => by
    rcases List.mem_cons.mp (I.stkSub b z) with e | e
    · exact (hf b hb).2.1 e
    · exact (hf b hb).2.2.1 e
  have ok : (cxComp X scope cl s.heap.objs.size (x :: fv) s H ex (X.pn ++ pins)).Ok := by
    refine ⟨I.ok.mod, S.kind, I.ok.glob, I.ok.blt, Nat.le_refl _, fun y z c h1 h2 => I.ok.inj y z c (S.cell_of h1) (S.cell_of h2), fun y hy => ?_, fun y c h _ => absurd h (by exact Bool.false_ne_true), I.ok.hd, I.ok.frames, .inl rfl,
      fun b hb => ⟨Nat.ne_of_lt (hlt b hb), fun y c h => (hf b hb).2.2.2.2.1 y c (S.cell_of h)⟩, I.bs, Nat.le_trans I.ok.bsz I.sz, fun b o e hb => ?_, nstk, I.stack, I.stkFree⟩
    · have hm : y ∈ fv := by
        rcases hy with hy | hy
        · exact S.own hy (.inl rfl)
        · exact S.own hy (.inr rfl)
      exact Option.isSome_iff_exists.mp (S.vis y hm).2.2
    · obtain ⟨f0, f1, f2, f3, f4, f5⟩ := hf b hb
      rcases f3 with z | z
      · exact I.ok.noex b o e z
      · exact absurd (Nat.lt_of_lt_of_le (Heap.lt_size e) (Nat.le_trans I.ok.bsz z)) (Nat.lt_irrefl _)
  refine ⟨ok, rfl, I.bare, Un.kept hk, ⟨_, hns, fun i y v e1 e2 e3 => ?_⟩, fun y c h => ?_, I.hok.fresh (Nat.le_refl _), fun y c h => I.freeC y c (S.cell_of h), fun p hp => ?_, I.hok.kept hk, ?_⟩
  · cases i with
    | zero => have z : (some (none : Option V)) = some (some v) := e2; cases z
    | succ i =>
      have hy : fv[i]? = some y := by simpa [cxComp] using e1
      obtain ⟨j, hj, hN⟩ := paired_get S.sl hy
      have hv : σ[j]? = some (some v) := by
        have z : (frv js σ)[i]? = some (some v) := by simpa using e2
        unfold frv at z
        rw [List.getElem?_map, hj] at z
        have z' : (σ[j]?).getD none = some v := Option.some.inj z
        cases q : σ[j]? with
        | none => rw [q] at z'; cases z'
        | some o => rw [q] at z'; exact congrArg some z'
      obtain ⟨hfree, hcell, hsome⟩ := S.vis y (List.mem_of_getElem? hy)
      obtain ⟨m, hn, hl⟩ := I.loc
      obtain ⟨u, ru, look⟩ := hl j y v hN hv (.inr (.inl hcell))
      refine ⟨u, ru, .inr ⟨.inl (lookup_relabel_free I.ok.kind hfree hcell), ?_⟩⟩
      obtain ⟨c', hc'⟩ := Option.isSome_iff_exists.mp hsome
      rcases look with ⟨k, _⟩ | ⟨_, c, ec, z⟩
      · have k' : X.env.scope.names.lookup y = some .local := k
        rw [hcell] at k'; cases k'
      · have e := S.cell_of hc'
        rw [ec] at e
        cases e
        exact ⟨_, hc', by obtain ⟨o, ho, hd⟩ := z; exact ⟨o, hk _ _ ho, hd⟩⟩
  · obtain ⟨v, o, ho, hd⟩ := I.cell y c (S.cell_of h)
    exact ⟨v, o, hk _ _ ho, hd⟩
  · have hp' : p ∈ X.pn ++ pins := by simpa [cxComp] using hp
    obtain ⟨e, n, ne, nf, d⟩ := I.pin p hp'
    refine ⟨hk _ _ e, n, Nat.ne_of_lt (Heap.lt_size e), fun z => ?_, d⟩
    rcases List.mem_cons.mp (I.stkSub p.1 z) with q | q
    · exact ne q
    · exact nf q
  · show (none :: frv js σ).length = (x :: fv).length
    have : fv.length = js.length := Paired.length S.sl
    simp [frv, this]
theorem comp_end {pins pins' : List (Addr × Obj)} {σ σ' : St} {H H' : Hp} {s s' : Shared} {h'' : Heap} {ex : List Addr} {N : List Str} {pn : List (Addr × Obj)} (I : Inv X pins σ H s) (hf : ∀ b ∈ ex, FpOk X pins H b)
    (J : Inv (cxComp X scope cl s.heap.objs.size N s H ex pn) pins' σ' H' s') (sb : Heap.SameBut s.heap.objs.size s'.heap h'') : Inv X pins σ H' { s' with heap := h'' } := by
  have neC : ∀ b o, s.heap.get? b = some o → b ≠ s.heap.objs.size := fun b o e => Nat.ne_of_lt (Heap.lt_size e)
  have u : Un (frs X.stack) ex H H' s.heap s'.heap := J.base
  have fr : H' s.heap.objs.size = none := J.free
  refine I.call' (s' := { s' with heap := h'' }) (ch := ex) J.os ⟨fun b o e n hb hx => ?_, fun b o e n hb hx => ?_, u.free, fun b o e hx => ?_, u.tups, u.frzs, u.tbls⟩ (fun b o e => ?_) J.bare (fun b hb => ?_)
  · exact (sb.2 b (neC b o e)).trans (u.keep b o e n hb hx)
  · obtain ⟨sl, q⟩ := u.slot b o e n hb hx
    exact ⟨sl, (sb.2 b (neC b o e)).trans q⟩
  · obtain ⟨o', q⟩ := u.there b o e hx
    exact ⟨o', (sb.2 b (neC b o e)).trans q⟩
  · refine (J.hok b o e).stay (fun c v hc q => (sb.2 c ?_).trans q) (fun _ q => q) fun _ _ q => q
    rcases hc with rfl | hc
    · intro z; rw [z, fr] at e; cases e
    · intro z; rw [z, fr] at hc; cases hc
  · obtain ⟨f0, f1, f2, f3, f4, f5⟩ := hf b hb
    exact ⟨f3, f1, f4, f5⟩
end
def PF (X : Cx) (ifs : List Expr) (t : TT) : Prop :=
  ∀ (pins : List (Addr × Obj)) (s : Shared) (σ : St) (H : Hp) (Q : Bool → Hp → Prop), Inv X pins σ H s → t σ H Q →
    wpAny (model X.prog X.w) X.A (forIn ifs true fun c r => if r = true then do let ok ← isTrue c X.env (eval c X.env); pure (ForInStep.yield ok) else pure (ForInStep.yield r)) (TP X pins σ Q) X.xe s
def tYes : TT := fun _ H Q => Q true H
theorem pf_nil {X : Cx} : PF X [] tYes := by
  intro pins s σ H Q I h
  rw [List.forIn_nil]
  exact wpAny_pure ⟨H, I, h⟩
theorem pf_one {X : Cx} {c : Expr} {t : TT} (h : PT X c t) : PF X [c] t := by
  intro pins s σ H Q I hq
  rw [List.forIn_cons]
  refine wpAny_bind ?_
  rw [if_pos rfl]
  refine wpAny_bind (thn (h pins s σ H Q I hq) fun b s1 q => wpAny_pure ?_)
  dsimp only
  rw [List.forIn_nil]
  exact wpAny_pure q
section
variable {prog : Program} {w : World} {A : Around} {R : Result → Shared → Prop} {s : Shared}
theorem compLoop_go {elt target iter : Expr} {ifs : List Expr} {scope : Scope} {pos : Pos} {it acc : Value} {env : Env} (I : Nat → Shared → Prop)
    (turn : ∀ n s, I n s → wpAny (model prog w) A (pyNext it) (fun r s₁ => match r with
      | none => R (.ok .next) s₁
      | some v => wpAny (model prog w) A (letOwnedTupleGo target it v) (fun _ s₁' => wpAny (model prog w) A (assign target env v) (fun _ s₂ =>
          wpAny (model prog w) A (forIn ifs true fun c r => if r = true then do let ok ← isTrue c env (eval c env); pure (ForInStep.yield ok) else pure (ForInStep.yield r)) (fun ok s₃ =>
            if ok = true then wpAny (model prog w) A (eval elt env) (fun x s₄ =>
              wpAny (model prog w) A (call (.builtin "list.append") [acc, x]) (fun _ s₅ => ∃ m, m < n ∧ I m s₅) (fun _ _ => False) s₄) (fun _ _ => False) s₃
            else ∃ m, m < n ∧ I m s₃) (fun _ _ => False) s₂) (fun _ _ => False) s₁') (fun _ _ => False) s₁) (fun _ _ => False) s)
    (n : Nat) (h : I n s) :
    codeAny (model prog w) A (.compLoop (.ListComp elt [⟨target, iter, ifs, 0⟩] scope pos) 0 it acc env) R s := by
  refine codeAny_loop rfl I (fun n s hI => ?_) n h
  show wpAny _ A ((compTurn (.ListComp elt [⟨target, iter, ifs, 0⟩] scope pos) 0 it acc env).onRaise (fun x => do noteFrame x env; theTreesLotGoes x)) _ _ s
  refine wpAny_noted ?_
  rw [compTurn_list]
  refine wpAny_bind (wpAny_standAt (wpAny_bind (wpAny_mono (turn n s hI) (fun r s₁ h₁ => ?_) fun _ _ h' => h'.elim)))
  cases r with
  | none => exact wpAny_pure h₁
  | some v =>
    refine wpAny_bind (wpAny_mono h₁ (fun _ s₁' h₁' => ?_) fun _ _ h' => h'.elim)
    refine wpAny_bind (wpAny_mono h₁' (fun _ s₂ h₂ => wpAny_bind (wpAny_mono h₂ (fun ok s₃ h₃ => ?_) fun _ _ h' => h'.elim)) fun _ _ h' => h'.elim)
    cases ok with
    | false => exact wpAny_pure ⟨rfl, h₃⟩
    | true =>
      exact wpAny_bind (wpAny_bind (wpAny_mono h₃ (fun x s₄ h₄ => wpAny_bind (wpAny_mono h₄ (fun _ s₅ h₅ => wpAny_pure (wpAny_pure ⟨rfl, h₅⟩)) fun _ _ h' => h'.elim)) fun _ _ h' => h'.elim))
end
def tComp (wi : TI) (js : List Nat) (tt : TT) (te : TE) : TE := fun σ H Q => wi σ H fun J H1 => ∀ D, H1 D = none → ∃ W : Nat → Nat → Hp → Prop, (∃ m, W 0 m (upd H1 D (.lst []))) ∧ ∀ i m H, W i m H →
  (J.stop i H ∧ Q (.ref D) H) ∨ (J.go i H ∧ ∀ x H', J.yld i H x H' → tt (some x :: frv js σ) H' fun b H2 =>
    if b = true then te (some x :: frv js σ) H2 fun v H3 => ∃ xs, H3 D = some (.lst xs) ∧ xs.length < sizeLine ∧ ∃ m', m' < m ∧ W (i + 1) m' (upd H3 D (.lst (xs ++ [v])))
    else ∃ m', m' < m ∧ W (i + 1) m' H2)
theorem pe_comp {X : Cx} {elt iter : Expr} {ifs : List Expr} {x : Str} {px pos : Pos} {scope : Scope} {cl : List (Str × Addr)} {fv : List Str} {js : List Nat} {wi : TI} {tt : TT} {te : TE} (hc : X.calm = true) (hclos : closureFor scope X.env = pure cl)
    (S : CompScope X scope cl x fv js) (hi : PI X (.Name x px) iter wi)
    (ht : ∀ (C : Addr) (s₀ : Shared) (H₀ : Hp) (ex : List Addr) (pn : List (Addr × Obj)), PF (cxComp X scope cl C (x :: fv) s₀ H₀ ex pn) ifs tt)
    (he : ∀ (C : Addr) (s₀ : Shared) (H₀ : Hp) (ex : List Addr) (pn : List (Addr × Obj)), PE (cxComp X scope cl C (x :: fv) s₀ H₀ ex pn) elt te)
    (hs : ∀ x, foldedSetIterable iter X.env x = pure x := by intro _; rfl) : PE X (.ListComp elt [⟨.Name x px, iter, ifs, 0⟩] scope pos) (tComp wi js tt te) := by
  intro pins s σ H Q I h
  rw [eval_ListComp]
  refine wpAny_comprehension_free (use := none) rfl hs hclos S.kind S.nm (thn (hi pins s σ H _ I h) fun v s1 h1 => thn h1 fun itv s2 h2 => ?_)
  obtain ⟨it, fp, tn, J, H2, e, I2, T, st2, f2, hW⟩ := h2
  subst e
  have hD : H2 s2.heap.objs.size = none := I2.hok.fresh (Nat.le_refl _)
  obtain ⟨W, ⟨m0, w0⟩, turn⟩ := hW s2.heap.objs.size hD
  have lt2 : ∀ b ∈ fp, b < s2.heap.objs.size := fun b hb => by
    obtain ⟨o, e, _⟩ := T.obj _ _ st2 b hb
    exact Heap.lt_size e
  -- the new list
  refine wpAny_newObj_type (wpAny_newFunctionEnv S.nc (by intro y hy; simp at hy) (fun h₁ hns₁ hsb₁ => ?_) S.kind)
  dsimp only at hns₁ hsb₁ ⊢
  have I3 : Inv X pins σ (upd H2 s2.heap.objs.size (.lst [])) { s2 with heap := s2.heap.push { cls := .type "list", dict := none, data := .seq ([] : List Value).toArray } } := I2.lnew (t' := s2.toks) .nil (Nat.zero_le _)
  generalize hS3 : ({ s2 with heap := s2.heap.push { cls := .type "list", dict := none, data := .seq ([] : List Value).toArray } } : Shared) = s3 at I3
  have eh : s3.heap = s2.heap.push { cls := .type "list", dict := none, data := .seq ([] : List Value).toArray } := by rw [← hS3]
  rw [← eh] at hns₁ hsb₁ ⊢
  have hsz : s3.heap.objs.size = s2.heap.objs.size + 1 := by rw [eh, Heap.size_push]
  have k23 : ∀ b o, s2.heap.get? b = some o → s3.heap.get? b = some o := fun b o e => by rw [eh]; exact Heap.get?_push_of_some _ e
  have k34 : ∀ b o, s3.heap.get? b = some o → h₁.get? b = some o := fun b o e => hsb₁.extBut b o (Nat.ne_of_lt (Heap.lt_size e)) (Heap.get?_push_of_some _ e)
  have f3 : ∀ b ∈ fp, FpOk X pins (upd H2 s2.heap.objs.size (.lst [])) b := fun b hb => ⟨by rw [upd_ne (Nat.ne_of_lt (lt2 b hb))]; exact (f2 b hb).1, (f2 b hb).2⟩
  have lt3 : ∀ b ∈ fp, b < s3.heap.objs.size := fun b hb => by rw [hsz]; exact Nat.lt_succ_of_lt (lt2 b hb)
  have I4 := comp_start (tk := s3.toks) S I3 f3 lt3 (h₁ := h₁) (by simpa using hns₁) k34
  generalize hY : cxComp X scope cl s3.heap.objs.size (x :: fv) s3 (upd H2 s2.heap.objs.size (.lst [])) fp (X.pn ++ pins) = Y at I4
  have hYp : Y.prog = X.prog := by rw [← hY]; rfl
  have hYw : Y.w = X.w := by rw [← hY]; rfl
  have hYK : Y.K = X.K := by rw [← hY]; rfl
  have hYA : Y.A = X.A := by rw [← hY]; rfl
  have hYc : Y.calm = true := by rw [← hY]; exact hc
  have hYe : Y.env = compEnvC scope cl s3.heap.objs.size X.env := by rw [← hY]; rfl
  have hYx : Y.xe = fun _ _ => False := by rw [← hY]; rfl
  have hYN : Y.N = x :: fv := by rw [← hY]; rfl
  have heY : PE Y elt te := by rw [← hY]; exact he _ _ _ _ _
  have htY : PF Y ifs tt := by rw [← hY]; exact ht _ _ _ _ _
  have stat : ∀ {H' : Hp}, (∀ b ∈ fp, H' b = none) → ∀ b ∈ fp, FpOk Y [] H' b := fun {H'} hn b hb => by
    obtain ⟨g0, g1, g2, g3, g4, g5⟩ := f3 b hb
    rw [← hY]
    refine ⟨hn b hb, Nat.ne_of_lt (lt3 b hb), fun z => ?_, .inl hb, fun y c e => g4 y c (S.cell_of e), fun p hp => g5 p (by simpa [cxComp] using hp)⟩
    rcases List.mem_cons.mp (I3.stkSub b z) with q | q
    · exact g1 q
    · exact g2 q
  have fin : ∀ {i : Nat} {m : Nat} {σ' : St} {H' : Hp} {s' : Shared}, Inv Y [] σ' H' s' → Q (.ref s2.heap.objs.size) H' → compPost (model X.prog X.w) X.A X.xe none (EP X pins σ Q) (.ref s2.heap.objs.size) s3.heap.objs.size (.ok .next) s' := fun {i m σ' H' s'} J q => by
    obtain ⟨mm, hn, _⟩ := J.loc
    rw [← hY] at J hn
    refine ⟨mm, hn, fun h'' sb => ?_⟩
    exact ⟨.ref _, H', comp_end I3 f3 J sb, rfl, q⟩
  have st4 : ∀ s4 : Shared, s4 = { s3 with heap := h₁, toks := s3.toks } → tn 0 s4.heap := fun s4 e => by
    subst e
    exact T.keep _ _ _ st2 fun b hb o e => k34 b o (k23 b o e)
  have loop : codeAny (model X.prog X.w) X.A (.compLoop (.ListComp elt [⟨.Name x px, iter, ifs, 0⟩] scope pos) 0 (.ref it) (.ref s2.heap.objs.size) (compEnvC scope cl s3.heap.objs.size X.env))
      (compPost (model X.prog X.w) X.A X.xe none (EP X pins σ Q) (.ref s2.heap.objs.size) s3.heap.objs.size) { s3 with heap := h₁, toks := s3.toks } := by
    refine compLoop_go (fun n s' => ∃ (i : Nat) (o : Option V) (H' : Hp), Inv Y [] (o :: frv js σ) H' s' ∧ tn i s'.heap ∧ (∀ b ∈ fp, H' b = none) ∧ W i n H') ?_ m0 ⟨0, none, _, I4, st4 _ rfl, fun b hb => (f3 b hb).1, w0⟩
    rintro n s5 ⟨i, o, H5, I5, st5, fr5, w5⟩
    rcases turn i n H5 w5 with ⟨stop, q⟩ | ⟨go, step⟩
    · have r := T.done Y hYp hYw hYK hYc i [] s5 _ H5 (fun _ _ => False) I5 (stat fr5) st5 stop
      rw [hYA] at r
      refine thn r fun r s6 ⟨hr, I6⟩ => ?_
      subst hr
      exact fin (i := i) (m := n) I6 q
    · have r := T.item Y hYp hYw hYK hYc i [] s5 _ H5 (fun _ _ => False) I5 (stat fr5) st5 go
      rw [hYA] at r
      refine thn r fun r s6 ⟨u, hr, h6⟩ => ?_
      subst hr
      refine thn h6 fun _ s7 ⟨y, H7, I7, r7, y7, st7, fr7⟩ => ?_
      have I7' := I7.pinned (stat fr7) (T.obj _ _ st7)
      have hname : PG Y (.Name x px) (gName 0) := pg_name (X := Y) (i := 0) (by rw [hYN]; exact S.nd) (by rw [hYN]; rfl) (.inl (by rw [hYe]; exact lookup_relabel_local S.hx)) (.inr (by rw [hYe]; exact lookup_relabel_local S.hx))
      have r8 := hname _ s7 _ H7 y u (fun σ' H' => σ' = some y :: frv js σ ∧ H' = H7) I7' r7 ⟨rfl, rfl⟩
      rw [hYp, hYw, hYA, hYe, hYx] at r8
      refine thn r8 fun _ s8 ⟨σ8, H8, I8, e1, e2⟩ => ?_
      subst e1 e2
      have r9 := htY _ s8 _ _ _ I8 (step y _ y7)
      rw [hYp, hYw, hYA, hYe, hYx] at r9
      refine thn r9 fun b s9 ⟨H9, I9, q9⟩ => ?_
      have again : ∀ {σ' : St} {H' : Hp} {s' : Shared}, Inv Y ([] ++ pinsAt fp s7.heap) (some y :: frv js σ) H' s' → (∃ m', m' < n ∧ W (i + 1) m' H') →
          ∃ m, m < n ∧ ∃ (i : Nat) (o : Option V) (H' : Hp), Inv Y [] (o :: frv js σ) H' s' ∧ tn i s'.heap ∧ (∀ b ∈ fp, H' b = none) ∧ W i m H' := fun {σ' H' s'} K7 ⟨m', hm, w7⟩ => by
        refine ⟨m', hm, i + 1, some y, H', K7.unpinned, T.keep _ _ _ st7 fun b hb o e => (K7.pin (b, o) (List.mem_append_right _ (List.mem_append_right _ (mem_pinsAt hb e)))).1, fun b hb => ?_, w7⟩
        obtain ⟨o, e, d⟩ := T.obj _ _ st7 b hb
        exact (K7.pin (b, o) (List.mem_append_right _ (List.mem_append_right _ (mem_pinsAt hb e)))).2.1
      cases b with
      | false =>
        rw [if_neg Bool.false_ne_true] at q9 ⊢
        exact again (σ' := []) I9 q9
      | true =>
        rw [if_pos rfl] at q9 ⊢
        have r10 := heY _ s9 _ _ _ I9 q9
        rw [hYp, hYw, hYA, hYe, hYx] at r10
        refine thn r10 fun v s10 ⟨y10, H10, I10, ry, xs, hxs, hlen, m', hm, w10⟩ => ?_
        have r11 := mt_append (X := Y) _ s10 _ H10 (.ref s2.heap.objs.size) [y10] (.ref s2.heap.objs.size) [v] (fun _ H' => H' = upd H10 s2.heap.objs.size (.lst (xs ++ [y10]))) I10 rfl (.cons ry .nil) ⟨_, xs, y10, rfl, rfl, hxs, hlen, rfl⟩
        rw [hYp, hYw, hYA, hYx] at r11
        refine thn r11 fun _ s11 ⟨_, H11, I11, _, e11⟩ => ?_
        subst e11
        exact again (σ' := []) I11 ⟨m', hm, w10⟩
  have loop' : ∀ s4 : Shared, s4 = { s3 with heap := h₁, toks := s3.toks } → codeAny (model X.prog X.w) X.A (.compLoop (.ListComp elt [⟨.Name x px, iter, ifs, 0⟩] scope pos) 0 (.ref it) (.ref s2.heap.objs.size) (compEnvC scope cl s3.heap.objs.size X.env))
      (compPost (model X.prog X.w) X.A X.xe none (EP X pins σ Q) (.ref s2.heap.objs.size) s3.heap.objs.size) s4 := fun s4 e => by subst e; exact loop
  have e4 : ∀ t, t = s3.toks → ({ s3 with heap := h₁, toks := t } : Shared) = { s3 with heap := h₁, toks := s3.toks } := fun t e => by rw [e]
  have fin4 : ∀ s4 : Shared, s4 = { s3 with heap := h₁, toks := s3.toks } → codeAny (model X.prog X.w) X.A (.compStart (.ListComp elt [⟨.Name x px, iter, ifs, 0⟩] scope pos) 0 (.ref it) (.ref s2.heap.objs.size) (compEnvC scope cl s3.heap.objs.size X.env))
      (compPost (model X.prog X.w) X.A X.xe none (EP X pins σ Q) (.ref s2.heap.objs.size) s3.heap.objs.size) s4 := fun s4 e =>
    codeAny_compStart_list (loop' s4 e) (T.self X.A 0 s4 _ _ (st4 s4 e) (loop' s4 e))
  have es : ({ s2 with heap := s2.heap.push { cls := .type "list", dict := none, data := .seq ([] : List Value).toArray } } : Shared) = s3 := hS3
  refine fin4 _ ?_
  rw [← es]
  rfl
end L2
namespace L2
open PySem PySem.Spec PyProof.Rows
section
variable {P : Program} {w : World} {H : Hp} {h : Heap} {a : Addr} {o : HO}
theorem ObjOk.there (x : ObjOk P w H h a o) : ∃ ob, h.get? a = some ob := by
  cases o with
  | lst xs => obtain ⟨_, _, _, _, e⟩ := x; exact ⟨_, e⟩
  | tup xs => obtain ⟨_, _, _, ob, e, _⟩ := x; exact ⟨_, e⟩
  | dK kvs => obtain ⟨_, _, _, _, o, _, _, e, _⟩ := x; exact ⟨_, e⟩
  | dT kvs => obtain ⟨_, _, _, _, o, _, _, e, _⟩ := x; exact ⟨_, e⟩
  | set S n => obtain ⟨o, _, _, _, e, _⟩ := x; exact ⟨_, e⟩
  | ins C dx fs => obtain ⟨_, _, _, e, _⟩ := x; exact ⟨_, e⟩
  | own y => exact x
  | xd fs => obtain ⟨_, ⟨_, _, _, e, _⟩, _⟩ := x; exact ⟨_, e⟩
  | rng lo hi => obtain ⟨_, _, _, e⟩ := x; exact ⟨_, e⟩
  | frz ob u => obtain ⟨e, _⟩ := x; exact ⟨_, e⟩
  | tbl ps => exact ⟨_, (show h.get? a = some _ from x)⟩
  | met f y => exact ⟨_, (show h.get? a = some _ from x)⟩
  | ext φ => obtain ⟨_, e, _⟩ := x; exact e
end
structure FliesB (P : Program) (w : World) (l : List Env) (H H' : Hp) (h h' B : Heap) : Prop where
  inB : ∀ b o, h.get? b = some o → b ∉ frs l → ∃ o1, B.get? b = some o1 ∧ (H b = none → o1 = o)
  trk : ∀ b u, H' b = some u → ∃ o, B.get? b = some o
  st : B.StaysIn h'
  fr : ∀ b ∈ frs l, H b = none ∧ ∃ o, h.get? b = some o ∧ ∀ vs, o.data ≠ .fields vs
  slot : ∀ b o, h.get? b = some o → b ∈ frs l → ∃ sl, h'.get? b = some { o with slots := sl }
  free : ∀ b o, h.get? b = some o → H b = none → H' b = none
  tups : ∀ b xs, H b = some (.tup xs) → H' b = some (.tup xs)
  frzs : ∀ b o u, H b = some (.frz o u) → H' b = some (.frz o u)
  tbls : ∀ b ps, H b = some (.tbl ps) → ∃ more, H' b = some (.tbl (ps ++ more))
  hok : HOk P w H' h'
section
variable {P : Program} {w : World} {l : List Env} {H H' : Hp} {h h' h'' B : Heap}
theorem FliesB.step (F : FliesB P w l H H' h h' B) (st : B.StaysIn h'') (up : h'.UpToSlots h'') : FliesB P w l H H' h h'' B := by
  refine ⟨F.inB, F.trk, st, F.fr, fun b o e hb => ?_, F.free, F.tups, F.frzs, F.tbls, fun b u e => ?_⟩
  · obtain ⟨sl, e1⟩ := F.slot b o e hb
    obtain ⟨_, o', e', nd⟩ := F.fr b hb
    rw [e] at e'
    cases e'
    obtain ⟨sl2, e2⟩ := up b _ e1 nd
    exact ⟨sl2, e2⟩
  · refine (F.hok b u e).stay (fun c v hc q => ?_) (fun _ q => q) fun _ _ q => q
    obtain ⟨u', hu'⟩ : ∃ u', H' c = some u' := by
      rcases hc with z | z
      · rw [z]; exact ⟨u, e⟩
      · exact ⟨_, z⟩
    obtain ⟨o2, e2⟩ := F.trk c u' hu'
    have e3 := F.st c o2 e2
    rw [q] at e3
    cases e3
    exact st c _ e2
theorem FliesB.un (F : FliesB P w l H H' h h' B) : Un (frs l) [] H H' h h' where
  keep := fun b o e n hb _ => by
    obtain ⟨o1, e1, z⟩ := F.inB b o e hb
    rw [z n] at e1
    exact F.st b o e1
  slot := fun b o e _ hb _ => F.slot b o e hb
  free := fun b o e n _ => F.free b o e n
  there := fun b o e _ => by
    by_cases hb : b ∈ frs l
    · obtain ⟨sl, e1⟩ := F.slot b o e hb
      exact ⟨_, e1⟩
    · obtain ⟨o1, e1, _⟩ := F.inB b o e hb
      exact ⟨o1, F.st b o1 e1⟩
  tups := F.tups
  frzs := F.frzs
  tbls := F.tbls
end
def CXe (P : Program) (w : World) : CXT := fun outer H s E e s' => ∃ (a : Addr) (cls : Value) (H' : Hp) (B : Heap) (a0 : Value), e = .ref a ∧ s'.os = s.os ∧ AllBare s'.gens ∧ s.heap.get? a = none ∧ H' a = none ∧
  FliesB P w outer H H' s.heap s'.heap B ∧ Heap.FlyingW B outer a cls a0 s'.heap ∧ E cls none H'
theorem CXe.none {P : Program} {w : World} {outer : List Env} {H : Hp} {s : Shared} {e : Value} {s' : Shared} (h : CXe P w outer H s (fun _ _ _ => False) e s') : False := by
  obtain ⟨_, _, _, _, _, _, _, _, _, _, _, _, q⟩ := h
  exact q
section
variable {P : Program} {w : World} {K : PySem.W.Frag} {mg : Str → Option Value} {base : Heap}
end
section
variable {P : Program} {w : World} {K : PySem.W.Frag} {mg : Str → Option Value} {base : Heap} {N : List Str} {qual : Str} {scope : Scope} {f : Addr} {cd : Value} {A : Around} {outer : List Env} {s : Shared} {H : Hp} {E : XK}
structure ExcC (K : PySem.W.Frag) (x : Str) (C : Addr) : Prop where
  ns : PySem.W.nsIn K mainGlobals x = some (some (.ref C))
  ex : PySem.W.excIn K C [.type "ValueError", .type "Exception", .type "BaseException", .type "object"] "ValueError.__new__" = true
def tRaise (C : Addr) (E : XK) (te : TE) : TS := fun _ σ H => te σ H fun _ H1 => E (.ref C) none H1
end
end L2
namespace L2
open PySem PySem.Spec PyProof.Rows
def cxMark (X : Cx) (a : Addr) : Cx := { X with A := X.A.mark (some (.ref a)), calm := false, xe := fun _ _ => False }
def ExcAt (a : Addr) (cls : Value) (h : Heap) : Prop := ∃ o vs, h.get? a = some o ∧ o.cls = cls ∧ o.data = .fields vs
def excO (a : Addr) (cls : Value) : HO := .ext (ExcAt a cls)
section
variable {X : Cx} {pins : List (Addr × Obj)} {σ : St} {H : Hp} {s : Shared} {a : Addr}
theorem Cx.Ok.mark (ok : X.Ok) (a : Addr) : (cxMark X a).Ok :=
  ⟨ok.mod, ok.kind, ok.glob, ok.blt, ok.above, ok.inj, ok.has, ok.cab, fun z => absurd (show false = true from z) Bool.false_ne_true, ok.frames, ok.stk, ok.exf, ok.bs, ok.bsz, ok.noex, ok.exfs, ok.funs, ok.frf⟩
theorem Inv.mark (I : Inv X pins σ H s) (a : Addr) : Inv (cxMark X a) pins σ H s := ⟨I.ok.mark a, I.os, I.bare, I.base, I.loc, I.cell, I.free, I.freeC, I.pin, I.hok, I.len⟩
end
def tTry1 (K : PySem.W.Frag) (sp : Sp) (t : TA) (Dc : Addr) (i : Nat) (ts : TS) : TS := fun D σ H => t σ H fun vs H1 => sp (vs ++ []) H1 (fun _ H2 => D.nx σ H2) fun cls _ H2 =>
  PySem.W.exmOne K cls (.ref Dc) = some true ∧ ∀ a, H2 a = none → ts { nx := fun σ' H' => D.nx (σ'.set i none) H', rt := fun _ _ => False } (σ.set i (some (.ref a))) (upd H2 a (excO a cls))
section
open Builtin Builtin.ObjectAttr Builtin.Getset_descriptor
variable {prog : Program} {w : World} {A : Around} {E : Value → Shared → Prop} {s : Shared} {K : PySem.W.Frag} {a C : Addr} {o : Obj}
structure ExcK (K : PySem.W.Frag) (C : Addr) : Prop where
  cl : (PySem.W.clsIn K C).isSome = true
  ga : PySem.W.findIn K (.ref C) "__getattribute__" = some (some (.builtin "BaseException.__getattribute__"))
  gh : PySem.W.findIn K (.ref C) "__getattr__" = some none
  at_ : PySem.W.findIn K (.ref C) "__class__" = some (some (.builtin "object.__class__"))
  ob : PySem.W.mroIn K C (.type "object") = some true
  be : PySem.W.mroIn K C (.type "BaseException") = some true
end
end L2
namespace L2
open PySem PySem.Spec PyProof.Rows
section
open Builtin Builtin.ObjectAttr Builtin.Getset_descriptor PySem.W
variable {prog : Program} {w : World} {A : Around} {E : Value → Shared → Prop} {s : Shared} {K : PySem.W.Frag} {a C : Addr} {o : Obj}
end
section
variable {X : Cx}
def rIsE (K : PySem.W.Frag) : List V → Hp → VK → Prop := fun xs H Q => ∃ (a C : Addr) (c : V) (b : Bool), xs = [.ref a, c] ∧ H a = some (excO a (.ref C)) ∧ ExcK K C ∧ Q (.bl b) H ∧
  ((∃ u, RelV c u ∧ (∀ i, c ≠ .int i) ∧ (∀ i, c ≠ .str i) ∧ (∀ i, c ≠ .byt i) ∧ (∀ i, c ≠ .flt i) ∧ PySem.W.kitOne K (.ref C) u = some b) ∨ ∃ p cs us, c = .ref p ∧ H p = some (.tup cs) ∧ Vals cs us ∧ (∀ vs, Vals cs vs → vs = us) ∧ PySem.W.kitAny K (.ref C) us = some b)
end
end L2
namespace L2
open PySem PySem.Spec PyProof.Rows
section
variable {X : Cx} {es : List Expr} {te : TE} {t : TA} {pos : Pos}
theorem pa_consT {a0 : List Expr} {a1 : Nat} (ha : PE X (Expr.Tuple a0 a1 pos) te) (hr : PA X es t) : PA X ((Expr.Tuple a0 a1 pos) :: es) (tCons te t) := pa_cons ha hr rfl
theorem pa_consL {a0 : List Expr} (ha : PE X (Expr.List a0 pos) te) (hr : PA X es t) : PA X ((Expr.List a0 pos) :: es) (tCons te t) := pa_cons ha hr rfl
theorem pa_consB {a0 : Expr} {a1 : Operator} {a2 : Expr} (ha : PE X (Expr.BinOp a0 a1 a2 pos) te) (hr : PA X es t) : PA X ((Expr.BinOp a0 a1 a2 pos) :: es) (tCons te t) := pa_cons ha hr rfl
theorem pa_consC {a0 : Expr} {a1 : List Expr} {a2 : List Keyword} (ha : PE X (Expr.Call a0 a1 a2 pos) te) (hr : PA X es t) : PA X ((Expr.Call a0 a1 a2 pos) :: es) (tCons te t) := pa_cons ha hr rfl
theorem pa_consN {a0 : Str} (ha : PE X (Expr.Name a0 pos) te) (hr : PA X es t) : PA X ((Expr.Name a0 pos) :: es) (tCons te t) := pa_cons ha hr rfl
theorem pa_consK {a0 : Const} {a1 : Nat} (ha : PE X (Expr.Constant a0 a1 pos) te) (hr : PA X es t) : PA X ((Expr.Constant a0 a1 pos) :: es) (tCons te t) := pa_cons ha hr rfl
theorem pa_consS {a0 : Expr} {a1 : Expr} (ha : PE X (Expr.Subscript a0 a1 pos) te) (hr : PA X es t) : PA X ((Expr.Subscript a0 a1 pos) :: es) (tCons te t) := pa_cons ha hr rfl
theorem pa_consU {a0 : UnaryOp} {a1 : Expr} (ha : PE X (Expr.UnaryOp a0 a1 pos) te) (hr : PA X es t) : PA X ((Expr.UnaryOp a0 a1 pos) :: es) (tCons te t) := pa_cons ha hr rfl
theorem pa_consM {a0 : Expr} {a1 : List CmpOp} {a2 : List Expr} (ha : PE X (Expr.Compare a0 a1 a2 pos) te) (hr : PA X es t) : PA X ((Expr.Compare a0 a1 a2 pos) :: es) (tCons te t) := pa_cons ha hr rfl
theorem pa_consH {a0 : Expr} {a1 : List Comprehension} {a2 : Scope} (ha : PE X (Expr.ListComp a0 a1 a2 pos) te) (hr : PA X es t) : PA X ((Expr.ListComp a0 a1 a2 pos) :: es) (tCons te t) := pa_cons ha hr rfl
end
end L2
namespace L2
open PySem PySem.Spec PyProof.Rows
section
variable {X : Cx}
abbrev rPow : R2 := rI CPow fun i j => .int (i ^ j.toNat)
abbrev rSubI : R2 := rI0 fun i j => .int (i - j)
end
end L2
namespace L2
open PySem PySem.Spec PyProof.Rows
def Its (z : Str) : It := ⟨fun i _ => i < z.cps.size, fun i H x H' => H' = H ∧ ∃ c, z.cps[i]? = some c ∧ x = .str ⟨#[c]⟩, fun i _ => i = z.cps.size⟩
theorem turn_str {P : Program} {w : World} {K : PySem.W.Frag} {tg : Expr} (it : Addr) (x : Str) (t : Tok) (ty : String)
    (hW : ∀ A' : Around, A'.handled = none → Walks P w A' it [it] [it] x.cps.size (SignAt x) (fun i h => h.IsStrIter it ty x t i))
    (hn : ["enumerate", "zip", "dict_itemiterator", "dict_reverseitemiterator", "odict_iterator", "itertools.zip_longest", "itertools.pairwise"].contains ty = false)
    (hS : ∀ (A : Around) (i : Nat) (s : Shared) (Q : Value → Shared → Prop) (E : Value → Shared → Prop), s.heap.IsStrIter it ty x t i → Q (.ref it) s → wpAny (model P w) A (pyIter (.ref it)) Q E s) :
    Turn P w K tg (Its x) [it] it (fun i h => h.IsStrIter it ty x t i) where
  mem := by simp
  obj := fun i h st b hb => by
    have e : b = it := by simpa using hb
    subst e
    obtain ⟨o, e, c, d⟩ := st
    exact ⟨o, e, fun v z => by rw [d] at z; cases z⟩
  keep := fun i h h' st k => let ⟨o, e, r⟩ := st; ⟨o, k it (by simp) o e, r⟩
  item := by
    intro X hP hw hK hc i pins s σ H E I hf st hg
    subst hP hw hK
    obtain ⟨f0, f1, f2, f3, f4, f5⟩ := hf it (by simp)
    refine (hW X.A (I.ok.hd hc)).item i s _ _ hg st fun v h' tk hv st' kk => ?_
    obtain ⟨c, u, hcu, rfl⟩ := hv
    have I1 : Inv X pins σ H { s with heap := h', toks := tk } := I.turned (fun b o hb e => kk b o (by simpa using hb) e) f0 f1 f3 f4 f5
    obtain ⟨o, e, cc, d⟩ := id st'
    exact ⟨_, rfl, go_of (s := { s with heap := h', toks := tk }) e cc d hn ⟨.str ⟨#[c]⟩, H, I1, ⟨u, rfl⟩, ⟨rfl, c, hcu, rfl⟩, st', fun b hb => (hf b hb).1⟩⟩
  done := by
    intro X hP hw hK hc i pins s σ H E I hf st hg
    subst hP hw hK
    obtain ⟨f0, f1, f2, f3, f4, f5⟩ := hf it (by simp)
    have hg : i = x.cps.size := hg
    subst hg
    exact (hW X.A (I.ok.hd hc)).done s _ _ st fun h' tk kk => ⟨rfl, I.turned (fun b o hb e => kk b o (by simpa using hb) e) f0 f1 f3 f4 f5⟩
  self := fun A i s Q E st h => hS A i s Q E st h
section
variable {X : Cx} {tg : Expr}
def iStr (tl : TE) : TI := fun σ H R => tl σ H fun x H1 => ∃ z, x = .str z ∧ R (Its z) H1
theorem pi_str {l : Expr} {tl : TE} (hl : PE X l tl) : PI X tg l (iStr tl) := by
  intro pins s σ H R I h
  refine thn (hl pins s σ H _ I h) fun v s1 ⟨x, H1, I1, r1, q1⟩ => ?_
  obtain ⟨z, e, q⟩ := q1
  subst e
  obtain ⟨t, rfl⟩ := r1
  have fp : ∀ b ∈ [s1.heap.objs.size], FpOk X pins H1 b := fun b hb => by
    have e : b = s1.heap.objs.size := by simpa using hb
    subst e
    exact I1.fpOk (Nat.le_refl _) (I1.hok.fresh (Nat.le_refl _))
  cases ha : z.cps.all (· < 128)
  · refine wpAny_pyIter_wide ha ?_
    exact ⟨s1.heap.objs.size, [s1.heap.objs.size], _, _, H1, rfl, I1.kept (t' := s1.toks) fun b o e => Heap.get?_push_of_some _ e,
      turn_str _ z t "str_iterator" (fun A' hA => Walks.strWide hA _ z t) (by decide) (fun A i s Q E st h => wpAny_pyIter_striter_wide st h), ⟨_, Heap.get?_push_size _ rfl, rfl, rfl⟩, fp, q⟩
  · refine wpAny_pyIter_ascii ha ?_
    exact ⟨s1.heap.objs.size, [s1.heap.objs.size], _, _, H1, rfl, I1.kept (t' := s1.toks) fun b o e => Heap.get?_push_of_some _ e,
      turn_str _ z t "str_ascii_iterator" (fun A' hA => Walks.strAscii hA _ z t) (by decide) (fun A i s Q E st h => wpAny_pyIter_striter_ascii st h), ⟨_, Heap.get?_push_size _ rfl, rfl, rfl⟩, fp, q⟩
end
theorem range_all_getD : ∀ (bs : List Bool), (List.range bs.length).all (fun i => bs.getD i true) = bs.all id
  | [] => rfl
  | b :: bs => by
    have ih := range_all_getD bs
    rw [List.length_cons, List.range_succ_eq_map, List.all_cons, List.all_map, List.all_cons]
    simp only [List.getD_cons_zero, id]
    rw [← ih]
    rfl
theorem Vals.bools : ∀ {bs : List Bool} {us : List Value} {i : Nat} {v : Value}, Vals (bs.map V.bl) us → us[i]? = some v → v = .bool (bs.getD i true)
  | [], _, _, _, .nil, e => by simp at e
  | b :: bs, _, 0, _, .cons r _, e => by
    have e' := Option.some.inj e
    subst e'
    exact r
  | b :: bs, _, i + 1, v, .cons _ t, e => by
    have := Vals.bools (i := i) (v := v) t (by simpa using e)
    simpa using this
section
variable {X : Cx}
theorem call_all (hc : X.calm = true) : CallR X (.builtin "all") (fun xs H Q => ∃ (p : Addr) (bs : List Bool), xs = [.ref p] ∧ SqL X.K H p (bs.map V.bl) ∧ Q (.bl (bs.all id)) H) := by
  intro pins s σ H xs us Q I r h
  obtain ⟨p, bs, rfl, hq, q⟩ := h
  obtain ⟨u, rfl, rx⟩ := vals1 r
  cases rx
  obtain ⟨its, rv, pl, hz⟩ := I.list hq
  have hl := rv.length
  rw [List.length_map] at hl
  have hlt : p < s.heap.objs.size := by obtain ⟨o, e, _⟩ := pl.isList; exact Heap.lt_size e
  have hne : p ≠ s.heap.objs.size := Nat.ne_of_lt hlt
  refine call_all_walk (wpAny_pyIter_list pl.isList ⟨s.heap.objs.size, [s.heap.objs.size, p], [s.heap.objs.size], its.toArray.size, _, _, fun i => bs.getD i true, rfl,
    Walks.list (A := X.A.in1) (show X.A.in1.handled = none from I.ok.hd hc) s.heap.objs.size p hne its.toArray, ⟨⟨_, Heap.get?_push_size _ rfl, rfl, rfl⟩, pl.isList.at fun o e => Heap.get?_push_of_some _ e⟩, ?_, fun h' tk kk => ?_⟩)
  · intro i v s' Q' E' hP hQ
    have e := Vals.bools rv (show its[i]? = some v by simpa using hP)
    subst e
    exact wpAny_truthy_bool hQ
  · have hsz : its.toArray.size = bs.length := by rw [List.size_toArray, ← hl]
    rw [hsz, range_all_getD]
    exact ⟨.bl _, H, I.kept fun b o e => kk b o (by simp; exact Nat.ne_of_lt (Heap.lt_size e)) (Heap.get?_push_of_some _ e), rfl, q⟩
theorem boot_all : bootBuiltins "all" = some (.builtin "all") := by decide +kernel
def PJ (X : Cx) (es : List Expr) (t : Str → TE) : Prop :=
  ∀ (acc : Str) (pins : List (Addr × Obj)) (s : Shared) (σ : St) (H : Hp) (Q : VK), Inv X pins σ H s → t acc σ H Q → wpAny (model X.prog X.w) X.A (joinParts acc (evalEach es X.env)) (EP X pins σ Q) X.xe s
def jNil : Str → TE := fun acc _ H Q => acc.length ≤ sizeLine ∧ Q (.str acc) H
def jStr (y : Str) (t : Str → TE) : Str → TE := fun acc σ H Q => (acc ++ y).length ≤ sizeLine ∧ t (acc ++ y) σ H Q
def FmtOf : V → Str → Prop
  | .str z, y => y = z ∧ z.length ≤ sizeLine
  | .int i, y => y = toString i ∧ i.natAbs.log2 < 1920
  | _, _ => False
def jFmt (te : TE) (t : Str → TE) : Str → TE := fun acc σ H Q => te σ H fun x H1 => ∃ y, FmtOf x y ∧ (acc ++ y).length ≤ sizeLine ∧ t (acc ++ y) σ H1 Q
def tFmt1 (te : TE) : TE := fun σ H Q => te σ H fun x H1 => ∃ y, FmtOf x y ∧ Q (.str y) H1
theorem Vals.strs : ∀ {ts : List Str} {us : List Value}, Vals (ts.map V.str) us → ∃ l : List (Str × Tok), us = strValues l ∧ l.map (·.1) = ts
  | [], _, .nil => ⟨[], rfl, rfl⟩
  | t :: ts, _, .cons r h => by
    obtain ⟨l, e1, e2⟩ := Vals.strs h
    obtain ⟨tk, e⟩ := r
    subst e
    exact ⟨(t, tk) :: l, by rw [e1]; rfl, by rw [List.map_cons, e2]⟩
theorem mt_join : MtR X "str.join" (fun x xs H Q => ∃ (z : Str) (p : Addr) (ts : List Str), x = .str z ∧ xs = [.ref p] ∧ SqL X.K H p (ts.map V.str) ∧ JoinOk z ts = true ∧ Q (.str (Txt.join z ts)) H) := by
  intro pins s σ H x xs v us Q I rx rs h
  obtain ⟨z, p, ts, rfl, rfl, hq, hok, q⟩ := h
  obtain ⟨t, rfl⟩ := rx
  obtain ⟨u, rfl, rp⟩ := vals1 rs
  cases rp
  obtain ⟨its, rv, pl, hz⟩ := I.list hq
  obtain ⟨l, e1, e2⟩ := Vals.strs rv
  subst e1
  exact SC.join pl.isList e2 hok fun t' k => ⟨.str _, H, I.tok _, ⟨_, rfl⟩, q⟩
def rSlS : V → Option Int → Option Int → Hp → VK → Prop := fun x lo hi H Q => ∃ z, x = .str z ∧ z.length ≤ sizeLine ∧ Q (.str (Txt.slice z lo hi)) H
theorem op_isnotB : OpR X (compareOp .IsNot) (fun x y H Q => ∃ a b, x = .bl a ∧ y = .bl b ∧ Q (.bl (a != b)) H) := by
  intro pins s σ H x y v u Q I rx ry h
  obtain ⟨a, b, rfl, rfl, q⟩ := h
  cases rx
  cases ry
  exact isnot_bool ⟨.bl _, H, I, rfl, q⟩
theorem ixc_tup {scope : Scope} {cl : List (Str × Addr)} {C : Addr} {N : List Str} {s₀ : Shared} {H₀ : Hp} {ex : List Addr} {pn : List (Addr × Obj)} : IxR (cxComp X scope cl C N s₀ H₀ ex pn) (rIxT X.K) := ix_tup
def rNeL (K : PySem.W.Frag) : R2 := fun x y H Q => ∃ a b xs ys, x = .ref a ∧ y = .ref b ∧ SqL K H a xs ∧ SqL K H b ys ∧ xs.all flatV = true ∧ ys.all flatV = true ∧ Q (.bl (!eqVs xs ys)) H
end
end L2
namespace L2
open PySem PySem.Spec PyProof.Rows
def eqL {α : Type} (f : α → α → Bool) : List α → List α → Bool
  | [], [] => true
  | x :: xs, y :: ys => f x y && eqL f xs ys
  | _, _ => false
def eqLat {α : Type} (f : α → α → Bool) (xs ys : List α) (j : Nat) : Bool := match xs[j]?, ys[j]? with
  | some x, some y => f x y
  | _, _ => false
inductive Itm where
  | fl (x : V) | tp (xs : List V)
def ItAt (H : Hp) : V → Itm → Prop
  | x, .fl y => x = y ∧ flatV y = true
  | x, .tp xs => ∃ q, x = .ref q ∧ H q = some (.tup xs) ∧ xs.all flatV = true
def eqItm : Itm → Itm → Bool
  | .fl x, .fl y => eqV x y
  | .tp xs, .tp ys => eqVs xs ys
  | _, _ => false
section
variable {X : Cx} {pins : List (Addr × Obj)} {σ : St} {H : Hp} {s : Shared}
def rEqN (neg : Bool) : R2 := fun x y H Q => ∃ a b xs ys is js, x = .ref a ∧ y = .ref b ∧ H a = some (.tup xs) ∧ H b = some (.tup ys) ∧ Paired (ItAt H) xs is ∧ Paired (ItAt H) ys js ∧ Q (.bl (if neg then !eqL eqItm is js else eqL eqItm is js)) H
theorem paired_at {α β : Type} {F : α → β → Prop} : ∀ {xs : List α} {ys : List β}, Paired F xs ys → ∀ {j : Nat} {x : α}, xs[j]? = some x → ∃ y, ys[j]? = some y ∧ F x y
  | _, _, .nil, _, _, e => by simp at e
  | _, _, .cons r _, 0, _, e => by simp at e; subst e; exact ⟨_, rfl, r⟩
  | _, _, .cons _ t, j + 1, x, e => by
    obtain ⟨y, h1, h2⟩ := paired_at t (j := j) (x := x) (by simpa using e)
    exact ⟨y, by simpa using h1, h2⟩
def rInN : R2 := fun x y H Q => ∃ p us, x = .non ∧ y = .ref p ∧ H p = some (.lst us) ∧ (∀ u ∈ us, ∃ q xs, u = .ref q ∧ H q = some (.tup xs)) ∧ Q (.bl false) H
def tCallV (tf : TE) (ok : Addr → Sp → Prop) (t : TA) : TE := fun σ H Q => tf σ H fun x H1 => ∃ f sp, x = .ref f ∧ ok f sp ∧ t σ H1 fun vs H2 => sp (vs ++ []) H2 Q E0
end
end L2
namespace L2
open PySem PySem.Spec PyProof.Rows
theorem comp_gen {X : Cx} {elt iter : Expr} {ifs : List Expr} {x : Str} {px pos : Pos} {scope : Scope} {cl : List (Str × Addr)} {fv : List Str} {js : List Nat} {wi : TI} {tt : TT} {te : TE} (hc : X.calm = true) (hclos : closureFor scope X.env = pure cl)
    (S : CompScope X scope cl x fv js) (hi : PI X (.Name x px) iter wi)
    (ht : ∀ (C : Addr) (s₀ : Shared) (H₀ : Hp) (ex : List Addr) (pn : List (Addr × Obj)), PF (cxComp X scope cl C (x :: fv) s₀ H₀ ex pn) ifs tt)
    (he : ∀ (C : Addr) (s₀ : Shared) (H₀ : Hp) (ex : List Addr) (pn : List (Addr × Obj)), PE (cxComp X scope cl C (x :: fv) s₀ H₀ ex pn) elt te)
    (hs : ∀ x, foldedSetIterable iter X.env x = pure x) {use : Option (Value → Sem Unit)} {QQ : Value → Shared → Prop} {pins : List (Addr × Obj)} {s : Shared} {σ : St} {H : Hp} {Q : VK} (I : Inv X pins σ H s) (h : tComp wi js tt te σ H Q)
    (hfin : ∀ (D : Addr) (s3 : Shared) (H3 : Hp) (fp : List Addr) (pn : List (Addr × Obj)) (N : List Str) (pins' : List (Addr × Obj)) (σ' : St) (H' : Hp) (s' : Shared), Inv X pins σ H3 s3 → (∀ b ∈ fp, FpOk X pins H3 b) →
      Inv (cxComp X scope cl s3.heap.objs.size N s3 H3 fp pn) pins' σ' H' s' → Q (.ref D) H' → compPost (model X.prog X.w) X.A X.xe use QQ (.ref D) s3.heap.objs.size (.ok .next) s') :
    wpAny (model X.prog X.w) X.A (comprehension (.ListComp elt [⟨.Name x px, iter, ifs, 0⟩] scope pos) scope X.env (firstIterPos [⟨.Name x px, iter, ifs, 0⟩] pos) (newList []) (firstAsync [⟨.Name x px, iter, ifs, 0⟩]) (firstIter [⟨.Name x px, iter, ifs, 0⟩] X.env) use) QQ X.xe s := by
  refine wpAny_comprehension_free (use := use) rfl hs hclos S.kind S.nm (thn (hi pins s σ H _ I h) fun v s1 h1 => thn h1 fun itv s2 h2 => ?_)
  obtain ⟨it, fp, tn, J, H2, e, I2, T, st2, f2, hW⟩ := h2
  subst e
  have hD : H2 s2.heap.objs.size = none := I2.hok.fresh (Nat.le_refl _)
  obtain ⟨W, ⟨m0, w0⟩, turn⟩ := hW s2.heap.objs.size hD
  have lt2 : ∀ b ∈ fp, b < s2.heap.objs.size := fun b hb => by
    obtain ⟨o, e, _⟩ := T.obj _ _ st2 b hb
    exact Heap.lt_size e
  -- the new list
  refine wpAny_newObj_type (wpAny_newFunctionEnv S.nc (by intro y hy; simp at hy) (fun h₁ hns₁ hsb₁ => ?_) S.kind)
  dsimp only at hns₁ hsb₁ ⊢
  have I3 : Inv X pins σ (upd H2 s2.heap.objs.size (.lst [])) { s2 with heap := s2.heap.push { cls := .type "list", dict := none, data := .seq ([] : List Value).toArray } } := I2.lnew (t' := s2.toks) .nil (Nat.zero_le _)
  generalize hS3 : ({ s2 with heap := s2.heap.push { cls := .type "list", dict := none, data := .seq ([] : List Value).toArray } } : Shared) = s3 at I3
  have eh : s3.heap = s2.heap.push { cls := .type "list", dict := none, data := .seq ([] : List Value).toArray } := by rw [← hS3]
  rw [← eh] at hns₁ hsb₁ ⊢
  have hsz : s3.heap.objs.size = s2.heap.objs.size + 1 := by rw [eh, Heap.size_push]
  have k23 : ∀ b o, s2.heap.get? b = some o → s3.heap.get? b = some o := fun b o e => by rw [eh]; exact Heap.get?_push_of_some _ e
  have k34 : ∀ b o, s3.heap.get? b = some o → h₁.get? b = some o := fun b o e => hsb₁.extBut b o (Nat.ne_of_lt (Heap.lt_size e)) (Heap.get?_push_of_some _ e)
  have f3 : ∀ b ∈ fp, FpOk X pins (upd H2 s2.heap.objs.size (.lst [])) b := fun b hb => ⟨by rw [upd_ne (Nat.ne_of_lt (lt2 b hb))]; exact (f2 b hb).1, (f2 b hb).2⟩
  have lt3 : ∀ b ∈ fp, b < s3.heap.objs.size := fun b hb => by rw [hsz]; exact Nat.lt_succ_of_lt (lt2 b hb)
  have I4 := comp_start (tk := s3.toks) S I3 f3 lt3 (h₁ := h₁) (by simpa using hns₁) k34
  generalize hY : cxComp X scope cl s3.heap.objs.size (x :: fv) s3 (upd H2 s2.heap.objs.size (.lst [])) fp (X.pn ++ pins) = Y at I4
  have hYp : Y.prog = X.prog := by rw [← hY]; rfl
  have hYw : Y.w = X.w := by rw [← hY]; rfl
  have hYK : Y.K = X.K := by rw [← hY]; rfl
  have hYA : Y.A = X.A := by rw [← hY]; rfl
  have hYc : Y.calm = true := by rw [← hY]; exact hc
  have hYe : Y.env = compEnvC scope cl s3.heap.objs.size X.env := by rw [← hY]; rfl
  have hYx : Y.xe = fun _ _ => False := by rw [← hY]; rfl
  have hYN : Y.N = x :: fv := by rw [← hY]; rfl
  have heY : PE Y elt te := by rw [← hY]; exact he _ _ _ _ _
  have htY : PF Y ifs tt := by rw [← hY]; exact ht _ _ _ _ _
  have stat : ∀ {H' : Hp}, (∀ b ∈ fp, H' b = none) → ∀ b ∈ fp, FpOk Y [] H' b := fun {H'} hn b hb => by
    obtain ⟨g0, g1, g2, g3, g4, g5⟩ := f3 b hb
    rw [← hY]
    refine ⟨hn b hb, Nat.ne_of_lt (lt3 b hb), fun z => ?_, .inl hb, fun y c e => g4 y c (S.cell_of e), fun p hp => g5 p (by simpa [cxComp] using hp)⟩
    rcases List.mem_cons.mp (I3.stkSub b z) with q | q
    · exact g1 q
    · exact g2 q
  have fin : ∀ {i : Nat} {m : Nat} {σ' : St} {H' : Hp} {s' : Shared}, Inv Y [] σ' H' s' → Q (.ref s2.heap.objs.size) H' → compPost (model X.prog X.w) X.A X.xe use QQ (.ref s2.heap.objs.size) s3.heap.objs.size (.ok .next) s' := fun {i m σ' H' s'} J q => by
    rw [← hY] at J
    exact hfin _ _ _ _ _ _ _ _ _ _ I3 f3 J q
  have st4 : ∀ s4 : Shared, s4 = { s3 with heap := h₁, toks := s3.toks } → tn 0 s4.heap := fun s4 e => by
    subst e
    exact T.keep _ _ _ st2 fun b hb o e => k34 b o (k23 b o e)
  have loop : codeAny (model X.prog X.w) X.A (.compLoop (.ListComp elt [⟨.Name x px, iter, ifs, 0⟩] scope pos) 0 (.ref it) (.ref s2.heap.objs.size) (compEnvC scope cl s3.heap.objs.size X.env))
      (compPost (model X.prog X.w) X.A X.xe use QQ (.ref s2.heap.objs.size) s3.heap.objs.size) { s3 with heap := h₁, toks := s3.toks } := by
    refine compLoop_go (fun n s' => ∃ (i : Nat) (o : Option V) (H' : Hp), Inv Y [] (o :: frv js σ) H' s' ∧ tn i s'.heap ∧ (∀ b ∈ fp, H' b = none) ∧ W i n H') ?_ m0 ⟨0, none, _, I4, st4 _ rfl, fun b hb => (f3 b hb).1, w0⟩
    rintro n s5 ⟨i, o, H5, I5, st5, fr5, w5⟩
    rcases turn i n H5 w5 with ⟨stop, q⟩ | ⟨go, step⟩
    · have r := T.done Y hYp hYw hYK hYc i [] s5 _ H5 (fun _ _ => False) I5 (stat fr5) st5 stop
      rw [hYA] at r
      refine thn r fun r s6 ⟨hr, I6⟩ => ?_
      subst hr
      exact fin (i := i) (m := n) I6 q
    · have r := T.item Y hYp hYw hYK hYc i [] s5 _ H5 (fun _ _ => False) I5 (stat fr5) st5 go
      rw [hYA] at r
      refine thn r fun r s6 ⟨u, hr, h6⟩ => ?_
      subst hr
      refine thn h6 fun _ s7 ⟨y, H7, I7, r7, y7, st7, fr7⟩ => ?_
      have I7' := I7.pinned (stat fr7) (T.obj _ _ st7)
      have hname : PG Y (.Name x px) (gName 0) := pg_name (X := Y) (i := 0) (by rw [hYN]; exact S.nd) (by rw [hYN]; rfl) (.inl (by rw [hYe]; exact lookup_relabel_local S.hx)) (.inr (by rw [hYe]; exact lookup_relabel_local S.hx))
      have r8 := hname _ s7 _ H7 y u (fun σ' H' => σ' = some y :: frv js σ ∧ H' = H7) I7' r7 ⟨rfl, rfl⟩
      rw [hYp, hYw, hYA, hYe, hYx] at r8
      refine thn r8 fun _ s8 ⟨σ8, H8, I8, e1, e2⟩ => ?_
      subst e1 e2
      have r9 := htY _ s8 _ _ _ I8 (step y _ y7)
      rw [hYp, hYw, hYA, hYe, hYx] at r9
      refine thn r9 fun b s9 ⟨H9, I9, q9⟩ => ?_
      have again : ∀ {σ' : St} {H' : Hp} {s' : Shared}, Inv Y ([] ++ pinsAt fp s7.heap) (some y :: frv js σ) H' s' → (∃ m', m' < n ∧ W (i + 1) m' H') →
          ∃ m, m < n ∧ ∃ (i : Nat) (o : Option V) (H' : Hp), Inv Y [] (o :: frv js σ) H' s' ∧ tn i s'.heap ∧ (∀ b ∈ fp, H' b = none) ∧ W i m H' := fun {σ' H' s'} K7 ⟨m', hm, w7⟩ => by
        refine ⟨m', hm, i + 1, some y, H', K7.unpinned, T.keep _ _ _ st7 fun b hb o e => (K7.pin (b, o) (List.mem_append_right _ (List.mem_append_right _ (mem_pinsAt hb e)))).1, fun b hb => ?_, w7⟩
        obtain ⟨o, e, d⟩ := T.obj _ _ st7 b hb
        exact (K7.pin (b, o) (List.mem_append_right _ (List.mem_append_right _ (mem_pinsAt hb e)))).2.1
      cases b with
      | false =>
        rw [if_neg Bool.false_ne_true] at q9 ⊢
        exact again (σ' := []) I9 q9
      | true =>
        rw [if_pos rfl] at q9 ⊢
        have r10 := heY _ s9 _ _ _ I9 q9
        rw [hYp, hYw, hYA, hYe, hYx] at r10
        refine thn r10 fun v s10 ⟨y10, H10, I10, ry, xs, hxs, hlen, m', hm, w10⟩ => ?_
        have r11 := mt_append (X := Y) _ s10 _ H10 (.ref s2.heap.objs.size) [y10] (.ref s2.heap.objs.size) [v] (fun _ H' => H' = upd H10 s2.heap.objs.size (.lst (xs ++ [y10]))) I10 rfl (.cons ry .nil) ⟨_, xs, y10, rfl, rfl, hxs, hlen, rfl⟩
        rw [hYp, hYw, hYA, hYx] at r11
        refine thn r11 fun _ s11 ⟨_, H11, I11, _, e11⟩ => ?_
        subst e11
        exact again (σ' := []) I11 ⟨m', hm, w10⟩
  have loop' : ∀ s4 : Shared, s4 = { s3 with heap := h₁, toks := s3.toks } → codeAny (model X.prog X.w) X.A (.compLoop (.ListComp elt [⟨.Name x px, iter, ifs, 0⟩] scope pos) 0 (.ref it) (.ref s2.heap.objs.size) (compEnvC scope cl s3.heap.objs.size X.env))
      (compPost (model X.prog X.w) X.A X.xe use QQ (.ref s2.heap.objs.size) s3.heap.objs.size) s4 := fun s4 e => by subst e; exact loop
  have e4 : ∀ t, t = s3.toks → ({ s3 with heap := h₁, toks := t } : Shared) = { s3 with heap := h₁, toks := s3.toks } := fun t e => by rw [e]
  have fin4 : ∀ s4 : Shared, s4 = { s3 with heap := h₁, toks := s3.toks } → codeAny (model X.prog X.w) X.A (.compStart (.ListComp elt [⟨.Name x px, iter, ifs, 0⟩] scope pos) 0 (.ref it) (.ref s2.heap.objs.size) (compEnvC scope cl s3.heap.objs.size X.env))
      (compPost (model X.prog X.w) X.A X.xe use QQ (.ref s2.heap.objs.size) s3.heap.objs.size) s4 := fun s4 e =>
    codeAny_compStart_list (loop' s4 e) (T.self X.A 0 s4 _ _ (st4 s4 e) (loop' s4 e))
  have es : ({ s2 with heap := s2.heap.push { cls := .type "list", dict := none, data := .seq ([] : List Value).toArray } } : Shared) = s3 := hS3
  refine fin4 _ ?_
  rw [← es]
  rfl
theorem ps_setC {X : Cx} {i : Nat} {y : Str} {elt iter : Expr} {ifs : List Expr} {x : Str} {px pos py spos : Pos} {scope : Scope} {cl : List (Str × Addr)} {fv : List Str} {js : List Nat} {wi : TI} {tt : TT} {te : TE} (hN : X.N.Nodup) (hi0 : X.N[i]? = some y) (hy : X.env.scope.names.lookup y = some .local)
    (hc : X.calm = true) (hclos : closureFor scope X.env = pure cl)
    (S : CompScope X scope cl x fv js) (hi : PI X (.Name x px) iter wi)
    (ht : ∀ (C : Addr) (s₀ : Shared) (H₀ : Hp) (ex : List Addr) (pn : List (Addr × Obj)), PF (cxComp X scope cl C (x :: fv) s₀ H₀ ex pn) ifs tt)
    (he : ∀ (C : Addr) (s₀ : Shared) (H₀ : Hp) (ex : List Addr) (pn : List (Addr × Obj)), PE (cxComp X scope cl C (x :: fv) s₀ H₀ ex pn) elt te)
    (hs : ∀ x, foldedSetIterable iter X.env x = pure x := by intro _; rfl)
    (hsw : swapsWith (.ListComp elt [⟨.Name x px, iter, ifs, 0⟩] scope pos) (some (.Name y py)) spos.line X.env = pure true := by rfl) :
    PS X (.Assign [.Name y py] (.ListComp elt [⟨.Name x px, iter, ifs, 0⟩] scope pos) spos) (tAsg (tComp wi js tt te) (gName i)) := by
  intro pins s σ H D I h
  rw [exec_Assign_Name_used _ _ _ _ hsw]
  refine wpAny_bind (wpAny_standAt (wpAny_bind ?_))
  rw [arm_evalThenUse_ListComp]
  refine wpAny_bind (comp_gen (Q := fun v H1 => D.nx (σ.set i (some v)) H1) hc hclos S hi ht he hs I h ?_)
  intro L s3 H3 fp pn N pins' σ' H' s' I3 f3 J q
  obtain ⟨mm, hn, _⟩ := id J.loc
  have sb0 : Heap.SameBut s3.heap.objs.size s'.heap s'.heap := ⟨rfl, fun _ _ => rfl⟩
  have I' : Inv X pins σ H' s' := comp_end I3 f3 J sb0
  have ok := I3.fpOk (H' := H') (Nat.le_refl _) (show H' s3.heap.objs.size = none from J.free)
  obtain ⟨f0, f1, f2, f4, f5, f6⟩ := ok
  refine wpAny_assign_Name (store_ok2 I' hN hi0 (.inl hy) (v := .ref L) rfl (fun s2 I2 ⟨a, hsb, ha⟩ => ?_) (.inr hy))
  have nac : s3.heap.objs.size ≠ a := fun z => by
    rcases ha with ha | ha
    · exact f1 (z.trans ha)
    · exact f5 _ _ ha z.symm
  refine ⟨mm, hn.sameBut hsb nac, fun h'' sb => ?_⟩
  have I4 : Inv X pins (σ.set i (some (.ref L))) H' { s2 with heap := h'' } := I2.turned (t' := s2.toks) (fun b o hb e => (sb.2 b hb).trans e) f0 f1 f4 f5 f6
  exact wpAny_pure (wpAny_pure ⟨_, H', I4, q⟩)
end L2
namespace L2
open PySem PySem.Spec PyProof.Rows
section
variable {X : Cx}
def rMulS : R2 := fun x y H Q => ∃ z n, x = .str z ∧ y = .int n ∧ MulOk z n ∧ Q (.str (Txt.mul z n)) H
theorem op_mul_str : OpR X (binaryOp .Mult) rMulS := by
  intro pins s σ H x y v u Q I rx ry h
  obtain ⟨z, n, rfl, rfl, hm, q⟩ := h
  obtain ⟨t, rfl⟩ := rx
  obtain ⟨t', rfl⟩ := ry
  exact SB.mul hm fun t1 k => ⟨.str _, H, I.tok _, ⟨_, rfl⟩, q⟩
def rDbl : R2 := fun x y H Q => ∃ t v, x = .ref t ∧ y = .int 2 ∧ H t = some (.tup [v]) ∧ ∀ p, H p = none → Q (.ref p) (upd H p (.tup [v, v]))
end
end L2
namespace L2
open PySem PySem.Spec PyProof.Rows
section
variable {κ : Type} [DecidableEq κ]
def valV (kvs : List (κ × V)) (k : κ) : Option V := (kvs.find? fun kv => decide (kv.1 = k)).map (·.2)
def putK (kvs : List (κ × V)) (k : κ) (v : V) : List (κ × V) :=
  if (kvs.any fun kv => decide (kv.1 = k)) = true then kvs.map (fun kv => if kv.1 = k then (kv.1, v) else kv) else kvs ++ [(k, v)]
def dropK (kvs : List (κ × V)) (k : κ) : List (κ × V) := kvs.filter fun kv => decide (kv.1 ≠ k)
theorem valV_pos {p : κ × V} {r : List (κ × V)} {k : κ} (e : p.1 = k) : valV (p :: r) k = some p.2 := by simp [valV, List.find?_cons, e]
theorem valV_neg {p : κ × V} {r : List (κ × V)} {k : κ} (e : ¬ p.1 = k) : valV (p :: r) k = valV r k := by simp [valV, List.find?_cons, e]
theorem valV_any (k : κ) : ∀ kvs : List (κ × V), (kvs.any fun kv => decide (kv.1 = k)) = (valV kvs k).isSome
  | [] => rfl
  | p :: r => by
    rw [List.any_cons]
    by_cases e : p.1 = k
    · simp only [valV_pos e, decide_eq_true e, Bool.true_or, Option.isSome_some]
    · rw [valV_neg e, decide_eq_false e, Bool.false_or]; exact valV_any k r
theorem length_putK (kvs : List (κ × V)) (k : κ) (v : V) : (putK kvs k v).length ≤ kvs.length + 1 := by
  unfold putK
  split
  · rw [List.length_map]; omega
  · rw [List.length_append, List.length_cons, List.length_nil]; omega
theorem RelO.isSome_eq {o : Option V} {u : Option Value} (r : RelO o u) : o.isSome = u.isSome := by
  cases o with
  | none => cases u with
    | none => rfl
    | some _ => exact (show False from r).elim
  | some _ => cases u with
    | none => exact (show False from r).elim
    | some _ => rfl
theorem RelO.getD {o : Option V} {u : Option Value} {d : V} {d' : Value} (r : RelO o u) (rd : RelV d d') : RelV (o.getD d) (u.getD d') := by
  cases o with
  | none => cases u with
    | none => exact rd
    | some _ => exact (show False from r).elim
  | some _ => cases u with
    | none => exact (show False from r).elim
    | some _ => exact r
theorem KV.val {kvs : List (κ × V)} {vs : List (κ × Value)} (r : KV kvs vs) (k : κ) : RelO (valV kvs k) (valueAt vs k) := by
  unfold KV at r
  induction r with
  | nil => exact True.intro
  | @cons p q ps qs h t ih =>
    obtain ⟨h1, h2⟩ := h
    by_cases e : p.1 = k
    · have e' : q.1 = k := h1.symm.trans e
      have b : valueAt (q :: qs) k = some q.2 := by simp [valueAt, List.find?_cons, e']
      rw [valV_pos e, b]; exact h2
    · have e' : ¬ q.1 = k := fun z => e (h1.trans z)
      have b : valueAt (q :: qs) k = valueAt qs k := by simp [valueAt, List.find?_cons, e']
      rw [valV_neg e, b]; exact ih
theorem KV.any {kvs : List (κ × V)} {vs : List (κ × Value)} (r : KV kvs vs) (k : κ) : (kvs.any fun kv => decide (kv.1 = k)) = vs.any fun kv => decide (kv.1 = k) := by
  unfold KV at r
  induction r with
  | nil => rfl
  | cons h t ih => rw [List.any_cons, List.any_cons, ih, h.1]
theorem KV.repl {kvs : List (κ × V)} {vs : List (κ × Value)} (r : KV kvs vs) (k : κ) {y : V} {u : Value} (ry : RelV y u) :
    KV (kvs.map fun kv => if kv.1 = k then (kv.1, y) else kv) (vs.map fun kv => if kv.1 = k then (kv.1, u) else kv) := by
  unfold KV at r ⊢
  induction r with
  | nil => exact .nil
  | @cons p q ps qs h t ih =>
    rw [List.map_cons, List.map_cons]
    refine .cons ?_ ih
    obtain ⟨h1, h2⟩ := h
    by_cases e : p.1 = k
    · rw [if_pos e, if_pos (h1.symm.trans e)]; exact ⟨h1, ry⟩
    · rw [if_neg e, if_neg (fun z => e (h1.trans z))]; exact ⟨h1, h2⟩
theorem KV.put {kvs : List (κ × V)} {vs : List (κ × Value)} (r : KV kvs vs) (k : κ) {y : V} {u : Value} (ry : RelV y u) : KV (putK kvs k y) (stored vs k u) := by
  unfold putK stored
  rw [r.any k]
  by_cases e : (vs.any fun kv => decide (kv.1 = k)) = true
  · rw [if_pos e, if_pos e]; exact r.repl k ry
  · rw [if_neg e, if_neg e]; exact Paired.snoc r ⟨rfl, ry⟩
theorem KV.drop {kvs : List (κ × V)} {vs : List (κ × Value)} (r : KV kvs vs) (k : κ) : KV (dropK kvs k) (without vs k) := by
  unfold KV at r ⊢
  unfold dropK without
  induction r with
  | nil => exact .nil
  | @cons p q ps qs h t ih =>
    obtain ⟨h1, h2⟩ := h
    rw [List.filter_cons, List.filter_cons]
    by_cases e : p.1 = k
    · have a : ¬ decide (p.1 ≠ k) = true := by simp [e]
      have b : ¬ decide (q.1 ≠ k) = true := by simp [h1.symm.trans e]
      rw [if_neg a, if_neg b]; exact ih
    · have e' : ¬ q.1 = k := fun z => e (h1.trans z)
      have a : decide (p.1 ≠ k) = true := by simp [e]
      have b : decide (q.1 ≠ k) = true := by simp [e']
      rw [if_pos a, if_pos b]; exact .cons ⟨h1, h2⟩ ih
theorem KV.keys {kvs : List (κ × V)} {vs : List (κ × Value)} (r : KV kvs vs) : kvs.map (·.1) = vs.map (·.1) := by
  unfold KV at r
  induction r with
  | nil => rfl
  | cons h t ih => rw [List.map_cons, List.map_cons, ih, h.1]
theorem KV.length {kvs : List (κ × V)} {vs : List (κ × Value)} (r : KV kvs vs) : kvs.length = vs.length := Paired.length r
end
theorem kV_is {P : Program} {w : World} {k : Key} {u : Value} (r : RelV (kV k) u) : (mixKind P w).is k u = true := by
  cases k with
  | inl i => obtain ⟨t, e⟩ := (show ∃ t, u = Value.int i t from r); subst e; exact mixKind_int P w i t
  | inr x => obtain ⟨t, e⟩ := (show ∃ t, u = Value.str x t from r); subst e; exact mixKind_str P w x t
theorem items_are {P : Program} {w : World} : ∀ {ks : List Key} {us : List Value}, Vals (ks.map kV) us → ItemsAre (mixKind P w) ks us
  | [], _, r => by rw [List.map_nil] at r; cases r; exact .nil
  | k :: ks, _, r => by
    rw [List.map_cons] at r
    cases r with
    | cons h t => exact .cons (kV_is h) (items_are t)
abbrev KT (H : Hp) : List (List Key × V) → List (List Key × Addr × Value) → Prop := Paired fun p q => p.1 = q.1 ∧ H q.2.1 = some (.tup (p.1.map kV)) ∧ RelV p.2 q.2.2
theorem KT.val {H : Hp} {kvs : List (List Key × V)} {xs : List (List Key × Addr × Value)} (r : KT H kvs xs) (k : List Key) : RelO (valV kvs k) ((atKey xs k).map (·.2)) := by
  induction r with
  | nil => exact True.intro
  | @cons p q ps qs h t ih =>
    obtain ⟨h1, _, h2⟩ := h
    by_cases e : p.1 = k
    · have e' : q.1 = k := h1.symm.trans e
      have b : atKey (q :: qs) k = some q.2 := by simp [atKey, List.find?_cons, e']
      rw [valV_pos e, b]; exact h2
    · have e' : ¬ q.1 = k := fun z => e (h1.trans z)
      have b : atKey (q :: qs) k = atKey qs k := by simp [atKey, List.find?_cons, e']
      rw [valV_neg e, b]; exact ih
theorem KT.repl {H : Hp} {kvs : List (List Key × V)} {xs : List (List Key × Addr × Value)} (r : KT H kvs xs) (k : List Key) {y : V} {u : Value} (ry : RelV y u) :
    KT H (kvs.map fun kv => if kv.1 = k then (kv.1, y) else kv) (xs.map (putAt k u)) := by
  induction r with
  | nil => exact .nil
  | @cons p q ps qs h t ih =>
    rw [List.map_cons, List.map_cons]
    refine .cons ?_ ih
    obtain ⟨h1, h2, h3⟩ := h
    unfold putAt
    by_cases e : p.1 = k
    · rw [if_pos e, if_pos (h1.symm.trans e)]; exact ⟨h1, h2, ry⟩
    · rw [if_neg e, if_neg (fun z => e (h1.trans z))]; exact ⟨h1, h2, h3⟩
theorem KT.put {H : Hp} {kvs : List (List Key × V)} {xs : List (List Key × Addr × Value)} (r : KT H kvs xs) (k : List Key) {b : Addr} {y : V} {u : Value} (hb : H b = some (.tup (k.map kV))) (ry : RelV y u) :
    KT H (putK kvs k y) (storedH xs k b u) := by
  have e : (kvs.any fun kv => decide (kv.1 = k)) = (atKey xs k).isSome := by
    rw [valV_any, (r.val k).isSome_eq, Option.isSome_map]
  unfold putK storedH
  rw [e]
  by_cases q : (atKey xs k).isSome = true
  · rw [if_pos q, if_pos q]; exact r.repl k ry
  · rw [if_neg q, if_neg q]; exact Paired.snoc r ⟨rfl, hb, ry⟩
theorem KT.keeps {H H' : Hp} {kvs : List (List Key × V)} {xs : List (List Key × Addr × Value)} (r : KT H kvs xs) (ht : ∀ b ys, H b = some (.tup ys) → H' b = some (.tup ys)) : KT H' kvs xs :=
  Paired.mapP r fun _ _ z => ⟨z.1, ht _ _ z.2.1, z.2.2⟩
section
variable {P : Program} {w : World} {H : Hp} {h : Heap} {a : Addr}
theorem rd_of {u : HO} (ok : HOk P w H h) (e : Rd H a u) : ObjOk P w H h a u := e.ok ok
theorem dk_rd {kvs : List (Key × V)} (ok : HOk P w H h) (e : Rd H a (.dK kvs)) : kvs.length ≤ sizeLine ∧ (a == sysModules) = false ∧ ∃ vs, KV kvs vs ∧ h.DictOf (mixKind P w) a vs :=
  show ObjOk P w H h a (.dK kvs) from rd_of ok e
theorem dk_of {kvs : List (Key × V)} (ok : HOk P w H h) (e : H a = some (.dK kvs)) : kvs.length ≤ sizeLine ∧ (a == sysModules) = false ∧ ∃ vs, KV kvs vs ∧ h.DictOf (mixKind P w) a vs := dk_rd ok (.inl e)
theorem key_of {ks : List Key} (ok : HOk P w H h) (e : H a = some (.tup (ks.map kV))) : (tupleKind (mixKind P w)).is h ks a := by
  obtain ⟨_, its, r, o, h1, h2, n, h3⟩ := (show ObjOk P w H h a (.tup (ks.map kV)) from ok a _ e)
  exact ⟨o, its.toArray, n, h1, h2, h3, by simpa using items_are r⟩
theorem dt_rd {kvs : List (List Key × V)} (ok : HOk P w H h) (e : Rd H a (.dT kvs)) : kvs.length ≤ sizeLine ∧ (a == sysModules) = false ∧
    ∃ xs, KT H kvs xs ∧ h.DictOfH (tupleKind (mixKind P w)) a xs := by
  obtain ⟨z, y, xs, r, o, es, ep, h1, h2, h3, h4, h5⟩ := (show ObjOk P w H h a (.dT kvs) from rd_of ok e)
  refine ⟨z, y, xs, r, o, es, ep, h1, h2, h3, h4, fun x hx => ?_, h5⟩
  have all : ∀ {l : List (List Key × V)} {m : List (List Key × Addr × Value)}, KT H l m → ∀ x ∈ m, (tupleKind (mixKind P w)).is h x.1 x.2.1 := by
    intro l m q
    induction q with
    | nil => intro x hx; exact nomatch hx
    | @cons p q ps qs hq t ih =>
      intro x hx
      rcases List.mem_cons.mp hx with e | hx
      · subst e
        exact key_of ok (by rw [← hq.1]; exact hq.2.1)
      · exact ih x hx
  exact all r x hx
theorem dt_of {kvs : List (List Key × V)} (ok : HOk P w H h) (e : H a = some (.dT kvs)) : kvs.length ≤ sizeLine ∧ (a == sysModules) = false ∧
    ∃ xs, KT H kvs xs ∧ h.DictOfH (tupleKind (mixKind P w)) a xs := dt_rd ok (.inl e)
end
def DGet (H : Hp) (a : Addr) (y : V) (r : Option V) : Prop :=
  (∃ kvs k, Rd H a (.dK kvs) ∧ y = kV k ∧ r = valV kvs k) ∨ ∃ kvs k b, Rd H a (.dT kvs) ∧ y = .ref b ∧ H b = some (.tup (k.map kV)) ∧ r = valV kvs k
def DPut (H : Hp) (a : Addr) (y v : V) (H' : Hp) : Prop :=
  (∃ kvs k, H a = some (.dK kvs) ∧ y = kV k ∧ kvs.length < sizeLine ∧ H' = upd H a (.dK (putK kvs k v))) ∨
  ∃ kvs k b, H a = some (.dT kvs) ∧ y = .ref b ∧ H b = some (.tup (k.map kV)) ∧ kvs.length < sizeLine ∧ H' = upd H a (.dT (putK kvs k v))
theorem DGet.k {H : Hp} {a : Addr} {kvs : List (Key × V)} {k : Key} (e : H a = some (.dK kvs)) : DGet H a (kV k) (valV kvs k) := .inl ⟨kvs, k, .inl e, rfl, rfl⟩
theorem DGet.t {H : Hp} {a b : Addr} {kvs : List (List Key × V)} {k : List Key} (e : H a = some (.dT kvs)) (eb : H b = some (.tup (k.map kV))) : DGet H a (.ref b) (valV kvs k) := .inr ⟨kvs, k, b, .inl e, rfl, eb, rfl⟩
theorem DPut.k {H : Hp} {a : Addr} {kvs : List (Key × V)} {k : Key} {v : V} (e : H a = some (.dK kvs)) (hl : kvs.length < sizeLine) : DPut H a (kV k) v (upd H a (.dK (putK kvs k v))) := .inl ⟨kvs, k, e, rfl, hl, rfl⟩
theorem DPut.t {H : Hp} {a b : Addr} {kvs : List (List Key × V)} {k : List Key} {v : V} (e : H a = some (.dT kvs)) (eb : H b = some (.tup (k.map kV))) (hl : kvs.length < sizeLine) :
    DPut H a (.ref b) v (upd H a (.dT (putK kvs k v))) := .inr ⟨kvs, k, b, e, rfl, eb, hl, rfl⟩
section
variable {X : Cx} {pins : List (Addr × Obj)} {σ : St} {H : Hp} {s : Shared} {a : Addr} {y v : V} {u r : Value} {o : Option V} {A : Around} {E : Value → Shared → Prop}
theorem Inv.big (I : Inv X pins σ H s) : sysModules < s.heap.objs.size := by
  have h : mainGlobals < s.heap.objs.size := (I.mod.glob.keeps I.bk).lt
  exact Nat.lt_trans (by decide) h
theorem d_getItem {Q : Value → Shared → Prop} (hu : A.units + 1 < cLine) (I : Inv X pins σ H s) (g : DGet H a y (some v)) (ry : RelV y u) (h : ∀ w' s', Inv X pins σ H s' → RelV v w' → Q w' s') :
    wpAny (model X.prog X.w) A (getItem (.ref a) u) Q E s := by
  rcases g with ⟨kvs, k, e, ey, l⟩ | ⟨kvs, k, b, e, ey, eb, l⟩
  · subst ey
    obtain ⟨z, hd, vs, rel, dd⟩ := dk_rd I.hok e
    obtain ⟨w', hw, rw'⟩ := RelO.some_of (v := v) (o := valueAt vs k) (by rw [l]; exact rel.val k)
    exact wpAny_getItem_of (kV_is ry) dd.mapOf hw (h w' _ (I.tok _) rw')
  · subst ey
    cases (show u = Value.ref b from ry)
    obtain ⟨z, hd, xs, rel, dd⟩ := dt_rd I.hok e
    obtain ⟨w', hw, rw'⟩ := RelO.some_of (v := v) (o := (atKey xs k).map (·.2)) (by rw [l]; exact rel.val k)
    obtain ⟨p, hp, hp2⟩ := Option.map_eq_some_iff.mp hw
    refine wpAny_getItem_heap (tupleKind_room_in1 hu) (key_of I.hok eb) dd hp ?_
    rw [hp2]
    exact h w' _ (I.tok _) rw'
theorem d_write {h' : Heap} {t' : Nat} {ob : HO} (I : Inv X pins σ H s) (mu : Mut (H a)) (hs : Heap.SameBut a s.heap h') (he : ∃ q, h'.get? a = some q) (new : ObjOk X.prog X.w (upd H a ob) h' a ob) :
    Inv X pins σ (upd H a ob) { s with heap := h', toks := t' } :=
  I.write (x := a) (e := a) mu (.inl rfl) (fun b q hb z => (hs.2 b hb).trans z) he new
theorem dk_new {P : Program} {w : World} {H' : Hp} {h' : Heap} {kvs : List (Key × V)} {vs : List (Key × Value)} (z : kvs.length ≤ sizeLine) (hd : (a == sysModules) = false) (rel : KV kvs vs) (dd : h'.DictOf (mixKind P w) a vs) :
    ObjOk P w H' h' a (.dK kvs) := ⟨z, hd, vs, rel, dd⟩
theorem d_setItem {H' : Hp} {Q : Unit → Shared → Prop} (hu : A.units + 1 < cLine) (I : Inv X pins σ H s) (g : DPut H a y v H') (ry : RelV y u) (rv : RelV v r) (h : ∀ s', Inv X pins σ H' s' → Q () s') :
    wpAny (model X.prog X.w) A (setItem (.ref a) u r) Q E s := by
  rcases g with ⟨kvs, k, e, ey, l, eH⟩ | ⟨kvs, k, b, e, ey, eb, l, eH⟩
  · subst ey eH
    obtain ⟨z, hd, vs, rel, dd⟩ := dk_of I.hok e
    have hz : vs.length ≤ sizeLine := by rw [← rel.length]; exact z
    have hl : (putK kvs k v).length ≤ sizeLine := by have := length_putK kvs k v; omega
    refine wpAny_setItem_pairs (hsz := hz) (kV_is ry) dd fun h' dd' hs => h _ ?_
    have he : ∃ q, h'.get? a = some q := let ⟨q, _, _, hq, _⟩ := dd'; ⟨q, hq⟩
    exact d_write I (by rw [e]; exact True.intro) hs he (dk_new hl hd (rel.put k rv) dd')
  · subst ey eH
    cases (show u = Value.ref b from ry)
    obtain ⟨z, hd, xs, rel, dd⟩ := dt_of I.hok e
    have hz : xs.length ≤ sizeLine := by rw [← Paired.length rel]; exact z
    have hl : (putK kvs k v).length ≤ sizeLine := by have := length_putK kvs k v; omega
    refine wpAny_setItem_heap (hsz := hz) (tupleKind_room_in1 hu) (key_of I.hok eb) dd fun h' dd' hs => h _ ?_
    obtain ⟨q, es, ep, hq, h2, h3, h4, _, h5⟩ := dd'
    refine d_write I (by rw [e]; exact True.intro) hs ⟨q, hq⟩ ⟨hl, hd, _, (rel.put k eb rv).keeps fun c ys ec => ?_, q, es, ep, hq, h2, h3, h4, h5⟩
    rw [upd_ne (ne_of ec e (fun z => nomatch z))]
    exact ec
end
section
variable {X : Cx} {pins : List (Addr × Obj)} {σ : St} {H : Hp} {s : Shared} {a : Addr} {kvs : List (Key × V)} {k : Key} {u : Value} {A : Around} {E : Value → Shared → Prop}
end
def NoSl (i : Expr) : Prop := ∀ ov iv, subscripted i false ov iv = operate [ov, iv] (getItem ov iv)
theorem subD_of {prog : Program} {w : World} {A : Around} {E : Value → Shared → Prop} {s : Shared} {env : Env} {value slice : Expr} {pos : Pos} {T id : String} {Q : Value → Shared → Prop}
    (hl : typeLookup (.type T) "__getitem__" = pure (some (.builtin id))) (hs : NoSl slice)
    (h : wpAny (model prog w) A (eval value env) (fun o s₁ => wpAny (model prog w) A (eval slice env) (fun i s₂ => s₂.TypeIs o T ∧ wpAny (model prog w) A (getItem o i) Q E s₂) E s₁) E s) :
    wpAny (model prog w) A (eval (.Subscript value slice pos) env) Q E s := by
  refine Subscript_ (wpAny_mono h (fun o s₁ h₁ => wpAny_mono h₁ (fun i s₂ h₂ => ?_) fun _ _ x => x) fun _ _ x => x)
  obtain ⟨hT, h₂⟩ := h₂
  unfold subscriptTail
  refine wpAny_bind ?_
  rw [getitemInPython_of_ne hT.not_modules]
  refine wpAny_bind (wpAny_specialOf hT hl ?_)
  have fin : wpAny (model prog w) A (subscripted slice false o i) (fun r s₃ => wpAny (model prog w) A (letTemporaryGo value o r >>= fun _ => pure r) Q E s₃) E s₂ := by
    rw [hs o i]
    exact wpAny_operating (wpAny_mono h₂ (fun r s₃ h₃ => wpAny_bind (wpAny_letTemporaryGo (wpAny_pure h₃))) fun _ _ x => x)
  first
    | exact wpAny_pure (wpAny_bind fin)
    | exact wpAny_bind (wpAny_pure (wpAny_bind fin))
    | exact wpAny_bind fin
theorem dict_typeIs {X : Cx} {pins : List (Addr × Obj)} {σ : St} {H : Hp} {s : Shared} {a : Addr} {y : V} {o : Option V} (I : Inv X pins σ H s) (g : DGet H a y o) : s.TypeIs (.ref a) "dict" := by
  rcases g with ⟨kvs, k, e, _, _⟩ | ⟨kvs, k, b, e, _, _, _⟩
  · obtain ⟨_, _, vs, _, dd⟩ := dk_rd I.hok e
    exact dd.typeIs
  · obtain ⟨_, _, xs, _, dd⟩ := dt_rd I.hok e
    exact dd.typeIs
def tDGet (td ty : TE) : TE := fun σ H Q => td σ H fun x H1 => ty σ H1 fun y H2 => ∃ a v, x = .ref a ∧ DGet H2 a y (some v) ∧ Q v H2
def tDIn (ty td : TE) : TE := fun σ H Q => ty σ H fun y H1 => td σ H1 fun x H2 => ∃ a o, x = .ref a ∧ DGet H2 a y o ∧ Q (.bl o.isSome) H2
def tDNotIn (ty td : TE) : TE := fun σ H Q => ty σ H fun y H1 => td σ H1 fun x H2 => ∃ a o, x = .ref a ∧ DGet H2 a y o ∧ Q (.bl (!o.isSome)) H2
def sDPut (td ty tv : TE) : TS := fun D σ H => tv σ H fun v H1 => td σ H1 fun x H2 => ty σ H2 fun y H3 => ∃ a H4, x = .ref a ∧ DPut H3 a y v H4 ∧ D.nx σ H4
def sDAug (td ty tv : TE) (rd : V → V → Hp → VK → Prop) : TS := fun D σ H => td σ H fun x H1 => ty σ H1 fun y H2 => ∃ a v, x = .ref a ∧ DGet H2 a y (some v) ∧
  tv σ H2 fun y2 H3 => rd v y2 H3 fun z H4 => ∃ H5, DPut H4 a y z H5 ∧ D.nx σ H5
def sDDel (td ty : TE) : TS := fun D σ H => td σ H fun x H1 => ty σ H1 fun y H2 => ∃ a kvs k, x = .ref a ∧ H2 a = some (.dK kvs) ∧ y = kV k ∧ (valV kvs k).isSome = true ∧ D.nx σ (upd H2 a (.dK (dropK kvs k)))
section
variable {X : Cx} {o i e value : Expr} {pos pos' tpos : Pos} {td ty tv : TE}
theorem pe_dget (hu : X.A.units + 1 < cLine) (ho : PE X o td) (hi : PE X i ty) (hs : NoSl i) : PE X (.Subscript o i pos) (tDGet td ty) := by
  intro pins s σ H Q I h
  refine subD_of PySem.F.slot_dict_getitem.lookup hs (thn (ho pins s σ H _ I h) fun u s1 ⟨x, H1, I1, rx, q1⟩ => thn (hi pins s1 σ H1 _ I1 q1) fun iv s2 ⟨y, H2, I2, ry, a, v, ex, g, q2⟩ => ?_)
  subst ex
  obtain rfl : u = Value.ref a := rx
  exact ⟨dict_typeIs I2 g, d_getItem hu I2 g ry fun w' s3 I3 rw' => ⟨v, H2, I3, rw', q2⟩⟩
theorem ps_dput (hu : X.A.units + 1 < cLine) (ho : PE X o td) (hi : PE X i ty) (hv : PE X value tv) (hs : swapsWith value (some (.Subscript o i pos')) pos.line X.env = pure false) :
    PS X (.Assign [.Subscript o i pos'] value pos) (sDPut td ty tv) := by
  intro pins s σ H D I h
  refine wpAny_Assign_Subscript (thn (hv pins s σ H _ I h) fun r s1 ⟨v, H1, I1, rv, q1⟩ => thn (ho pins s1 σ H1 _ I1 q1) fun u s2 ⟨x, H2, I2, rx, q2⟩ => thn (hi pins s2 σ H2 _ I2 q2) fun iv s3 ⟨y, H3, I3, ry, a, H4, ex, g, q3⟩ => ?_) hs
  subst ex
  obtain rfl : u = Value.ref a := rx
  exact d_setItem hu I3 g ry rv fun s4 I4 => ⟨σ, H4, I4, q3⟩
end
theorem dk_empty {P : Program} {w : World} {H : Hp} (h : Heap) (hb : sysModules < h.objs.size) : ObjOk P w H (h.push { cls := .type "dict", data := .dict #[] }) h.objs.size (.dK []) :=
  ⟨Nat.zero_le _, beq_eq_false_iff_ne.mpr (Ne.symm (Nat.ne_of_lt hb)), [], .nil, Heap.DictOf.new h⟩
def tDNewK : TE := fun _ H Q => ∀ p, H p = none → Q (.ref p) (upd H p (.dK []))
def tDNewT : TE := fun _ H Q => ∀ p, H p = none → Q (.ref p) (upd H p (.dT []))
section
variable {X : Cx} {pos : Pos}
end
end L2
namespace L2
open PySem PySem.Spec PyProof.Rows
section
variable {P : Program} {w : World} {A : Around} {E : Value → Shared → Prop} {s : Shared} {d it : Addr} {o : Obj} {es : Array DictEntry} {ep i : Nat}
structure RawD (h : Heap) (d : Addr) (o : Obj) (es : Array DictEntry) (ep : Nat) : Prop where
  at_ : h.get? d = some o
  ex : o.ExactDict
  data : o.data = .dict es ep
theorem RawD.ty (x : RawD s.heap d o es ep) : s.TypeIs (.ref d) "dict" := ⟨o, x.at_, x.ex.1⟩
end
section
variable {X : Cx} {tg : Expr} {pins : List (Addr × Obj)} {σ : St} {H : Hp} {s : Shared}
def Itd (a : Addr) (o : Obj) : It :=
  ⟨fun i H => ∃ kvs, H a = some (.frz o (.dT kvs)) ∧ i < kvs.length,
   fun i H x H' => H' = H ∧ ∀ kvs, H a = some (.frz o (.dT kvs)) → ∃ ks v b, kvs[i]? = some (ks, v) ∧ x = .ref b ∧ H b = some (.tup (ks.map kV)),
   fun i H => ∃ kvs, H a = some (.frz o (.dT kvs)) ∧ kvs.length ≤ i⟩
def iDT (tl : TE) : TI := fun σ H R => tl σ H fun x H1 => ∃ a kvs, x = .ref a ∧ H1 a = some (.dT kvs) ∧ ∀ o, R (Itd a o) (upd H1 a (.frz o (.dT kvs)))
end
section
variable {P : Program} {w : World} {A : Around} {E : Value → Shared → Prop} {s : Shared} {d : Addr} {o : Obj} {es : Array DictEntry} {ep : Nat}
end
section
variable {X : Cx}
def rNeE (K : PySem.W.Frag) : R2 := fun x y H Q => ∃ a b xs, x = .ref a ∧ y = .ref b ∧ SqL K H a xs ∧ SqL K H b [] ∧ Q (.bl (!xs.isEmpty)) H
theorem andP {tb : TE} {σ : St} {H : Hp} {Q : VK} {x y : Bool} (h2 : Q (.bl y) H → tb σ H Q) (h : Q (.bl (x && y)) H) : ∃ c, V.bl x = .bl c ∧ if c = true then tb σ H Q else Q (.bl false) H := by
  refine ⟨x, rfl, ?_⟩
  cases x with
  | false => exact iteF h
  | true => exact iteT (h2 h)
end
end L2
namespace StrT
open PySem PySem.W PyProof.Rows
section
variable {N : Nat} {lt : Nat → Nat → Bool}
def Wp {α : Type} (N : Nat) (lt : Nat → Nat → Bool) : KasT α → (α → Prop) → Prop
  | .ret a, P => P a
  | .ask i j k, P => i < N ∧ j < N ∧ Wp N lt (k (lt i j)) P
theorem Wp.mono {α : Type} {P P' : α → Prop} (hp : ∀ a, P a → P' a) : ∀ {t : KasT α}, Wp N lt t P → Wp N lt t P'
  | .ret a, h => hp a h
  | .ask _ _ _, h => ⟨h.1, h.2.1, Wp.mono hp h.2.2⟩
theorem Wp.bind {α β : Type} {f : α → KasT β} {P : β → Prop} : ∀ {t : KasT α}, Wp N lt t (fun a => Wp N lt (f a) P) → Wp N lt (t.bind f) P
  | .ret _, h => h
  | .ask _ _ _, h => ⟨h.1, h.2.1, Wp.bind h.2.2⟩
structure Ord (lt : Nat → Nat → Bool) : Prop where
  tr : ∀ a b c, lt b a = false → lt c b = false → lt c a = false
  as : ∀ a b, lt a b = true → lt b a = false
theorem Ord.rf (o : Ord lt) (a : Nat) : lt a a = false := by
  cases h : lt a a with
  | false => rfl
  | true => exact (o.as a a h).symm ▸ h.symm ▸ h
def gg (p : Array Nat) (i : Nat) : Nat := p.getD i 0
def Up (lt : Nat → Nat → Bool) (p : Array Nat) (k : Nat) : Prop := ∀ i j, i ≤ j → j < k → lt (gg p j) (gg p i) = false
def Dn (lt : Nat → Nat → Bool) (p : Array Nat) (k : Nat) : Prop := ∀ i j, i ≤ j → j < k → lt (gg p i) (gg p j) = false
structure Bs (N : Nat) (p₀ p : Array Nat) : Prop where
  sz : p.size = N
  bd : ∀ i, gg p i < N
  pm : p.Perm p₀
def Eqs (lt : Nat → Nat → Bool) (p : Array Nat) (n q : Nat) : Prop := q + 1 ≤ n ∧ ∀ i j, n - (q + 1) ≤ i → i < n → n - (q + 1) ≤ j → j < n → lt (gg p i) (gg p j) = false
end
end StrT
namespace L2
open PySem PySem.Spec PyProof.Rows
def plt (p q : Int × Int) : Bool := if p.1 = q.1 then decide (p.2 < q.2) else decide (p.1 < q.1)
def PairAt (h : Heap) (v : Value) (p : Int × Int) : Prop := ∃ a t u, v = .ref a ∧ IsTup h a #[.int p.1 t, .int p.2 u]
theorem PairAt.inj {h : Heap} {v : Value} {p q : Int × Int} (x : PairAt h v p) (y : PairAt h v q) : p = q := by
  obtain ⟨a1, t1, u1, rfl, o1, h1, _, n1, d1⟩ := x
  obtain ⟨a2, t2, u2, e2, o2, h2, _, n2, d2⟩ := y
  cases e2
  rw [h1] at h2
  cases h2
  rw [d1] at d2
  injection d2 with e1 _
  obtain ⟨p1, p2⟩ := p
  obtain ⟨q1, q2⟩ := q
  simp at e1
  rw [e1.1.1, e1.2.1]
abbrev Rise (ps : List (Int × Int)) : Prop := ps.Pairwise fun p q => plt q p = false
section
variable {P : Program} {w : World} {A : Around} {E : Value → Shared → Prop} {s : Shared}
end
def PrV (H : Hp) (v : V) (p : Int × Int) : Prop := ∃ b, v = .ref b ∧ H b = some (.tup [.int p.1, .int p.2])
abbrev Prs (H : Hp) (vs : List V) (ps : List (Int × Int)) : Prop := Paired (PrV H) vs ps
section
variable {X : Cx} {pins : List (Addr × Obj)} {σ : St} {H : Hp} {s : Shared}
def rSorted (K : PySem.W.Frag) : List V → Hp → VK → Prop := fun xs H Q => ∃ a vs ps, xs = [V.ref a] ∧ SqL K H a vs ∧ Prs H vs ps ∧ vs.length < 64 ∧ ∀ l vs' ps', H l = none → Prs H vs' ps' → ps'.Perm ps → Rise ps' → Q (.ref l) (upd H l (.lst vs'))
def Ite (K : PySem.W.Frag) (a : Addr) : It :=
  ⟨fun i H => ∃ xs x, SqL K H a xs ∧ xs[i]? = some x, fun i H y H' => ∃ x b, (∀ xs, SqL K H a xs → xs[i]? = some x) ∧ H b = none ∧ y = .ref b ∧ H' = upd H b (.tup [.int i, x]), fun i H => ∃ xs, SqL K H a xs ∧ xs.length ≤ i⟩
def iEnum (K : PySem.W.Frag) (ta : TA) : TI := fun σ H R => ta σ H fun vs H1 => ∃ a, vs = [V.ref a] ∧ (∃ xs, SqL K H1 a xs) ∧ R (Ite K a) H1
end
section
variable {A : Around} {s : Shared}
end
section
variable {X : Cx} {pins : List (Addr × Obj)} {σ : St} {H : Hp} {s : Shared}
def LsV (K : PySem.W.Frag) (H : Hp) (v : V) (ps : List (Int × Int)) : Prop := ∃ a vs, v = .ref a ∧ SqL K H a vs ∧ Prs H vs ps
end
end L2
namespace L2
open PySem PySem.Spec PyProof.Rows
structure CompScope2 (X : Cx) (scope : Scope) (cl : List (Str × Addr)) (x y : Str) (fv : List Str) (js : List Nat) : Prop where
  S : CompScope X scope cl x fv js
  hy : scope.names.lookup y = some .local
  nd : (x :: y :: fv).Nodup
section
variable {X : Cx} {scope : Scope} {cl : List (Str × Addr)} {x y : Str} {fv : List Str} {js : List Nat}
end
def tComp2 (wi : TI) (g : TG) (js : List Nat) (tt : TT) (te : TE) : TE := fun σ H Q => wi σ H fun J H1 => ∀ D, H1 D = none → ∃ W : Nat → Nat → Hp → Prop, (∃ m, W 0 m (upd H1 D (.lst []))) ∧ ∀ i m H, W i m H →
  (J.stop i H ∧ Q (.ref D) H) ∨ (J.go i H ∧ ∀ x H' o1 o2, J.yld i H x H' → g x (o1 :: o2 :: frv js σ) H' fun σ2 H4 => (∃ v1 v2, σ2 = some v1 :: some v2 :: frv js σ) ∧ tt σ2 H4 fun b H2 =>
    if b = true then te σ2 H2 fun v H3 => ∃ xs, H3 D = some (.lst xs) ∧ xs.length < sizeLine ∧ ∃ m', m' < m ∧ W (i + 1) m' (upd H3 D (.lst (xs ++ [v])))
    else ∃ m', m' < m ∧ W (i + 1) m' H2)
theorem ints_of : ∀ {ns : List Int} {us : List Value}, Vals (ns.map V.int) us → IntsAre us ns
  | [], _, .nil => .nil
  | n :: ns, _, .cons r t => by
    obtain ⟨k, rfl⟩ := r
    exact .cons n k (ints_of t)
section
variable {X : Cx}
def tRev (K : PySem.W.Frag) (te : TE) (tk : TO) : TE := fun σ H Q => te σ H fun x H1 => tk σ H1 fun k H2 => k = some (-1) ∧ ∃ a xs, x = .ref a ∧ SqL K H2 a xs ∧ ∀ p, H2 p = none → Q (.ref p) (upd H2 p (.lst xs.reverse))
theorem vals_rev {xs : List V} {us : List Value} (r : Vals xs us) : Vals xs.reverse us.reverse := by
  induction r with
  | nil => exact .nil
  | cons r _ ih =>
    rw [List.reverse_cons, List.reverse_cons]
    exact Vals.append ih (.cons r .nil)
end
end L2
namespace L2
open PySem PySem.Spec PyProof.Rows
def tPairs : List (TE × TE) → St → Hp → (List (V × V) → Hp → Prop) → Prop
  | [], _, H, Q => Q [] H
  | (tk, tv) :: r, σ, H, Q => tk σ H fun x H1 => tv σ H1 fun y H2 => tPairs r σ H2 fun ps H3 => Q ((x, y) :: ps) H3
abbrev VV : List (V × V) → List (Value × Value) → Prop := Paired fun p q => RelV p.1 q.1 ∧ RelV p.2 q.2
def PPs (X : Cx) (pos : Pos) (keys : List (Option Expr)) (values : List Expr) (trs : List (TE × TE)) : Prop :=
  ∀ (pins : List (Addr × Obj)) (s : Shared) (σ : St) (H : Hp) (Q : List (V × V) → Hp → Prop), Inv X pins σ H s → tPairs trs σ H Q →
    wpAny (model X.prog X.w) X.A (evalPairs (pairTrees keys values X.env pos)) (fun vs s' => ∃ ps H', Inv X pins σ H' s' ∧ VV ps vs ∧ Q ps H') X.xe s
theorem pps_nil {X : Cx} {pos : Pos} : PPs X pos [] [] [] := fun pins s σ H Q I h => pairTrees_nil_walk ⟨[], H, I, .nil, h⟩
theorem pps_cons {X : Cx} {pos : Pos} {k v : Expr} {ks : List (Option Expr)} {vs : List Expr} {tk tv : TE} {trs : List (TE × TE)} (hk : PE X k tk) (hv : PE X v tv) (hr : PPs X pos ks vs trs) :
    PPs X pos (some k :: ks) (v :: vs) ((tk, tv) :: trs) := fun pins s σ H Q I h =>
  pairTrees_cons_walk (thn (hk pins s σ H _ I h) fun u s1 ⟨x, H1, I1, rx, q1⟩ => thn (hv pins s1 σ H1 _ I1 q1) fun w2 s2 ⟨y, H2, I2, ry, q2⟩ =>
    thn (hr pins s2 σ H2 _ I2 q2) fun ws s3 ⟨ps, H3, I3, rel, q3⟩ => ⟨(x, y) :: ps, H3, I3, .cons ⟨rx, ry⟩ rel, q3⟩)
def mergeK (kvs more : List (Key × V)) : List (Key × V) := more.foldl (fun acc kv => putK acc kv.1 kv.2) kvs
theorem KV.merge : ∀ {more : List (Key × V)} {rs : List (Key × Value)} {kvs : List (Key × V)} {vs : List (Key × Value)}, KV more rs → KV kvs vs → KV (mergeK kvs more) (merged vs rs) := by
  intro more rs kvs vs r
  unfold KV at r
  induction r generalizing kvs vs with
  | nil => intro q; exact q
  | @cons p q ps qs h t ih =>
    intro r0
    have e : KV (putK kvs p.1 p.2) (stored vs q.1 q.2) := by
      have := r0.put p.1 h.2
      rw [← h.1]; exact this
    exact ih e
theorem length_mergeK : ∀ (more kvs : List (Key × V)), (mergeK kvs more).length ≤ kvs.length + more.length
  | [], kvs => by show kvs.length ≤ kvs.length + 0; omega
  | p :: r, kvs => by
    have h1 := length_mergeK r (putK kvs p.1 p.2)
    have h2 := length_putK kvs p.1 p.2
    show (mergeK (putK kvs p.1 p.2) r).length ≤ _
    rw [List.length_cons]; omega
theorem carries_of {P : Program} {w : World} : ∀ {kvs : List (Key × V)} {ws : List (Value × Value)}, VV (kvs.map fun kv => (kV kv.1, kv.2)) ws → ∃ rs, Carries (mixKind P w) ws rs ∧ KV kvs rs
  | [], _, r => by rw [List.map_nil] at r; cases r; exact ⟨[], True.intro, .nil⟩
  | p :: kvs, _, r => by
    rw [List.map_cons] at r
    cases r with
    | @cons a b as bs h t =>
      obtain ⟨rs, c, q⟩ := carries_of (P := P) (w := w) t
      obtain ⟨b1, b2⟩ := b
      exact ⟨(p.1, b2) :: rs, ⟨kV_is h.1, rfl, c⟩, .cons ⟨rfl, h.2⟩ q⟩
def tDisp (trs : List (TE × TE)) : TE := fun σ H Q => ∀ p, H p = none → tPairs trs σ (upd H p (.dK [])) fun ps H2 => H2 p = some (.dK []) ∧ ∃ kvs : List (Key × V), ps = kvs.map (fun kv => (kV kv.1, kv.2)) ∧ kvs.length ≤ 15 ∧ Q (.ref p) (upd H2 p (.dK (mergeK [] kvs)))
theorem pe_disp {X : Cx} {pos : Pos} {keys : List (Option Expr)} {values : List Expr} {trs : List (TE × TE)} (h : PPs X pos keys values trs) (hall : keys.all (·.isSome) = true) (hl : keys.length = values.length) (h0 : keys ≠ [])
    (h15 : keys.length ≤ 15) : PE X (.Dict keys values pos) (tDisp trs) := by
  intro pins s σ H Q I q
  have hn := I.hok.fresh (Nat.le_refl s.heap.objs.size)
  have I1 := I.laid (a := s.heap.objs.size) (o := .dK []) (h' := s.heap.push { cls := .type "dict", data := .dict #[] }) (t' := s.toks) (fun _ _ q => Heap.get?_push_of_some _ q) (Nat.le_refl _) (dk_empty s.heap I.big)
  refine wpAny_Dict_walk (knd := mixKind X.prog X.w) hall hl h0 h15 (thn (h pins _ σ _ _ I1 (q _ hn)) fun ws s2 ⟨ps, H2, I2, rel, e, kvs, ep, lk, q2⟩ => ?_)
  subst ep
  obtain ⟨rs, c, rk⟩ := carries_of (P := X.prog) (w := X.w) rel
  obtain ⟨z, hd, vs0, r0, dd⟩ := dk_of I2.hok e
  cases r0
  refine ⟨rs, c, dd, fun h' dd' hs => ⟨.ref s.heap.objs.size, _, ?_, rfl, q2⟩⟩
  have hz : (mergeK [] kvs).length ≤ sizeLine := by
    have h1 := length_mergeK kvs []
    rw [List.length_nil] at h1
    rw [sizeLine_eq]; omega
  have he : ∃ q, h'.get? s.heap.objs.size = some q := let ⟨q, _, _, hq, _⟩ := dd'; ⟨q, hq⟩
  exact d_write I2 (by rw [e]; exact True.intro) hs he (dk_new hz hd (rk.merge .nil) dd')
structure M1 (X : Cx) (o : Expr) (m : Str) (apos : Pos) (e : Expr) (cpos : Pos) : Prop where
  base : attributeBase o m X.env (eval o X.env) = eval o X.env
  few : ((backTo cpos (starEach [e] X.env)).all (fun x => !x.1) && (backToKw cpos (keywordEach [] X.env)).all (fun x => x.1.isSome)
    && decide (([e] : List Expr).length + ([] : List Keyword).length + (if ([] : List Keyword).isEmpty then 0 else 1) < 30)) = true
  line : (apos.endLine == cpos.line) = true
  trees : backTo cpos (starEach [e] X.env) = [(false, eval e X.env)]
structure M2 (X : Cx) (o : Expr) (m : Str) (apos : Pos) (e f : Expr) (cpos : Pos) : Prop where
  base : attributeBase o m X.env (eval o X.env) = eval o X.env
  few : ((backTo cpos (starEach [e, f] X.env)).all (fun x => !x.1) && (backToKw cpos (keywordEach [] X.env)).all (fun x => x.1.isSome)
    && decide (([e, f] : List Expr).length + ([] : List Keyword).length + (if ([] : List Keyword).isEmpty then 0 else 1) < 30)) = true
  line : (apos.endLine == cpos.line) = true
  trees : backTo cpos (starEach [e, f] X.env) = [(false, eval e X.env), (false, eval f X.env)]
def IsD (H : Hp) (a : Addr) : Prop := (∃ kvs, Rd H a (.dK kvs)) ∨ ∃ kvs, Rd H a (.dT kvs)
section
variable {X : Cx} {pins : List (Addr × Obj)} {σ : St} {H : Hp} {s : Shared} {a : Addr} {y d : V} {u r : Value} {o : Option V} {A : Around} {E : Value → Shared → Prop}
end
def tDGet1 (td ty : TE) : TE := fun σ H Q => td σ H fun x H1 => ∃ a, x = .ref a ∧ IsD H1 a ∧ ty σ H1 fun y H2 => ∃ o, DGet H2 a y o ∧ Q (o.getD .non) H2
def tDGet2 (td ty tx : TE) : TE := fun σ H Q => td σ H fun x H1 => ∃ a, x = .ref a ∧ IsD H1 a ∧ ty σ H1 fun y H2 => tx σ H2 fun z H3 => ∃ o, DGet H3 a y o ∧ Q (o.getD z) H3
def tDPop1 (td ty : TE) : TE := fun σ H Q => td σ H fun x H1 => ∃ a, x = .ref a ∧ IsD H1 a ∧ ty σ H1 fun y H2 => ∃ kvs k v, H2 a = some (.dK kvs) ∧ y = kV k ∧ valV kvs k = some v ∧ Q v (upd H2 a (.dK (dropK kvs k)))
def tDPop2 (td ty tx : TE) : TE := fun σ H Q => td σ H fun x H1 => ∃ a, x = .ref a ∧ IsD H1 a ∧ ty σ H1 fun y H2 => tx σ H2 fun z H3 => ∃ kvs k, H3 a = some (.dK kvs) ∧ y = kV k ∧
  (∀ v, valV kvs k = some v → Q v (upd H3 a (.dK (dropK kvs k)))) ∧ (valV kvs k = none → Q z H3)
section
variable {X : Cx} {o e f : Expr} {apos cpos : Pos} {td ty tx : TE}
end
end L2
namespace L2
open PySem PySem.Spec PyProof.Rows
def isTx (z : Str) : Value → Bool
  | .str y _ => y == z
  | _ => false
theorem texts_at : ∀ {zs : List Str} {us : List Value}, Vals (zs.map V.str) us → ∀ {j : Nat} {u : Value}, us[j]? = some u → ∃ y t, zs[j]? = some y ∧ u = .str y t
  | [], _, .nil, _, _, e => by simp at e
  | y :: zs, _, .cons r _, 0, u, e => by
    simp at e
    subst e
    obtain ⟨t, rfl⟩ := r
    exact ⟨y, t, rfl, rfl⟩
  | y :: zs, _, .cons _ t, j + 1, u, e => by
    obtain ⟨y', t', h1, h2⟩ := texts_at t (j := j) (u := u) (by simpa using e)
    exact ⟨y', t', by simpa using h1, h2⟩
section
variable {X : Cx}
theorem mt_index : MtM X "list.index" (fun x vs H Q => ∃ (l : Addr) (zs : List Str) (z : Str) (j : Nat), x = .ref l ∧ vs = [.str z] ∧ H l = some (.lst (zs.map V.str)) ∧ zs[j]? = some z ∧ (∀ m, m < j → zs[m]? ≠ some z) ∧ Q (.int j) H) := by
  intro pins s σ H x vs v us Q I rx rv h
  obtain ⟨l, zs, z, j, rfl, rfl, hH, hj, hno, q⟩ := h
  cases rx
  obtain ⟨u, rfl, t, rfl⟩ := rv.one
  obtain ⟨hz, its, n, r, hl, e⟩ := I.lstM hH
  have hs : sizeLine = 16777216 := sizeLine_eq
  have hjl : j < zs.length := (List.getElem?_eq_some_iff.mp hj).1
  have hlen : its.length = zs.length := by rw [← r.length, List.length_map]
  have hj' : j < its.toArray.size := by rw [List.size_toArray]; omega
  have at_ : ∀ m (hm : m < its.toArray.size), ∃ y t, zs[m]? = some y ∧ its.toArray[m] = .str y t := fun m hm => by
    rw [List.size_toArray] at hm
    obtain ⟨y, t, h1, h2⟩ := texts_at r (j := m) (u := its[m]) (List.getElem?_eq_getElem hm)
    exact ⟨y, t, h1, by simpa using h2⟩
  rw [List.length_map] at hz
  refine call_meets F.slot_list_index ⟨_, e, rfl⟩ F.entry_list_index (F.args_list_index_2 _ _) (MeetsSeq.list_index l its.toArray n (.str z t) (isTx z) (fun y hy => ?_) j hj' (by omega) ?_ fun m hm hlt => ?_) ⟨e, .int j, H, I.tok _, ⟨_, rfl⟩, q⟩
  · obtain ⟨m, hm, rfl⟩ := Array.mem_iff_getElem.mp hy
    obtain ⟨y, t', _, h2⟩ := at_ m hm
    rw [h2]
    exact eqGives_str y z t' t
  · obtain ⟨y, t', h1, h2⟩ := at_ j hj'
    rw [h2]
    rw [hj] at h1
    cases h1
    show (z == z) = true
    simp
  · obtain ⟨y, t', h1, h2⟩ := at_ m hm
    rw [h2]
    have := hno m hlt
    show (y == z) = false
    rw [h1] at this
    simpa using this
end
end L2
namespace L2
open PySem PySem.Spec PyProof.Rows
def EntOk (w : World) (kv : Key × V) (e : DictEntry) : Prop := keyIs kv.1 e.key = true ∧ e.hash = keyH w kv.1 ∧ RelV kv.2 e.val
def DicO (w : World) (o : Obj) (kvs : List (Key × V)) : Prop := o.ExactDict ∧ ∃ es ep, o.data = .dict es ep ∧ Paired (EntOk w) kvs es.toList ∧ (kvs.map (·.1)).Nodup
def KDic (w : World) (K : PySem.W.Frag) (a : Addr) (kvs : List (Key × V)) : Prop := ∃ ob, K.lookup a = some ob ∧ DicO w ob kvs ∧ (a == sysModules) = false
theorem ent_all {P : Program} {w : World} : ∀ {kvs : List (Key × V)} {es : List DictEntry}, Paired (EntOk w) kvs es → ∃ vs : List (Key × Value), KV kvs vs ∧ Pairs (mixKind P w) es vs ∧ vs.map (·.1) = kvs.map (·.1) ∧ ∀ e ∈ es, ∃ k, (mixKind P w).is k e.key = true ∧ e.hash = (mixKind P w).hash k
  | _, _, .nil => ⟨[], .nil, .nil, rfl, fun _ h => nomatch h⟩
  | (kv :: _), (e :: _), .cons r t => by
    obtain ⟨vs, h1, h2, h3, h4⟩ := ent_all (P := P) t
    obtain ⟨q1, q2, q3⟩ := r
    refine ⟨(kv.1, e.val) :: vs, .cons ⟨rfl, q3⟩ h1, .cons q1 rfl h2, by rw [List.map_cons, List.map_cons, h3], fun x hx => ?_⟩
    rcases List.mem_cons.mp hx with z | z
    · rw [z]; exact ⟨kv.1, q1, q2⟩
    · exact h4 x z
section
variable {X : Cx} {pins : List (Addr × Obj)} {σ : St} {H : Hp} {s : Shared} {a : Addr} {kvs : List (Key × V)}
theorem KDic.at (I : Inv X pins σ H s) (d : KDic X.w X.K a kvs) : ∃ vs, KV kvs vs ∧ s.heap.DictOf (mixKind X.prog X.w) a vs ∧ ∃ ob, s.heap.get? a = some ob ∧ ob.dict = none := by
  obtain ⟨ob, hk, ⟨hx, es, ep, hd, hp, hn⟩, _⟩ := d
  obtain ⟨vs, h1, h2, h3, h4⟩ := ent_all (P := X.prog) hp
  refine ⟨vs, h1, ⟨ob, es, ep, I.kIn a ob hk, hx, hd, fun e he => h4 e (Array.mem_def.mp he), h2, by rw [h3]; exact hn⟩, ob, I.kIn a ob hk, hx.2.1⟩
end
def GDic (w : World) (K : PySem.W.Frag) (mg : Str → Option Value) (x : Str) (kvs : List (Key × V)) : Prop := ∃ a, mg x = some (.ref a) ∧ KDic w K a kvs
def tGD (w : World) (K : PySem.W.Frag) (kvs : List (Key × V)) : TE := fun _ H Q => ∀ a, KDic w K a kvs → Q (.ref a) H
theorem pe_gdic {X : Cx} {x : Str} {kvs : List (Key × V)} {pos : Pos} (hm : GDic X.w X.K X.mg x kvs) (hg : Gl X x := by rfl) (hd : (x == ("__debug__" : Str)) = false := by decide) : PE X (.Name x pos) (tGD X.w X.K kvs) := by
  obtain ⟨a, h, k⟩ := hm
  intro pins s σ H Q I q
  exact ld_glob I hg h ⟨.ref a, H, I, rfl, q a k⟩ hd
def GDit (w : World) (K : PySem.W.Frag) (mg : Str → Option Value) (x : Str) (kts : List (Key × List V)) : Prop := ∃ kvs, GDic w K mg x kvs ∧ Paired (fun (kv : Key × V) (kt : Key × List V) => kv.1 = kt.1 ∧ ∃ a, kv.2 = .ref a ∧ ∀ H, SqT K H a kt.2) kvs kts
def tGT2 (w : World) (K : PySem.W.Frag) (kts : List (Key × List V)) : TE := fun _ H Q => ∀ a kvs, KDic w K a kvs → Paired (fun (kv : Key × V) (kt : Key × List V) => kv.1 = kt.1 ∧ ∃ a, kv.2 = .ref a ∧ ∀ H, SqT K H a kt.2) kvs kts → Q (.ref a) H
theorem pe_gdit {X : Cx} {x : Str} {kts : List (Key × List V)} {pos : Pos} (hm : GDit X.w X.K X.mg x kts) (hg : Gl X x := by rfl) (hd : (x == ("__debug__" : Str)) = false := by decide) : PE X (.Name x pos) (tGT2 X.w X.K kts) := by
  obtain ⟨kvs, ⟨a, h, k⟩, p⟩ := hm
  intro pins s σ H Q I q
  exact ld_glob I hg h ⟨.ref a, H, I, rfl, q a kvs k p⟩ hd
section
variable {X : Cx} {o i e f : Expr} {pos apos cpos : Pos} {td ty te tf : TE}
def tKGet (w : World) (K : PySem.W.Frag) (td ty : TE) : TE := fun σ H Q => td σ H fun x H1 => ty σ H1 fun y H2 => ∃ a kvs k v, x = .ref a ∧ KDic w K a kvs ∧ y = kV k ∧ valV kvs k = some v ∧ Q v H2
def tKGet2 (w : World) (K : PySem.W.Frag) (td ty tx : TE) : TE := fun σ H Q => td σ H fun x H1 => ∃ a kvs, x = .ref a ∧ KDic w K a kvs ∧ ty σ H1 fun y H2 => tx σ H2 fun z H3 => ∃ k, y = kV k ∧ Q ((valV kvs k).getD z) H3
theorem pe_kget2 (ho : PE X o td) (he : PE X e te) (hf : PE X f tf) (m : M2 X o "get" apos e f cpos) : PE X (.Call (.Attribute o "get" apos) [e, f] [] cpos) (tKGet2 X.w X.K td te tf) := by
  intro pins s σ H Q I h
  refine wpAny_Call_method m.base m.few m.line PySem.F.plainAttrs_dict PySem.F.slot_dict_get PySem.F.type_dict_get (thn (ho pins s σ H _ I h) fun u s1 ⟨x, H1, I1, rx, a, kvs, ex, d, q1⟩ => ?_)
  subst ex
  obtain rfl : u = Value.ref a := rx
  obtain ⟨_, _, dd, ob, hob, hno⟩ := d.at I1
  refine ⟨dd.typeIs, fun b q => by cases q; exact ⟨ob, hob, hno⟩, ?_⟩
  rw [m.trees]
  refine Calls.callWith_builtin rfl (Calls.evalArgs_plain (Calls.spliced_cons (thn (he pins s1 σ H1 _ I1 q1) fun iv s2 ⟨y, H2, I2, ry, q2⟩ =>
    Calls.spliced_cons (thn (hf pins s2 σ H2 _ I2 q2) fun fv s3 ⟨z, H3, I3, rz, k, ey, q3⟩ => Calls.spliced_nil ?_))))
  subst ey
  obtain ⟨vs3, rel3, dd3, _⟩ := d.at I3
  refine call_meetsIn PySem.F.slot_dict_get dd3.typeIs PySem.F.entry_dict_get (PySem.F.args_dict_get_3 _ _ _) (meets_dict_get_default (mixKind X.prog X.w) a (kV_is ry) d.choose_spec.2.2 fv) ⟨_, dd3.mapOf, ?_⟩
  exact ⟨_, H3, I3.tok _, (rel3.val k).getD rz, q3⟩
def rIns1 : V → List V → Hp → VK → Prop := fun x vs H Q => ∃ l x0 xs y, x = .ref l ∧ vs = [.int 1, y] ∧ H l = some (.lst (x0 :: xs)) ∧ xs.length + 2 ≤ sizeLine ∧ Q .non (upd H l (.lst (x0 :: y :: xs)))
end
end L2
namespace L2
open PySem PySem.Spec PyProof.Rows
section
variable {prog : Program} {w : World} {A : Around} {E : Value → Shared → Prop} {s : Shared}
end
abbrev zT1 (h : Heap) (l1 : Addr) : Heap := h.push { cls := .type "tuple_iterator", data := .fields #[.ref l1, .int 0 0] }
abbrev zT2 (h : Heap) (l1 l2 : Addr) : Heap := (zT1 h l1).push { cls := .type "list_iterator", data := .fields #[.ref l2, .int 0 0] }
abbrev zT3 (h : Heap) (l1 l2 : Addr) : Heap := (zT2 h l1 l2).push { cls := .type "tuple", data := .seq #[.ref h.objs.size, .ref (zT1 h l1).objs.size] }
abbrev zT4 (h : Heap) (l1 l2 : Addr) : Heap := (zT3 h l1 l2).push { cls := .type "tuple", data := .seq #[.none, .none] }
abbrev zT5 (h : Heap) (l1 l2 : Addr) : Heap := (zT4 h l1 l2).push { cls := .type "zip", data := .fields #[.none, .bool false, .bool false, .ref (zT2 h l1 l2).objs.size, .ref (zT3 h l1 l2).objs.size] }
section
variable {prog : Program} {w : World} {A : Around} {E : Value → Shared → Prop} {s : Shared}
end
section
variable {X : Cx} {pins : List (Addr × Obj)} {σ : St} {H : Hp} {s : Shared} {h' : Heap}
end
def Itz (K : PySem.W.Frag) (t l : Addr) : It :=
  ⟨fun i H => ∃ xs ys x y, SqT K H t xs ∧ SqL K H l ys ∧ xs[i]? = some x ∧ ys[i]? = some y,
   fun i H v H' => ∃ x y b, (∀ xs, SqT K H t xs → xs[i]? = some x) ∧ (∀ ys, SqL K H l ys → ys[i]? = some y) ∧ H b = none ∧ v = .ref b ∧ H' = upd H b (.tup [x, y]),
   fun i H => ∃ xs ys, SqT K H t xs ∧ SqL K H l ys ∧ (xs.length ≤ i ∨ ys.length ≤ i)⟩
section
variable {X : Cx}
def iZip (K : PySem.W.Frag) (ta : TA) : TI := fun σ H R => ta σ H fun vs H1 => ∃ t l, vs = [V.ref t, V.ref l] ∧ (∃ xs, SqT K H1 t xs) ∧ (∃ ys, SqL K H1 l ys) ∧ R (Itz K t l) H1
end
section
variable {X : Cx}
theorem call_maxL (hc : X.calm = true) : CallR X (.builtin "max") (fun xs H Q => ∃ (p : Addr) (ns : List Int), xs = [.ref p] ∧ SqL X.K H p (ns.map V.int) ∧ 0 < ns.length ∧ ∀ m ∈ ns, (∀ n ∈ ns, n ≤ m) → Q (.int m) H) := by
  intro pins s σ H xs us Q I r h
  obtain ⟨p, ns, rfl, hp, h0, q⟩ := h
  obtain ⟨u, rfl, ru⟩ := vals1 r
  cases ru
  obtain ⟨its, rv, pl, hz⟩ := I.list hp
  have hi := ints_of rv
  obtain ⟨xs, ex⟩ := hi.allInts.items
  have hn : (numsOf its.toArray.toList) = ns := by rw [show its.toArray.toList = its from rfl, hi.numsOf]
  have hl := pl.isList
  rw [ex] at hl hn
  rw [nums_intItems] at hn
  have hnl : ns.length = xs.size := by rw [← hn]; simp
  have hat : ∀ i, i < xs.size → ns[i]? = some (numAt xs i) := fun i hi => by
    rw [← hn]
    simp [numAt, hi]
  refine max_intList (I.ok.hd hc) hl (by omega) fun v h' tk hv kp => ?_
  obtain ⟨t, rfl⟩ := intItems_at hv
  obtain ⟨a1, a2⟩ := argBest_gt (numAt xs) (xs.size - 1)
  refine ⟨.int _, H, I.kept (t' := tk) kp, ⟨t, rfl⟩, q _ (List.mem_of_getElem? (hat _ (by omega))) fun n hn' => ?_⟩
  obtain ⟨j, hj, e⟩ := List.mem_iff_getElem.mp hn'
  have e2 := hat j (by omega)
  rw [List.getElem?_eq_getElem hj, e] at e2
  cases e2
  exact a2 j (by omega)
end
inductive TrEq (H : Hp) : Nat → V → V → Prop where
  | fl {n : Nat} {x : V} (h : flatV x = true) : TrEq H n x x
  | rf {n : Nat} {a : Addr} : TrEq H n (.ref a) (.ref a)
  | tp {n : Nat} {a b : Addr} {xs ys : List V} (h1 : H a = some (.tup xs)) (h2 : H b = some (.tup ys)) (hl : xs.length = ys.length)
      (hh : ∀ (j : Nat) (u v : V), xs[j]? = some u → ys[j]? = some v → TrEq H n u v) : TrEq H (n + 1) (.ref a) (.ref b)
theorem eqV_self {x : V} (h : flatV x = true) : eqV x x = true := by
  cases x <;> first | rfl | exact absurd (show false = true from h) Bool.false_ne_true | simp [eqV]
section
variable {X : Cx} {pins : List (Addr × Obj)} {σ : St} {H : Hp} {s : Shared}
theorem range_all {n : Nat} : (List.range n).all (fun _ => true) = true := by simp
theorem tr_items (I : Inv X pins σ H s) {n : Nat} {A : Around} {xs ys : List V} {us vs : List Value} (r1 : Vals xs us) (r2 : Vals ys vs)
    (ih : ∀ (j : Nat) (u v : V), xs[j]? = some u → ys[j]? = some v → ∀ u' v', RelV u u' → RelV v v' → SeqAt.EqAt A s u' v' true) :
    ∀ j (h1 : j < us.toArray.size) (h2 : j < vs.toArray.size), SeqAt.EqAt A s us.toArray[j] vs.toArray[j] ((fun _ => true) j) := by
  intro j h1 h2
  have l1 := r1.length
  have l2 := r2.length
  rw [List.size_toArray] at h1 h2
  have ex : xs[j]? = some (xs[j]'(by omega)) := List.getElem?_eq_getElem _
  have ey : ys[j]? = some (ys[j]'(by omega)) := List.getElem?_eq_getElem _
  obtain ⟨u, hu', ru⟩ := r1.get ex
  obtain ⟨v, hv', rv⟩ := r2.get ey
  have eu : us.toArray[j]'(by simpa using h1) = u := by
    rw [List.getElem?_eq_getElem h1] at hu'
    simpa using Option.some.inj hu'
  have ev : vs.toArray[j]'(by simpa using h2) = v := by
    rw [List.getElem?_eq_getElem h2] at hv'
    simpa using Option.some.inj hv'
  rw [eu, ev]
  exact ih j _ _ ex ey u v ru rv
theorem TrEq.at (I : Inv X pins σ H s) {n : Nat} {x y : V} (h : TrEq H n x y) : ∀ {A : Around} {u v : Value}, A.units + n < cLine → RelV x u → RelV y v → SeqAt.EqAt A s u v true := by
  induction h with
  | fl hf =>
    intro A u v _ rx ry
    have := eqAt_V (A := A) (s := s) rx ry hf hf
    rw [eqV_self hf] at this
    exact this
  | rf =>
    intro A u v _ rx ry
    cases rx
    cases ry
    exact SeqAt.EqAt.same _
  | @tp n a b xs ys h1 h2 hl hh ih =>
    intro A u v hu rx ry
    cases rx
    cases ry
    by_cases e : a = b
    · subst e; exact SeqAt.EqAt.same _
    obtain ⟨its, r1, p, _⟩ := I.tuple (SqT.of h1)
    obtain ⟨its2, r2, p2, _⟩ := I.tuple (SqT.of h2)
    have rc := SeqAt.RcAt.tuples (A := A) (s := s) (e := fun _ => true) (show s.heap.IsTuple a its.toArray from p) (show s.heap.IsTuple b its2.toArray from p2) (by omega)
      (tr_items I (n := n) r1 r2 fun j u v e1 e2 u' v' ru rv => ih j u v e1 e2 (A := A.in1) (show A.units + 1 + n < cLine by omega) ru rv)
    rw [List.size_toArray, List.size_toArray, ← r1.length, ← r2.length, range_all, hl] at rc
    exact SeqAt.EqAt.of_refs e (by simpa using rc)
theorem op_eqLt {k : Nat} (hu : X.A.units + k < cLine) : OpR X (compareOp .Eq) (fun x y H Q => ∃ a b xs ys n, x = .ref a ∧ y = .ref b ∧ SqL X.K H a xs ∧ SqL X.K H b ys ∧ xs.length = ys.length ∧ n < k ∧ (∀ (j : Nat) (u v : V), xs[j]? = some u → ys[j]? = some v → TrEq H n u v) ∧ Q (.bl true) H) := by
  intro pins s σ H x y v u Q I rx ry h
  obtain ⟨a, b, xs, ys, n, rfl, rfl, ha, hb, hl, hn, hx, q⟩ := h
  cases rx
  cases ry
  obtain ⟨its, r1, p1, _⟩ := I.list ha
  obtain ⟨its2, r2, p2, _⟩ := I.list hb
  refine SeqAt.eq_listAt (e := fun _ => true) p1.isList p2.isList (by rw [List.size_toArray, List.size_toArray, ← r1.length, ← r2.length, hl]) (by omega) (tr_items I (n := n) r1 r2 fun j u v e1 e2 u' v' ru rv => (hx j u v e1 e2).at I (A := X.A.in1) (show X.A.units + 1 + n < cLine by omega) ru rv) ⟨.bl true, H, I, ?_, q⟩
  rw [List.size_toArray, range_all]
  rfl
end
end L2
namespace L2
open PySem PySem.Spec PyProof.Rows
section
variable {prog : Program} {w : World} {A : Around} {E : Value → Shared → Prop} {s : Shared}
theorem lri_len : typeLookup (.type "list_reverseiterator") "__len__" = pure none := by rw [typeLookup_type, builtinLookup_eq_fast]; kernel_rfl
theorem lri_hint : typeLookup (.type "list_reverseiterator") "__length_hint__" = pure (some (.builtin "list_reverseiterator.__length_hint__")) := by rw [typeLookup_type, builtinLookup_eq_fast]; kernel_rfl
theorem hint_rev {it l : Addr} {i : Int} {Q : Bool → Shared → Prop} (hit : s.heap.IsRevIter it l i) (h : Q false s) : wpAny (model prog w) A (Builtin.List.listLengthHint (.ref it)) Q E s := by
  unfold Builtin.List.listLengthHint
  refine wpAny_bind (wpAny_specialOf hit.typeIs lri_len ?_)
  wp_delta
  refine wpAny_ite_split (fun hab => absurd hab (by decide +kernel)) (fun _ => ?_)
  refine wpAny_ite_split (fun hab => absurd hab (by decide)) (fun _ => ?_)
  refine wpAny_bind (wpAny_specialOf hit.typeIs lri_hint ?_)
  generalize hid : ("list_reverseiterator.__length_hint__" : String) = id0
  wp_delta
  rw [show splitId id0 = some ("list_reverseiterator", "__length_hint__") from by subst hid; decide +kernel]
  subst hid
  refine wpAny_bind (wpAny_isInstance (T := "list_reverseiterator") (b := true) hit.typeIs (by rw [isSubtype_type]; kernel_rfl) ?_)
  refine wpAny_ite_split (fun hab => absurd hab (by decide)) (fun _ => ?_)
  refine wpAny_ite_split (fun _ => ?_) (fun hab => absurd (by decide +kernel) hab)
  refine wpAny_ite_split (fun hab => absurd hab (by decide +kernel)) (fun _ => ?_)
  exact wpAny_pure h
end
end L2
namespace L2
open PySem PySem.Spec PyProof.Rows
section
variable {prog : Program} {w : World} {A : Around} {E : Value → Shared → Prop} {s : Shared}
theorem extend_rev {R : Result → Shared → Prop} {it l : Addr} {items : Array Value} (hh : A.handled = none) (hit : s.heap.IsRevIter it l ((items.size : Int) - 1)) (hl : s.heap.IsList l items) (hne : l ≠ it) (hn : items.size ≤ sizeLine)
    (S : Addr) (hSi : S ≠ it) (hSl : S ≠ l) (res : Value) (c₀ : Nat) (hS : s.heap.get? S = some { cls := .type "list", data := .seq #[] c₀ })
    (hR : ∀ h' tk acc' c', (∀ b o, b ≠ S → b ≠ it → s.heap.get? b = some o → h'.get? b = some o) → h'.get? S = some { cls := .type "list", dict := none, data := .seq acc' c', slots := #[] } →
      ItemsOf (fun i v => items[items.size - 1 - i]? = some v) acc' items.size → R (.ok (.ret res)) { s with heap := h', toks := tk }) :
    wpAny (model prog w) A.in1 (Builtin.List.listExtendWith (.ref S) (.ref it) res)
      (fun fin s' => match fin with | .done f => R (.ok f) s' | .again c' => c'.quiet = true ∧ codeAny (model prog w) A c' R s') (fun e s' => R (.error e) s') s := by
  have hSf : S ∉ [it, l] := fun hm => by
    rcases List.mem_cons.mp hm with e | hm
    · exact hSi e
    · exact hSl (List.mem_singleton.mp hm)
  have W := (Walks.listRev (prog := prog) (w := w) (A := A.in1) hh it l hne items).toS
  unfold Builtin.List.listExtendWith
  refine wpAny_bind (wpAny_typeOf (T := "list_reverseiterator") hit.typeIs ?_)
  have h1 : Builtin.List.listSameRef (.ref S) (.ref it) = false := by simp [Builtin.List.listSameRef, hSi]
  have h2 : (Value.type "list_reverseiterator" == Value.type "list") = false := by decide
  have h3 : (Value.type "list_reverseiterator" == Value.type "tuple") = false := by decide
  simp only [h1, h2, h3, Bool.or_false, Bool.false_eq_true, if_false]
  refine wpAny_bind (wpAny_pyIter_revIter hit ?_)
  refine wpAny_bind (wpAny_holding (hint_rev hit ?_))
  rw [if_neg (by decide +kernel)]
  have e0 : (items.size : Int) - 1 - ((0 : Nat) : Int) = (items.size : Int) - 1 := by omega
  refine wpAny_pure ⟨plainId_quiet F.plain_extend_loop _, codeAny_extend_loopS W hn S hSf res items.size 0 s #[] c₀ rfl (Nat.zero_le _) ⟨Nat.zero_le _, by rw [e0]; exact hit, hl⟩ hS (ItemsOf.nil _) fun s' acc' c' hm hS' hacc => ?_⟩
  rw [Moved.eq_with hm]
  refine hR s'.heap s'.toks acc' c' (fun b o hb hb2 e => hm.heap b o (fun hmem => ?_) e) hS' hacc
  rcases List.mem_cons.mp hmem with e' | hmem
  · exact hb e'
  · exact hb2 (List.mem_singleton.mp hmem)
theorem list_init_rev {R : Result → Shared → Prop} {it l : Addr} {items : Array Value} (hh : A.handled = none) (hit : s.heap.IsRevIter it l ((items.size : Int) - 1)) (hl : s.heap.IsList l items) (hne : l ≠ it) (hn : items.size ≤ sizeLine)
    (S : Addr) (hSi : S ≠ it) (hSl : S ≠ l) (hS : s.heap.get? S = some { cls := .type "list", data := .seq #[] })
    (hR : ∀ h' tk acc' c', (∀ b o, b ≠ S → b ≠ it → s.heap.get? b = some o → h'.get? b = some o) → h'.get? S = some { cls := .type "list", dict := none, data := .seq acc' c', slots := #[] } →
      ItemsOf (fun i v => items[items.size - 1 - i]? = some v) acc' items.size → R (.ok (.ret .none)) { s with heap := h', toks := tk }) :
    wpAny (model prog w) A.in1 (Builtin.«list.__init__» ⟨[.ref S, .ref it], []⟩)
      (fun fin s' => match fin with | .done f => R (.ok f) s' | .again c' => c'.quiet = true ∧ codeAny (model prog w) A c' R s') (fun e s' => R (.error e) s') s := by
  show wpAny _ _ (do let old ← Builtin.List.listItems (.ref S); Builtin.List.listUpdate (.ref S) (fun _ => #[]); letGo old.toList.reverse; Builtin.List.listExtendWith (.ref S) (.ref it) .none) _ _ s
  refine wpAny_bind ?_
  unfold Builtin.List.listItems
  refine wpAny_bind (wpAny_seqItems hS rfl (wpAny_pure ?_))
  show wpAny _ _ (updateSeq S (fun _ => #[]) >>= fun _ => letGo (#[] : Array Value).toList.reverse >>= fun _ => Builtin.List.listExtendWith (.ref S) (.ref it) .none) _ _ s
  refine wpAny_bind (wpAny_updateSeq hS rfl ?_)
  have hS₂ := Heap.get?_update_self (Obj.mapSeq (fun _ => (#[] : Array Value))) hS rfl
  have oth : ∀ b o, b ≠ S → s.heap.get? b = some o → (s.heap.update S (Obj.mapSeq (fun _ => (#[] : Array Value)))).get? b = some o :=
    fun b o hb e => (Heap.get?_update_other _ _ (Ne.symm hb)).trans e
  refine wpAny_bind (wpAny_letGo ?_)
  refine extend_rev hh (hit.at fun o e => oth _ o (Ne.symm hSi) e) (hl.at fun o e => oth _ o (Ne.symm hSl) e) hne hn S hSi hSl .none _ hS₂ fun h' tk acc' c' hk hS' hacc => ?_
  exact hR h' tk acc' c' (fun b o hb hb2 e => hk b o hb hb2 (oth b o hb e)) hS' hacc
theorem call_list_rev {Q : Value → Shared → Prop} {it l : Addr} {items : Array Value} (hh : A.handled = none) (hit : s.heap.IsRevIter it l ((items.size : Int) - 1)) (hl : s.heap.IsList l items) (hne : l ≠ it) (hn : items.size ≤ sizeLine)
    (hQ : ∀ h' tk acc' c', (∀ b o, b ≠ it → s.heap.get? b = some o → h'.get? b = some o) →
      h'.get? s.heap.objs.size = some { cls := .type "list", dict := none, data := .seq acc' c', slots := #[] } → ItemsOf (fun i v => items[items.size - 1 - i]? = some v) acc' items.size → Q (.ref s.heap.objs.size) { s with heap := h', toks := tk }) :
    wpAny (model prog w) A (call (.type "list") [.ref it]) Q E s := by
  refine callType_codes (Q₁ := fun obj s₁ => obj = .ref s.heap.objs.size ∧ s₁ = { s with heap := s.heap.push { cls := .type "list", data := .seq #[] } }) F.called_list (F.typeCall_list_1 _) F.entry_list_init
    (code_list_new _ ⟨rfl, rfl⟩) fun obj s₁ h₁ => ?_
  obtain ⟨rfl, rfl⟩ := h₁
  have hS : (s.heap.push { cls := .type "list", data := .seq #[] }).get? s.heap.objs.size = some { cls := .type "list", data := .seq #[] } := Heap.get?_push_size _ rfl
  have i1 : s.heap.objs.size ≠ it := by obtain ⟨o, q, _⟩ := hit; exact Nat.ne_of_gt (Heap.lt_size q)
  have i2 : s.heap.objs.size ≠ l := by obtain ⟨o, q, _⟩ := hl; exact Nat.ne_of_gt (Heap.lt_size q)
  refine ⟨⟨_, hS, rfl⟩, F.args_list_init_2 _ _, list_init_rev (A := A.in1) hh (hit.at fun o e => Heap.get?_push_of_some _ e) (hl.at fun o e => Heap.get?_push_of_some _ e) hne hn _ i1 i2 hS fun h' tk acc' c' hk hS' hacc => ?_⟩
  exact ⟨rfl, hQ h' tk acc' c' (fun b o hb e => hk b o (Nat.ne_of_lt (Heap.lt_size e)) hb (Heap.get?_push_of_some _ e)) hS' hacc⟩
end
end L2
namespace L2
open PySem PySem.Spec PyProof.Rows
theorem items_rev {its : List Value} {acc : Array Value} (h : ItemsOf (fun i v => its.toArray[its.toArray.size - 1 - i]? = some v) acc its.toArray.size) : acc = its.reverse.toArray := by
  obtain ⟨h1, h2⟩ := h
  apply Array.ext'
  rw [List.toList_toArray]
  apply List.ext_getElem?
  intro j
  have hz : acc.toList.length = its.length := by rw [Array.length_toList, h1, List.size_toArray]
  by_cases c : j < its.length
  · have hj : acc[j]? = some (acc[j]'(by rw [h1, List.size_toArray]; exact c)) := Array.getElem?_eq_getElem _
    have e := h2 j _ hj
    rw [List.getElem?_reverse c, Array.getElem?_toList, hj, ← e]
    simp
  · rw [List.getElem?_eq_none (by omega), List.getElem?_eq_none (by rw [List.length_reverse]; omega)]
section
variable {X : Cx}
def tLRev (K : PySem.W.Frag) (te : TE) : TE := fun σ H Q => te σ H fun x H1 => ∃ a xs, x = .ref a ∧ SqL K H1 a xs ∧ ∀ l, H1 l = none → Q (.ref l) (upd H1 l (.lst xs.reverse))
theorem bt_reversed : bootBuiltins "reversed" = some (.type "reversed") := by decide +kernel
theorem pe_listrev {e : Expr} {te : TE} {p p2 pos pos2 : Pos} (hc : X.calm = true) (hg : Gl X "list") (hm : X.mg "list" = none) (hv : bootBuiltins "list" = some (.type "list")) (hg2 : Gl X "reversed") (hm2 : X.mg "reversed" = none) (he : PE X e te)
    (hs : starEach [e] X.env = (false, eval e X.env) :: starEach [] X.env := by rfl) :
    PE X (.Call (.Name "list" p) [.Call (.Name "reversed" p2) [e] [] pos2] [] pos) (tLRev X.K te) := by
  intro pins s σ H Q I h
  refine wpAny_Call_Name_kw (ld_blt I hg hm hv ?_)
  refine PyProof.Rows.callWith_type1 ?_ rfl rfl
  show wpAny _ _ (spliced ((false, eval (.Call (.Name "reversed" p2) [e] [] pos2) X.env) :: backTo pos (starEach [] X.env))) _ _ s
  refine Calls.spliced_cons ?_
  refine wpAny_Call_Name_kw (ld_blt I hg2 hm2 bt_reversed ?_)
  refine PyProof.Rows.callWith_type1 ?_ hs rfl
  rw [hs]
  show wpAny _ _ (spliced ((false, eval e X.env) :: backTo pos2 (starEach [] X.env))) _ _ s
  refine Calls.spliced_cons (thn (he pins s σ H _ I h) fun u s1 ⟨x, H1, I1, r1, q1⟩ => Calls.spliced_nil ?_)
  obtain ⟨a, xs, rfl, hq, q⟩ := q1
  cases r1
  obtain ⟨its, rv, pl, hz⟩ := I1.list hq
  have hlen := rv.length
  have hl := pl.isList
  refine call_reversed_list hl (Calls.spliced_nil ?_)
  have la : a < s1.heap.objs.size := by obtain ⟨o, z, _⟩ := hl; exact Heap.lt_size z
  refine call_list_rev (items := its.toArray) (I.ok.hd hc) ⟨_, Heap.get?_push_size _ rfl, rfl, rfl⟩ (hl.at fun o z => Heap.get?_push_of_some _ z) (Nat.ne_of_lt la) (by rw [List.size_toArray]; omega) fun h' tk acc' c' hk hS' hacc => ?_
  have e := items_rev hacc
  subst e
  have hp : s1.heap.objs.size ≤ (s1.heap.push (revObj a ((its.toArray.size : Int) - 1))).objs.size := by rw [Heap.size_push]; exact Nat.le_succ _
  refine ⟨.ref _, _, I1.laid (t' := tk) (o := .lst xs.reverse) (fun b o z => hk b o (Nat.ne_of_lt (Heap.lt_size z)) (Heap.get?_push_of_some _ z)) hp ?_, rfl, q _ (I1.hok.fresh hp)⟩
  exact ⟨by rw [List.length_reverse]; exact hz, its.reverse, c', vals_rev rv, hS'⟩
end
end L2
namespace Mx
def dv (t b : Int) : Int := if b < 0 then -(Nat.gcd t.natAbs b.natAbs : Int) else (Nat.gcd t.natAbs b.natAbs : Int)
def lowT (t b : Int) : Int := t.fdiv (dv t b)
def lowB (t b : Int) : Int := b.fdiv (dv t b)
theorem dv_dvd_t (t b : Int) : dv t b ∣ t := by
  have h : ((Nat.gcd t.natAbs b.natAbs : Nat) : Int) ∣ t := Int.natAbs_dvd_natAbs.mp (by simpa using Nat.gcd_dvd_left t.natAbs b.natAbs)
  unfold dv; split
  · exact Int.neg_dvd.mpr h
  · exact h
theorem dv_dvd_b (t b : Int) : dv t b ∣ b := by
  have h : ((Nat.gcd t.natAbs b.natAbs : Nat) : Int) ∣ b := Int.natAbs_dvd_natAbs.mp (by simpa using Nat.gcd_dvd_right t.natAbs b.natAbs)
  unfold dv; split
  · exact Int.neg_dvd.mpr h
  · exact h
theorem fdiv_mul {t d : Int} (h : d ∣ t) : t.fdiv d * d = t := by
  obtain ⟨c, rfl⟩ := h
  by_cases hd : d = 0
  · subst hd; simp
  · rw [Int.mul_comm d c, Int.mul_fdiv_cancel _ hd]
theorem low_t (t b : Int) : lowT t b * dv t b = t := fdiv_mul (dv_dvd_t t b)
theorem low_b (t b : Int) : lowB t b * dv t b = b := fdiv_mul (dv_dvd_b t b)
structure Low (x y : Int) : Prop where
  pos : 0 < y
  cop : Nat.gcd x.natAbs y.natAbs = 1
theorem Low.dv {x y : Int} (h : Low x y) : Mx.dv x y = 1 := by
  have h1 := h.pos; have h2 := h.cop
  unfold Mx.dv; rw [if_neg (by omega), h2]; rfl
theorem Low.t {x y : Int} (h : Low x y) : lowT x y = x := by have e := low_t x y; rw [h.dv] at e; omega
theorem Low.b {x y : Int} (h : Low x y) : lowB x y = y := by have e := low_b x y; rw [h.dv] at e; omega
theorem gcd_turn {m n : Nat} : Nat.gcd n (m % n) = Nat.gcd m n := by
  rw [Nat.gcd_comm m n, Nat.gcd_rec n m, Nat.gcd_comm]
end Mx
namespace Mx
section
variable {a b c d e f : Int}
theorem pos2 {x y : Int} (h : 0 < x) (g : 0 < y) : 0 < x * y := Int.mul_pos h g
end
end Mx
namespace Fs
open PySem L2 Mx
structure Df (K : PySem.W.Frag) (mg : Str → Option Value) (x : Str) (st : Stmt) (ps : List Str) (f : Addr) (fd : FuncData) : Prop where
  fn : Fun K x x st f fd
  gl : mg x = some (.ref f)
  b : Binds K fd ps []
theorem pe_cl {X : Cx} {k : Nat} {f : Addr} {fd : FuncData} {ps : List Str} {sp : Sp} {x : Str} {st : Stmt} {e : Expr} {es : List Expr} {t : TA} {p pos : Pos} (D : Df X.K X.mg x st ps f fd) (F : FnOk X.prog X.w X.K X.mg X.base CX0 k f fd ps sp) (hr : Room k X.A)
    (ha : PA X (e :: es) t) (hg : Gl X x := by rfl) (hdb : (x == ("__debug__" : Str)) = false := by decide) (he : starEach (e :: es) X.env = (false, eval e X.env) :: starEach es X.env := by rfl) (hpl : (backTo pos (starEach es X.env)).any (·.1) = false := by rfl) :
    PE X (.Call (.Name x p) (e :: es) [] pos) (tCall sp [] E0 t) := pe_call F hr hg D.gl D.fn.kp D.b .nil pass0 ha hdb he hpl
theorem boot_abs : bootBuiltins "abs" = some (.builtin "abs") := by decide +kernel
def KeepX (p : Addr) (H H' : Hp) : Prop := ∀ b o, b ≠ p → H b = some o → H' b = some o
theorem KeepX.refl (p : Addr) (H : Hp) : KeepX p H H := fun _ _ _ e => e
theorem KeepX.trans {p : Addr} {H H1 H2 : Hp} (a : KeepX p H H1) (b : KeepX p H1 H2) : KeepX p H H2 := fun c o hc e => b c o hc (a c o hc e)
theorem KeepX.upd {p : Addr} {H : Hp} {o : HO} : KeepX p H (upd H p o) := fun b u hb e => by rw [upd_ne hb]; exact e
theorem Same.keep {p : Addr} {H H' : Hp} (h : Same H H') : KeepX p H H' := fun b o _ e => h b o e
theorem Same.new {H : Hp} {p : Addr} {o : HO} (h : H p = none) : Same H (upd H p o) := fun b u e => by rw [upd_ne (ne_of_none e h)]; exact e
def PenAt (H : Hp) (p : Addr) (k : Nat) : Prop := ∃ a b c : Int, H p = some (.lst [.int a, .int b, .int c]) ∧ 0 ≤ c ∧ c ≤ k
theorem PenAt.same {H H' : Hp} {p : Addr} {k : Nat} (h : PenAt H p k) (s : Same H H') : PenAt H' p k := let ⟨a, b, c, e, r⟩ := h; ⟨a, b, c, s _ _ e, r⟩
theorem PenAt.mono {H : Hp} {p : Addr} {k m : Nat} (h : PenAt H p k) (s : k ≤ m) : PenAt H p m := let ⟨a, b, c, e, r, q⟩ := h; ⟨a, b, c, e, r, by omega⟩
def lastN : St → Nat
  | [_, _, _, some (V.int n)] => n.toNat
  | [_, _, _, some (V.int n), _] => n.toNat
  | _ => 0
theorem abs_if (i : Int) : (if i < 0 then -i else i) = (i.natAbs : Int) := by split <;> omega
theorem sz64 {x : Int} (h1 : -18446744073709551616 < x) (h2 : x < 18446744073709551616) : Sz 64 x := by unfold Sz; omega
theorem sz4000 {x : Int} (h1 : -18446744073709551616 < x) (h2 : x < 18446744073709551616) : Sz 4000 x := (sz64 h1 h2).mono (by decide)
theorem two_le : 2 ≤ sizeLine := by decide
theorem three_le : 3 ≤ sizeLine := by decide
structure NumAt (H : Hp) (p : Addr) (x y : Int) (n : Nat) : Prop where
  ob : H p = some (.tup [.int x, .int y])
  low : Low x y
  sx : Sz n x
  sy : Sz n y
theorem NumAt.same {H H' : Hp} {p : Addr} {x y : Int} {n : Nat} (h : NumAt H p x y n) (s : Same H H') : NumAt H' p x y n := ⟨s _ _ h.ob, h.low, h.sx, h.sy⟩
theorem NumAt.mono {H : Hp} {p : Addr} {x y : Int} {n m : Nat} (h : NumAt H p x y n) (s : n ≤ m) : NumAt H p x y m := ⟨h.ob, h.low, h.sx.mono s, h.sy.mono s⟩
theorem NumAt.keep {H H' : Hp} {p q : Addr} {x y : Int} {n : Nat} (h : NumAt H p x y n) (s : KeepX q H H') (hq : p ≠ q) : NumAt H' p x y n := ⟨s _ _ hq h.ob, h.low, h.sx, h.sy⟩
def spGd : Sp := fun vs H Q _ => ∃ a b : Int, vs = [.int a, .int b] ∧ Q (.int (Nat.gcd a.natAbs b.natAbs : Nat)) H
def spLow : Sp := fun vs H Q _ => ∃ t b : Int, vs = [.int t, .int b] ∧ b ≠ 0 ∧ Sz 4000 b ∧ ∀ p, H p = none → Q (.ref p) (upd H p (.tup [.int (lowT t b), .int (lowB t b)]))
def spTake : Sp := fun vs H Q _ => ∃ (p : Addr) (m : Int) (k : Nat), vs = [.ref p, .int m] ∧ 0 < m ∧ Sz 4000 m ∧ PenAt H p k ∧ k ≤ 100000 ∧ ∀ (r : Int) (H' : Hp), 0 ≤ r → r < m → PenAt H' p (k + 1) → KeepX p H H' → Q (.int r) H'
def spPen (K : PySem.W.Frag) : Sp := fun vs H Q _ => ∃ (a : Addr) (ns : List Int) (k : Int), vs = [.ref a, .int k] ∧ SqL K H a (ns.map V.int) ∧ 0 ≤ k ∧ k ≤ 1000 ∧ ∀ (p : Addr) (H' : Hp), H p = none → PenAt H' p 0 → Same H H' → Q (.ref p) H'
def sp2 (f g : Int → Int → Int → Int → Int) (e : Nat → Nat → Nat) (C : Int → Int → Int → Int → Prop) : Sp := fun vs H Q _ => ∃ (p q : Addr) (a b c d : Int) (m n : Nat), vs = [.ref p, .ref q] ∧ NumAt H p a b m ∧ NumAt H q c d n ∧ m + n ≤ 3000 ∧ C a b c d ∧
  ∀ (r : Addr) (H' : Hp), Same H H' → NumAt H' r (lowT (f a b c d) (g a b c d)) (lowB (f a b c d) (g a b c d)) (e m n) → Q (.ref r) H'
abbrev eMN (m n : Nat) : Nat := m + n + 1
abbrev spSum : Sp := sp2 (fun a b c d => a * d + c * b) (fun _ b _ d => b * d) eMN (fun _ _ _ _ => True)
abbrev spDif : Sp := sp2 (fun a b c d => a * d - c * b) (fun _ b _ d => b * d) eMN (fun _ _ _ _ => True)
abbrev spPro : Sp := sp2 (fun a _ c _ => a * c) (fun _ b _ d => b * d) eMN (fun _ _ _ _ => True)
abbrev spQuo : Sp := sp2 (fun a _ _ d => a * d) (fun _ b c _ => b * c) eMN (fun _ _ c _ => c ≠ 0)
def spLess : Sp := fun vs H Q _ => ∃ (p q : Addr) (a b c d : Int) (m n : Nat), vs = [.ref p, .ref q] ∧ NumAt H p a b m ∧ NumAt H q c d n ∧ m + n ≤ 3000 ∧ Q (.bl (decide (a * d < c * b))) H
def spRight (K : PySem.W.Frag) (C : Addr) : Sp := fun vs H Q _ => ∃ a : Addr, vs = [.ref a] ∧ H a = some (excO a (.ref C)) ∧ ∀ H', Same H H' → Q (.bl true) H'
def spWhole : Sp := fun vs H Q _ => ∃ i : Int, vs = [.int i] ∧ Q (.bl true) H
def spIsNum : Sp := fun vs H Q _ => ∃ (p : Addr) (x y : Int) (n : Nat), vs = [.ref p] ∧ NumAt H p x y n ∧ n ≤ 4000 ∧ ∀ H', Same H H' → Q (.bl true) H'
def spFar : Sp := fun vs H Q _ => ∃ (p : Addr) (k : Nat), vs = [.ref p] ∧ PenAt H p k ∧ k ≤ 90000 ∧ ∀ (r : Int) (H' : Hp), Sz 250 r → PenAt H' p (k + 5) → KeepX p H H' → Q (.int r) H'
def spLaw (K : PySem.W.Frag) : Sp := fun vs H Q _ => ∃ (a : Addr) (ns : List Int), vs = [.ref a] ∧ SqL K H a (ns.map V.int) ∧ ns.length ≤ 63 ∧ ∀ H', Q (.bl true) H'
theorem rtv {Q : VK} {v w : V} {H : Hp} (e : v = w) (q : Q w H) : Q v H := by rw [e]; exact q
theorem boot_isinstance : bootBuiltins "isinstance" = some (.builtin "isinstance") := by decide +kernel
theorem boot_max : bootBuiltins "max" = some (.builtin "max") := by decide +kernel
theorem boot_min : bootBuiltins "min" = some (.builtin "min") := by decide +kernel
theorem boot_int : bootBuiltins "int" = some (.type "int") := by decide +kernel
theorem boot_bool : bootBuiltins "bool" = some (.type "bool") := by decide +kernel
theorem boot_str : bootBuiltins "str" = some (.type "str") := by decide +kernel
theorem boot_list : bootBuiltins "list" = some (.type "list") := by decide +kernel
theorem boot_tuple : bootBuiltins "tuple" = some (.type "tuple") := by decide +kernel
theorem pe_typ {X : Cx} {x : Str} {T : String} {pos : Pos} (hm : X.mg x = none) (hv : bootBuiltins x = some (.type T)) (hg : Gl X x := by rfl) (hn : x ≠ "__name__" := by decide) (hd : (x == ("__debug__" : Str)) = false := by decide) : PE X (.Name x pos) (tC (.ty T)) := pe_bltn hg hm hv rfl hn hd
theorem kit_tt (K : PySem.W.Frag) (t : Value) : PySem.W.kitOne K t t = some true := by unfold PySem.W.kitOne; simp
def GStr (mg : Str → Option Value) (x z : Str) : Prop := ∃ u, mg x = some u ∧ RelV (.str z) u
def GInt (mg : Str → Option Value) (x : Str) (i : Int) : Prop := ∃ u, mg x = some u ∧ RelV (.int i) u
theorem pe_gstr {X : Cx} {x z : Str} {pos : Pos} (hm : GStr X.mg x z) (hg : Gl X x := by rfl) (hd : (x == ("__debug__" : Str)) = false := by decide) : PE X (.Name x pos) (tC (.str z)) := by
  obtain ⟨u, h, r⟩ := hm
  exact pe_glob hg h r hd
theorem pe_gint {X : Cx} {x : Str} {i : Int} {pos : Pos} (hm : GInt X.mg x i) (hg : Gl X x := by rfl) (hd : (x == ("__debug__" : Str)) = false := by decide) : PE X (.Name x pos) (tC (.int i)) := by
  obtain ⟨u, h, r⟩ := hm
  exact pe_glob hg h r hd
def rInS : R2 := fun x y H Q => ∃ i j, x = .str i ∧ y = .str j ∧ Q (.bl (!(Builtin.Str.occurrences j i 0 j.length 1).isEmpty)) H
theorem op_inS {X : Cx} : OpR X (compareOp .In) rInS := op_in_str
theorem app_signs (a b : Str) : (a ++ b).cps.toList = a.cps.toList ++ b.cps.toList := by
  show (a.cps ++ b.cps).toList = _
  exact Array.toList_append
theorem str_ext {a b : Str} (h : a.cps.toList = b.cps.toList) : a = b := by
  obtain ⟨⟨a⟩⟩ := a
  obtain ⟨⟨b⟩⟩ := b
  simp only at h
  rw [h]
theorem len_signs (a : Str) : a.length = a.cps.toList.length := by simp [Str.length]
theorem len_app (a b : Str) : (a ++ b).length = a.length + b.length := strLen_append a b
theorem sl_lt {n : Nat} (h : n ≤ 1000) : n < sizeLine := small1000 h
theorem sl_le {n : Nat} (h : n ≤ 1000) : n ≤ sizeLine := Nat.le_of_lt (small1000 h)
theorem comp_signs {z : Str} (L : Str) {H : Hp} {D : Addr} (hz : z.length ≤ 1000) (hD : H D = none) :
    ∃ W : Nat → Nat → Hp → Prop, (∃ m, W 0 m (upd H D (.lst []))) ∧ ∀ i m H', W i m H' →
      ((Its z).stop i H' ∧ H' = upd H D (.lst ((z.cps.toList.map fun c => decide (c ∈ L.cps.toList)).map V.bl))) ∨ ((Its z).go i H' ∧ ∀ (js : List Nat) (σ : St) (x : V) (H2 : Hp), (Its z).yld i H' x H2 → tYes (some x :: frv js σ) H2 fun b H3 =>
        if b = true then tOp rInS (tVar 0) (tC (.str L)) (some x :: frv js σ) H3 fun v H4 => ∃ xs, H4 D = some (.lst xs) ∧ xs.length < sizeLine ∧ ∃ m', m' < m ∧ W (i + 1) m' (upd H4 D (.lst (xs ++ [v])))
        else ∃ m', m' < m ∧ W (i + 1) m' H3) := by
  have hs : z.cps.toList.length = z.cps.size := by simp
  have hl : z.length = z.cps.size := rfl
  refine ⟨fun i m H' => m = z.cps.size - i ∧ i ≤ z.cps.size ∧ H' = upd H D (.lst (((z.cps.toList.take i).map fun c => decide (c ∈ L.cps.toList)).map V.bl)), ⟨z.cps.size, by simp, Nat.zero_le _, by simp⟩, ?_⟩
  rintro i m H' ⟨rfl, hi, rfl⟩
  by_cases hlt : i < z.cps.size
  · refine .inr ⟨hlt, fun js σ x H2 y => ?_⟩
    obtain ⟨e, c, hc, e2⟩ := y
    subst e e2
    unfold tYes
    dsimp only
    rw [if_pos rfl]
    refine ⟨_, rfl, _, _, rfl, rfl, _, upd_same, ?_, _, ?_, rfl, hlt, ?_⟩
    · rw [List.length_map, List.length_map, List.length_take]; exact sl_lt (by omega)
    · show z.cps.size - (i + 1) < z.cps.size - i
      omega
    · rw [upd_upd]
      congr 2
      have ht : z.cps.toList.take (i + 1) = z.cps.toList.take i ++ [c] := by
        rw [List.take_succ, show z.cps.toList[i]? = some c by simpa using hc]
        rfl
      rw [ht, List.map_append, List.map_append, StrLaws.found_one]
      rfl
  · have e : i = z.cps.size := by omega
    subst e
    refine .inl ⟨rfl, ?_⟩
    have ht : z.cps.toList.take z.cps.size = z.cps.toList := List.take_of_length_le (by omega)
    rw [ht]
theorem all_signs {z L : Str} (h : ∀ c ∈ z.cps.toList, c ∈ L.cps.toList) : (z.cps.toList.map fun c => decide (c ∈ L.cps.toList)).all id = true := by
  rw [List.all_map, List.all_eq_true]
  intro c hc
  simpa using h c hc
structure Nm (z : Str) : Prop where
  lo : 1 ≤ z.length
  hi : z.length ≤ 6
  az : ∀ c ∈ z.cps.toList, 97 ≤ c ∧ c ≤ 122
def colL (c : Int) : Str := ⟨#[64 + c.toNat]⟩
def num (r : Int) : Str := Str.ofString (toString r)
def cellTx (z : Str) (r c : Int) : Str := ((z ++ Str.ofString "!") ++ colL c) ++ num r
structure Dg (z : Str) (n : Int) : Prop where
  lo : 1 ≤ z.length
  hi : z.length ≤ 640
  fig : ∀ c ∈ z.cps.toList, c ∈ (Str.ofString "0123456789").cps.toList
  rd : PySem.intText? z = some n
  c0 : ∃ c, z.cps.toList[0]? = some c ∧ (c ≠ 48 ∨ z = Str.ofString "0")
theorem tabRow : ∀ i, i < 16 → 1 ≤ (num ((i + 1 : Nat) : Int)).length ∧ (num ((i + 1 : Nat) : Int)).length ≤ 2 ∧ (∀ c ∈ (num ((i + 1 : Nat) : Int)).cps.toList, c ∈ (Str.ofString "0123456789").cps.toList) ∧
    PySem.intText? (num ((i + 1 : Nat) : Int)) = some ((i + 1 : Nat) : Int) ∧ ((num ((i + 1 : Nat) : Int)).cps.toList[0]?.getD 48) ≠ 48 := by decide +kernel
theorem tabCol : ∀ j, j < 8 → atI (Str.ofString "ABCDEFGHIJKLMNOPQRSTUVWXYZ").cps.toList (((j + 1 : Nat) : Int) - 1) = some (64 + (j + 1)) ∧ atI (Str.ofString "ABCDEFGH").cps.toList (((j + 1 : Nat) : Int) - 1) = some (64 + (j + 1)) ∧
    Txt.find (Str.ofString "ABCDEFGHIJKLMNOPQRSTUVWXYZ") ⟨#[64 + (j + 1)]⟩ = (j : Int) := by decide +kernel
theorem natOf {r : Int} {n : Nat} (h0 : 1 ≤ r) (h1 : r ≤ n) : ∃ i : Nat, i < n ∧ r = ((i + 1 : Nat) : Int) := ⟨(r - 1).toNat, by omega, by omega⟩
theorem num_dg {r : Int} (h0 : 1 ≤ r) (h1 : r ≤ 16) : Dg (num r) r ∧ (num r).length ≤ 2 := by
  obtain ⟨i, hi, rfl⟩ := natOf (n := 16) h0 h1
  obtain ⟨a, b, c, d, e⟩ := tabRow i hi
  refine ⟨⟨a, by omega, c, d, ?_⟩, b⟩
  cases q : (num ((i + 1 : Nat) : Int)).cps.toList[0]? with
  | none => rw [q] at e; exact absurd rfl e
  | some x => rw [q] at e; exact ⟨x, rfl, .inl e⟩
theorem col_at {c : Int} (h0 : 1 ≤ c) (h1 : c ≤ 8) : atI (Str.ofString "ABCDEFGHIJKLMNOPQRSTUVWXYZ").cps.toList (c - 1) = some (64 + c.toNat) ∧ atI (Str.ofString "ABCDEFGH").cps.toList (c - 1) = some (64 + c.toNat) ∧
    Txt.find (Str.ofString "ABCDEFGHIJKLMNOPQRSTUVWXYZ") ⟨#[64 + c.toNat]⟩ + 1 = c := by
  obtain ⟨j, hj, rfl⟩ := natOf (n := 8) h0 h1
  obtain ⟨a, b, d⟩ := tabCol j hj
  exact ⟨a, b, by rw [show ((j + 1 : Nat) : Int).toNat = j + 1 from rfl, d]; omega⟩
theorem az_low {z : Str} (h : Nm z) : ∀ c ∈ z.cps.toList, c ∈ (Str.ofString "abcdefghijklmnopqrstuvwxyz").cps.toList := by
  intro c hc
  have ⟨a, b⟩ := h.az c hc
  have tab : ∀ i, i < 26 → 97 + i ∈ (Str.ofString "abcdefghijklmnopqrstuvwxyz").cps.toList := by decide +kernel
  have := tab (c - 97) (by omega)
  rwa [show 97 + (c - 97) = c by omega] at this
structure PlAt (H : Hp) (p : Addr) (z : Str) (r c : Int) : Prop where
  ob : H p = some (.tup [.str z, .int r, .int c])
  nm : Nm z
  r0 : 1 ≤ r
  r1 : r ≤ 16
  c0 : 1 ≤ c
  c1 : c ≤ 8
theorem PlAt.same {H H' : Hp} {p : Addr} {z : Str} {r c : Int} (h : PlAt H p z r c) (s : Same H H') : PlAt H' p z r c := ⟨s _ _ h.ob, h.nm, h.r0, h.r1, h.c0, h.c1⟩
structure BkAt (H : Hp) (p : Addr) (z : Str) (r c r2 c2 : Int) : Prop where
  ob : H p = some (.tup [.str z, .int r, .int c, .int r2, .int c2])
  nm : Nm z
  r0 : 1 ≤ r
  r1 : r ≤ r2
  r16 : r2 ≤ 16
  c0 : 1 ≤ c
  c1 : c ≤ c2
  c8 : c2 ≤ 8
theorem BkAt.same {H H' : Hp} {p : Addr} {z : Str} {r c r2 c2 : Int} (h : BkAt H p z r c r2 c2) (s : Same H H') : BkAt H' p z r c r2 c2 := ⟨s _ _ h.ob, h.nm, h.r0, h.r1, h.r16, h.c0, h.c1, h.c8⟩
def CsAt (H : Hp) (l : Addr) (z : Str) (r c : Int) (w n : Nat) : Prop := ∃ vs : List V, H l = some (.lst vs) ∧ vs.length = n ∧ ∀ (k : Nat) (v : V), vs[k]? = some v → ∃ a : Addr, v = .ref a ∧ H a = some (.tup [.str z, .int (r + ((k / w : Nat) : Int)), .int (c + ((k % w : Nat) : Int))])
theorem CsAt.same {H H' : Hp} {l : Addr} {z : Str} {r c : Int} {w n : Nat} (h : CsAt H l z r c w n) (s : Same H H') : CsAt H' l z r c w n := by
  obtain ⟨vs, a, b, d⟩ := h
  exact ⟨vs, s _ _ a, b, fun k v e => let ⟨p, q, u⟩ := d k v e; ⟨p, q, s _ _ u⟩⟩
def spRdW : Sp := fun vs H Q _ => ∃ (z : Str) (m n : Int), vs = [.str z, .int m] ∧ Dg z n ∧ (z.length : Int) ≤ m ∧ ∀ H', Same H H' → Q (.int n) H'
def spShN : Sp := fun vs H Q _ => ∃ z : Str, vs = [.str z] ∧ Nm z ∧ ∀ H', Same H H' → Q (.bl true) H'
def spWith : Sp := fun vs H Q _ => ∃ i l : Int, vs = [.int i, .int l] ∧ 1 ≤ i ∧ i ≤ l ∧ Q (.bl true) H
def spIsC : Sp := fun vs H Q _ => ∃ (p : Addr) (z : Str) (r c : Int), vs = [.ref p] ∧ PlAt H p z r c ∧ ∀ H', Same H H' → Q (.bl true) H'
def spIsB : Sp := fun vs H Q _ => ∃ (p : Addr) (z : Str) (r c r2 c2 : Int), vs = [.ref p] ∧ BkAt H p z r c r2 c2 ∧ ∀ H', Same H H' → Q (.bl true) H'
def spCT : Sp := fun vs H Q _ => ∃ (p : Addr) (z : Str) (r c : Int), vs = [.ref p] ∧ PlAt H p z r c ∧ Q (.str (cellTx z r c)) H
def spRC : Sp := fun vs H Q _ => ∃ (z : Str) (r c : Int), vs = [.str (cellTx z r c)] ∧ Nm z ∧ 1 ≤ r ∧ r ≤ 16 ∧ 1 ≤ c ∧ c ≤ 8 ∧ ∀ (p : Addr) (H' : Hp), Same H H' → PlAt H' p z r c → Q (.ref p) H'
def spCs : Sp := fun vs H Q _ => ∃ (p : Addr) (z : Str) (r c r2 c2 : Int), vs = [.ref p] ∧ BkAt H p z r c r2 c2 ∧ ∀ (l : Addr) (H' : Hp), H l = none → Same H H' → CsAt H' l z r c (c2 - c + 1).toNat ((r2 - r + 1).toNat * (c2 - c + 1).toNat) → Q (.ref l) H'
def spSheet : Sp := fun vs H Q _ => ∃ (p : Addr) (k : Nat), vs = [.ref p] ∧ PenAt H p k ∧ k ≤ 90000 ∧ ∀ (z : Str) (H' : Hp), Nm z → PenAt H' p (k + 8) → KeepX p H H' → Q (.str z) H'
def spPlace : Sp := fun vs H Q _ => ∃ (p : Addr) (k : Nat), vs = [.ref p] ∧ PenAt H p k ∧ k ≤ 80000 ∧ ∀ (q : Addr) (z : Str) (r c : Int) (H' : Hp), PlAt H' q z r c → PenAt H' p (k + 10) → KeepX p H H' → Q (.ref q) H'
def spBlock : Sp := fun vs H Q _ => ∃ (p : Addr) (k : Nat), vs = [.ref p] ∧ PenAt H p k ∧ k ≤ 70000 ∧ ∀ (q : Addr) (z : Str) (r c r2 c2 : Int) (H' : Hp), BkAt H' q z r c r2 c2 → PenAt H' p (k + 12) → KeepX p H H' → Q (.ref q) H'
def spIsP : Sp := fun vs H Q _ => ∃ (p q : Addr) (z : Str) (r c : Int), vs = [.ref p, .ref q] ∧ H p = some (.tup [.str z, .int r, .int c]) ∧ H q = some (.tup [.str z, .int r, .int c]) ∧ Q (.bl true) H
def spBkR : Sp := fun vs H Q _ => ∃ (p : Addr) (z : Str) (r c r2 c2 : Int), vs = [.ref p] ∧ BkAt H p z r c r2 c2 ∧ ∀ H', Same H H' → Q (.bl true) H'
theorem CsAt.push {H : Hp} {l q : Addr} {z : Str} {r c r' c' : Int} {w n : Nat} {vs : List V} (h1 : H l = some (.lst vs)) (h2 : vs.length = n)
    (h3 : ∀ (k : Nat) (v : V), vs[k]? = some v → ∃ a : Addr, v = .ref a ∧ H a = some (.tup [.str z, .int (r + ((k / w : Nat) : Int)), .int (c + ((k % w : Nat) : Int))]))
    (hq : H q = none) (er : r' = r + ((n / w : Nat) : Int)) (ec : c' = c + ((n % w : Nat) : Int)) : CsAt (upd (upd H q (.tup [.str z, .int r', .int c'])) l (.lst (vs ++ [.ref q]))) l z r c w (n + 1) := by
  have nql : q ≠ l := fun e => by subst e; rw [hq] at h1; cases h1
  refine ⟨_, upd_same, by rw [List.length_append, h2]; rfl, fun k v e => ?_⟩
  by_cases hk : k < n
  · rw [List.getElem?_append_left (by omega)] at e
    obtain ⟨a, ea, ha⟩ := h3 k v e
    have n1 : a ≠ l := ne_of ha h1 (by intro z; cases z)
    have n2 : a ≠ q := ne_of_none ha hq
    exact ⟨a, ea, by rw [upd_ne n1, upd_ne n2]; exact ha⟩
  · rw [List.getElem?_append_right (by omega)] at e
    have hk2 : k - vs.length = 0 := by
      obtain ⟨hlt, _⟩ := List.getElem?_eq_some_iff.mp e
      simp at hlt
      omega
    rw [hk2] at e
    have e' : V.ref q = v := by simpa using e
    have hkn : k = n := by omega
    subst hkn
    exact ⟨q, e'.symm, by rw [upd_ne nql, upd_same, er, ec]⟩
theorem Same.step {H H3 : Hp} {l q : Addr} {o o' : HO} (s : Same H H3) (hl : H l = none) (hq : H3 q = none) : Same H (upd (upd H3 q o) l o') := fun b u e => by
  rw [upd_ne (ne_of_none e hl), upd_ne (ne_of_none (s _ _ e) hq)]
  exact s _ _ e
theorem join_signs {e : Str} (he : e.cps.toList = []) : ∀ ts : List Str, (Str.join e ts).cps.toList = ts.flatMap fun t => t.cps.toList
  | [] => rfl
  | [x] => by show x.cps.toList = _; simp
  | x :: y :: r => by
    have ih := join_signs he (y :: r)
    show (x ++ e ++ Str.join e (y :: r)).cps.toList = _
    rw [app_signs, app_signs, he, ih, List.append_nil]
    rfl
theorem one_signs {ts : List Str} (h : ∀ t ∈ ts, ∃ c, t = ⟨#[c]⟩ ∧ 97 ≤ c ∧ c ≤ 122) : (ts.flatMap fun t => t.cps.toList).length = ts.length ∧ ∀ c ∈ ts.flatMap (fun t => t.cps.toList), 97 ≤ c ∧ c ≤ 122 := by
  induction ts with
  | nil => exact ⟨rfl, fun c hc => by cases hc⟩
  | cons t r ih =>
    obtain ⟨i1, i2⟩ := ih fun x hx => h x (List.mem_cons_of_mem _ hx)
    obtain ⟨c, rfl, hc⟩ := h t (List.mem_cons_self ..)
    rw [List.flatMap_cons]
    refine ⟨by rw [List.length_append, i1]; show 1 + r.length = r.length + 1; omega, fun d hd => ?_⟩
    rcases List.mem_append.mp hd with q | q
    · have e : d = c := by simpa using q
      rw [e]; exact hc
    · exact i2 d q
theorem join_nm {ts : List Str} (h : ∀ t ∈ ts, ∃ c, t = ⟨#[c]⟩ ∧ 97 ≤ c ∧ c ≤ 122) (h1 : 1 ≤ ts.length) (h6 : ts.length ≤ 6) : Nm (Txt.join (Str.ofString "") ts) := by
  have e : (Txt.join (Str.ofString "") ts).cps.toList = ts.flatMap fun t => t.cps.toList := by
    unfold Txt.join
    rw [StrLaws.glued_eq_join]
    exact join_signs (by decide +kernel) ts
  obtain ⟨a, b⟩ := one_signs h
  exact ⟨by rw [len_signs, e, a]; exact h1, by rw [len_signs, e, a]; exact h6, by rw [e]; exact b⟩
theorem join_ok {ts : List Str} (h : ∀ t ∈ ts, ∃ c, t = ⟨#[c]⟩ ∧ 97 ≤ c ∧ c ≤ 122) (h6 : ts.length ≤ 6) : JoinOk (Str.ofString "") ts = true := by
  unfold JoinOk
  rw [StrLaws.joinFits (B := 1) (fun y hy => by obtain ⟨c, rfl, _⟩ := h y hy; exact Nat.le_refl _) (by
    have e : (Str.ofString "").length = 0 := by decide +kernel
    rw [e]; omega)]
  rfl
theorem nm_lit {z : Str} (h : (decide (1 ≤ z.length) && decide (z.length ≤ 6) && z.cps.toList.all fun c => decide (97 ≤ c) && decide (c ≤ 122)) = true) : Nm z := by
  simp only [Bool.and_eq_true, decide_eq_true_eq, List.all_eq_true] at h
  exact ⟨h.1.1, h.1.2, fun c hc => h.2 c hc⟩
theorem az_at {r : Int} (h0 : 0 ≤ r) (h1 : r < 26) : atI (Str.ofString "abcdefghijklmnopqrstuvwxyz").cps.toList r = some (97 + r.toNat) := by
  have tab : ∀ i, i < 26 → atI (Str.ofString "abcdefghijklmnopqrstuvwxyz").cps.toList ((i : Nat) : Int) = some (97 + i) := by decide +kernel
  have := tab r.toNat (by omega)
  rwa [show ((r.toNat : Nat) : Int) = r by omega] at this
theorem num_nat (m : Nat) : (num (m : Int)).cps.toList = (Nat.toDigits 10 m).map Char.toNat := PySem.W.KIN.signs_num m
theorem num_len {n : Int} (h : 0 ≤ n) (hn : n < 10 ^ 30) : (num n).length ≤ 30 := by
  obtain ⟨m, rfl⟩ := Int.eq_ofNat_of_zero_le h
  rw [len_signs, num_nat, List.length_map]
  exact (Nat.length_toDigits_le_iff (by decide) (by decide)).mpr (by omega)
inductive Vl where
  | none | num (t b : Int) | txt (z : Str) | tru (b : Bool) | flt (w z : Str) (r c : Int)
  deriving DecidableEq
def faults : List Str := [Str.ofString "kind", Str.ofString "nought", Str.ofString "gone", Str.ofString "name", Str.ofString "shape", Str.ofString "blocked", Str.ofString "miss", Str.ofString "ring", Str.ofString "great"]
def VlOk : Vl → Prop
  | .num t b => Low t b ∧ t.natAbs < 10 ^ 30 ∧ b.natAbs < 10 ^ 30
  | .txt z => z.length ≤ 20 ∧ ∀ c ∈ z.cps.toList, c ∈ (Str.ofString "abcdefghijklmnopqrstuvwxyz0123456789 ").cps.toList
  | .flt w z r c => w ∈ faults ∧ Nm z ∧ 1 ≤ r ∧ r ≤ 16 ∧ 1 ≤ c ∧ c ≤ 8
  | _ => True
def ntext (t b : Int) : Str := if b = 1 then num t else num t ++ Str.ofString "/" ++ num b
def vtext : Vl → Str
  | .none => Str.ofString ""
  | .num t b => ntext t b
  | .txt z => Str.ofString "'" ++ z
  | .tru b => if b = true then Str.ofString "yes" else Str.ofString "no"
  | .flt w z r c => ((Str.ofString "!" ++ w) ++ Str.ofString " ") ++ cellTx z r c
def GTup (K : PySem.W.Frag) (mg : Str → Option Value) (x : Str) (xs : List V) : Prop := ∃ (a : Addr) (o : Obj), mg x = some (.ref a) ∧ K.lookup a = some o ∧ o.cls = .type "tuple" ∧ ∃ its n, o.data = .seq its n ∧ its.size ≤ sizeLine ∧ Vals xs its.toList
def tGT (K : PySem.W.Frag) (xs : List V) : TE := fun _ H Q => ∀ a, (∀ H', SqT K H' a xs) → Q (.ref a) H
theorem pe_gtup {X : Cx} {x : Str} {xs : List V} {pos : Pos} (hm : GTup X.K X.mg x xs) (hg : Gl X x := by rfl) (hd : (x == ("__debug__" : Str)) = false := by decide) : PE X (.Name x pos) (tGT X.K xs) := by
  obtain ⟨a, o, h, hl, hc, its, n, h1, h2, h3⟩ := hm
  intro pins s σ H Q I q
  exact ld_glob I hg h ⟨.ref a, H, I, rfl, q a fun H' => .inr ⟨o, its, n, hl, hc, h1, h2, h3⟩⟩ hd
def VlAt (H : Hp) (p : Addr) : Vl → Prop
  | .none => H p = some (.tup [.str (Str.ofString "none")])
  | .num t b => H p = some (.tup [.str (Str.ofString "number"), .int t, .int b])
  | .txt z => H p = some (.tup [.str (Str.ofString "text"), .str z])
  | .tru b => H p = some (.tup [.str (Str.ofString "truth"), .bl b])
  | .flt w z r c => ∃ q, H p = some (.tup [.str (Str.ofString "fault"), .str w, .ref q]) ∧ H q = some (.tup [.str z, .int r, .int c])
theorem VlAt.same {H H' : Hp} {p : Addr} {v : Vl} (h : VlAt H p v) (s : Same H H') : VlAt H' p v := by
  cases v with
  | none => exact s _ _ h
  | num t b => exact s _ _ h
  | txt z => exact s _ _ h
  | tru b => exact s _ _ h
  | flt w z r c => obtain ⟨q, a, b⟩ := h; exact ⟨q, s _ _ a, s _ _ b⟩
theorem fault_in {w : Str} (h : w ∈ faults) : inV (.str w) (faults.map V.str) = true := by
  unfold inV
  rw [List.any_map, List.any_eq_true]
  exact ⟨w, h, by simp [eqV]⟩
theorem faults_flat : (faults.map V.str).all flatV = true := by decide +kernel
def spIsN : Sp := fun vs H Q _ => ∃ t b : Int, vs = [.int t, .int b] ∧ Low t b ∧ Q (.bl true) H
def spFew : Sp := fun vs H Q _ => ∃ i : Int, vs = [.int i] ∧ i.natAbs < 10 ^ 30 ∧ Q (.bl true) H
def spShort : Sp := fun vs H Q _ => ∃ t b : Int, vs = [.int t, .int b] ∧ Low t b ∧ t.natAbs < 10 ^ 30 ∧ b.natAbs < 10 ^ 30 ∧ Q (.bl true) H
def spIsT : Sp := fun vs H Q _ => ∃ z : Str, vs = [.str z] ∧ VlOk (.txt z) ∧ ∀ H', Same H H' → Q (.bl true) H'
def spFW : Sp := fun vs H Q _ => ∃ w : Str, vs = [.str w] ∧ w ∈ faults ∧ Q (.bl true) H
def spIsV : Sp := fun vs H Q _ => ∃ (p : Addr) (v : Vl), vs = [.ref p] ∧ VlOk v ∧ VlAt H p v ∧ ∀ H', Same H H' → Q (.bl true) H'
def spNT : Sp := fun vs H Q _ => ∃ t b : Int, vs = [.int t, .int b] ∧ t.natAbs < 10 ^ 30 ∧ b.natAbs < 10 ^ 30 ∧ Q (.str (ntext t b)) H
def spVT : Sp := fun vs H Q _ => ∃ (p : Addr) (v : Vl), vs = [.ref p] ∧ VlOk v ∧ VlAt H p v ∧ ∀ H', Same H H' → Q (.str (vtext v)) H'
def spNM : Sp := fun vs H Q _ => ∃ t b : Int, vs = [.str (ntext t b)] ∧ Low t b ∧ t.natAbs < 10 ^ 30 ∧ b.natAbs < 10 ^ 30 ∧ ∀ (p : Addr) (H' : Hp), Same H H' → VlAt H' p (.num t b) → Q (.ref p) H'
def spFM : Sp := fun vs H Q _ => ∃ (w z : Str) (r c : Int), vs = [.str ((w ++ Str.ofString " ") ++ cellTx z r c)] ∧ VlOk (.flt w z r c) ∧ ∀ (p : Addr) (H' : Hp), Same H H' → VlAt H' p (.flt w z r c) → Q (.ref p) H'
def spTM : Sp := fun vs H Q _ => ∃ v : Vl, vs = [.str (vtext v)] ∧ VlOk v ∧ ∀ (p : Addr) (H' : Hp), Same H H' → VlAt H' p v → Q (.ref p) H'
def spFar5 : Sp := fun vs H Q _ => ∃ (p : Addr) (k : Nat), vs = [.ref p] ∧ PenAt H p k ∧ k ≤ 90000 ∧ ∀ (r : Int) (H' : Hp), r.natAbs < 10 ^ 30 - 3 → PenAt H' p (k + 5) → KeepX p H H' → Q (.int r) H'
def spNum5 : Sp := fun vs H Q _ => ∃ (p : Addr) (k : Nat), vs = [.ref p] ∧ PenAt H p k ∧ k ≤ 80000 ∧ ∀ (q : Addr) (x y : Int) (H' : Hp), H' q = some (.tup [.int x, .int y]) → Low x y → x.natAbs < 10 ^ 30 → y.natAbs < 10 ^ 30 → PenAt H' p (k + 12) → KeepX p H H' → Q (.ref q) H'
def spVal : Sp := fun vs H Q _ => ∃ (p : Addr) (k : Nat), vs = [.ref p] ∧ PenAt H p k ∧ k ≤ 60000 ∧ ∀ (q : Addr) (v : Vl) (H' : Hp), VlOk v → VlAt H' q v → PenAt H' p (k + 40) → KeepX p H H' → Q (.ref q) H'
def spSame : Sp := fun vs H Q _ => ∃ (p q : Addr) (v : Vl), vs = [.ref p, .ref q] ∧ VlAt H p v ∧ VlAt H q v ∧ ∀ H', Same H H' → Q (.bl true) H'
theorem log30 {n : Nat} (h : n < 10 ^ 30) : n.log2 < 1920 := by
  rcases Nat.eq_zero_or_pos n with e | e
  · subst e; decide
  · exact Nat.lt_trans ((Nat.log2_lt (by omega)).mpr (Nat.lt_trans h (show 10 ^ 30 < 2 ^ 100 by decide))) (by decide)
theorem strT {z y : Str} (h : z = y) : V.bl (decide (V.str z = V.str y)) = V.bl true := by subst h; simp
theorem pick37 {r : Int} (h0 : 0 ≤ r) (h1 : r < 37) : ∃ c, atI (Str.ofString "abcdefghijklmnopqrstuvwxyz0123456789 ").cps.toList r = some c ∧ c ∈ (Str.ofString "abcdefghijklmnopqrstuvwxyz0123456789 ").cps.toList := by
  have hl : (Str.ofString "abcdefghijklmnopqrstuvwxyz0123456789 ").cps.toList.length = 37 := by decide +kernel
  obtain ⟨j, rfl⟩ := Int.eq_ofNat_of_zero_le h0
  have hj : j < (Str.ofString "abcdefghijklmnopqrstuvwxyz0123456789 ").cps.toList.length := by rw [hl]; omega
  exact ⟨_, atI_nat (List.getElem?_eq_getElem hj), List.getElem_mem _⟩
theorem one_any {P : Nat → Prop} {ts : List Str} (h : ∀ t ∈ ts, ∃ c, t = ⟨#[c]⟩ ∧ P c) : (ts.flatMap fun t => t.cps.toList).length = ts.length ∧ ∀ c ∈ ts.flatMap (fun t => t.cps.toList), P c := by
  induction ts with
  | nil => exact ⟨rfl, fun c hc => by cases hc⟩
  | cons t r ih =>
    obtain ⟨i1, i2⟩ := ih fun x hx => h x (List.mem_cons_of_mem _ hx)
    obtain ⟨c, rfl, hc⟩ := h t (List.mem_cons_self ..)
    rw [List.flatMap_cons]
    refine ⟨by rw [List.length_append, i1]; show 1 + r.length = r.length + 1; omega, fun d hd => ?_⟩
    rcases List.mem_append.mp hd with q | q
    · have e : d = c := by simpa using q
      rw [e]; exact hc
    · exact i2 d q
theorem join_txt {ts : List Str} (h : ∀ t ∈ ts, ∃ c, t = ⟨#[c]⟩ ∧ c ∈ (Str.ofString "abcdefghijklmnopqrstuvwxyz0123456789 ").cps.toList) (h6 : ts.length ≤ 20) : VlOk (.txt (Txt.join (Str.ofString "") ts)) ∧ JoinOk (Str.ofString "") ts = true := by
  have e : (Txt.join (Str.ofString "") ts).cps.toList = ts.flatMap fun t => t.cps.toList := by
    unfold Txt.join
    rw [StrLaws.glued_eq_join]
    exact join_signs (by decide +kernel) ts
  obtain ⟨a, b⟩ := one_any h
  refine ⟨⟨by rw [len_signs, e, a]; exact h6, by rw [e]; exact b⟩, ?_⟩
  unfold JoinOk
  rw [StrLaws.joinFits (B := 1) (fun y hy => by obtain ⟨c, rfl, _⟩ := h y hy; exact Nat.le_refl _) (by
    have e : (Str.ofString "").length = 0 := by decide +kernel
    rw [e]; omega)]
  rfl
theorem VlAt.keep {H H' : Hp} {p q : Addr} {v : Vl} {xs : List V} (h : VlAt H q v) (hp : H p = some (.lst xs)) (s : KeepX p H H') : VlAt H' q v := by
  have ne : ∀ {b : Addr} {ys : List V}, H b = some (.tup ys) → b ≠ p := fun e => ne_of e hp (by intro z; cases z)
  cases v with
  | none => exact s _ _ (ne h) h
  | num t b => exact s _ _ (ne h) h
  | txt z => exact s _ _ (ne h) h
  | tru b => exact s _ _ (ne h) h
  | flt w z r c => obtain ⟨u, a, b⟩ := h; exact ⟨u, s _ _ (ne a) a, s _ _ (ne b) b⟩
def rNeV : R2 := fun x y H Q => ∃ a b v, x = .ref a ∧ y = .ref b ∧ VlAt H a v ∧ VlAt H b v ∧ Q (.bl false) H
theorem kid1 {α : Type} {us : List α} (h : us.length = 1) : ∃ a, us = [a] := match us, h with | [a], _ => ⟨a, rfl⟩
theorem kid2 {α : Type} {us : List α} (h : us.length = 2) : ∃ a b, us = [a, b] := match us, h with | [a, b], _ => ⟨a, b, rfl⟩
theorem kid3 {α : Type} {us : List α} (h : us.length = 3) : ∃ a b c, us = [a, b, c] := match us, h with | [a, b, c], _ => ⟨a, b, c, rfl⟩
abbrev kS (z : String) : Key := .inr (Str.ofString z)
def penK (a : Addr) (t r m u : Int) : List (Key × V) := [(kS "cells", .ref a), (kS "at", .int t), (kS "rest", .int r), (kS "mode", .int m), (kS "used", .int u)]
section
variable {H : Hp} {p a : Addr} {t r m u : Int}
theorem gCells (h : H p = some (.dK (penK a t r m u))) : DGet H p (.str (Str.ofString "cells")) (some (.ref a)) := DGet.k (k := kS "cells") h
theorem gAt (h : H p = some (.dK (penK a t r m u))) : DGet H p (.str (Str.ofString "at")) (some (.int t)) := DGet.k (k := kS "at") h
theorem gRest (h : H p = some (.dK (penK a t r m u))) : DGet H p (.str (Str.ofString "rest")) (some (.int r)) := DGet.k (k := kS "rest") h
theorem gMode (h : H p = some (.dK (penK a t r m u))) : DGet H p (.str (Str.ofString "mode")) (some (.int m)) := DGet.k (k := kS "mode") h
theorem gUsed (h : H p = some (.dK (penK a t r m u))) : DGet H p (.str (Str.ofString "used")) (some (.int u)) := DGet.k (k := kS "used") h
theorem pAt (h : H p = some (.dK (penK a t r m u))) (v : Int) : DPut H p (.str (Str.ofString "at")) (.int v) (upd H p (.dK (penK a v r m u))) := DPut.k (k := kS "at") h (by show 5 < sizeLine; decide)
theorem pRest (h : H p = some (.dK (penK a t r m u))) (v : Int) : DPut H p (.str (Str.ofString "rest")) (.int v) (upd H p (.dK (penK a t v m u))) := DPut.k (k := kS "rest") h (by show 5 < sizeLine; decide)
theorem pUsed (h : H p = some (.dK (penK a t r m u))) (v : Int) : DPut H p (.str (Str.ofString "used")) (.int v) (upd H p (.dK (penK a t r m v))) := DPut.k (k := kS "used") h (by show 5 < sizeLine; decide)
end
theorem SqL.kx {K : PySem.W.Frag} {H H' : Hp} {a p : Addr} {xs : List V} {kvs : List (Key × V)} (h : SqL K H a xs) (hp : H p = some (.dK kvs)) (s : KeepX p H H') : SqL K H' a xs := by
  rcases h with (h | ⟨o, h⟩) | h
  · exact .inl (.inl (s _ _ (ne_of h hp (by intro z; cases z)) h))
  · exact .inl (.inr ⟨o, s _ _ (ne_of h hp (by intro z; cases z)) h⟩)
  · exact .inr h
def PenD (K : PySem.W.Frag) (S : Addr × List Int) (H : Hp) (p : Addr) (k : Nat) : Prop := ∃ t r m u : Int, H p = some (.dK (penK S.1 t r m u)) ∧ SqL K H S.1 (S.2.map V.int) ∧ 0 ≤ t ∧ 0 ≤ u ∧ u ≤ k ∧ (m = 0 ∨ (m = 1 ∧ 0 < S.2.length)) ∧ S.2.length ≤ 63
section
variable {K : PySem.W.Frag} {S : Addr × List Int} {H H' : Hp} {p D : Addr} {k n : Nat}
theorem PenD.same (h : PenD K S H p k) (s : Same H H') : PenD K S H' p k := let ⟨t, r, m, u, e, q, z⟩ := h; ⟨t, r, m, u, s _ _ e, s.seq q, z⟩
theorem PenD.mono (h : PenD K S H p k) (s : k ≤ n) : PenD K S H p n := let ⟨t, r, m, u, e, q, x, y, v, w⟩ := h; ⟨t, r, m, u, e, q, x, y, by omega, w⟩
theorem PenD.ob (h : PenD K S H p k) : ∃ kvs, H p = some (.dK kvs) := let ⟨_, _, _, _, e, _⟩ := h; ⟨_, e⟩
theorem PenD.ne (h : PenD K S H p k) (hD : H D = none) : D ≠ p := fun z => by
  obtain ⟨kvs, e⟩ := h.ob
  rw [← z, hD] at e; cases e
theorem PenD.put {o : HO} (h0 : PenD K S H p k) (hD : H D = none) (h : PenD K S H' p n) : PenD K S (upd H' D o) p n := by
  have ne := h0.ne hD
  obtain ⟨_, _, _, _, _, q0, _⟩ := h0
  obtain ⟨t, r, m, u, e, q, z⟩ := h
  refine ⟨t, r, m, u, by rw [upd_ne (Ne.symm ne)]; exact e, ?_, z⟩
  rcases q0 with (q0 | ⟨o0, q0⟩) | q0
  · have na := ne_of_none q0 hD
    rcases q with (q | ⟨o1, q⟩) | q
    · exact .inl (.inl (by rw [upd_ne na]; exact q))
    · exact .inl (.inr ⟨o1, by rw [upd_ne na]; exact q⟩)
    · exact .inr q
  · have na := ne_of_none q0 hD
    rcases q with (q | ⟨o1, q⟩) | q
    · exact .inl (.inl (by rw [upd_ne na]; exact q))
    · exact .inl (.inr ⟨o1, by rw [upd_ne na]; exact q⟩)
    · exact .inr q
  · exact .inr q0
end
def spPenD (K : PySem.W.Frag) : Sp := fun vs H Q _ => ∃ (a : Addr) (ns : List Int), vs = [.ref a] ∧ SqL K H a (ns.map V.int) ∧ ns.length ≤ 63 ∧ ∀ (p : Addr) (H' : Hp), H p = none → PenD K (a, ns) H' p 0 → Same H H' → Q (.ref p) H'
def spTakD (K : PySem.W.Frag) : Sp := fun vs H Q _ => ∃ (p : Addr) (m : Int) (k : Nat) (S : Addr × List Int), vs = [.ref p, .int m] ∧ 0 < m ∧ Sz 4000 m ∧ PenD K S H p k ∧ k ≤ 10000000 ∧ ∀ (r : Int) (H' : Hp), 0 ≤ r → r < m → PenD K S H' p (k + 1) → KeepX p H H' → Q (.int r) H'
theorem atI_ints {ns : List Int} {r : Int} (h0 : 0 ≤ r) (h1 : r < (ns.length : Int)) : ∃ v, atI (ns.map V.int) r = some (V.int v) := by
  obtain ⟨j, rfl⟩ : ∃ j : Nat, r = (j : Int) := ⟨r.toNat, by omega⟩
  have hj : j < ns.length := by omega
  exact ⟨ns[j], atI_nat (by rw [List.getElem?_map, List.getElem?_eq_getElem hj]; rfl)⟩
abbrev vS (z : String) : V := .str (Str.ofString z)
def KN14 : List V := [vS "sum", vS "yes", vS "if", vS "grid", vS "outer", vS "no", vS "su", vS "sums", vS "iff", vS "yess", vS "neg", vS "own", vS "abcdef", vS "z"]
def RS1 : List V := [vS "yes", vS "no", vS "if", vS "sum", vS "count", vS "least", vS "most", vS "sumif", vS "find", vS "turn", vS "stack"]
def RS2 : List V := [vS "grid", vS "outer"]
def rsv (z : Str) : Bool := inV (.str z) RS1 || inV (.str z) RS2
def knB (j : Nat) : Bool := match KN14[j]? with
  | some (.str z) => (decide (1 ≤ z.length) && decide (z.length ≤ 6) && z.cps.toList.all fun c => decide (97 ≤ c) && decide (c ≤ 122)) && (decide (j < 6) || !rsv z)
  | _ => false
theorem kn14 {r : Int} (h0 : 0 ≤ r) (h1 : r < 14) : ∃ z, atI KN14 r = some (V.str z) ∧ Nm z ∧ (6 ≤ r → rsv z = false) := by
  obtain ⟨j, rfl⟩ : ∃ j : Nat, r = (j : Int) := ⟨r.toNat, by omega⟩
  have hj : j < 14 := by omega
  have all : ∀ j < 14, knB j = true := by decide +kernel
  have h := all j hj
  unfold knB at h
  split at h
  · rename_i z e
    rw [Bool.and_eq_true] at h
    refine ⟨z, atI_nat e, nm_lit h.1, fun h6 => ?_⟩
    have h2 := h.2
    rw [Bool.or_eq_true] at h2
    rcases h2 with q | q
    · exact absurd (of_decide_eq_true q) (by omega)
    · simpa using q
  · exact absurd h Bool.false_ne_true
def spLet (K : PySem.W.Frag) : Sp := fun vs H Q _ => ∃ (p : Addr) (fr : Bool) (n : Nat) (S : Addr × List Int), vs = [.ref p, .bl fr] ∧ PenD K S H p n ∧ n ≤ 9500000 ∧ ∀ (z : Str) (H' : Hp), Nm z → (fr = true → rsv z = false) → PenD K S H' p (n + 8) → KeepX p H H' → Q (.str z) H'
def shV : Option Str → V
  | none => .non
  | some z => .str z
def ShOk : Option Str → Prop
  | none => True
  | some z => Nm z
def spShD (K : PySem.W.Frag) : Sp := fun vs H Q _ => ∃ (p : Addr) (n : Nat) (S : Addr × List Int), vs = [.ref p] ∧ PenD K S H p n ∧ n ≤ 9000000 ∧ ∀ (s : Option Str) (H' : Hp), ShOk s → PenD K S H' p (n + 9) → KeepX p H H' → Q (shV s) H'
def Kp (H H' : Hp) : Prop := ∀ a xs, H a = some (.tup xs) → H' a = some (.tup xs)
theorem Kp.same {H H' : Hp} (s : Same H H') : Kp H H' := fun a xs e => s _ _ e
theorem Kp.keepD {H H' : Hp} {p : Addr} {kvs : List (Key × V)} (hp : H p = some (.dK kvs)) (s : KeepX p H H') : Kp H H' := fun a xs e => s _ _ (ne_of e hp (by intro z; cases z)) e
theorem Kp.pen {K : PySem.W.Frag} {S : Addr × List Int} {H H' : Hp} {p : Addr} {n : Nat} (h : PenD K S H p n) (s : KeepX p H H') : Kp H H' := let ⟨_, e⟩ := h.ob; Kp.keepD e s
theorem Kp.lst {H H' : Hp} {p : Addr} {ys : List V} (hp : H p = some (.lst ys)) (s : KeepX p H H') : Kp H H' := fun a xs e => s _ _ (ne_of e hp (by intro z; cases z)) e
theorem Kp.trans {H H1 H2 : Hp} (a : Kp H H1) (b : Kp H1 H2) : Kp H H2 := fun c xs e => b c xs (a c xs e)
structure Cor where
  r : Int
  c : Int
  x : Bool
  y : Bool
abbrev corV (c : Cor) : List V := [.int c.r, .int c.c, .bl c.x, .bl c.y]
structure CorOk (c : Cor) : Prop where
  r0 : 1 ≤ c.r
  r1 : c.r ≤ 16
  c0 : 1 ≤ c.c
  c1 : c.c ≤ 8
inductive Lf where
  | val (v : Vl) | cell (s : Option Str) (c : Cor) | rng (s : Option Str) (c d : Cor) | cols (s : Option Str) (a : Int) (x : Bool) (b : Int) (y : Bool) | gone | nam (z : Str) | par (i : Int)
def LfAt (H : Hp) (a : Addr) : Lf → Prop
  | .val v => ∃ q, H a = some (.tup [vS "value", .ref q]) ∧ VlAt H q v
  | .cell s c => ∃ q, H a = some (.tup [vS "cell", shV s, .ref q]) ∧ H q = some (.tup (corV c))
  | .rng s c d => ∃ q u, H a = some (.tup [vS "range", shV s, .ref q, .ref u]) ∧ H q = some (.tup (corV c)) ∧ H u = some (.tup (corV d))
  | .cols s i x j y => ∃ q u, H a = some (.tup [vS "columns", shV s, .ref q, .ref u]) ∧ H q = some (.tup [.int i, .bl x]) ∧ H u = some (.tup [.int j, .bl y])
  | .gone => H a = some (.tup [vS "gone"])
  | .nam z => H a = some (.tup [vS "name", .str z])
  | .par i => H a = some (.tup [vS "param", .int i])
def VlW : Vl → Prop
  | .num t b => b = 1 ∧ 0 ≤ t ∧ t ≤ 999999999
  | .txt _ => True
  | .tru _ => True
  | _ => False
def LfOk (pr : Nat) : Lf → Prop
  | .val v => VlOk v ∧ VlW v
  | .cell s c => ShOk s ∧ CorOk c
  | .rng s c d => ShOk s ∧ CorOk c ∧ CorOk d ∧ c.r ≤ d.r ∧ c.c ≤ d.c
  | .cols s i _ j _ => ShOk s ∧ 1 ≤ i ∧ i ≤ j ∧ j ≤ 8
  | .gone => True
  | .nam z => Nm z ∧ rsv z = false
  | .par i => 0 ≤ i ∧ i < pr
theorem VlAt.kp {H H' : Hp} {p : Addr} {v : Vl} (h : VlAt H p v) (s : Kp H H') : VlAt H' p v := by
  cases v with
  | none => exact s _ _ h
  | num t b => exact s _ _ h
  | txt z => exact s _ _ h
  | tru b => exact s _ _ h
  | flt w z r c => obtain ⟨q, a, b⟩ := h; exact ⟨q, s _ _ a, s _ _ b⟩
theorem LfAt.kp {H H' : Hp} {a : Addr} {l : Lf} (h : LfAt H a l) (s : Kp H H') : LfAt H' a l := by
  cases l with
  | val v => obtain ⟨q, h1, h2⟩ := h; exact ⟨q, s _ _ h1, VlAt.kp h2 s⟩
  | cell z c => obtain ⟨q, h1, h2⟩ := h; exact ⟨q, s _ _ h1, s _ _ h2⟩
  | rng z c d => obtain ⟨q, u, h1, h2, h3⟩ := h; exact ⟨q, u, s _ _ h1, s _ _ h2, s _ _ h3⟩
  | cols z i x j y => obtain ⟨q, u, h1, h2, h3⟩ := h; exact ⟨q, u, s _ _ h1, s _ _ h2, s _ _ h3⟩
  | gone => exact s _ _ h
  | nam z => exact s _ _ h
  | par i => exact s _ _ h
def spCorD (K : PySem.W.Frag) : Sp := fun vs H Q _ => ∃ (p : Addr) (r c : Int) (n : Nat) (S : Addr × List Int), vs = [.ref p, .int r, .int c] ∧ PenD K S H p n ∧ n ≤ 9000000 ∧ ∀ (q : Addr) (x y : Bool) (H' : Hp), H' q = some (.tup (corV ⟨r, c, x, y⟩)) → PenD K S H' p (n + 2) → KeepX p H H' → Q (.ref q) H'
def spRefD (K : PySem.W.Frag) : Sp := fun vs H Q _ => ∃ (p : Addr) (w : Int) (n : Nat) (S : Addr × List Int), vs = [.ref p, .int w] ∧ PenD K S H p n ∧ n ≤ 8000000 ∧ ∀ (a : Addr) (l : Lf) (H' : Hp), LfAt H' a l → (∀ pr, LfOk pr l) → PenD K S H' p (n + 30) → KeepX p H H' → Q (.ref a) H'
def spValD (K : PySem.W.Frag) : Sp := fun vs H Q _ => ∃ (p : Addr) (w : Int) (n : Nat) (S : Addr × List Int), vs = [.ref p, .int w] ∧ PenD K S H p n ∧ n ≤ 8000000 ∧ ∀ (q : Addr) (v : Vl) (H' : Hp), VlAt H' q v → VlOk v → VlW v → PenD K S H' p (n + 30) → KeepX p H H' → Q (.ref q) H'
def spLeafD (K : PySem.W.Frag) : Sp := fun vs H Q _ => ∃ (p : Addr) (pr : Nat) (n : Nat) (S : Addr × List Int), vs = [.ref p, .int pr] ∧ pr ≤ 3 ∧ PenD K S H p n ∧ n ≤ 7000000 ∧ ∀ (a : Addr) (l : Lf) (H' : Hp), LfAt H' a l → LfOk pr l → PenD K S H' p (n + 40) → KeepX p H H' → Q (.ref a) H'
theorem pickN {r : Int} (h0 : 0 ≤ r) (h1 : r < 3) : ∃ v : Int, atI [V.int 10, V.int 1000, V.int 1000000000] r = some (V.int v) ∧ 0 < v ∧ v ≤ 1000000000 := by
  have : r = 0 ∨ r = 1 ∨ r = 2 := by omega
  rcases this with rfl | rfl | rfl
  · exact ⟨10, rfl, by decide, by decide⟩
  · exact ⟨1000, rfl, by decide, by decide⟩
  · exact ⟨1000000000, rfl, by decide, by decide⟩
theorem pickT {r : Int} (h0 : 0 ≤ r) (h1 : r < 2) : ∃ v : Int, atI [V.int 4, V.int 21] r = some (V.int v) ∧ 0 < v ∧ v ≤ 21 := by
  have : r = 0 ∨ r = 1 := by omega
  rcases this with rfl | rfl
  · exact ⟨4, rfl, by decide, by decide⟩
  · exact ⟨21, rfl, by decide, by decide⟩
theorem low_one {n : Int} : Low n 1 := ⟨by decide, by simp⟩
theorem pick4 {r : Int} (h0 : 0 ≤ r) (h1 : r < 4) : ∃ v : Int, atI [V.int 0, V.int 0, V.int 1, V.int 2] r = some (V.int v) := by
  have : r = 0 ∨ r = 1 ∨ r = 2 ∨ r = 3 := by omega
  rcases this with rfl | rfl | rfl | rfl
  · exact ⟨0, rfl⟩
  · exact ⟨0, rfl⟩
  · exact ⟨1, rfl⟩
  · exact ⟨2, rfl⟩
inductive Kd where
  | op (z : Str) | neg | own (z : Str) | sumif (z : Str) | grid (i j : Int) | wd (z : Str)
def frV : Kd → List V
  | .op z => [vS "op", .str z]
  | .neg => [vS "neg"]
  | .own z => [vS "own", .str z]
  | .sumif z => [vS "sumif", .str z]
  | .grid i j => [vS "grid", .int i, .int j]
  | .wd z => [.str z]
def layV (t : Addr) : Kd → List V → List V
  | .op z, us => vS "op" :: .str z :: us
  | .neg, us => vS "neg" :: us
  | .own z, _ => [vS "own", .str z, .ref t]
  | .sumif z, us => vS "sumif" :: (us.take 1 ++ .str z :: us.drop 1)
  | .grid i j, us => vS "grid" :: .int i :: .int j :: us
  | .wd z, us => .str z :: us
def isOwn : Kd → Bool
  | .own _ => true
  | _ => false
def OPS : List Str := ["+", "-", "*", "/", "&", "=", "<"].map Str.ofString
def WDS : List (Str × Nat) := [("if", 3), ("sum", 1), ("count", 1), ("least", 1), ("most", 1), ("find", 3), ("turn", 1), ("stack", 2), ("outer", 1)].map fun x => (Str.ofString x.1, x.2)
def KdOk : Kd → Nat → Prop
  | .op z, m => z ∈ OPS ∧ m = 2
  | .neg, m => m = 1
  | .own z, m => Nm z ∧ rsv z = false ∧ m ≤ 3
  | .sumif z, m => (z = Str.ofString "=" ∨ z = Str.ofString "<") ∧ m = 3
  | .grid i j, m => 1 ≤ i ∧ i ≤ 16 ∧ 1 ≤ j ∧ j ≤ 8 ∧ m = 2
  | .wd z, m => (z, m) ∈ WDS
theorem KdOk.le {k : Kd} {m : Nat} (h : KdOk k m) : m ≤ 3 := by
  cases k with
  | op z => have := h.2; omega
  | neg => have : m = 1 := h; omega
  | own z => exact h.2.2
  | sumif z => have := h.2; omega
  | grid i j => have := h.2.2.2.2; omega
  | wd z =>
    have h : (z, m) ∈ WDS := h
    have : ∀ x ∈ WDS, x.2 ≤ 3 := by decide +kernel
    exact this _ h
def spFrmD (K : PySem.W.Frag) : Sp := fun vs H Q _ => ∃ (p : Addr) (n : Nat) (S : Addr × List Int), vs = [.ref p] ∧ PenD K S H p n ∧ n ≤ 8000000 ∧ ∀ (a f : Addr) (k : Kd) (m : Nat) (H' : Hp), H' a = some (.tup [.ref f, .int m]) → H' f = some (.tup (frV k)) → KdOk k m → PenD K S H' p (n + 12) → KeepX p H H' → Q (.ref a) H'
def spMadD : Sp := fun vs H Q _ => ∃ (f l : Addr) (k : Kd) (us : List V), vs = [.ref f, .ref l] ∧ H f = some (.tup (frV k)) ∧ H l = some (.lst us) ∧ KdOk k us.length ∧ ∀ (a t : Addr) (H' : Hp), H' a = some (.tup (layV t k us)) → (isOwn k = true → H' t = some (.tup us)) → Same H H' → Q (.ref a) H'
theorem op7 {r : Int} (h0 : 0 ≤ r) (h1 : r < 7) : ∃ c, atI (Str.ofString "+-*/&=<").cps.toList r = some c ∧ (⟨#[c]⟩ : Str) ∈ OPS := by
  have : r = 0 ∨ r = 1 ∨ r = 2 ∨ r = 3 ∨ r = 4 ∨ r = 5 ∨ r = 6 := by omega
  rcases this with rfl | rfl | rfl | rfl | rfl | rfl | rfl
  all_goals exact ⟨_, rfl, by decide +kernel⟩
theorem op2 {r : Int} (h0 : 0 ≤ r) (h1 : r < 2) : ∃ c, atI (Str.ofString "=<").cps.toList r = some c ∧ ((⟨#[c]⟩ : Str) = Str.ofString "=" ∨ (⟨#[c]⟩ : Str) = Str.ofString "<") := by
  have : r = 0 ∨ r = 1 := by omega
  rcases this with rfl | rfl
  · exact ⟨_, rfl, .inl (by decide +kernel)⟩
  · exact ⟨_, rfl, .inr (by decide +kernel)⟩
def WD9 : List Str := ["if", "sum", "count", "least", "most", "find", "turn", "stack", "outer"].map Str.ofString
theorem wd9 {r : Int} (h0 : 0 ≤ r) (h1 : r < 9) : ∃ (z : Str) (j : Nat) (m : Nat), atI (WD9.map V.str) r = some (V.str z) ∧ WD9[j]? = some z ∧ (∀ i, i < j → WD9[i]? ≠ some z) ∧ atI [V.int 3, V.int 1, V.int 1, V.int 1, V.int 1, V.int 3, V.int 1, V.int 2, V.int 1] (j : Int) = some (V.int (m : Int)) ∧ (z, m) ∈ WDS := by
  have : r = 0 ∨ r = 1 ∨ r = 2 ∨ r = 3 ∨ r = 4 ∨ r = 5 ∨ r = 6 ∨ r = 7 ∨ r = 8 := by omega
  rcases this with rfl | rfl | rfl | rfl | rfl | rfl | rfl | rfl | rfl
  · exact ⟨_, 0, 3, rfl, rfl, by decide +kernel, rfl, by decide +kernel⟩
  · exact ⟨_, 1, 1, rfl, rfl, by decide +kernel, rfl, by decide +kernel⟩
  · exact ⟨_, 2, 1, rfl, rfl, by decide +kernel, rfl, by decide +kernel⟩
  · exact ⟨_, 3, 1, rfl, rfl, by decide +kernel, rfl, by decide +kernel⟩
  · exact ⟨_, 4, 1, rfl, rfl, by decide +kernel, rfl, by decide +kernel⟩
  · exact ⟨_, 5, 3, rfl, rfl, by decide +kernel, rfl, by decide +kernel⟩
  · exact ⟨_, 6, 1, rfl, rfl, by decide +kernel, rfl, by decide +kernel⟩
  · exact ⟨_, 7, 2, rfl, rfl, by decide +kernel, rfl, by decide +kernel⟩
  · exact ⟨_, 8, 1, rfl, rfl, by decide +kernel, rfl, by decide +kernel⟩
inductive Fm where
  | lf (l : Lf) | nd (k : Kd) (ps : List Fm)
inductive FmAt (H : Hp) : V → Fm → Prop where
  | lf {a : Addr} {l : Lf} (h : LfAt H a l) : FmAt H (.ref a) (.lf l)
  | nd {a t : Addr} {k : Kd} {us : List V} {ps : List Fm} (h : H a = some (.tup (layV t k us))) (ht : isOwn k = true → H t = some (.tup us)) (hl : us.length = ps.length)
      (hh : ∀ (j : Nat) (u : V) (f : Fm), us[j]? = some u → ps[j]? = some f → FmAt H u f) : FmAt H (.ref a) (.nd k ps)
theorem FmAt.kp {H H' : Hp} {v : V} {f : Fm} (h : FmAt H v f) (s : Kp H H') : FmAt H' v f := by
  induction h with
  | lf h => exact .lf (LfAt.kp h s)
  | nd h ht hl _ ih => exact .nd (s _ _ h) (fun z => s _ _ (ht z)) hl ih
abbrev FmsAt (H : Hp) (us : List V) (fs : List Fm) : Prop := Paired (FmAt H) us fs
theorem FmsAt.kp {H H' : Hp} {us : List V} {fs : List Fm} (h : FmsAt H us fs) (s : Kp H H') : FmsAt H' us fs := Paired.imp' (fun _ _ x => FmAt.kp x s) h
inductive FO (pr : Nat) : Nat → Fm → Prop where
  | lf {n : Nat} {l : Lf} (h : LfOk pr l) : FO pr (n + 1) (.lf l)
  | nd {n : Nat} {k : Kd} {ps : List Fm} (h : KdOk k ps.length) (hp : ∀ f ∈ ps, FO pr n f) : FO pr (n + 1) (.nd k ps)
theorem FO.mono {pr : Nat} {n : Nat} {f : Fm} (h : FO pr n f) : ∀ {m : Nat}, n ≤ m → FO pr m f := by
  induction h with
  | lf h =>
    intro m hm
    obtain ⟨m, rfl⟩ : ∃ k, m = k + 1 := ⟨m - 1, by omega⟩
    exact .lf h
  | nd h _ ih =>
    intro m hm
    obtain ⟨m, rfl⟩ : ∃ k, m = k + 1 := ⟨m - 1, by omega⟩
    exact .nd h fun f hf => ih f hf (by omega)
def spGrow (K : PySem.W.Frag) (n : Nat) : Sp := fun vs H Q _ => ∃ (p : Addr) (room d : Int) (pr : Nat) (c : Nat) (S : Addr × List Int), vs = [.ref p, .int room, .int d, .int pr] ∧ d = (n : Int) + 1 ∧ 1 ≤ room ∧ room ≤ 24 ∧ pr ≤ 3 ∧ PenD K S H p c ∧ c + 80 * room.toNat ≤ 6000000 ∧
  ∀ (v : V) (f : Fm) (H' : Hp), FmAt H' v f → FO pr (n + 1) f → PenD K S H' p (c + 80 * room.toNat) → KeepX p H H' → Q v H'
theorem psnoc {α β : Type} {F : α → β → Prop} : ∀ {xs : List α} {ys : List β} {x : α} {y : β}, Paired F xs ys → F x y → Paired F (xs ++ [x]) (ys ++ [y])
  | _, _, _, _, .nil, h => .cons h .nil
  | _, _, _, _, .cons r t, h => .cons r (psnoc t h)
theorem call_isinstC {X : Cx} {K : PySem.W.Frag} (h : X.K = K) : CallR X (.builtin "isinstance") (rIs K) := by cases h; exact call_isinst
abbrev zS (z : String) : Str := Str.ofString z
def stx : Option Str → Str
  | none => zS ""
  | some z => z ++ zS "!"
def colT (c : Int) (x : Bool) : Str := if x = true then zS "$" ++ colL c else colL c
def rowT (r : Int) (x : Bool) : Str := if x = true then zS "$" ++ num r else num r
def corT (c : Cor) : Str := colT c.c c.y ++ rowT c.r c.x
def vtx : Vl → Str
  | .num t _ => num t
  | .txt z => (zS "\"" ++ z) ++ zS "\""
  | .tru b => if b = true then zS "yes" else zS "no"
  | _ => zS ""
def ltx : Lf → Str
  | .val v => vtx v
  | .cell s c => stx s ++ corT c
  | .rng s c d => ((stx s ++ corT c) ++ zS ":") ++ corT d
  | .cols s i x j y => ((stx s ++ colT i x) ++ zS ":") ++ colT j y
  | .gone => zS "#"
  | .nam z => z
  | .par i => zS "?" ++ num i
theorem stx_len {s : Option Str} (h : ShOk s) : (stx s).length ≤ 7 := by
  cases s with
  | none => show (zS "").length ≤ 7; decide +kernel
  | some z =>
    have := (show Nm z from h).hi
    have e : (zS "!").length = 1 := by decide +kernel
    show (z ++ zS "!").length ≤ 7
    rw [len_app]; omega
theorem colT_len (c : Int) (x : Bool) : (colT c x).length ≤ 2 := by
  have e : (zS "$").length = 1 := by decide +kernel
  have e2 : (colL c).length = 1 := rfl
  unfold colT
  split
  · rw [len_app]; omega
  · omega
theorem rowT_len {r : Int} (h0 : 1 ≤ r) (h1 : r ≤ 16) (x : Bool) : (rowT r x).length ≤ 3 := by
  have e : (zS "$").length = 1 := by decide +kernel
  have e2 := (num_dg h0 h1).2
  unfold rowT
  split
  · rw [len_app]; omega
  · omega
theorem corT_len {c : Cor} (h : CorOk c) : (corT c).length ≤ 5 := by
  have a := colT_len c.c c.y
  have b := rowT_len h.r0 h.r1 c.x
  unfold corT
  rw [len_app]; omega
theorem ltx_len {pr : Nat} {l : Lf} (h : LfOk pr l) (hp : pr ≤ 3) : (ltx l).length ≤ 40 := by
  cases l with
  | val v =>
    obtain ⟨ok, w⟩ := h
    cases v with
    | none => exact w.elim
    | num t b =>
      have := num_len (n := t) w.2.1 (by have := w.2.2; omega)
      show (num t).length ≤ 40
      omega
    | txt z =>
      have h20 : z.length ≤ 20 := ok.1
      have e : (zS "\"").length = 1 := by decide +kernel
      show ((zS "\"" ++ z) ++ zS "\"").length ≤ 40
      rw [len_app, len_app]; omega
    | tru b => cases b <;> (show (zS _).length ≤ 40; decide +kernel)
    | flt w z r c => exact w.elim
  | cell s c =>
    have a := stx_len h.1
    have b := corT_len h.2
    show (stx s ++ corT c).length ≤ 40
    rw [len_app]; omega
  | rng s c d =>
    have a := stx_len h.1
    have b := corT_len h.2.1
    have b2 := corT_len h.2.2.1
    have e : (zS ":").length = 1 := by decide +kernel
    show (((stx s ++ corT c) ++ zS ":") ++ corT d).length ≤ 40
    rw [len_app, len_app, len_app]; omega
  | cols s i x j y =>
    have a := stx_len h.1
    have b := colT_len i x
    have b2 := colT_len j y
    have e : (zS ":").length = 1 := by decide +kernel
    show (((stx s ++ colT i x) ++ zS ":") ++ colT j y).length ≤ 40
    rw [len_app, len_app, len_app]; omega
  | gone => show (zS "#").length ≤ 40; decide +kernel
  | nam z => have := h.1.hi; show z.length ≤ 40; omega
  | par i =>
    have := num_len (n := i) h.1 (by have := h.2; omega)
    have e : (zS "?").length = 1 := by decide +kernel
    show (zS "?" ++ num i).length ≤ 40
    rw [len_app]; omega
def opT (z : Str) : Int := if z = zS "=" then 1 else if z = zS "<" then 1 else if z = zS "&" then 2 else if z = zS "+" then 3 else if z = zS "-" then 3 else if z = zS "*" then 4 else 4
def tgt : Fm → Int
  | .nd (.op z) _ => opT z
  | .nd .neg _ => 5
  | _ => 9
def brk (b : Bool) (t : Str) : Str := if b = true then (zS "(" ++ t) ++ zS ")" else t
def callT (z : Str) (ts : List Str) : Str := ((z ++ zS "(") ++ Txt.join (zS ";") ts) ++ zS ")"
def ktx : Kd → List Int → List Str → Str
  | .op z, [g1, g2], [t1, t2] => (brk (decide (g1 < opT z)) t1 ++ z) ++ brk (decide (g2 < opT z + 1)) t2
  | .neg, [g], [t] => zS "-" ++ brk (decide (g < 5)) t
  | .own z, _, ts => callT z ts
  | .sumif z, _, ts => callT (zS "sumif") (ts.take 1 ++ z :: ts.drop 1)
  | .grid i j, _, ts => callT (zS "grid") (num i :: num j :: ts)
  | .wd z, _, ts => callT z ts
  | _, _, _ => zS ""
mutual
def ftx : Fm → Str
  | .lf l => ltx l
  | .nd k ps => ktx k (ps.map tgt) (ftxs ps)
def ftxs : List Fm → List Str
  | [] => []
  | f :: fs => ftx f :: ftxs fs
end
theorem ftxs_map : ∀ fs : List Fm, ftxs fs = fs.map ftx
  | [] => by rw [ftxs]; rfl
  | f :: fs => by rw [ftxs, ftxs_map fs]; rfl
theorem ftx_nd (k : Kd) (ps : List Fm) : ftx (.nd k ps) = ktx k (ps.map tgt) (ps.map ftx) := by rw [ftx, ftxs_map]
theorem ftx_lf (l : Lf) : ftx (.lf l) = ltx l := by rw [ftx]
def LB : Nat → Nat
  | 0 => 40
  | n + 1 => 4 * LB n + 100
theorem LB_lo : ∀ n, 40 ≤ LB n
  | 0 => Nat.le_refl _
  | n + 1 => by show 40 ≤ 4 * LB n + 100; omega
theorem join_len {B : Nat} : ∀ ts : List Str, (∀ t ∈ ts, t.length ≤ B) → (Str.join (zS ";") ts).length ≤ ts.length * (B + 1)
  | [], _ => Nat.zero_le _
  | [x], h => by
    have := h x (by simp)
    show x.length ≤ 1 * (B + 1)
    omega
  | x :: y :: r, h => by
    have ih := join_len (y :: r) fun t ht => h t (List.mem_cons_of_mem _ ht)
    have hx := h x (by simp)
    have e : (zS ";").length = 1 := by decide +kernel
    show (x ++ zS ";" ++ Str.join (zS ";") (y :: r)).length ≤ (r.length + 1 + 1) * (B + 1)
    rw [len_app, len_app, Nat.add_mul (r.length + 1)]
    have ih' : (Str.join (zS ";") (y :: r)).length ≤ (r.length + 1) * (B + 1) := ih
    omega
theorem callT_len {z : Str} {ts : List Str} {B : Nat} (hz : z.length ≤ 6) (h : ∀ t ∈ ts, t.length ≤ B) (hn : ts.length ≤ 5) : (callT z ts).length ≤ ts.length * (B + 1) + 8 ∧ (Txt.join (zS ";") ts).length ≤ ts.length * (B + 1) := by
  have e1 : (zS "(").length = 1 := by decide +kernel
  have e2 : (zS ")").length = 1 := by decide +kernel
  have j : (Txt.join (zS ";") ts).length ≤ ts.length * (B + 1) := by
    unfold Txt.join
    rw [StrLaws.glued_eq_join]
    exact join_len ts h
  refine ⟨?_, j⟩
  unfold callT
  rw [len_app, len_app, len_app]
  omega
theorem brk_len (b : Bool) (t : Str) : (brk b t).length ≤ t.length + 2 := by
  have e1 : (zS "(").length = 1 := by decide +kernel
  have e2 : (zS ")").length = 1 := by decide +kernel
  unfold brk
  split
  · rw [len_app, len_app]; omega
  · omega
theorem jo_ok {ts : List Str} {B : Nat} (h : ∀ t ∈ ts, t.length ≤ B) (hn : ts.length ≤ 5) (hB : B ≤ 3000000) : JoinOk (zS ";") ts = true := by
  unfold JoinOk
  rw [StrLaws.joinFits (B := B) h (by
    have e : (zS ";").length = 1 := by decide +kernel
    rw [e]
    have : ts.length * B ≤ 5 * 3000000 := Nat.mul_le_mul hn hB
    omega)]
  rfl
theorem ops_len {z : Str} (h : z ∈ OPS) : z.length = 1 := by
  have : ∀ x ∈ OPS, x.length = 1 := by decide +kernel
  exact this z h
theorem ins_mem {z : Str} {ts : List Str} {B : Nat} (hz : z.length ≤ B) (h : ∀ t ∈ ts, t.length ≤ B) : ∀ t ∈ ts.take 1 ++ z :: ts.drop 1, t.length ≤ B := fun t ht => by
  rcases List.mem_append.mp ht with q | q
  · exact h t (List.mem_of_mem_take q)
  · rcases List.mem_cons.mp q with q | q
    · rw [q]; exact hz
    · exact h t (List.mem_of_mem_drop q)
theorem num_s {i : Int} (h0 : 1 ≤ i) (h1 : i ≤ 16) : (num i).length ≤ 2 := (num_dg h0 h1).2
theorem ktx_len {k : Kd} {gs : List Int} {ts : List Str} {B : Nat} (ok : KdOk k ts.length) (hg : gs.length = ts.length) (hB : 40 ≤ B) (h : ∀ t ∈ ts, t.length ≤ B) : (ktx k gs ts).length ≤ 4 * B + 100 := by
  cases k with
  | op z =>
    obtain ⟨hz, h2⟩ := ok
    match ts, gs, h2, hg with
    | [t1, t2], [g1, g2], _, _ =>
      have a := brk_len (decide (g1 < opT z)) t1
      have b := brk_len (decide (g2 < opT z + 1)) t2
      have c := ops_len hz
      have h1 := h t1 (by simp)
      have h2 := h t2 (by simp)
      show ((brk (decide (g1 < opT z)) t1 ++ z) ++ brk (decide (g2 < opT z + 1)) t2).length ≤ _
      rw [len_app, len_app]; omega
  | neg =>
    match ts, gs, (show ts.length = 1 from ok), hg with
    | [t], [g], _, _ =>
      have a := brk_len (decide (g < 5)) t
      have h1 := h t (by simp)
      have e : (zS "-").length = 1 := by decide +kernel
      show (zS "-" ++ brk (decide (g < 5)) t).length ≤ _
      rw [len_app]; omega
  | own z =>
    have a := (callT_len (z := z) ok.1.hi h (by have := ok.2.2; omega)).1
    have h3 : ts.length * (B + 1) ≤ 3 * (B + 1) := Nat.mul_le_mul_right _ ok.2.2
    show (callT z ts).length ≤ _
    omega
  | sumif z =>
    have hz : z.length ≤ B := by
      rcases ok.1 with e | e <;> (rw [e]; exact Nat.le_trans (show _ ≤ 40 by decide +kernel) hB)
    have h3 := ok.2
    have e : (ts.take 1 ++ z :: ts.drop 1).length = 4 := by
      rw [List.length_append, List.length_take, List.length_cons, List.length_drop]; omega
    have a := (callT_len (z := zS "sumif") (by decide +kernel) (ins_mem hz h) (by omega)).1
    rw [e] at a
    show (callT (zS "sumif") _).length ≤ _
    omega
  | grid i j =>
    obtain ⟨i0, i1, j0, j1, h2⟩ := ok
    have a := (callT_len (z := zS "grid") (B := B) (ts := num i :: num j :: ts) (by decide +kernel) (fun t ht => by
      rcases List.mem_cons.mp ht with q | q
      · rw [q]; have := num_s i0 i1; omega
      · rcases List.mem_cons.mp q with q | q
        · rw [q]; have := num_s j0 (by omega); omega
        · exact h t q) (by simp; omega)).1
    have e : (num i :: num j :: ts).length = 4 := by simp; omega
    rw [e] at a
    show (callT (zS "grid") _).length ≤ _
    omega
  | wd z =>
    have hw : (z, ts.length) ∈ WDS := ok
    have hz : ∀ x ∈ WDS, x.1.length ≤ 6 ∧ x.2 ≤ 3 := by decide +kernel
    obtain ⟨h6, h3⟩ := hz _ hw
    dsimp only at h6 h3
    have a := (callT_len (z := z) h6 h (by omega)).1
    have h3' : ts.length * (B + 1) ≤ 3 * (B + 1) := Nat.mul_le_mul_right _ h3
    show (callT z ts).length ≤ _
    omega
theorem ftx_len {pr : Nat} (hp : pr ≤ 3) {n : Nat} {f : Fm} (h : FO pr n f) : (ftx f).length ≤ LB n := by
  induction h with
  | lf h =>
    rw [ftx_lf]
    exact Nat.le_trans (ltx_len h hp) (LB_lo _)
  | @nd n k ps ok _ ih =>
    rw [ftx_nd]
    refine ktx_len (by rw [List.length_map]; exact ok) (by simp) (LB_lo n) fun t ht => ?_
    obtain ⟨f, hf, rfl⟩ := List.mem_map.mp ht
    exact ih f hf
theorem LB_mono {m n : Nat} (h : m ≤ n) : LB m ≤ LB n := by
  induction h with
  | refl => exact Nat.le_refl _
  | step _ ih => exact Nat.le_trans ih (by show _ ≤ 4 * LB _ + 100; omega)
theorem LB8 : LB 8 ≤ 9000000 := by decide +kernel
theorem nil_app (a : Str) : zS "" ++ a = a := str_ext (by rw [app_signs, show (zS "").cps.toList = [] by decide +kernel]; rfl)
theorem app_as (a b c : Str) : (a ++ b) ++ c = a ++ (b ++ c) := str_ext (by rw [app_signs, app_signs, app_signs, app_signs, List.append_assoc])
def dl (x : Bool) : Str := if x = true then zS "$" else zS ""
theorem dl_at (x : Bool) : atI [vS "", vS "$"] (if x then 1 else 0) = some (V.str (dl x)) := by cases x <;> rfl
theorem dl_len (x : Bool) : (dl x).length ≤ 1 := by cases x <;> decide +kernel
theorem dl_col (c : Int) (x : Bool) : dl x ++ colL c = colT c x := by
  cases x
  · show zS "" ++ colL c = colL c; exact nil_app _
  · rfl
theorem dl_cor (c : Cor) : (colT c.c c.y ++ dl c.x) ++ num c.r = corT c := by
  rw [app_as]
  unfold corT rowT dl
  cases c.x
  · show _ ++ (zS "" ++ num c.r) = _ ++ num c.r; rw [nil_app]
  · rfl
theorem log16 {r : Int} (h0 : 0 ≤ r) (h1 : r < 10 ^ 30) : r.natAbs.log2 < 1920 := log30 (by omega)
def spColD : Sp := fun vs H Q _ => ∃ (c : Int) (x : Bool), vs = [.int c, .bl x] ∧ 1 ≤ c ∧ c ≤ 8 ∧ ∀ H', Same H H' → Q (.str (colT c x)) H'
def spCoT : Sp := fun vs H Q _ => ∃ (a : Addr) (c : Cor), vs = [.ref a] ∧ H a = some (.tup (corV c)) ∧ CorOk c ∧ ∀ H', Same H H' → Q (.str (corT c)) H'
def spLfT : Sp := fun vs H Q _ => ∃ (a : Addr) (l : Lf) (pr : Nat), vs = [.ref a] ∧ LfAt H a l ∧ LfOk pr l ∧ pr ≤ 3 ∧ ∀ H', Same H H' → Q (.str (ltx l)) H'
theorem atI_hd {α : Type} {x : α} {r : List α} : atI (x :: r) 0 = some x := atI_nat (j := 0) rfl
theorem atI_1 {α : Type} {x y : α} {r : List α} : atI (x :: y :: r) 1 = some y := atI_nat (j := 1) rfl
theorem atI_2 {α : Type} {x y z : α} {r : List α} : atI (x :: y :: z :: r) 2 = some z := atI_nat (j := 2) rfl
theorem atI_3 {α : Type} {x y z u : α} {r : List α} : atI (x :: y :: z :: u :: r) 3 = some u := atI_nat (j := 3) rfl
def prtF : Fm → List Fm
  | .lf _ => []
  | .nd _ ps => ps
abbrev L7 : List V := [vS "value", vS "cell", vS "range", vS "columns", vS "gone", vS "name", vS "param"]
def kw : Kd → Str
  | .op _ => zS "op"
  | .neg => zS "neg"
  | .own _ => zS "own"
  | .sumif _ => zS "sumif"
  | .grid _ _ => zS "grid"
  | .wd z => z
theorem lay_kw (t : Addr) (k : Kd) (us : List V) : ∃ r, layV t k us = .str (kw k) :: r := by cases k <;> exact ⟨_, rfl⟩
theorem LfAt.hd {H : Hp} {a : Addr} {l : Lf} (h : LfAt H a l) : ∃ w r, H a = some (.tup (.str w :: r)) ∧ inV (.str w) L7 = true ∧ V.bl (decide (V.str w = vS "op")) = V.bl false ∧ V.bl (decide (V.str w = vS "neg")) = V.bl false := by
  cases l with
  | val v => obtain ⟨q, h1, _⟩ := h; exact ⟨_, _, h1, by decide +kernel, by decide +kernel, by decide +kernel⟩
  | cell s c => obtain ⟨q, h1, _⟩ := h; exact ⟨_, _, h1, by decide +kernel, by decide +kernel, by decide +kernel⟩
  | rng s c d => obtain ⟨q, u, h1, _⟩ := h; exact ⟨_, _, h1, by decide +kernel, by decide +kernel, by decide +kernel⟩
  | cols s i x j y => obtain ⟨q, u, h1, _⟩ := h; exact ⟨_, _, h1, by decide +kernel, by decide +kernel, by decide +kernel⟩
  | gone => exact ⟨_, _, h, by decide +kernel, by decide +kernel, by decide +kernel⟩
  | nam z => exact ⟨_, _, h, by decide +kernel, by decide +kernel, by decide +kernel⟩
  | par i => exact ⟨_, _, h, by decide +kernel, by decide +kernel, by decide +kernel⟩
theorem FmAt.tup {H : Hp} {v : V} {f : Fm} (h : FmAt H v f) : ∃ b ys, v = .ref b ∧ H b = some (.tup ys) := by
  cases h with
  | lf h => obtain ⟨w, r, h1, _⟩ := h.hd; exact ⟨_, _, rfl, h1⟩
  | nd h _ _ _ => exact ⟨_, _, rfl, h⟩
theorem FmAt.parts {H : Hp} {us : List V} {ps : List Fm} (hl : us.length = ps.length) (hh : ∀ (j : Nat) (u : V) (f : Fm), us[j]? = some u → ps[j]? = some f → FmAt H u f) : FmsAt H us ps := by
  induction us generalizing ps with
  | nil =>
    cases ps with
    | nil => exact .nil
    | cons _ _ => simp at hl
  | cons u us ih =>
    cases ps with
    | nil => simp at hl
    | cons p ps => exact .cons (hh 0 u p rfl rfl) (ih (by simpa using hl) fun j u f e1 e2 => hh (j + 1) u f (by simpa using e1) (by simpa using e2))
def isRefV : V → Bool
  | .ref _ => true
  | _ => false
def PartOr (H : Hp) (x : V) : Prop := (∃ b ys, x = .ref b ∧ H b = some (.tup ys)) ∨ (∃ z, x = .str z) ∨ ∃ i, x = .int i
theorem cut1 (x : V) (xs : List V) : cutV (x :: xs) (some 1) none = xs ∧ ¬ (HT.sIx (x :: xs).length 0 (some 1) = 0 ∧ HT.sIx (x :: xs).length (x :: xs).length none = (x :: xs).length) := by
  have e1 : HT.sIx (x :: xs).length 0 (some 1) = 1 := by
    unfold HT.sIx
    simp only [List.length_cons]
    split <;> omega
  have e2 : HT.sIx (x :: xs).length (x :: xs).length none = (x :: xs).length := rfl
  refine ⟨?_, fun z => by rw [e1] at z; exact absurd z.1 (by decide)⟩
  unfold cutV
  rw [e1, e2]
  simp
theorem refs_all {us : List V} (h : ∀ u ∈ us, isRefV u = true) : us.filter isRefV = us := List.filter_eq_self.mpr h
theorem lay_tail {H : Hp} {t : Addr} {k : Kd} {us : List V} (ok : KdOk k us.length) (no : isOwn k = false) (hr : ∀ u ∈ us, ∃ b ys, u = .ref b ∧ H b = some (.tup ys)) :
    ∃ r, layV t k us = .str (kw k) :: r ∧ (∀ x ∈ r, PartOr H x) ∧ r.filter isRefV = us ∧ r.length ≤ 5 := by
  have rf : ∀ u ∈ us, isRefV u = true := fun u hu => by obtain ⟨b, ys, rfl, _⟩ := hr u hu; rfl
  have l3 := ok.le
  cases k with
  | op z =>
    refine ⟨_, rfl, fun x hx => ?_, by simp [isRefV, refs_all rf], by simp; omega⟩
    rcases List.mem_cons.mp hx with q | q
    · exact .inr (.inl ⟨_, q⟩)
    · exact .inl (hr x q)
  | neg => exact ⟨_, rfl, fun x hx => .inl (hr x hx), refs_all rf, by omega⟩
  | own z => cases no
  | sumif z =>
    refine ⟨_, rfl, fun x hx => ?_, ?_, by simp; omega⟩
    · rcases List.mem_append.mp hx with q | q
      · exact .inl (hr x (List.mem_of_mem_take q))
      · rcases List.mem_cons.mp q with q | q
        · exact .inr (.inl ⟨_, q⟩)
        · exact .inl (hr x (List.mem_of_mem_drop q))
    · rw [List.filter_append, List.filter_cons]
      show _ ++ (us.drop 1).filter isRefV = us
      rw [refs_all fun u hu => rf u (List.mem_of_mem_take hu), refs_all fun u hu => rf u (List.mem_of_mem_drop hu), List.take_append_drop]
  | grid i j =>
    refine ⟨_, rfl, fun x hx => ?_, by simp [isRefV, refs_all rf], by simp; omega⟩
    rcases List.mem_cons.mp hx with q | q
    · exact .inr (.inr ⟨_, q⟩)
    · rcases List.mem_cons.mp q with q | q
      · exact .inr (.inr ⟨_, q⟩)
      · exact .inl (hr x q)
  | wd z => exact ⟨_, rfl, fun x hx => .inl (hr x hx), refs_all rf, by omega⟩
theorem kw_no {k : Kd} {m : Nat} (ok : KdOk k m) : inV (.str (kw k)) L7 = false := by
  cases k with
  | wd z =>
    have hw : (z, m) ∈ WDS := ok
    have : ∀ x ∈ WDS, inV (.str x.1) L7 = false := by decide +kernel
    exact this _ hw
  | op z => show inV (vS "op") L7 = false; decide +kernel
  | neg => show inV (vS "neg") L7 = false; decide +kernel
  | own z => show inV (vS "own") L7 = false; decide +kernel
  | sumif z => show inV (vS "sumif") L7 = false; decide +kernel
  | grid i j => show inV (vS "grid") L7 = false; decide +kernel
theorem kw_own {k : Kd} {m : Nat} (ok : KdOk k m) : decide (V.str (kw k) = vS "own") = isOwn k := by
  cases k with
  | wd z =>
    have hw : (z, m) ∈ WDS := ok
    have : ∀ x ∈ WDS, decide (V.str x.1 = vS "own") = false := by decide +kernel
    exact this _ hw
  | op z => show decide (vS "op" = vS "own") = false; decide +kernel
  | neg => show decide (vS "neg" = vS "own") = false; decide +kernel
  | own z => show decide (vS "own" = vS "own") = true; decide +kernel
  | sumif z => show decide (vS "sumif" = vS "own") = false; decide +kernel
  | grid i j => show decide (vS "grid" = vS "own") = false; decide +kernel
def isOp : Kd → Bool
  | .op _ => true
  | _ => false
def isNeg : Kd → Bool
  | .neg => true
  | _ => false
def isSumif : Kd → Bool
  | .sumif _ => true
  | _ => false
def isGrid : Kd → Bool
  | .grid _ _ => true
  | _ => false
def kwq (w : Str) (a b c d : Bool) : Bool := decide (V.str w = vS "op") == a && (decide (V.str w = vS "neg") == b && (decide (V.str w = vS "sumif") == c && decide (V.str w = vS "grid") == d))
theorem kwq_s {w : Str} {a b c d : Bool} (h : kwq w a b c d = true) : decide (V.str w = vS "op") = a ∧ decide (V.str w = vS "neg") = b ∧ decide (V.str w = vS "sumif") = c ∧ decide (V.str w = vS "grid") = d := by
  unfold kwq at h
  simp only [Bool.and_eq_true, beq_iff_eq] at h
  exact h
theorem kw_op {k : Kd} {m : Nat} (ok : KdOk k m) : decide (V.str (kw k) = vS "op") = isOp k ∧ decide (V.str (kw k) = vS "neg") = isNeg k ∧ decide (V.str (kw k) = vS "sumif") = isSumif k ∧ decide (V.str (kw k) = vS "grid") = isGrid k := by
  apply kwq_s
  cases k with
  | wd z =>
    have hw : (z, m) ∈ WDS := ok
    have : ∀ x ∈ WDS, kwq x.1 false false false false = true := by decide +kernel
    exact this _ hw
  | op z => show kwq (zS "op") true false false false = true; decide +kernel
  | neg => show kwq (zS "neg") false true false false = true; decide +kernel
  | own z => show kwq (zS "own") false false false false = true; decide +kernel
  | sumif z => show kwq (zS "sumif") false false true false = true; decide +kernel
  | grid i j => show kwq (zS "grid") false false false true = true; decide +kernel
def OPK : List (Key × V) := [(kS "=", .int 1), (kS "<", .int 1), (kS "&", .int 2), (kS "+", .int 3), (kS "-", .int 3), (kS "*", .int 4), (kS "/", .int 4)]
theorem op_val {z : Str} (h : z ∈ OPS) : valV (mergeK [] OPK) (Sum.inr z) = some (.int (opT z)) := by
  have : ∀ x ∈ OPS, valV (mergeK [] OPK) (Sum.inr x) = some (.int (opT x)) := by decide +kernel
  exact this z h
def spPrt : Sp := fun vs H Q _ => ∃ (v : V) (f : Fm) (pr n : Nat), vs = [v] ∧ FmAt H v f ∧ FO pr n f ∧ ∀ (l : Addr) (us : List V) (H' : Hp), H l = none → H' l = some (.lst us) → FmsAt H' us (prtF f) → Same H H' → Q (.ref l) H'
def spTgt : Sp := fun vs H Q _ => ∃ (v : V) (f : Fm) (pr n : Nat), vs = [v] ∧ FmAt H v f ∧ FO pr n f ∧ ∀ H', Same H H' → Q (.int (tgt f)) H'
def spWr (n : Nat) : Sp := fun vs H Q _ => ∃ (v : V) (f : Fm) (pr : Nat), vs = [v, .non] ∧ FmAt H v f ∧ FO pr n f ∧ pr ≤ 3 ∧ n ≤ 8 ∧ ∀ H', Same H H' → Q (.str (ftx f)) H'
def spPl (n : Nat) : Sp := fun vs H Q _ => ∃ (v : V) (i : Int) (f : Fm) (pr : Nat), vs = [v, .int i, .non] ∧ FmAt H v f ∧ FO pr n f ∧ pr ≤ 3 ∧ n ≤ 8 ∧ ∀ H', Same H H' → Q (.str (brk (decide (tgt f < i)) (ftx f))) H'
theorem Same.back0 {H H' : Hp} {b : Addr} (s : Same H H') (h : H' b = none) : H b = none := by
  cases e : H b with
  | none => rfl
  | some o => rw [s _ _ e] at h; cases h
theorem app_e (a : Str) : a ++ zS "" = a := str_ext (by rw [app_signs, show (zS "").cps.toList = [] by decide +kernel, List.append_nil])
def spBr (n : Nat) : Sp := fun vs H Q _ => ∃ (v : V) (f : Fm) (pr : Nat), vs = [v, .non] ∧ FmAt H v f ∧ FO pr (n + 1) f ∧ pr ≤ 3 ∧ n ≤ 7 ∧ ∀ H', Same H H' → Q (.str (ftx f)) H'
theorem ftx_le {pr n : Nat} {f : Fm} (h : FO pr n f) (hp : pr ≤ 3) (h8 : n ≤ 8) : (ftx f).length ≤ 9000000 := Nat.le_trans (ftx_len hp h) (Nat.le_trans (LB_mono h8) LB8)
theorem slm {n : Nat} (h : n ≤ 16000000) : n ≤ sizeLine := Nat.le_trans h (by decide)
theorem mul0 {z : Str} : MulOk z 0 := ⟨by decide, fun h => absurd (by decide) h, fun h => absurd (by decide) h⟩
theorem LB7s : LB 7 ≤ 2000000 := by decide +kernel
theorem ftx_lo {pr n : Nat} {f : Fm} (h : FO pr n f) (hp : pr ≤ 3) (h7 : n ≤ 7) : (ftx f).length ≤ 2000000 := Nat.le_trans (ftx_len hp h) (Nat.le_trans (LB_mono h7) LB7s)
theorem call_sz {z : Str} {ts : List Str} (hz : z.length ≤ 6) (h : ∀ t ∈ ts, t.length ≤ 2000000) (hn : ts.length ≤ 5) :
    z.length + (zS "(").length ≤ sizeLine ∧ JoinOk (zS ";") ts = true ∧ (z ++ zS "(").length + (Txt.join (zS ";") ts).length ≤ sizeLine ∧ ((z ++ zS "(") ++ Txt.join (zS ";") ts).length + (zS ")").length ≤ sizeLine := by
  have e1 : (zS "(").length = 1 := by decide +kernel
  have e2 : (zS ")").length = 1 := by decide +kernel
  obtain ⟨_, b⟩ := callT_len hz h hn
  have b' : ts.length * (2000000 + 1) ≤ 5 * (2000000 + 1) := Nat.mul_le_mul_right _ hn
  refine ⟨slm (by omega), jo_ok h hn (by decide), slm (by rw [len_app]; omega), slm (by rw [len_app, len_app]; omega)⟩
def BDK : List (Key × V) := [(kS "=", .int 1), (kS "<", .int 1), (kS "&", .int 2), (kS "+", .int 3), (kS "-", .int 3), (kS "*", .int 4), (kS "/", .int 4), (kS "neg", .int 5)]
def PPK : List (Key × List V) := [(kS "op", [.int 2, .int 3]), (kS "neg", [.int 1]), (kS "if", [.int 1, .int 2, .int 3]), (kS "sum", [.int 1]), (kS "count", [.int 1]), (kS "least", [.int 1]), (kS "most", [.int 1]), (kS "sumif", [.int 1, .int 3, .int 4]), (kS "find", [.int 1, .int 2, .int 3]), (kS "turn", [.int 1]), (kS "stack", [.int 1, .int 2]), (kS "grid", [.int 3, .int 4]), (kS "outer", [.int 1])]
def spFml (K : PySem.W.Frag) : Sp := fun vs H Q _ => ∃ (p : Addr) (pr : Nat) (c : Nat) (S : Addr × List Int), vs = [.ref p, .int pr] ∧ pr ≤ 3 ∧ PenD K S H p c ∧ c ≤ 5000000 ∧ ∀ (v : V) (f : Fm) (H' : Hp), FmAt H' v f → FO pr 8 f → PenD K S H' p (c + 2200) → KeepX p H H' → Q v H'
theorem pickR {r : Int} (h0 : 0 ≤ r) (h1 : r < 4) : ∃ v : Int, atI [V.int 3, V.int 8, V.int 24, V.int 24] r = some (V.int v) ∧ 3 ≤ v ∧ v ≤ 24 := by
  have : r = 0 ∨ r = 1 ∨ r = 2 ∨ r = 3 := by omega
  rcases this with rfl | rfl | rfl | rfl
  · exact ⟨3, rfl, by decide, by decide⟩
  · exact ⟨8, rfl, by decide, by decide⟩
  · exact ⟨24, rfl, by decide, by decide⟩
  · exact ⟨24, rfl, by decide, by decide⟩
def spStd : Sp := fun vs H Q _ => ∃ (z : Str) (x : Bool), vs = [.str z, .bl x] ∧ z.length ≤ 100 ∧ ∀ H', Same H H' → Q (.str (if x = true then zS "$" ++ z else z)) H'
def isRf : Lf → Bool
  | .cell _ _ => true
  | .rng _ _ _ => true
  | .cols _ _ _ _ _ => true
  | _ => false
def spRfT : Sp := fun vs H Q _ => ∃ (a : Addr) (l : Lf) (pr : Nat), vs = [.ref a] ∧ LfAt H a l ∧ LfOk pr l ∧ isRf l = true ∧ ∀ H', Same H H' → Q (.str (ltx l)) H'
def spWv : Sp := fun vs H Q _ => ∃ (q : Addr) (v : Vl), vs = [.ref q] ∧ VlAt H q v ∧ VlOk v ∧ VlW v ∧ ∀ H', Same H H' → Q (.str (vtx v)) H'
def spCl : Sp := fun vs H Q _ => ∃ (z : Str) (D : Addr) (ts : List Str), vs = [.str z, .ref D] ∧ H D = some (.lst (ts.map V.str)) ∧ z.length ≤ 6 ∧ (∀ t ∈ ts, t.length ≤ 2000000) ∧ ts.length ≤ 5 ∧ ∀ H', Same H H' → Q (.str (callT z ts)) H'
def spPo : Sp := fun vs H Q _ => ∃ (v : V) (kd : Kd) (ps : List Fm) (pr n : Nat), vs = [v] ∧ FmAt H v (.nd kd ps) ∧ FO pr n (.nd kd ps) ∧ ∀ (l : Addr) (us : List V) (H' : Hp), H l = none → H' l = some (.lst us) → FmsAt H' us ps → Same H H' → Q (.ref l) H'
def ppAt (k : Str) : Option (List V) := (PPK.find? fun kt => decide (kt.1 = (Sum.inr k : Key))).map (·.2)
abbrev KTs (K : PySem.W.Frag) : List (Key × V) → List (Key × List V) → Prop := Paired (fun (kv : Key × V) (kt : Key × List V) => kv.1 = kt.1 ∧ ∃ a, kv.2 = .ref a ∧ ∀ H, SqT K H a kt.2)
theorem pp_get {K : PySem.W.Frag} {k : Key} {ys : List V} : ∀ {kvs : List (Key × V)} {kts : List (Key × List V)}, KTs K kvs kts → (kts.find? fun kt => decide (kt.1 = k)).map (·.2) = some ys → ∃ a, valV kvs k = some (.ref a) ∧ ∀ H, SqT K H a ys
  | _, _, .nil, h => by simp at h
  | (kv :: kvs), (kt :: kts), .cons r t, h => by
    obtain ⟨e, a, ea, sq⟩ := r
    by_cases c : kt.1 = k
    · rw [List.find?_cons_of_pos (by simpa using c)] at h
      simp only [Option.map_some, Option.some.injEq] at h
      subst h
      exact ⟨a, by rw [valV_pos (e.trans c), ea], sq⟩
    · rw [List.find?_cons_of_neg (by simpa using c)] at h
      obtain ⟨b, hb, sb⟩ := pp_get t h
      exact ⟨b, by rw [valV_neg (fun z => c (e.symm.trans z))]; exact hb, sb⟩
def up1 (m : Nat) : List Nat := (List.range m).map (· + 1)
def tg6 : Fm → Int
  | .nd (.op z) _ => opT z
  | .nd .neg _ => 5
  | _ => 6
theorem LfAt.bd {H : Hp} {a : Addr} {l : Lf} (h : LfAt H a l) : ∃ w r, H a = some (.tup (.str w :: r)) ∧ V.bl (decide (V.str w = vS "op")) = V.bl false ∧ (valV BDK (Sum.inr w)).getD (.int 6) = .int 6 := by
  cases l with
  | val v => obtain ⟨q, h1, _⟩ := h; exact ⟨_, _, h1, by decide +kernel, by decide +kernel⟩
  | cell s c => obtain ⟨q, h1, _⟩ := h; exact ⟨_, _, h1, by decide +kernel, by decide +kernel⟩
  | rng s c d => obtain ⟨q, u, h1, _⟩ := h; exact ⟨_, _, h1, by decide +kernel, by decide +kernel⟩
  | cols s i x j y => obtain ⟨q, u, h1, _⟩ := h; exact ⟨_, _, h1, by decide +kernel, by decide +kernel⟩
  | gone => exact ⟨_, _, h, by decide +kernel, by decide +kernel⟩
  | nam z => exact ⟨_, _, h, by decide +kernel, by decide +kernel⟩
  | par i => exact ⟨_, _, h, by decide +kernel, by decide +kernel⟩
def spBi : Sp := fun vs H Q _ => ∃ (v : V) (f : Fm) (pr n : Nat), vs = [v] ∧ FmAt H v f ∧ FO pr n f ∧ ∀ H', Same H H' → Q (.int (tg6 f)) H'
def spFt (n : Nat) : Sp := fun vs H Q _ => ∃ (v : V) (f : Fm) (pr : Nat), vs = [v] ∧ FmAt H v f ∧ FO pr n f ∧ pr ≤ 3 ∧ n ≤ 8 ∧ ∀ H', Same H H' → Q (.str (ftx f)) H'
def spPt (n : Nat) : Sp := fun vs H Q _ => ∃ (v : V) (i : Int) (f : Fm) (pr : Nat), vs = [v, .int i] ∧ i ≤ 5 ∧ FmAt H v f ∧ FO pr n f ∧ pr ≤ 3 ∧ n ≤ 8 ∧ ∀ H', Same H H' → Q (.str (brk (decide (tgt f < i)) (ftx f))) H'
def spOp (n : Nat) : Sp := fun vs H Q _ => ∃ (v : V) (z : Str) (ps : List Fm) (pr : Nat), vs = [v] ∧ FmAt H v (.nd (.op z) ps) ∧ FO pr (n + 1) (.nd (.op z) ps) ∧ pr ≤ 3 ∧ n ≤ 7 ∧ ∀ H', Same H H' → Q (.str (ftx (.nd (.op z) ps))) H'
def spWd (n : Nat) : Sp := fun vs H Q _ => ∃ (v : V) (kd : Kd) (ps : List Fm) (pr : Nat), vs = [v] ∧ FmAt H v (.nd kd ps) ∧ FO pr (n + 1) (.nd kd ps) ∧ isOp kd = false ∧ isNeg kd = false ∧ pr ≤ 3 ∧ n ≤ 7 ∧ ∀ H', Same H H' → Q (.str (ftx (.nd kd ps))) H'
mutual
def szF : Fm → Nat
  | .lf _ => 1
  | .nd _ ps => 1 + szs ps
def szs : List Fm → Nat
  | [] => 0
  | f :: fs => szF f + szs fs
end
theorem szs_app : ∀ a b : List Fm, szs (a ++ b) = szs a + szs b
  | [], b => by rw [List.nil_append, szs]; omega
  | x :: a, b => by rw [List.cons_append, szs, szs, szs_app a b]; omega
theorem szs_le {B : Nat} : ∀ fs : List Fm, (∀ f ∈ fs, szF f ≤ B) → szs fs ≤ fs.length * B
  | [], _ => by rw [szs]; exact Nat.zero_le _
  | f :: fs, h => by
    have a := szs_le fs fun g hg => h g (List.mem_cons_of_mem _ hg)
    have b := h f (by simp)
    rw [szs, List.length_cons, Nat.add_mul]; omega
def SB : Nat → Nat
  | 0 => 0
  | n + 1 => 1 + 3 * SB n
theorem FO.sz {pr n : Nat} {f : Fm} (h : FO pr n f) : szF f ≤ SB n := by
  induction h with
  | lf h => rw [szF]; show 1 ≤ 1 + 3 * SB _; omega
  | @nd n k ps ok _ ih =>
    rw [szF]
    have a := szs_le ps ih
    have b : ps.length * SB n ≤ 3 * SB n := Nat.mul_le_mul_right _ ok.le
    show 1 + szs ps ≤ 1 + 3 * SB n
    omega
theorem psplit {α β : Type} {F : α → β → Prop} : ∀ {xs : List α} {x : α} {ys : List β}, Paired F (xs ++ [x]) ys → ∃ ys' y, ys = ys' ++ [y] ∧ Paired F xs ys' ∧ F x y
  | [], _, _, .cons r .nil => ⟨[], _, rfl, .nil, r⟩
  | _ :: _, _, _, .cons r t => by
    obtain ⟨ys', y, rfl, p, q⟩ := psplit t
    exact ⟨_ :: ys', y, rfl, .cons r p, q⟩
theorem papp {α β : Type} {F : α → β → Prop} : ∀ {xs zs : List α} {ys ws : List β}, Paired F xs ys → Paired F zs ws → Paired F (xs ++ zs) (ys ++ ws)
  | _, _, _, _, .nil, h => h
  | _, _, _, _, .cons r t, h => .cons r (papp t h)
def Good (f : Fm) : Prop := ∃ pr, pr ≤ 3 ∧ FO pr 8 f
inductive Th where
  | non | bl (b : Bool) | int (i : Int) | str (z : Str) | lst | dic | tup (ts : List Th)
inductive ThAt (H : Hp) : V → Th → Prop where
  | non : ThAt H .non .non
  | bl (b : Bool) : ThAt H (.bl b) (.bl b)
  | int (i : Int) : ThAt H (.int i) (.int i)
  | str (z : Str) (hz : z.length ≤ 1000) : ThAt H (.str z) (.str z)
  | lst {a : Addr} {xs : List V} (e : H a = some (.lst xs)) : ThAt H (.ref a) .lst
  | dic {a : Addr} {kvs : List (Key × V)} (e : H a = some (.dK kvs)) : ThAt H (.ref a) .dic
  | tup {a : Addr} {us : List V} {ts : List Th} (e : H a = some (.tup us)) (hn : us.length = ts.length) (hh : ∀ (j : Nat) (u : V) (t : Th), us[j]? = some u → ts[j]? = some t → ThAt H u t) : ThAt H (.ref a) (.tup ts)
theorem ThAt.same {H H' : Hp} {v : V} {th : Th} (h : ThAt H v th) (s : Same H H') : ThAt H' v th := by
  induction h with
  | non => exact .non
  | bl b => exact .bl b
  | int i => exact .int i
  | str z hz => exact .str z hz
  | lst e => exact .lst (s _ _ e)
  | dic e => exact .dic (s _ _ e)
  | tup e hn hh ih => exact .tup (s _ _ e) hn fun j u t a b => ih j u t a b
theorem ThAt.ofP {H : Hp} {a : Addr} {us : List V} {ts : List Th} (e : H a = some (.tup us)) (p : Paired (ThAt H) us ts) : ThAt H (.ref a) (.tup ts) := by
  refine .tup e (Paired.length p) ?_
  intro j u t h1 h2
  obtain ⟨t', h3, h4⟩ := paired_at p h1
  rw [h2] at h3
  rw [Option.some.inj h3]
  exact h4
theorem ThAt.toP {H : Hp} : ∀ {us : List V} {ts : List Th}, us.length = ts.length → (∀ (j : Nat) (u : V) (t : Th), us[j]? = some u → ts[j]? = some t → ThAt H u t) → Paired (ThAt H) us ts
  | [], [], _, _ => .nil
  | [], _ :: _, h, _ => by simp at h
  | _ :: _, [], h, _ => by simp at h
  | u :: us, t :: ts, h, g => .cons (g 0 u t rfl rfl) (ThAt.toP (by simpa using h) fun j a b h1 h2 => g (j + 1) a b (by simpa using h1) (by simpa using h2))
def tyN : Th → String
  | .non => "NoneType" | .bl _ => "bool" | .int _ => "int" | .str _ => "str" | .lst => "list" | .dic => "dict" | .tup _ => "tuple"
theorem ThAt.ty {K : PySem.W.Frag} {H : Hp} {v : V} {th : Th} (h : ThAt H v th) : TyOf K H v (.type (tyN th)) := by
  cases h with
  | non => exact .non
  | bl b => exact .bl b
  | int i => exact .int i
  | str z hz => exact .str z
  | lst e => exact .lst e
  | dic e => exact .dK e
  | tup e hn hh => exact .tup e
def isInt : Th → Bool | .int _ => true | _ => false
def isStr : Th → Bool | .str _ => true | _ => false
def isBl : Th → Bool | .bl _ => true | _ => false
def isTup : Th → Bool | .tup _ => true | _ => false
def fewT : Th → Bool | .int i => decide ((if i < 0 then -i else i) ≤ 999999999999999999999999999999) | _ => false
def numT : Th → Th → Bool | .int t, .int b => decide (1 ≤ b) && decide (V.int ((Nat.gcd t.natAbs b.natAbs : Nat) : Int) = V.int 1) | _, _ => false
def shortT (a b : Th) : Bool := fewT a && fewT b && numT a b
def signsT (L : Str) (z : Str) : Bool := (z.cps.toList.map fun c => decide (c ∈ L.cps.toList)).all id
def textT : Th → Bool | .str z => !decide ((20 : Int) < (z.length : Int)) && signsT (Str.ofString "abcdefghijklmnopqrstuvwxyz0123456789 ") z | _ => false
def wordT : Th → Bool | .str z => inV (.str z) (faults.map V.str) | _ => false
def nameT : Th → Bool | .str z => !decide ((z.length : Int) < 1) && !decide ((6 : Int) < (z.length : Int)) && signsT (Str.ofString "abcdefghijklmnopqrstuvwxyz") z | _ => false
def withT (l : Int) : Th → Bool | .int i => decide (1 ≤ i) && decide (i ≤ l) | _ => false
def cellT : Th → Bool | .tup [a, b, c] => nameT a && withT 16 b && withT 8 c | _ => false
def restT (k : Str) (ts : List Th) : Bool :=
  if k = Str.ofString "none" then ts.isEmpty
  else if k = Str.ofString "number" then (match ts with | [a, b] => shortT a b | _ => false)
  else if k = Str.ofString "text" then (match ts with | [a] => textT a | _ => false)
  else if k = Str.ofString "truth" then (match ts with | [a] => isBl a | _ => false)
  else if k = Str.ofString "fault" then (match ts with | [a, b] => wordT a && cellT b | _ => false)
  else false
def valT : Th → Bool | .tup (.str k :: ts) => restT k ts | _ => false
def spT1 (f : Th → Bool) : Sp := fun vs H Q _ => ∃ (v : V) (th : Th), vs = [v] ∧ ThAt H v th ∧ ∀ H', Same H H' → Q (.bl (f th)) H'
def spT2 (f : Th → Th → Bool) : Sp := fun vs H Q _ => ∃ (v u : V) (th tu : Th), vs = [v, u] ∧ ThAt H v th ∧ ThAt H u tu ∧ ∀ H', Same H H' → Q (.bl (f th tu)) H'
def spTW : Sp := fun vs H Q _ => ∃ (v : V) (th : Th) (l : Int), vs = [v, .int l] ∧ ThAt H v th ∧ ∀ H', Same H H' → Q (.bl (withT l th)) H'
def spNN : Sp := fun vs H Q _ => ∃ t b : Int, vs = [.int t, .int b] ∧ Q (.bl (numT (.int t) (.int b))) H
theorem strD {z y : Str} : V.bl (decide (V.str z = V.str y)) = V.bl (decide (z = y)) := by
  congr 1
  by_cases h : z = y
  · subst h; simp
  · rw [decide_eq_false h]; exact decide_eq_false fun e => h (by injection e)
theorem strN {z y : Str} (h : z ≠ y) : V.bl (decide (V.str z = V.str y)) = V.bl false := by rw [decide_eq_false fun e => h (by injection e)]
theorem lenF {n : Nat} {m : Int} (h : (n : Int) ≠ m) : V.bl (decide (V.int (n : Int) = V.int m)) = V.bl false := by rw [decide_eq_false fun e => h (by injection e)]
theorem lenT {n : Nat} {m : Int} (h : (n : Int) = m) : V.bl (decide (V.int (n : Int) = V.int m)) = V.bl true := by rw [decide_eq_true (by rw [h])]
theorem lenNF {n : Nat} {m : Int} (h : (n : Int) = m) : V.bl (!decide (V.int (n : Int) = V.int m)) = V.bl false := by rw [decide_eq_true (by rw [h])]; rfl
theorem lenNT {n : Nat} {m : Int} (h : (n : Int) ≠ m) : V.bl (!decide (V.int (n : Int) = V.int m)) = V.bl true := by rw [decide_eq_false fun e => h (by injection e)]; rfl
theorem cell_not3 {ts : List Th} (h : ts.length ≠ 3) : cellT (.tup ts) = false := by
  match ts, h with
  | [], _ => rfl
  | [_], _ => rfl
  | [_, _], _ => rfl
  | [_, _, _], h => exact absurd rfl h
  | _ :: _ :: _ :: _ :: _, _ => rfl
theorem rest0 (ts : List Th) : restT (Str.ofString "none") ts = ts.isEmpty := by unfold restT; rw [if_pos rfl]
theorem rest1 (ts : List Th) : restT (Str.ofString "number") ts = (match ts with | [a, b] => shortT a b | _ => false) := by unfold restT; rw [if_neg (by decide +kernel), if_pos rfl]
theorem rest2 (ts : List Th) : restT (Str.ofString "text") ts = (match ts with | [a] => textT a | _ => false) := by unfold restT; rw [if_neg (by decide +kernel), if_neg (by decide +kernel), if_pos rfl]
theorem rest3 (ts : List Th) : restT (Str.ofString "truth") ts = (match ts with | [a] => isBl a | _ => false) := by unfold restT; rw [if_neg (by decide +kernel), if_neg (by decide +kernel), if_neg (by decide +kernel), if_pos rfl]
theorem rest4 (ts : List Th) : restT (Str.ofString "fault") ts = (match ts with | [a, b] => wordT a && cellT b | _ => false) := by
  unfold restT; rw [if_neg (by decide +kernel), if_neg (by decide +kernel), if_neg (by decide +kernel), if_neg (by decide +kernel), if_pos rfl]
theorem fewTr {i : Int} (h : i.natAbs < 10 ^ 30) : fewT (.int i) = true := by
  show decide ((if i < 0 then -i else i) ≤ 999999999999999999999999999999) = true
  refine decide_eq_true ?_
  split <;> omega
def thOf : Vl → Th
  | .none => .tup [.str (Str.ofString "none")]
  | .num t b => .tup [.str (Str.ofString "number"), .int t, .int b]
  | .txt z => .tup [.str (Str.ofString "text"), .str z]
  | .tru b => .tup [.str (Str.ofString "truth"), .bl b]
  | .flt w z r c => .tup [.str (Str.ofString "fault"), .str w, .tup [.str z, .int r, .int c]]
theorem sT {H : Hp} {z : Str} (h : z.length ≤ 1000) : ThAt H (.str z) (.str z) := .str z h
theorem VlAt.th {H : Hp} {p : Addr} {v : Vl} (ok : VlOk v) (h : VlAt H p v) : ThAt H (.ref p) (thOf v) := by
  cases v with
  | none => exact .ofP h (.cons (sT (by decide +kernel)) .nil)
  | num t b => exact .ofP h (.cons (sT (by decide +kernel)) (.cons (.int _) (.cons (.int _) .nil)))
  | txt z => exact .ofP h (.cons (sT (by decide +kernel)) (.cons (sT (Nat.le_trans ok.1 (by decide))) .nil))
  | tru b => exact .ofP h (.cons (sT (by decide +kernel)) (.cons (.bl _) .nil))
  | flt w z r c =>
    obtain ⟨q, a, b⟩ := h
    obtain ⟨hw, nm, _⟩ := ok
    have tab : ∀ w ∈ faults, w.length ≤ 1000 := by decide +kernel
    exact .ofP a (.cons (sT (by decide +kernel)) (.cons (sT (tab w hw)) (.cons (.ofP b (.cons (sT (Nat.le_trans nm.hi (by decide))) (.cons (.int _) (.cons (.int _) .nil)))) .nil)))
theorem val_true {v : Vl} (ok : VlOk v) : valT (thOf v) = true := by
  cases v with
  | none => exact rest0 _
  | num t b =>
    refine (rest1 _).trans ?_
    have hp := ok.1.pos
    show (fewT (.int t) && fewT (.int b) && (decide (1 ≤ b) && decide (V.int ((Nat.gcd t.natAbs b.natAbs : Nat) : Int) = V.int 1))) = true
    rw [fewTr ok.2.1, fewTr ok.2.2, ok.1.cop, decide_eq_true (show 1 ≤ b by omega)]
    rfl
  | txt z =>
    refine (rest2 _).trans ?_
    have h1 := ok.1
    show (!decide ((20 : Int) < (z.length : Int)) && signsT (Str.ofString "abcdefghijklmnopqrstuvwxyz0123456789 ") z) = true
    rw [decide_eq_false (by omega)]
    exact all_signs ok.2
  | tru b => exact rest3 _
  | flt w z r c =>
    refine (rest4 _).trans ?_
    obtain ⟨hw, nm, r0, r1, c0, c1⟩ := ok
    show (inV (.str w) (faults.map V.str) && (!decide ((z.length : Int) < 1) && !decide ((6 : Int) < (z.length : Int)) && signsT (Str.ofString "abcdefghijklmnopqrstuvwxyz") z && (decide (1 ≤ r) && decide (r ≤ 16)) && (decide (1 ≤ c) && decide (c ≤ 8)))) = true
    have h1 := nm.lo
    have h2 := nm.hi
    rw [fault_in hw, decide_eq_false (by omega), decide_eq_false (by omega), show signsT (Str.ofString "abcdefghijklmnopqrstuvwxyz") z = true from all_signs (az_low nm), decide_eq_true r0, decide_eq_true r1, decide_eq_true c0, decide_eq_true c1]
    rfl
def Bad (H : Hp) (us : List V) : Prop := ∀ v ∈ us, ∃ th, ThAt H v th ∧ valT th = false
theorem Bad.same {H H' : Hp} {us : List V} (h : Bad H us) (s : Same H H') : Bad H' us := fun v hv => let ⟨th, a, b⟩ := h v hv; ⟨th, a.same s, b⟩
theorem Bad.nil {H : Hp} : Bad H [] := fun v hv => by cases hv
theorem Bad.cons {H : Hp} {u : V} {us : List V} {th : Th} (a : ThAt H u th) (b : valT th = false) (h : Bad H us) : Bad H (u :: us) := fun v hv => by
  rcases List.mem_cons.mp hv with rfl | hv
  · exact ⟨th, a, b⟩
  · exact h v hv
theorem Bad.app {H : Hp} {us ws : List V} (a : Bad H us) (b : Bad H ws) : Bad H (us ++ ws) := fun v hv => by
  rcases List.mem_append.mp hv with hv | hv
  · exact a v hv
  · exact b v hv
theorem mkT {H : Hp} {q : Addr} {us : List V} {ts : List Th} (hq : H q = none) (p : Paired (ThAt (upd H q (.tup us))) us ts) : ThAt (upd H q (.tup us)) (.ref q) (.tup ts) := .ofP upd_same p
theorem mkL {H : Hp} {q : Addr} {us : List V} (hq : H q = none) : ThAt (upd H q (.lst us)) (.ref q) .lst := .lst upd_same
def spBadL : Sp := fun vs H Q _ => ∃ (p : Addr) (k : Nat), vs = [.ref p] ∧ PenAt H p k ∧ k ≤ 50000 ∧ ∀ (l : Addr) (us : List V) (H' : Hp), H' l = some (.lst us) → l ≠ p → us.length ≤ 100 → Bad H' us → PenAt H' p (k + 30) → KeepX p H H' → Q (.ref l) H'
def spOth : Sp := fun vs H Q _ => vs = [] ∧ ∀ (l : Addr) (us : List V) (H' : Hp), H' l = some (.lst us) → us.length ≤ 100 → Bad H' us → Same H H' → Q (.ref l) H'
theorem ThAt.keep {H H' : Hp} {p : Addr} {m : Nat} {v : V} {th : Th} (h : ThAt H v th) (pen : PenAt H p m) {n : Nat} (pen' : PenAt H' p n) (s : KeepX p H H') : ThAt H' v th := by
  obtain ⟨_, _, _, hp, _⟩ := pen
  obtain ⟨_, _, _, hp', _⟩ := pen'
  induction h with
  | non => exact .non
  | bl b => exact .bl b
  | int i => exact .int i
  | str z hz => exact .str z hz
  | @lst a xs e =>
    by_cases ha : a = p
    · subst ha; exact .lst hp'
    · exact .lst (s _ _ ha e)
  | dic e => exact .dic (s _ _ (ne_of e hp (by intro z; cases z)) e)
  | tup e hn hh ih => exact .tup (s _ _ (ne_of e hp (by intro z; cases z)) e) hn fun j u t a b => ih j u t a b
theorem Bad.keep {H H' : Hp} {p : Addr} {m n : Nat} {us : List V} (h : Bad H us) (pen : PenAt H p m) (pen' : PenAt H' p n) (s : KeepX p H H') : Bad H' us := fun v hv => let ⟨th, a, b⟩ := h v hv; ⟨th, a.keep pen pen' s, b⟩
def BadC (H : Hp) (us : List V) : Prop := ∀ v ∈ us, ∃ th, ThAt H v th ∧ cellT th = false
theorem BadC.same {H H' : Hp} {us : List V} (h : BadC H us) (s : Same H H') : BadC H' us := fun v hv => let ⟨th, a, b⟩ := h v hv; ⟨th, a.same s, b⟩
theorem BadC.nil {H : Hp} : BadC H [] := fun v hv => by cases hv
theorem BadC.cons {H : Hp} {u : V} {us : List V} {th : Th} (a : ThAt H u th) (b : cellT th = false) (h : BadC H us) : BadC H (u :: us) := fun v hv => by
  rcases List.mem_cons.mp hv with rfl | hv
  · exact ⟨th, a, b⟩
  · exact h v hv
theorem BadC.app {H : Hp} {us ws : List V} (a : BadC H us) (b : BadC H ws) : BadC H (us ++ ws) := fun v hv => by
  rcases List.mem_append.mp hv with hv | hv
  · exact a v hv
  · exact b v hv
theorem c1 {a b c : Th} (h : nameT a = false) : cellT (.tup [a, b, c]) = false := by show (nameT a && withT 16 b && withT 8 c) = false; rw [h]; rfl
theorem c2 {a b c : Th} (h : withT 16 b = false) : cellT (.tup [a, b, c]) = false := by show (nameT a && withT 16 b && withT 8 c) = false; rw [h, Bool.and_false]; rfl
theorem c3 {a b c : Th} (h : withT 8 c = false) : cellT (.tup [a, b, c]) = false := by show (nameT a && withT 16 b && withT 8 c) = false; rw [h, Bool.and_false]
theorem pe_cl0 {X : Cx} {k : Nat} {f : Addr} {fd : FuncData} {sp : Sp} {x : Str} {st : Stmt} {p pos : Pos} (D : Df X.K X.mg x st [] f fd) (F : FnOk X.prog X.w X.K X.mg X.base CX0 k f fd [] sp) (hr : Room k X.A)
    (hg : Gl X x := by rfl) (hdb : (x == ("__debug__" : Str)) = false := by decide) : PE X (.Call (.Name x p) [] [] pos) (tCall sp [] E0 tNil) := pe_call0 F hr hg D.gl D.fn.kp D.b .nil pass0 hdb
theorem ThAt.updL {H : Hp} {D : Addr} {vs ws : List V} {v : V} {th : Th} (h : ThAt H v th) (hD : H D = some (.lst vs)) : ThAt (upd H D (.lst ws)) v th := by
  induction h with
  | non => exact .non
  | bl b => exact .bl b
  | int i => exact .int i
  | str z hz => exact .str z hz
  | @lst a xs e =>
    by_cases ha : a = D
    · subst ha; exact .lst upd_same
    · exact .lst (by rw [upd_ne ha]; exact e)
  | dic e => exact .dic (by rw [upd_ne (ne_of e hD (by intro z; cases z))]; exact e)
  | tup e hn hh ih => exact .tup (by rw [upd_ne (ne_of e hD (by intro z; cases z))]; exact e) hn fun j u t a b => ih j u t a b
theorem Bad.updL {H : Hp} {D : Addr} {vs ws us : List V} (h : Bad H us) (hD : H D = some (.lst vs)) : Bad (upd H D (.lst ws)) us := fun v hv => let ⟨th, a, b⟩ := h v hv; ⟨th, a.updL hD, b⟩
theorem BadC.updL {H : Hp} {D : Addr} {vs ws us : List V} (h : BadC H us) (hD : H D = some (.lst vs)) : BadC (upd H D (.lst ws)) us := fun v hv => let ⟨th, a, b⟩ := h v hv; ⟨th, a.updL hD, b⟩
def LENK : List (Key × V) := [(.inr (zS "value"), .int 2), (.inr (zS "cell"), .int 3), (.inr (zS "range"), .int 4), (.inr (zS "columns"), .int 4), (.inr (zS "gone"), .int 1), (.inr (zS "name"), .int 2), (.inr (zS "own"), .int 3), (.inr (zS "param"), .int 2), (.inr (zS "op"), .int 4), (.inr (zS "neg"), .int 2), (.inr (zS "if"), .int 4), (.inr (zS "sum"), .int 2), (.inr (zS "count"), .int 2), (.inr (zS "least"), .int 2), (.inr (zS "most"), .int 2), (.inr (zS "sumif"), .int 5), (.inr (zS "find"), .int 4), (.inr (zS "turn"), .int 2), (.inr (zS "stack"), .int 3), (.inr (zS "grid"), .int 5), (.inr (zS "outer"), .int 2)]
def lenK (k : Str) : Int := match valV LENK (.inr k) with | some (.int i) => i | _ => 0
def isIntV : V → Bool | .int _ => true | _ => false
theorem lenK_get (k : Str) : (valV LENK (.inr k)).getD (.int 0) = .int (lenK k) := by
  unfold lenK
  cases h : valV LENK (.inr k) with
  | none => rfl
  | some v =>
    have all : ∀ kv ∈ LENK, isIntV kv.2 = true := by decide +kernel
    unfold valV at h
    obtain ⟨kv, h1, h2⟩ := Option.map_eq_some_iff.mp h
    have := all kv (List.mem_of_find?_eq_some h1)
    rw [h2] at this
    cases v <;> first | rfl | cases this
def PLN : List (Str × List Nat) := [(zS "op", [2, 3]), (zS "neg", [1]), (zS "if", [1, 2, 3]), (zS "sum", [1]), (zS "count", [1]), (zS "least", [1]), (zS "most", [1]), (zS "sumif", [1, 3, 4]), (zS "find", [1, 2, 3]), (zS "turn", [1]), (zS "stack", [1, 2]), (zS "grid", [3, 4]), (zS "outer", [1])]
def plN (k : Str) : List Nat := ((PLN.find? fun x => decide (x.1 = k)).map (·.2)).getD []
def OPV : List V := [vS "+", vS "-", vS "*", vS "/", vS "&", vS "=", vS "<"]
def SFV : List V := [vS "=", vS "<"]
def WDV : List V := [vS "yes", vS "no", vS "if", vS "sum", vS "count", vS "least", vS "most", vS "sumif", vS "find", vS "turn", vS "stack", vS "grid", vS "outer"]
def shnT : Th → Bool | .non => true | th => nameT th
def cornT : Th → Bool | .tup [a, b, c, d] => isBl c && isBl d && withT 16 a && withT 8 b | _ => false
def colmT : Th → Bool | .tup [a, b] => withT 8 a && isBl b | _ => false
def leT2 : Th → Th → Bool | .int a, .int b => decide (a ≤ b) | _, _ => false
def frnT : Th → Bool | .str z => nameT (.str z) && !inV (.str z) WDV | _ => false
def oneT (l : List V) : Th → Bool | .str z => inV (.str z) l | _ => false
def parT (pr : Int) : Th → Bool | .int i => decide (0 ≤ i) && decide (i < min pr 3) | _ => false
def wrR (k : Str) (ts : List Th) : Bool := if k = zS "number" then (match ts with | [.int a, .int b] => decide (b = 1) && decide (0 ≤ a) && decide (a ≤ 999999999) | _ => false) else decide (k = zS "text") || decide (k = zS "truth")
def wrT : Th → Bool | .tup (.str k :: ts) => valT (.tup (.str k :: ts)) && wrR k ts | _ => false
def cols2 : List Th → Bool
  | [.tup (a :: x), .tup (b :: y)] => colmT (.tup (a :: x)) && colmT (.tup (b :: y)) && leT2 a b
  | _ => false
def rng2 : List Th → Bool
  | [.tup (a :: b :: x), .tup (c :: d :: y)] => cornT (.tup (a :: b :: x)) && cornT (.tup (c :: d :: y)) && leT2 a c && leT2 b d
  | _ => false
def refR (k : Str) (r : List Th) : Bool :=
  if k = zS "columns" then cols2 r else if k = zS "cell" then (match r with | [c] => cornT c | _ => false) else rng2 r
def refT (k : Str) : List Th → Bool | s :: r => shnT s && refR k r | _ => false
def calT (k : Str) : List Th → Bool | a :: r => frnT a && (if k = zS "name" then true else (match r with | .tup us :: _ => decide (us.length ≤ 3) | _ => false)) | _ => false
def restF (pr : Int) (k : Str) (ts : List Th) : Bool :=
  if k = zS "value" then (match ts with | [a] => wrT a | _ => false)
  else if k = zS "cell" then refT k ts
  else if k = zS "range" then refT k ts
  else if k = zS "columns" then refT k ts
  else if k = zS "name" then calT k ts
  else if k = zS "own" then calT k ts
  else if k = zS "param" then (match ts with | [a] => parT pr a | _ => false)
  else if k = zS "op" then (match ts with | a :: _ => oneT OPV a | _ => false)
  else if k = zS "sumif" then (match ts with | _ :: a :: _ => oneT SFV a | _ => false)
  else if k = zS "grid" then (match ts with | a :: b :: _ => withT 16 a && withT 8 b | _ => false)
  else true
def formT (pr : Int) : Th → Bool
  | .tup (.str k :: ts) => decide (((ts.length + 1 : Nat) : Int) = lenK k) && restF pr k ts
  | _ => false
def ownP : List Th → List Th | [_, .tup us] => us | _ => []
def prtT : Th → List Th
  | .tup (.str k :: ts) => if k = zS "own" then ownP ts else (plN k).filterMap fun i => (Th.str k :: ts)[i]?
  | _ => []
def treeT : Nat → Int → Th → Bool
  | 0, _, _ => false
  | n + 1, pr, th => formT pr th && (prtT th).all (treeT n pr)
def szN : Nat → Th → Nat
  | 0, _ => 0
  | n + 1, th => 1 + ((prtT th).map (szN n)).sum
theorem tree_form {n : Nat} {pr : Int} {th : Th} (h : treeT (n + 1) pr th = true) : formT pr th = true ∧ ∀ t ∈ prtT th, treeT n pr t = true := by
  rw [treeT, Bool.and_eq_true, List.all_eq_true] at h
  exact h
theorem tree_mk {n : Nat} {pr : Int} {th : Th} (h1 : formT pr th = true) (h2 : ∀ t ∈ prtT th, treeT n pr t = true) : treeT (n + 1) pr th = true := by
  rw [treeT, Bool.and_eq_true, List.all_eq_true]
  exact ⟨h1, h2⟩
theorem tree_mono {pr : Int} : ∀ {n : Nat} {th : Th}, treeT n pr th = true → treeT (n + 1) pr th = true
  | 0, _, h => by cases h
  | n + 1, th, h => tree_mk (tree_form h).1 fun t ht => tree_mono ((tree_form h).2 t ht)
theorem tree_no {n : Nat} {pr : Int} {th t : Th} (ht : t ∈ prtT th) (h : treeT (n + 1) pr t = false) : treeT (n + 1) pr th = false := by
  cases e : treeT (n + 1) pr th with
  | false => rfl
  | true => have := tree_mono ((tree_form e).2 t ht); rw [h] at this; cases this
theorem sum_congr {f g : Th → Nat} : ∀ {l : List Th}, (∀ t ∈ l, f t = g t) → (l.map f).sum = (l.map g).sum
  | [], _ => rfl
  | a :: l, h => by rw [List.map_cons, List.map_cons, List.sum_cons, List.sum_cons, h a (by simp), sum_congr fun t ht => h t (List.mem_cons_of_mem _ ht)]
theorem sz_st {pr : Int} : ∀ {n : Nat} {th : Th}, treeT n pr th = true → szN (n + 1) th = szN n th
  | 0, _, h => by cases h
  | n + 1, th, h => by
    show 1 + ((prtT th).map (szN (n + 1))).sum = 1 + ((prtT th).map (szN n)).sum
    rw [sum_congr fun t ht => sz_st ((tree_form h).2 t ht)]
def szL (n : Nat) (l : List Th) : Nat := (l.map (szN n)).sum
theorem szL_app (n : Nat) : ∀ a b : List Th, szL n (a ++ b) = szL n a + szL n b := fun a b => by unfold szL; rw [List.map_append, List.sum_append]
theorem szL_one (n : Nat) (t : Th) : szL n [t] = szN n t := by simp [szL]
theorem sz_prt {n : Nat} {pr : Int} {th : Th} (h : treeT (n + 1) pr th = true) : szN (n + 1) th = 1 + szL (n + 1) (prtT th) := by
  show 1 + ((prtT th).map (szN n)).sum = 1 + ((prtT th).map (szN (n + 1))).sum
  rw [sum_congr fun t ht => (sz_st ((tree_form h).2 t ht)).symm]
theorem szN_pos (n : Nat) (th : Th) : 1 ≤ szN (n + 1) th := by show 1 ≤ 1 + _; omega
theorem szL_len (n : Nat) : ∀ l : List Th, l.length ≤ szL (n + 1) l
  | [] => Nat.zero_le _
  | a :: l => by
    have h := szL_len n l
    have p := szN_pos n a
    have e : szL (n + 1) (a :: l) = szN (n + 1) a + szL (n + 1) l := by unfold szL; rw [List.map_cons, List.sum_cons]
    rw [e, List.length_cons]; omega
theorem plN_le (k : Str) : (plN k).length ≤ 3 := by
  unfold plN
  cases h : PLN.find? fun x => decide (x.1 = k) with
  | none => exact Nat.zero_le _
  | some x =>
    have all : ∀ x ∈ PLN, x.2.length ≤ 3 := by decide +kernel
    exact all x (List.mem_of_find?_eq_some h)
theorem form_own {pr : Int} {ts : List Th} (h : formT pr (.tup (.str (zS "own") :: ts)) = true) : ∃ a us, ts = [a, .tup us] ∧ us.length ≤ 3 := by
  have h : (decide (((ts.length + 1 : Nat) : Int) = lenK (zS "own")) && restF pr (zS "own") ts) = true := h
  rw [Bool.and_eq_true] at h
  obtain ⟨h1, h2⟩ := h
  have e3 : lenK (zS "own") = 3 := by decide +kernel
  rw [e3] at h1
  have hl : ts.length = 2 := by have := of_decide_eq_true h1; omega
  match ts, hl with
  | [a, b], _ =>
    have h2 : calT (zS "own") [a, b] = true := by
      unfold restF at h2
      rw [if_neg (by decide +kernel), if_neg (by decide +kernel), if_neg (by decide +kernel), if_neg (by decide +kernel), if_neg (by decide +kernel), if_pos rfl] at h2
      exact h2
    unfold calT at h2
    dsimp only at h2
    rw [if_neg (by decide +kernel), Bool.and_eq_true] at h2
    cases b with
    | tup us => exact ⟨a, us, rfl, of_decide_eq_true h2.2⟩
    | _ => cases h2.2
theorem prt_le {pr : Int} {th : Th} (h : formT pr th = true) : (prtT th).length ≤ 3 := by
  cases th with
  | tup ts =>
    cases ts with
    | nil => cases h
    | cons a ts =>
      cases a with
      | str k =>
        unfold prtT
        dsimp only
        by_cases hk : k = zS "own"
        · subst hk
          obtain ⟨a, us, rfl, hl⟩ := form_own h
          rw [if_pos rfl]
          exact hl
        · rw [if_neg hk]
          exact Nat.le_trans (List.length_filterMap_le _ _) (plN_le k)
      | _ => cases h
  | _ => cases h
def SBn : Nat → Nat
  | 0 => 0
  | n + 1 => 1 + 3 * SBn n
theorem sz_le {pr : Int} : ∀ {n : Nat} {th : Th}, treeT n pr th = true → szN n th ≤ SBn n
  | 0, _, h => by cases h
  | n + 1, th, h => by
    obtain ⟨h1, h2⟩ := tree_form h
    have l3 := prt_le h1
    have : ∀ l : List Th, (∀ t ∈ l, szN n t ≤ SBn n) → (l.map (szN n)).sum ≤ l.length * SBn n := by
      intro l
      induction l with
      | nil => intro _; simp
      | cons a l ih =>
        intro hl
        have := ih fun t ht => hl t (List.mem_cons_of_mem _ ht)
        have := hl a (by simp)
        rw [List.map_cons, List.sum_cons, List.length_cons, Nat.add_mul]; omega
    have a := this _ fun t ht => sz_le (h2 t ht)
    have b : (prtT th).length * SBn n ≤ 3 * SBn n := Nat.mul_le_mul_right _ l3
    show 1 + ((prtT th).map (szN n)).sum ≤ 1 + 3 * SBn n
    omega
theorem rest_mp {p q : Int} (h : p ≤ q) {k : Str} {ts : List Th} (hf : restF p k ts = true) : restF q k ts = true := by
  unfold restF at hf ⊢
  by_cases hk : k = zS "param"
  · subst hk
    rw [if_neg (by decide +kernel), if_neg (by decide +kernel), if_neg (by decide +kernel), if_neg (by decide +kernel), if_neg (by decide +kernel), if_neg (by decide +kernel), if_pos rfl] at hf ⊢
    cases ts with
    | nil => cases hf
    | cons a r =>
      cases r with
      | cons _ _ => cases hf
      | nil =>
        cases a with
        | int i =>
          have h1 : (decide (0 ≤ i) && decide (i < min p 3)) = true := hf
          rw [Bool.and_eq_true] at h1
          have h2 := of_decide_eq_true h1.2
          show (decide (0 ≤ i) && decide (i < min q 3)) = true
          rw [h1.1, decide_eq_true (by omega)]
          rfl
        | _ => cases hf
  · simp only [if_neg hk] at hf ⊢
    exact hf
theorem form_mp {p q : Int} (h : p ≤ q) {th : Th} (hf : formT p th = true) : formT q th = true := by
  cases th with
  | tup ts =>
    cases ts with
    | nil => cases hf
    | cons a ts =>
      cases a with
      | str k =>
        have hf : (decide (((ts.length + 1 : Nat) : Int) = lenK k) && restF p k ts) = true := hf
        show (decide (((ts.length + 1 : Nat) : Int) = lenK k) && restF q k ts) = true
        rw [Bool.and_eq_true] at hf
        rw [hf.1, rest_mp h hf.2]
        rfl
      | _ => cases hf
  | _ => cases hf
theorem tree_mp {p q : Int} (h : p ≤ q) : ∀ {n : Nat} {th : Th}, treeT n p th = true → treeT n q th = true
  | 0, _, e => by cases e
  | n + 1, th, e => tree_mk (form_mp h (tree_form e).1) fun t ht => tree_mp h ((tree_form e).2 t ht)
def badT (th : Th) : Bool := !treeT 8 3 th
theorem badT_no {th : Th} (h : badT th = true) {pr : Nat} (hp : pr ≤ 3) : treeT 8 pr th = false := by
  cases e : treeT 8 (pr : Int) th with
  | false => rfl
  | true =>
    unfold badT at h
    rw [tree_mp (by omega) e] at h
    cases h
def shT : Option Str → Th
  | none => .non
  | some z => .str z
def corTh (c : Cor) : Th := .tup [.int c.r, .int c.c, .bl c.x, .bl c.y]
def lfT : Lf → Th
  | .val v => .tup [.str (zS "value"), thOf v]
  | .cell s c => .tup [.str (zS "cell"), shT s, corTh c]
  | .rng s c d => .tup [.str (zS "range"), shT s, corTh c, corTh d]
  | .cols s i x j y => .tup [.str (zS "columns"), shT s, .tup [.int i, .bl x], .tup [.int j, .bl y]]
  | .gone => .tup [.str (zS "gone")]
  | .nam z => .tup [.str (zS "name"), .str z]
  | .par i => .tup [.str (zS "param"), .int i]
def layT : Kd → List Th → List Th
  | .op z, us => .str (zS "op") :: .str z :: us
  | .neg, us => .str (zS "neg") :: us
  | .own z, us => [.str (zS "own"), .str z, .tup us]
  | .sumif z, us => .str (zS "sumif") :: (us.take 1 ++ .str z :: us.drop 1)
  | .grid i j, us => .str (zS "grid") :: .int i :: .int j :: us
  | .wd z, us => .str z :: us
mutual
def thF : Fm → Th
  | .lf l => lfT l
  | .nd k ps => .tup (layT k (thL ps))
def thL : List Fm → List Th
  | [] => []
  | f :: fs => thF f :: thL fs
end
theorem thL_len : ∀ fs : List Fm, (thL fs).length = fs.length
  | [] => by rw [thL]; rfl
  | f :: fs => by rw [thL, List.length_cons, List.length_cons, thL_len fs]
theorem sL {H : Hp} (z : String) (h : (zS z).length ≤ 1000 := by decide +kernel) : ThAt H (vS z) (.str (zS z)) := .str _ h
theorem shT_at {H : Hp} {s : Option Str} (h : ShOk s) : ThAt H (shV s) (shT s) := by
  cases s with
  | none => exact .non
  | some z => exact .str z (Nat.le_trans (show Nm z from h).hi (by decide))
theorem corTh_at {H : Hp} {q : Addr} {c : Cor} (h : H q = some (.tup (corV c))) : ThAt H (.ref q) (corTh c) := .ofP h (.cons (.int _) (.cons (.int _) (.cons (.bl _) (.cons (.bl _) .nil))))
theorem LfAt.th {H : Hp} {a : Addr} {l : Lf} {pr : Nat} (ok : LfOk pr l) (h : LfAt H a l) : ThAt H (.ref a) (lfT l) := by
  cases l with
  | val v => obtain ⟨q, h1, h2⟩ := h; exact .ofP h1 (.cons (sL _) (.cons (VlAt.th ok.1 h2) .nil))
  | cell s c => obtain ⟨q, h1, h2⟩ := h; exact .ofP h1 (.cons (sL _) (.cons (shT_at ok.1) (.cons (corTh_at h2) .nil)))
  | rng s c d => obtain ⟨q, u, h1, h2, h3⟩ := h; exact .ofP h1 (.cons (sL _) (.cons (shT_at ok.1) (.cons (corTh_at h2) (.cons (corTh_at h3) .nil))))
  | cols s i x j y => obtain ⟨q, u, h1, h2, h3⟩ := h; exact .ofP h1 (.cons (sL _) (.cons (shT_at ok.1) (.cons (.ofP h2 (.cons (.int _) (.cons (.bl _) .nil))) (.cons (.ofP h3 (.cons (.int _) (.cons (.bl _) .nil))) .nil))))
  | gone => exact .ofP h (.cons (sL _) .nil)
  | nam z => exact .ofP h (.cons (sL _) (.cons (.str z (Nat.le_trans ok.1.hi (by decide))) .nil))
  | par i => exact .ofP h (.cons (sL _) (.cons (.int _) .nil))
theorem ops_le {z : Str} (h : z ∈ OPS) : z.length ≤ 1000 := by have := ops_len h; omega
theorem ptk {α β : Type} {F : α → β → Prop} : ∀ {xs : List α} {ys : List β} (n : Nat), Paired F xs ys → Paired F (xs.take n) (ys.take n)
  | _, _, 0, _ => by rw [List.take_zero, List.take_zero]; exact .nil
  | _, _, _ + 1, .nil => .nil
  | _, _, n + 1, .cons r t => by rw [List.take_succ_cons, List.take_succ_cons]; exact .cons r (ptk n t)
theorem pdr {α β : Type} {F : α → β → Prop} : ∀ {xs : List α} {ys : List β} (n : Nat), Paired F xs ys → Paired F (xs.drop n) (ys.drop n)
  | _, _, 0, h => h
  | _, _, _ + 1, .nil => .nil
  | _, _, n + 1, .cons _ t => by rw [List.drop_succ_cons, List.drop_succ_cons]; exact pdr n t
theorem lay_th {H : Hp} {a t : Addr} {k : Kd} {us : List V} {ts : List Th} {m : Nat} (ok : KdOk k m) (h : H a = some (.tup (layV t k us))) (ht : isOwn k = true → H t = some (.tup us)) (p : Paired (ThAt H) us ts) : ThAt H (.ref a) (.tup (layT k ts)) := by
  cases k with
  | op z => exact .ofP h (.cons (sL _) (.cons (.str z (ops_le ok.1)) p))
  | neg => exact .ofP h (.cons (sL _) p)
  | own z => exact .ofP h (.cons (sL _) (.cons (.str z (Nat.le_trans ok.1.hi (by decide))) (.cons (.ofP (ht rfl) p) .nil)))
  | sumif z =>
    have hz : z.length ≤ 1000 := by rcases ok.1 with rfl | rfl <;> decide +kernel
    exact .ofP h (.cons (sL _) (papp (ptk 1 p) (.cons (.str z hz) (pdr 1 p))))
  | grid i j => exact .ofP h (.cons (sL _) (.cons (.int _) (.cons (.int _) p)))
  | wd z =>
    have tab : ∀ x ∈ WDS, x.1.length ≤ 1000 := by decide +kernel
    exact .ofP h (.cons (.str z (tab _ (show (z, m) ∈ WDS from ok))) p)
theorem ths_of {H : Hp} : ∀ {us : List V} {ps : List Fm}, FmsAt H us ps → (∀ g ∈ ps, ∀ v, FmAt H v g → ThAt H v (thF g)) → Paired (ThAt H) us (thL ps)
  | _, _, .nil, _ => by rw [thL]; exact .nil
  | _, _, .cons r t, h => by rw [thL]; exact .cons (h _ (by simp) _ r) (ths_of t fun g hg => h g (List.mem_cons_of_mem _ hg))
theorem FmAt.th {H : Hp} {pr n : Nat} {f : Fm} (fo : FO pr n f) : ∀ {v : V}, FmAt H v f → ThAt H v (thF f) := by
  induction fo with
  | lf ok =>
    intro v h
    cases h with
    | lf h => rw [thF]; exact LfAt.th ok h
  | @nd n k ps ok _ ih =>
    intro v h
    cases h with
    | nd h ht hl hh =>
      rw [thF]
      exact lay_th ok h ht (ths_of (FmAt.parts hl hh) fun g hg v hv => ih g hg hv)
theorem name_true {z : Str} (nm : Nm z) : nameT (.str z) = true := by
  have h1 := nm.lo
  have h2 := nm.hi
  show (!decide ((z.length : Int) < 1) && !decide ((6 : Int) < (z.length : Int)) && signsT (Str.ofString "abcdefghijklmnopqrstuvwxyz") z) = true
  rw [decide_eq_false (by omega), decide_eq_false (by omega), show signsT (Str.ofString "abcdefghijklmnopqrstuvwxyz") z = true from all_signs (az_low nm)]
  rfl
theorem wdv_rsv {z : Str} (h : rsv z = false) : inV (.str z) WDV = false := by
  unfold rsv at h
  rw [Bool.or_eq_false_iff] at h
  have e : WDV = RS1 ++ RS2 := rfl
  rw [e]
  unfold inV at *
  rw [List.any_append, h.1, h.2]
  rfl
theorem frn_true {z : Str} (nm : Nm z) (h : rsv z = false) : frnT (.str z) = true := by
  show (nameT (.str z) && !inV (.str z) WDV) = true
  rw [name_true nm, wdv_rsv h]
  rfl
theorem shn_true {s : Option Str} (h : ShOk s) : shnT (shT s) = true := by
  cases s with
  | none => rfl
  | some z => exact name_true h
theorem with_true {l i : Int} (h0 : 1 ≤ i) (h1 : i ≤ l) : withT l (.int i) = true := by
  show (decide (1 ≤ i) && decide (i ≤ l)) = true
  rw [decide_eq_true h0, decide_eq_true h1]
  rfl
theorem corn_true {c : Cor} (h : CorOk c) : cornT (corTh c) = true := by
  show (true && true && withT 16 (.int c.r) && withT 8 (.int c.c)) = true
  rw [with_true h.r0 h.r1, with_true h.c0 h.c1]
  rfl
theorem le_true {a b : Int} (h : a ≤ b) : leT2 (.int a) (.int b) = true := decide_eq_true h
theorem wr_true {v : Vl} (ok : VlOk v) (w : VlW v) : wrT (thOf v) = true := by
  have e := val_true ok
  cases v with
  | none => exact w.elim
  | num t b =>
    show (valT (thOf (.num t b)) && wrR (zS "number") [.int t, .int b]) = true
    rw [e]
    unfold wrR
    rw [if_pos rfl]
    show (true && (decide (b = 1) && decide (0 ≤ t) && decide (t ≤ 999999999))) = true
    rw [decide_eq_true w.1, decide_eq_true w.2.1, decide_eq_true w.2.2]
    rfl
  | txt z =>
    show (valT (thOf (.txt z)) && wrR (zS "text") [.str z]) = true
    rw [e]
    unfold wrR
    rw [if_neg (by decide +kernel), decide_eq_true rfl]
    rfl
  | tru b =>
    show (valT (thOf (.tru b)) && wrR (zS "truth") [.bl b]) = true
    rw [e]
    unfold wrR
    rw [if_neg (by decide +kernel)]
    show (true && (_ || decide (zS "truth" = zS "truth"))) = true
    rw [decide_eq_true rfl, Bool.or_true]
    rfl
  | flt w' z r c => exact w.elim
theorem form_rest {pr : Int} {k : Str} {ts : List Th} (h : formT pr (.tup (.str k :: ts)) = true) : restF pr k ts = true := by
  have h : (decide (((ts.length + 1 : Nat) : Int) = lenK k) && restF pr k ts) = true := h
  rw [Bool.and_eq_true] at h
  exact h.2
theorem form_mk {pr : Int} {k : Str} {ts : List Th} (h1 : ((ts.length + 1 : Nat) : Int) = lenK k) (h2 : restF pr k ts = true) : formT pr (.tup (.str k :: ts)) = true := by
  show (decide (((ts.length + 1 : Nat) : Int) = lenK k) && restF pr k ts) = true
  rw [decide_eq_true h1, h2]
  rfl
theorem rf_value (pr : Int) (ts : List Th) : restF pr (zS "value") ts = (match ts with | [a] => wrT a | _ => false) := by unfold restF; rw [if_pos rfl]
theorem rf_cell (pr : Int) (ts : List Th) : restF pr (zS "cell") ts = refT (zS "cell") ts := by unfold restF; rw [if_neg (by decide +kernel), if_pos rfl]
theorem rf_range (pr : Int) (ts : List Th) : restF pr (zS "range") ts = refT (zS "range") ts := by unfold restF; rw [if_neg (by decide +kernel), if_neg (by decide +kernel), if_pos rfl]
theorem rf_columns (pr : Int) (ts : List Th) : restF pr (zS "columns") ts = refT (zS "columns") ts := by unfold restF; rw [if_neg (by decide +kernel), if_neg (by decide +kernel), if_neg (by decide +kernel), if_pos rfl]
theorem rf_name (pr : Int) (ts : List Th) : restF pr (zS "name") ts = calT (zS "name") ts := by unfold restF; rw [if_neg (by decide +kernel), if_neg (by decide +kernel), if_neg (by decide +kernel), if_neg (by decide +kernel), if_pos rfl]
theorem rf_own (pr : Int) (ts : List Th) : restF pr (zS "own") ts = calT (zS "own") ts := by unfold restF; rw [if_neg (by decide +kernel), if_neg (by decide +kernel), if_neg (by decide +kernel), if_neg (by decide +kernel), if_neg (by decide +kernel), if_pos rfl]
theorem rf_param (pr : Int) (ts : List Th) : restF pr (zS "param") ts = (match ts with | [a] => parT pr a | _ => false) := by unfold restF; rw [if_neg (by decide +kernel), if_neg (by decide +kernel), if_neg (by decide +kernel), if_neg (by decide +kernel), if_neg (by decide +kernel), if_neg (by decide +kernel), if_pos rfl]
theorem rf_op (pr : Int) (ts : List Th) : restF pr (zS "op") ts = (match ts with | a :: _ => oneT OPV a | _ => false) := by unfold restF; rw [if_neg (by decide +kernel), if_neg (by decide +kernel), if_neg (by decide +kernel), if_neg (by decide +kernel), if_neg (by decide +kernel), if_neg (by decide +kernel), if_neg (by decide +kernel), if_pos rfl]
theorem rf_sumif (pr : Int) (ts : List Th) : restF pr (zS "sumif") ts = (match ts with | _ :: a :: _ => oneT SFV a | _ => false) := by unfold restF; rw [if_neg (by decide +kernel), if_neg (by decide +kernel), if_neg (by decide +kernel), if_neg (by decide +kernel), if_neg (by decide +kernel), if_neg (by decide +kernel), if_neg (by decide +kernel), if_neg (by decide +kernel), if_pos rfl]
theorem rf_grid (pr : Int) (ts : List Th) : restF pr (zS "grid") ts = (match ts with | a :: b :: _ => withT 16 a && withT 8 b | _ => false) := by unfold restF; rw [if_neg (by decide +kernel), if_neg (by decide +kernel), if_neg (by decide +kernel), if_neg (by decide +kernel), if_neg (by decide +kernel), if_neg (by decide +kernel), if_neg (by decide +kernel), if_neg (by decide +kernel), if_neg (by decide +kernel), if_pos rfl]
def notSp (k : Str) : Bool := !decide (k = zS "value") && !decide (k = zS "cell") && !decide (k = zS "range") && !decide (k = zS "columns") && !decide (k = zS "name") && !decide (k = zS "own") && !decide (k = zS "param") && !decide (k = zS "op") && !decide (k = zS "sumif") && !decide (k = zS "grid")
theorem rf_else {pr : Int} {k : Str} {ts : List Th} (h : notSp k = true) : restF pr k ts = true := by
  unfold notSp at h
  simp only [Bool.and_eq_true, Bool.not_eq_true', decide_eq_false_iff_not] at h
  obtain ⟨⟨⟨⟨⟨⟨⟨⟨⟨h0, h1⟩, h2⟩, h3⟩, h4⟩, h5⟩, h6⟩, h7⟩, h8⟩, h9⟩ := h
  unfold restF
  rw [if_neg h0, if_neg h1, if_neg h2, if_neg h3, if_neg h4, if_neg h5, if_neg h6, if_neg h7, if_neg h8, if_neg h9]
theorem leaf_form {pr : Nat} {l : Lf} (ok : LfOk pr l) {q : Int} (hq : (pr : Int) ≤ q) (h3 : pr ≤ 3) : formT q (lfT l) = true := by
  cases l with
  | val v => exact form_mk (by show (2 : Int) = _; decide +kernel) ((rf_value _ _).trans (wr_true ok.1 ok.2))
  | cell s c =>
    refine form_mk (by show (3 : Int) = _; decide +kernel) ((rf_cell _ _).trans ?_)
    show (shnT (shT s) && refR (zS "cell") [corTh c]) = true
    rw [shn_true ok.1]
    unfold refR
    rw [if_neg (by decide +kernel), if_pos rfl]
    exact corn_true ok.2
  | rng s c d =>
    refine form_mk (by show (4 : Int) = _; decide +kernel) ((rf_range _ _).trans ?_)
    show (shnT (shT s) && refR (zS "range") [corTh c, corTh d]) = true
    rw [shn_true ok.1]
    unfold refR
    rw [if_neg (by decide +kernel), if_neg (by decide +kernel)]
    show (true && (cornT (corTh c) && cornT (corTh d) && leT2 (.int c.r) (.int d.r) && leT2 (.int c.c) (.int d.c))) = true
    rw [corn_true ok.2.1, corn_true ok.2.2.1, le_true ok.2.2.2.1, le_true ok.2.2.2.2]
    rfl
  | cols s i x j y =>
    refine form_mk (by show (4 : Int) = _; decide +kernel) ((rf_columns _ _).trans ?_)
    show (shnT (shT s) && refR (zS "columns") [.tup [.int i, .bl x], .tup [.int j, .bl y]]) = true
    rw [shn_true ok.1]
    unfold refR
    rw [if_pos rfl]
    show (true && ((withT 8 (.int i) && true) && (withT 8 (.int j) && true) && leT2 (.int i) (.int j))) = true
    rw [with_true ok.2.1 (by have := ok.2.2.1; have := ok.2.2.2; omega), with_true (by have := ok.2.1; have := ok.2.2.1; omega) ok.2.2.2, le_true ok.2.2.1]
    rfl
  | gone => exact form_mk (by show (1 : Int) = _; decide +kernel) (rf_else (by decide +kernel))
  | nam z =>
    refine form_mk (by show (2 : Int) = _; decide +kernel) ((rf_name _ _).trans ?_)
    unfold calT
    dsimp only
    rw [frn_true ok.1 ok.2, if_pos rfl]
    rfl
  | par i =>
    refine form_mk (by show (2 : Int) = _; decide +kernel) ((rf_param _ _).trans ?_)
    show (decide (0 ≤ i) && decide (i < min q 3)) = true
    rw [decide_eq_true ok.1, decide_eq_true (by have := ok.2; omega)]
    rfl
theorem leaf_prt (l : Lf) : prtT (lfT l) = [] := by
  have e : ∀ (k : Str) (ts : List Th), k ≠ zS "own" → plN k = [] → prtT (.tup (.str k :: ts)) = [] := fun k ts h1 h2 => by
    unfold prtT
    dsimp only
    rw [if_neg h1, h2]
    rfl
  cases l <;> exact e _ _ (by decide +kernel) (by decide +kernel)
theorem kids {us : List Th} {m : Nat} (h : us.length = m) (hm : m = 1 ∨ m = 2 ∨ m = 3) : (m = 1 ∧ ∃ a, us = [a]) ∨ (m = 2 ∧ ∃ a b, us = [a, b]) ∨ (m = 3 ∧ ∃ a b c, us = [a, b, c]) := by
  rcases hm with rfl | rfl | rfl
  · exact .inl ⟨rfl, kid1 h⟩
  · exact .inr (.inl ⟨rfl, kid2 h⟩)
  · exact .inr (.inr ⟨rfl, kid3 h⟩)
def upN : Nat → List Nat
  | 1 => [1] | 2 => [1, 2] | 3 => [1, 2, 3] | _ => []
theorem node_prt {k : Kd} {us : List Th} (ok : KdOk k us.length) : prtT (.tup (layT k us)) = us := by
  have e : ∀ (k : Str) (ts : List Th) (pl : List Nat), k ≠ zS "own" → plN k = pl → prtT (.tup (.str k :: ts)) = pl.filterMap fun i => (Th.str k :: ts)[i]? := fun k ts pl h1 h2 => by
    unfold prtT
    dsimp only
    rw [if_neg h1, h2]
  cases k with
  | op z =>
    obtain ⟨a, b, rfl⟩ := kid2 ok.2
    exact (e _ _ [2, 3] (by decide +kernel) (by decide +kernel)).trans rfl
  | neg =>
    obtain ⟨a, rfl⟩ := kid1 (show us.length = 1 from ok)
    exact (e _ _ [1] (by decide +kernel) (by decide +kernel)).trans rfl
  | own z =>
    show prtT (.tup [.str (zS "own"), .str z, .tup us]) = us
    unfold prtT
    dsimp only
    rw [if_pos rfl]
    rfl
  | sumif z =>
    obtain ⟨a, b, c, rfl⟩ := kid3 ok.2
    exact (e _ _ [1, 3, 4] (by decide +kernel) (by decide +kernel)).trans rfl
  | grid i j =>
    obtain ⟨a, b, rfl⟩ := kid2 ok.2.2.2.2
    exact (e _ _ [3, 4] (by decide +kernel) (by decide +kernel)).trans rfl
  | wd z =>
    have hw : (z, us.length) ∈ WDS := ok
    have tab : ∀ x ∈ WDS, x.1 ≠ zS "own" ∧ plN x.1 = upN x.2 ∧ (x.2 = 1 ∨ x.2 = 2 ∨ x.2 = 3) := by decide +kernel
    obtain ⟨t1, t2, t3⟩ := tab _ hw
    refine (e z us _ t1 t2).trans ?_
    dsimp only at t3 ⊢
    rcases kids rfl t3 with ⟨h, a, rfl⟩ | ⟨h, a, b, rfl⟩ | ⟨h, a, b, c, rfl⟩ <;> rfl
theorem in_ops {z : Str} (h : z ∈ OPS) : oneT OPV (.str z) = true := by
  have tab : ∀ z ∈ OPS, inV (.str z) OPV = true := by decide +kernel
  exact tab z h
theorem node_form {k : Kd} {us : List Th} (ok : KdOk k us.length) (q : Int) : formT q (.tup (layT k us)) = true := by
  cases k with
  | op z =>
    obtain ⟨a, b, rfl⟩ := kid2 ok.2
    exact form_mk (by show (4 : Int) = _; decide +kernel) ((rf_op _ _).trans (in_ops ok.1))
  | neg =>
    obtain ⟨a, rfl⟩ := kid1 (show us.length = 1 from ok)
    exact form_mk (by show (2 : Int) = _; decide +kernel) (rf_else (by decide +kernel))
  | own z =>
    refine form_mk (by show (3 : Int) = _; decide +kernel) ((rf_own _ _).trans ?_)
    show (frnT (.str z) && (if zS "own" = zS "name" then true else decide (us.length ≤ 3))) = true
    rw [frn_true ok.1 ok.2.1, if_neg (by decide +kernel), decide_eq_true ok.2.2]
    rfl
  | sumif z =>
    obtain ⟨a, b, c, rfl⟩ := kid3 ok.2
    refine form_mk (by show (5 : Int) = _; decide +kernel) ((rf_sumif _ _).trans ?_)
    show inV (.str z) SFV = true
    rcases ok.1 with rfl | rfl <;> decide +kernel
  | grid i j =>
    obtain ⟨a, b, rfl⟩ := kid2 ok.2.2.2.2
    refine form_mk (by show (5 : Int) = _; decide +kernel) ((rf_grid _ _).trans ?_)
    show (withT 16 (.int i) && withT 8 (.int j)) = true
    rw [with_true ok.1 ok.2.1, with_true ok.2.2.1 ok.2.2.2.1]
    rfl
  | wd z =>
    have hw : (z, us.length) ∈ WDS := ok
    have tab : ∀ x ∈ WDS, notSp x.1 = true ∧ ((x.2 + 1 : Nat) : Int) = lenK x.1 := by decide +kernel
    obtain ⟨t1, t2⟩ := tab _ hw
    exact form_mk t2 (rf_else t1)
theorem thL_mem {t : Th} : ∀ {fs : List Fm}, t ∈ thL fs → ∃ g ∈ fs, t = thF g
  | [], h => by rw [thL] at h; cases h
  | f :: fs, h => by
    rw [thL] at h
    rcases List.mem_cons.mp h with e | h
    · exact ⟨f, by simp, e⟩
    · obtain ⟨g, hg, e⟩ := thL_mem h
      exact ⟨g, List.mem_cons_of_mem _ hg, e⟩
theorem mem_thL {g : Fm} : ∀ {fs : List Fm}, g ∈ fs → thF g ∈ thL fs
  | [], h => by cases h
  | f :: fs, h => by
    rw [thL]
    rcases List.mem_cons.mp h with e | h
    · rw [e]; simp
    · exact List.mem_cons_of_mem _ (mem_thL h)
theorem FO.tree {pr n : Nat} {f : Fm} (fo : FO pr n f) {q : Int} (hq : (pr : Int) ≤ q) (h3 : pr ≤ 3) : treeT n q (thF f) = true := by
  induction fo with
  | lf ok => exact tree_mk (by rw [thF]; exact leaf_form ok hq h3) fun t ht => by rw [thF, leaf_prt] at ht; cases ht
  | @nd n k ps ok hp ih =>
    have okt : KdOk k (thL ps).length := by rw [thL_len]; exact ok
    refine tree_mk (by rw [thF]; exact node_form okt q) fun t ht => ?_
    rw [thF, node_prt okt] at ht
    obtain ⟨g, hg, rfl⟩ := thL_mem ht
    exact ih g hg
theorem szL_th {n : Nat} : ∀ {ps : List Fm}, (∀ g ∈ ps, szN n (thF g) = szF g) → szL n (thL ps) = szs ps
  | [], _ => by rw [thL, szs]; rfl
  | f :: fs, h => by
    rw [thL, szs, ← szL_th fun g hg => h g (List.mem_cons_of_mem _ hg), ← h f (by simp)]
    unfold szL
    rw [List.map_cons, List.sum_cons]
theorem FO.szN {pr n : Nat} {f : Fm} (fo : FO pr n f) : Fs.szN n (thF f) = szF f := by
  induction fo with
  | @lf n l ok =>
    show 1 + ((prtT (thF (.lf l))).map (Fs.szN n)).sum = szF (.lf l)
    rw [thF, leaf_prt, szF]
    rfl
  | @nd n k ps ok hp ih =>
    have okt : KdOk k (thL ps).length := by rw [thL_len]; exact ok
    show 1 + szL n (prtT (thF (.nd k ps))) = szF (.nd k ps)
    rw [thF, node_prt okt, szF, szL_th ih]
def lfP : Lf → Int
  | .par i => i + 1
  | _ => 0
mutual
def mpF : Fm → Int
  | .lf l => lfP l
  | .nd _ ps => mpL ps
def mpL : List Fm → Int
  | [] => 0
  | f :: fs => max (mpF f) (mpL fs)
end
theorem mpL_le {q : Int} (h0 : 0 ≤ q) : ∀ {fs : List Fm}, (∀ g ∈ fs, mpF g ≤ q) → mpL fs ≤ q
  | [], _ => by rw [mpL]; exact h0
  | f :: fs, h => by
    rw [mpL]
    have a := h f (by simp)
    have b := mpL_le h0 (fs := fs) fun g hg => h g (List.mem_cons_of_mem _ hg)
    omega
theorem FO.mp {pr n : Nat} {f : Fm} (fo : FO pr n f) {q : Int} (h0 : 0 ≤ q) (h : treeT n q (thF f) = true) : mpF f ≤ q := by
  induction fo with
  | @lf n l ok =>
    rw [mpF]
    cases l with
    | par i =>
      have h1 := (tree_form h).1
      rw [thF] at h1
      have h2 : restF q (zS "param") [.int i] = true := form_rest h1
      rw [rf_param] at h2
      have h3 : (decide (0 ≤ i) && decide (i < min q 3)) = true := h2
      rw [Bool.and_eq_true] at h3
      have := of_decide_eq_true h3.2
      show i + 1 ≤ q
      omega
    | _ => exact h0
  | @nd n k ps ok hp ih =>
    rw [mpF]
    refine mpL_le h0 fun g hg => ih g hg ?_
    have okt : KdOk k (thL ps).length := by rw [thL_len]; exact ok
    refine (tree_form h).2 _ ?_
    rw [thF, node_prt okt]
    exact mem_thL hg
theorem wdv_flat : WDV.all flatV = true := by decide +kernel
theorem opv_flat : OPV.all flatV = true := by decide +kernel
theorem sfv_flat : SFV.all flatV = true := by decide +kernel
def spOne (K : PySem.W.Frag) : Sp := fun vs H Q _ => ∃ (v : V) (th : Th) (b : Addr) (ys : List V), vs = [v, .ref b] ∧ ThAt H v th ∧ (∀ H', SqT K H' b ys) ∧ ys.all flatV = true ∧ ∀ H', Same H H' → Q (.bl (oneT ys th)) H'
theorem wr_no {th : Th} (h : valT th = false) : wrT th = false := by
  cases th with
  | tup ts =>
    cases ts with
    | nil => rfl
    | cons a ts =>
      cases a with
      | str k => show (valT (.tup (.str k :: ts)) && wrR k ts) = false; rw [h]; rfl
      | _ => rfl
  | _ => rfl
theorem val_shape {ts : List Th} (h : valT (.tup ts) = true) : ∃ k ts', ts = .str k :: ts' := by
  cases ts with
  | nil => cases h
  | cons a ts =>
    cases a with
    | str k => exact ⟨k, ts, rfl⟩
    | _ => cases h
theorem wr_eq {k : Str} {ts : List Th} (h : valT (.tup (.str k :: ts)) = true) : wrT (.tup (.str k :: ts)) = wrR k ts := by
  show (valT (.tup (.str k :: ts)) && wrR k ts) = _
  rw [h]; rfl
theorem few_int {a : Th} (h : fewT a = true) : ∃ i, a = .int i := by cases a <;> first | exact ⟨_, rfl⟩ | cases h
theorem val_num {ts : List Th} (h : valT (.tup (.str (zS "number") :: ts)) = true) : ∃ x y, ts = [.int x, .int y] := by
  have h : restT (zS "number") ts = true := h
  rw [rest1] at h
  match ts, h with
  | [a, b], h =>
    have h : (fewT a && fewT b && numT a b) = true := h
    simp only [Bool.and_eq_true] at h
    obtain ⟨x, rfl⟩ := few_int h.1.1
    obtain ⟨y, rfl⟩ := few_int h.1.2
    exact ⟨x, y, rfl⟩
theorem eqIb {a b : Int} : decide (V.int a = V.int b) = decide (a = b) := by
  by_cases h : a = b
  · rw [decide_eq_true h, decide_eq_true (by rw [h])]
  · rw [decide_eq_false h, decide_eq_false fun e => h (by injection e)]
theorem wrR_num {x y : Int} : wrR (zS "number") [.int x, .int y] = (decide (V.int y = V.int 1) && (decide (0 ≤ x) && decide (x ≤ 999999999))) := by
  unfold wrR
  rw [if_pos rfl, eqIb, ← Bool.and_assoc]
theorem wrR_no {k : Str} {ts : List Th} (h : k ≠ zS "number") : wrR k ts = (decide (k = zS "text") || decide (k = zS "truth")) := by
  unfold wrR
  rw [if_neg h]
theorem corn_not4 {ts : List Th} (h : ts.length ≠ 4) : cornT (.tup ts) = false := by
  match ts, h with
  | [], _ => rfl
  | [_], _ => rfl
  | [_, _], _ => rfl
  | [_, _, _], _ => rfl
  | [_, _, _, _], h => exact absurd rfl h
  | _ :: _ :: _ :: _ :: _ :: _, _ => rfl
theorem colm_not2 {ts : List Th} (h : ts.length ≠ 2) : colmT (.tup ts) = false := by
  match ts, h with
  | [], _ => rfl
  | [_], _ => rfl
  | [_, _], h => exact absurd rfl h
  | _ :: _ :: _ :: _, _ => rfl
theorem with_int {l : Int} {t : Th} (h : withT l t = true) : ∃ i, t = .int i := by cases t <;> first | exact ⟨_, rfl⟩ | cases h
theorem colm_shape {t : Th} (h : colmT t = true) : ∃ i b, t = .tup [.int i, b] := by
  match t, h with
  | .tup [a, b], h =>
    have h : (withT 8 a && isBl b) = true := h
    rw [Bool.and_eq_true] at h
    obtain ⟨i, rfl⟩ := with_int h.1
    exact ⟨i, b, rfl⟩
theorem corn_shape {t : Th} (h : cornT t = true) : ∃ i j b c, t = .tup [.int i, .int j, b, c] := by
  match t, h with
  | .tup [a, b, c, d], h =>
    have h : (isBl c && isBl d && withT 16 a && withT 8 b) = true := h
    simp only [Bool.and_eq_true] at h
    obtain ⟨i, rfl⟩ := with_int h.1.2
    obtain ⟨j, rfl⟩ := with_int h.2
    exact ⟨i, j, c, d, rfl⟩
theorem cols_no1 {t u : Th} (h : colmT t = false) : cols2 [t, u] = false := by
  unfold cols2
  split
  · rename_i a x b y e
    cases e
    rw [h]; rfl
  · rfl
theorem cols_no2 {t u : Th} (h : colmT u = false) : cols2 [t, u] = false := by
  unfold cols2
  split
  · rename_i a x b y e
    cases e
    rw [h, Bool.and_false]; rfl
  · rfl
theorem cols_yes {i j : Int} {b c : Th} (h1 : colmT (.tup [.int i, b]) = true) (h2 : colmT (.tup [.int j, c]) = true) : cols2 [.tup [.int i, b], .tup [.int j, c]] = decide (i ≤ j) := by
  show (colmT _ && colmT _ && decide (i ≤ j)) = _
  rw [h1, h2]; rfl
theorem rng_no1 {t u : Th} (h : cornT t = false) : rng2 [t, u] = false := by
  unfold rng2
  split
  · rename_i e
    cases e
    rw [h]; rfl
  · rfl
theorem rng_no2 {t u : Th} (h : cornT u = false) : rng2 [t, u] = false := by
  unfold rng2
  split
  · rename_i e
    cases e
    rw [h, Bool.and_false]; rfl
  · rfl
theorem rng_yes {i j i' j' : Int} {b c b' c' : Th} (h1 : cornT (.tup [.int i, .int j, b, c]) = true) (h2 : cornT (.tup [.int i', .int j', b', c']) = true) : rng2 [.tup [.int i, .int j, b, c], .tup [.int i', .int j', b', c']] = (decide (i ≤ i') && decide (j ≤ j')) := by
  show (cornT _ && cornT _ && decide (i ≤ i') && decide (j ≤ j')) = _
  rw [h1, h2]; rfl
def spRf : Sp := fun vs H Q _ => ∃ (v : V) (k : Str) (ts : List Th), vs = [v] ∧ ThAt H v (.tup (.str k :: ts)) ∧ ((k = zS "cell" ∧ ts.length = 2) ∨ (k = zS "range" ∧ ts.length = 3) ∨ (k = zS "columns" ∧ ts.length = 3)) ∧ ∀ H', Same H H' → Q (.bl (refT k ts)) H'
def spCal : Sp := fun vs H Q _ => ∃ (v : V) (k : Str) (ts : List Th), vs = [v] ∧ ThAt H v (.tup (.str k :: ts)) ∧ ((k = zS "name" ∧ ts.length = 1) ∨ (k = zS "own" ∧ ts.length = 2)) ∧ ∀ H', Same H H' → Q (.bl (calT k ts)) H'
def spPar : Sp := fun vs H Q _ => ∃ (v : V) (th : Th) (pr : Int), vs = [v, .int pr] ∧ ThAt H v th ∧ ∀ H', Same H H' → Q (.bl (parT pr th)) H'
def spHF : Sp := fun vs H Q _ => ∃ (v : V) (th : Th) (pr : Int), vs = [v, .int pr] ∧ ThAt H v th ∧ ∀ H', Same H H' → Q (.bl (formT pr th)) H'
theorem leI3 {n : Nat} : decide ((n : Int) ≤ 3) = decide (n ≤ 3) := by
  by_cases h : n ≤ 3
  · rw [decide_eq_true h, decide_eq_true (by omega)]
  · rw [decide_eq_false h, decide_eq_false (by omega)]
theorem min3 {pr : Int} : (if (3 : Int) < pr then (3 : Int) else pr) = min pr 3 := by
  by_cases h : 3 < pr
  · rw [if_pos h]; omega
  · rw [if_neg h]; omega
theorem tup_shape {H : Hp} {v : V} {ts : List Th} (h : ThAt H v (.tup ts)) : ∃ a us, v = .ref a ∧ H a = some (.tup us) ∧ Paired (ThAt H) us ts := by
  cases h with
  | tup e hn hh => exact ⟨_, _, rfl, e, ThAt.toP hn hh⟩
theorem ref_cell {s c : Th} : refT (zS "cell") [s, c] = (shnT s && cornT c) := by
  show (shnT s && refR (zS "cell") [c]) = _
  unfold refR
  rw [if_neg (by decide +kernel), if_pos rfl]
theorem ref_range {s c d : Th} : refT (zS "range") [s, c, d] = (shnT s && rng2 [c, d]) := by
  show (shnT s && refR (zS "range") [c, d]) = _
  unfold refR
  rw [if_neg (by decide +kernel), if_neg (by decide +kernel)]
theorem ref_columns {s c d : Th} : refT (zS "columns") [s, c, d] = (shnT s && cols2 [c, d]) := by
  show (shnT s && refR (zS "columns") [c, d]) = _
  unfold refR
  rw [if_pos rfl]
theorem cal_name {a : Th} : calT (zS "name") [a] = frnT a := by
  unfold calT
  dsimp only
  rw [if_pos rfl, Bool.and_true]
theorem cal_own {a b : Th} : calT (zS "own") [a, b] = (frnT a && (match b with | .tup us => decide (us.length ≤ 3) | _ => false)) := by
  unfold calT
  dsimp only
  rw [if_neg (by decide +kernel)]
  cases b <;> rfl
theorem kid4 {α : Type} {us : List α} (h : us.length = 4) : ∃ a b c d, us = [a, b, c, d] := match us, h with | [a, b, c, d], _ => ⟨a, b, c, d, rfl⟩
theorem form_shape {pr : Int} {th : Th} (h : formT pr th = true) : ∃ k ts, th = .tup (.str k :: ts) := by
  cases th with
  | tup ts =>
    cases ts with
    | nil => cases h
    | cons a ts =>
      cases a with
      | str k => exact ⟨k, ts, rfl⟩
      | _ => cases h
  | _ => cases h
theorem form_len {pr : Int} {k : Str} {ts : List Th} (h : formT pr (.tup (.str k :: ts)) = true) : ((ts.length + 1 : Nat) : Int) = lenK k := by
  have h : (decide (((ts.length + 1 : Nat) : Int) = lenK k) && restF pr k ts) = true := h
  rw [Bool.and_eq_true] at h
  exact of_decide_eq_true h.1
theorem pl_in {pr : Int} {k : Str} {ts : List Th} (h : formT pr (.tup (.str k :: ts)) = true) : ∀ p ∈ plN k, p < ts.length + 1 := by
  intro p hp
  have hl := form_len h
  unfold plN at hp
  cases e : PLN.find? fun x => decide (x.1 = k) with
  | none => rw [e] at hp; cases hp
  | some x =>
    rw [e] at hp
    have tab : ∀ x ∈ PLN, ∀ p ∈ x.2, (p : Int) < lenK x.1 := by decide +kernel
    have hx := tab x (List.mem_of_find?_eq_some e) p hp
    have hk : x.1 = k := by simpa using List.find?_some e
    rw [hk] at hx
    omega
theorem ppk_pln : PPK = PLN.map fun x => ((Sum.inr x.1 : Key), x.2.map fun p => V.int (p : Nat)) := rfl
theorem pl_at (k : Str) : (ppAt k = none ∧ plN k = []) ∨ ppAt k = some ((plN k).map fun p => V.int (p : Nat)) := by
  unfold ppAt plN
  rw [ppk_pln, List.find?_map]
  have e : ((fun kt : Key × List V => decide (kt.1 = (Sum.inr k : Key))) ∘ fun x : Str × List Nat => ((Sum.inr x.1 : Key), x.2.map fun p => V.int (p : Nat))) = fun x => decide (x.1 = k) := by
    funext x
    show decide ((Sum.inr x.1 : Key) = Sum.inr k) = decide (x.1 = k)
    by_cases h : x.1 = k
    · rw [decide_eq_true h, decide_eq_true (by rw [h])]
    · rw [decide_eq_false h, decide_eq_false fun z => h (Sum.inr.inj z)]
  rw [e]
  cases h : PLN.find? fun x => decide (x.1 = k) with
  | none => exact .inl ⟨rfl, rfl⟩
  | some x => exact .inr rfl
theorem pl_pair {α β : Type} {F : α → β → Prop} {xs : List α} {ys : List β} (d : α) (h : Paired F xs ys) : ∀ {pl : List Nat}, (∀ p ∈ pl, p < xs.length) → Paired F (pl.map fun p => xs.getD p d) (pl.filterMap fun p => ys[p]?)
  | [], _ => .nil
  | p :: pl, hp => by
    have h1 := hp p (by simp)
    have e1 : xs[p]? = some (xs.getD p d) := by rw [List.getD_eq_getElem?_getD, List.getElem?_eq_getElem h1]; rfl
    obtain ⟨y, e2, r⟩ := paired_at h e1
    rw [List.map_cons, List.filterMap_cons_some e2]
    exact .cons r (pl_pair d h fun q hq => hp q (List.mem_cons_of_mem _ hq))
def spPT : Sp := fun vs H Q _ => ∃ (v : V) (th : Th) (pr : Int), vs = [v] ∧ ThAt H v th ∧ formT pr th = true ∧ ∀ (l : Addr) (us : List V) (H' : Hp), H l = none → H' l = some (.lst us) → Paired (ThAt H') us (prtT th) → Same H H' → Q (.ref l) H'
theorem prt_own {a : Th} {us : List Th} : prtT (.tup [.str (zS "own"), a, .tup us]) = us := by
  unfold prtT
  dsimp only
  rw [if_pos rfl]
  rfl
theorem prt_pl {k : Str} {ts : List Th} (h : k ≠ zS "own") : prtT (.tup (.str k :: ts)) = (plN k).filterMap fun i => (Th.str k :: ts)[i]? := by
  unfold prtT
  dsimp only
  rw [if_neg h]
theorem pths {H H' : Hp} {us : List V} {ts : List Th} (p : Paired (ThAt H) us ts) (s : Same H H') : Paired (ThAt H') us ts := Paired.imp' (fun _ _ x => x.same s) p
theorem pthU {H : Hp} {D : Addr} {vs ws us : List V} {ts : List Th} (p : Paired (ThAt H) us ts) (hD : H D = some (.lst vs)) : Paired (ThAt (upd H D (.lst ws))) us ts := Paired.imp' (fun _ _ x => x.updL hD) p
def spTr (n : Nat) : Sp := fun vs H Q _ => ∃ (v : V) (th : Th) (pr d : Int), vs = [v, .int pr, .int d] ∧ d = (n : Int) ∧ ThAt H v th ∧ ∀ H', Same H H' → Q (.bl (treeT n pr th)) H'
def spAllT : Sp := fun vs H Q _ => ∃ (v : V) (th : Th) (pr : Int), vs = [v] ∧ ThAt H v th ∧ treeT 8 pr th = true ∧ ∀ (l : Addr) (ws : List V) (H' : Hp), H' l = some (.lst ws) → ws.length = szN 8 th → Same H H' → Q (.ref l) H'
def spCntT : Sp := fun vs H Q _ => ∃ (v : V) (th : Th) (pr : Int), vs = [v] ∧ ThAt H v th ∧ treeT 8 pr th = true ∧ ∀ H', Same H H' → Q (.int (szN 8 th : Nat)) H'
def fmT (pr : Int) (th : Th) : Bool := treeT 8 pr th && decide (((szN 8 th : Nat) : Int) ≤ 24)
def spIF : Sp := fun vs H Q _ => ∃ (v : V) (th : Th) (pr : Int), vs = [v, .int pr] ∧ ThAt H v th ∧ ∀ H', Same H H' → Q (.bl (fmT pr th)) H'
theorem one_le : 1 ≤ sizeLine := by decide
theorem hun_of {A : Around} {k : Nat} (hr : Room k A) : A.units + 30 < cLine := by have := hr.un; omega
theorem tree_all {n : Nat} {pr : Int} {th : Th} (h : formT pr th = true) : treeT (n + 1) pr th = (prtT th).all (treeT n pr) := by rw [treeT, h, Bool.true_and]
theorem tree_nof {n : Nat} {pr : Int} {th : Th} (h : formT pr th = false) : treeT (n + 1) pr th = false := by rw [treeT, h, Bool.false_and]
theorem pp_none {K : PySem.W.Frag} {k : Key} : ∀ {kvs : List (Key × V)} {kts : List (Key × List V)}, KTs K kvs kts → (kts.find? fun kt => decide (kt.1 = k)).map (·.2) = none → valV kvs k = none
  | _, _, .nil, _ => rfl
  | (kv :: kvs), (kt :: kts), .cons r t, h => by
    obtain ⟨e, a, ea, sq⟩ := r
    by_cases c : kt.1 = k
    · rw [List.find?_cons_of_pos (by simpa using c)] at h
      simp at h
    · rw [List.find?_cons_of_neg (by simpa using c)] at h
      rw [valV_neg (fun z => c (e.symm.trans z))]
      exact pp_none t h
def spGrowZ (K : PySem.W.Frag) (n : Nat) : Sp := fun vs H Q _ => ∃ (p : Addr) (room d : Int) (pr : Nat) (c : Nat) (S : Addr × List Int), vs = [.ref p, .int room, .int d, .int pr] ∧ d = (n : Int) + 1 ∧ 1 ≤ room ∧ room ≤ 24 ∧ pr ≤ 3 ∧ PenD K S H p c ∧ c + 80 * room.toNat ≤ 6000000 ∧
  ∀ (v : V) (f : Fm) (H' : Hp), FmAt H' v f → FO pr (n + 1) f → (szF f : Int) ≤ room → PenD K S H' p (c + 80 * room.toNat) → KeepX p H H' → Q v H'
def spFmlZ (K : PySem.W.Frag) : Sp := fun vs H Q _ => ∃ (p : Addr) (pr : Nat) (c : Nat) (S : Addr × List Int), vs = [.ref p, .int pr] ∧ pr ≤ 3 ∧ PenD K S H p c ∧ c ≤ 5000000 ∧ ∀ (v : V) (f : Fm) (H' : Hp), FmAt H' v f → FO pr 8 f → (szF f : Int) ≤ 24 → PenD K S H' p (c + 2200) → KeepX p H H' → Q v H'
theorem szlf {l : Lf} {r : Int} (h : 1 ≤ r) : (szF (.lf l) : Int) ≤ r := by rw [szF]; omega
theorem mpL_pos : ∀ ps : List Fm, 0 ≤ mpL ps
  | [] => by rw [mpL]; omega
  | f :: ps => by rw [mpL]; have := mpL_pos ps; omega
theorem mpL_ge : ∀ {ps : List Fm} {g : Fm}, g ∈ ps → mpF g ≤ mpL ps
  | [], _, h => by cases h
  | f :: ps, g, h => by
    rw [mpL]
    rcases List.mem_cons.mp h with e | h
    · rw [e]; omega
    · have := mpL_ge h; omega
theorem mpL_mem : ∀ ps : List Fm, mpL ps ∈ (0 :: ps.map mpF)
  | [] => by rw [mpL]; simp
  | f :: ps => by
    have ih := mpL_mem ps
    rw [mpL]
    by_cases h : mpF f ≤ mpL ps
    · rw [show max (mpF f) (mpL ps) = mpL ps by omega]
      rcases List.mem_cons.mp ih with e | e
      · rw [e]; simp
      · simp only [List.map_cons, List.mem_cons]; exact .inr (.inr e)
    · rw [show max (mpF f) (mpL ps) = mpF f by omega]; simp
theorem mp_max {m : Int} {ps : List Fm} (h1 : m ∈ (0 :: ps.map mpF)) (h2 : ∀ n ∈ (0 :: ps.map mpF), n ≤ m) : m = mpL ps := by
  have a := h2 _ (mpL_mem ps)
  have b : m ≤ mpL ps := by
    rcases List.mem_cons.mp h1 with e | e
    · rw [e]; exact mpL_pos ps
    · obtain ⟨g, hg, e⟩ := List.mem_map.mp e
      rw [← e]; exact mpL_ge hg
  omega
theorem FmAt.hdP {H : Hp} {pr n : Nat} {v : V} {f : Fm} (fo : FO pr n f) (h : FmAt H v f) : (∃ a i, v = .ref a ∧ f = .lf (.par i) ∧ H a = some (.tup [vS "param", .int i])) ∨ (∃ a w r, v = .ref a ∧ H a = some (.tup (.str w :: r)) ∧ V.bl (decide (V.str w = vS "param")) = V.bl false ∧ mpF f = mpL (prtF f)) := by
  have z0 : ∀ l, lfP l = 0 → mpF (.lf l) = mpL (prtF (.lf l)) := fun l e => by rw [mpF, e]; show 0 = mpL []; rw [mpL]
  cases h with
  | @lf a l h =>
    cases l with
    | val v => obtain ⟨q, h1, _⟩ := h; exact .inr ⟨_, _, _, rfl, h1, by decide +kernel, z0 _ rfl⟩
    | cell s c => obtain ⟨q, h1, _⟩ := h; exact .inr ⟨_, _, _, rfl, h1, by decide +kernel, z0 _ rfl⟩
    | rng s c d => obtain ⟨q, u, h1, _⟩ := h; exact .inr ⟨_, _, _, rfl, h1, by decide +kernel, z0 _ rfl⟩
    | cols s i x j y => obtain ⟨q, u, h1, _⟩ := h; exact .inr ⟨_, _, _, rfl, h1, by decide +kernel, z0 _ rfl⟩
    | gone => exact .inr ⟨_, _, _, rfl, h, by decide +kernel, z0 _ rfl⟩
    | nam z => exact .inr ⟨_, _, _, rfl, h, by decide +kernel, z0 _ rfl⟩
    | par i => exact .inl ⟨_, _, rfl, rfl, h⟩
  | @nd a t kd us ps ha ht hl hh =>
    cases fo with
    | nd ok _ =>
      obtain ⟨r, er⟩ := lay_kw t kd us
      refine .inr ⟨a, kw kd, r, rfl, by rw [ha, er], ?_, by rw [mpF]; rfl⟩
      cases kd with
      | wd z =>
        have hw : (z, ps.length) ∈ WDS := ok
        have tab : ∀ x ∈ WDS, decide (V.str x.1 = vS "param") = false := by decide +kernel
        exact congrArg V.bl (tab _ hw)
      | op z => exact (by decide +kernel : V.bl (decide (vS "op" = vS "param")) = V.bl false)
      | neg => exact (by decide +kernel : V.bl (decide (vS "neg" = vS "param")) = V.bl false)
      | own z => exact (by decide +kernel : V.bl (decide (vS "own" = vS "param")) = V.bl false)
      | sumif z => exact (by decide +kernel : V.bl (decide (vS "sumif" = vS "param")) = V.bl false)
      | grid i j => exact (by decide +kernel : V.bl (decide (vS "grid" = vS "param")) = V.bl false)
def spMp (n : Nat) : Sp := fun vs H Q _ => ∃ (v : V) (f : Fm) (pr : Nat), vs = [v] ∧ FmAt H v f ∧ FO pr n f ∧ n ≤ 8 ∧ ∀ H', Same H H' → Q (.int (mpF f)) H'
def BadF (H : Hp) (us : List V) : Prop := ∀ v ∈ us, ∃ th, ThAt H v th ∧ badT th = true
theorem BadF.same {H H' : Hp} {us : List V} (h : BadF H us) (s : Same H H') : BadF H' us := fun v hv => let ⟨th, a, b⟩ := h v hv; ⟨th, a.same s, b⟩
theorem BadF.nil {H : Hp} : BadF H [] := fun v hv => by cases hv
theorem BadF.cons {H : Hp} {u : V} {us : List V} {th : Th} (a : ThAt H u th) (b : badT th = true) (h : BadF H us) : BadF H (u :: us) := fun v hv => by
  rcases List.mem_cons.mp hv with rfl | hv
  · exact ⟨th, a, b⟩
  · exact h v hv
theorem BadF.cons' {H : Hp} {u : V} {us : List V} {th : Th} (h : BadF H us) (a : ThAt H u th) (b : badT th = true) : BadF H (u :: us) := BadF.cons a b h
theorem BadF.app {H : Hp} {us ws : List V} (a : BadF H us) (b : BadF H ws) : BadF H (us ++ ws) := fun v hv => by
  rcases List.mem_append.mp hv with hv | hv
  · exact a v hv
  · exact b v hv
theorem BadF.consD {H : Hp} {u : V} {us : List V} {th : Th} (a : ThAt H u th) (h : BadF H us) (b : badT th = true := by decide +kernel) : BadF H (u :: us) := h.cons' a b
abbrev tS (z : String) : Th := .str (Str.ofString z)
theorem mkST {H : Hp} {q : Addr} {us : List V} {ts : List Th} (hq : H q = none) (p : Same H (upd H q (.tup us)) → Paired (ThAt (upd H q (.tup us))) us ts) : Same H (upd H q (.tup us)) ∧ ThAt (upd H q (.tup us)) (.ref q) (.tup ts) := ⟨Same.new hq, mkT hq (p (Same.new hq))⟩
theorem mkSL {H : Hp} {q : Addr} {us : List V} {N : Nat} (hq : H q = none) (b : BadF H us) (hN : us.length = N) : Same H (upd H q (.lst us)) ∧ BadF (upd H q (.lst us)) us ∧ upd H q (.lst us) q = some (.lst us) ∧ us.length = N := ⟨Same.new hq, b.same (Same.new hq), upd_same, hN⟩
theorem sl0 : 0 ≤ sizeLine := by decide
theorem sl1 : 1 ≤ sizeLine := by decide
theorem sl2 : 2 ≤ sizeLine := by decide
theorem sl3 : 3 ≤ sizeLine := by decide
theorem sl4 : 4 ≤ sizeLine := by decide
theorem sl5 : 5 ≤ sizeLine := by decide
theorem sl6 : 6 ≤ sizeLine := by decide
theorem sl7 : 7 ≤ sizeLine := by decide
theorem sl8 : 8 ≤ sizeLine := by decide
theorem sqA {te : TE} {g : TG} {u : TS} {D} {σ : St} {H : Hp} (h : te σ H fun x H1 => g x σ H1 (u D)) : tSeq (tAsg te g) u D σ H := h
theorem gN0 {v : V} {x0 x1 : Option V} {H : Hp} {Q : St → Hp → Prop} (h : Q [some v, x1] H) : gName 0 v [x0, x1] H Q := h
theorem gN1 {v : V} {x0 x1 : Option V} {H : Hp} {Q : St → Hp → Prop} (h : Q [x0, some v] H) : gName 1 v [x0, x1] H Q := h
theorem pths' {H H' : Hp} {us : List V} {ts : List Th} (p : Paired (ThAt H) us ts) (s : Same H H') : Paired (ThAt H') us ts := Paired.imp' (fun _ _ x => x.same s) p
inductive Dx where
  | s (z : String) | i (n : Int) | b (x : Bool) | n | v | t (l : List Dx) | l (k : List Dx)
mutual
def teD : Dx → TE
  | .s z => tC (.str (Str.ofString z))
  | .i n => tC (.int n)
  | .b x => tC (.bl x)
  | .n => tC .non
  | .v => tVar 0
  | .t l => tTup (taD l)
  | .l k => tLst (taD k)
def taD : List Dx → TA
  | [] => tNil
  | d :: ds => tCons (teD d) (taD ds)
end
mutual
def thD (ρ : Th) : Dx → Th
  | .s z => .str (Str.ofString z)
  | .i n => .int n
  | .b x => .bl x
  | .n => .non
  | .v => ρ
  | .t l => .tup (tlD ρ l)
  | .l _ => .lst
def tlD (ρ : Th) : List Dx → List Th
  | [] => []
  | d :: ds => thD ρ d :: tlD ρ ds
end
mutual
def okD : Dx → Bool
  | .s z => decide ((Str.ofString z).length ≤ 1000)
  | .t l => decide (l.length ≤ 1000) && olD l
  | .l k => decide (k.length ≤ 1000) && olD k
  | _ => true
def olD : List Dx → Bool
  | [] => true
  | d :: ds => okD d && olD ds
end
theorem tlD_len (ρ : Th) : ∀ ds : List Dx, (tlD ρ ds).length = ds.length
  | [] => by rw [tlD]; rfl
  | d :: ds => by rw [tlD, List.length_cons, List.length_cons, tlD_len ρ ds]
abbrev HasV (σ : St) (H : Hp) (ρ : Th) : Prop := ∃ v, σ[0]? = some (some v) ∧ ThAt H v ρ
theorem HasV.same {σ : St} {H H' : Hp} {ρ : Th} (h : HasV σ H ρ) (s : Same H H') : HasV σ H' ρ := let ⟨v, a, b⟩ := h; ⟨v, a, b.same s⟩
mutual
theorem evE {ρ : Th} {σ : St} : ∀ (d : Dx) {H : Hp} {Q : VK}, okD d = true → HasV σ H ρ → (∀ (v : V) (H' : Hp), ThAt H' v (thD ρ d) → Same H H' → Q v H') → teD d σ H Q
  | .s z, H, Q, ok, hv, k => by rw [teD]; exact k _ _ (by rw [thD]; exact .str _ (of_decide_eq_true (by rw [okD] at ok; exact ok))) (Same.refl _)
  | .i n, H, Q, ok, hv, k => by rw [teD]; exact k _ _ (by rw [thD]; exact .int _) (Same.refl _)
  | .b x, H, Q, ok, hv, k => by rw [teD]; exact k _ _ (by rw [thD]; exact .bl _) (Same.refl _)
  | .n, H, Q, ok, hv, k => by rw [teD]; exact k _ _ (by rw [thD]; exact .non) (Same.refl _)
  | .v, H, Q, ok, ⟨v, e, a⟩, k => by rw [teD]; exact ⟨v, e, k _ _ (by rw [thD]; exact a) (Same.refl _)⟩
  | .t l, H, Q, ok, hv, k => by
    rw [okD, Bool.and_eq_true] at ok
    rw [teD]
    refine evA l ok.2 hv fun vs H1 p s1 => ⟨sl_le (by rw [Paired.length p, tlD_len]; exact of_decide_eq_true ok.1), fun q hq => ?_⟩
    exact k _ _ (by rw [thD]; exact mkT hq (pths' p (Same.new hq))) (s1.trans (Same.new hq))
  | .l kk, H, Q, ok, hv, k => by
    rw [okD, Bool.and_eq_true] at ok
    rw [teD]
    refine evA kk ok.2 hv fun vs H1 p s1 => ⟨sl_le (by rw [Paired.length p, tlD_len]; exact of_decide_eq_true ok.1), fun q hq => ?_⟩
    exact k _ _ (by rw [thD]; exact mkL hq) (s1.trans (Same.new hq))
theorem evA {ρ : Th} {σ : St} : ∀ (ds : List Dx) {H : Hp} {Q : List V → Hp → Prop}, olD ds = true → HasV σ H ρ → (∀ (vs : List V) (H' : Hp), Paired (ThAt H') vs (tlD ρ ds) → Same H H' → Q vs H') → taD ds σ H Q
  | [], H, Q, ok, hv, k => by rw [taD]; exact k [] H (by rw [tlD]; exact .nil) (Same.refl _)
  | d :: ds, H, Q, ok, hv, k => by
    rw [olD, Bool.and_eq_true] at ok
    rw [taD]
    refine evE d ok.1 hv fun v H1 f1 s1 => evA ds ok.2 (hv.same s1) fun vs H2 p2 s2 => ?_
    exact k (v :: vs) H2 (by rw [tlD]; exact .cons (f1.same s2) p2) (s1.trans s2)
end
theorem bad_all {H : Hp} : ∀ {us : List V} {ts : List Th}, Paired (ThAt H) us ts → (ts.all badT) = true → BadF H us
  | _, _, .nil, _ => BadF.nil
  | _, _, .cons r p, h => by
    rw [List.all_cons, Bool.and_eq_true] at h
    exact BadF.cons r h.1 (bad_all p h.2)
theorem evL {ρ : Th} {ds : List Dx} {N : Nat} {σ : St} {H : Hp} {Q : VK} (hv : HasV σ H ρ) (ok : olD ds = true) (hb : ((tlD ρ ds).all badT) = true) (hN : ds.length = N) (hM : N ≤ 1000) (k : ∀ (l : Addr) (us : List V) (G : Hp), G l = some (.lst us) → us.length = N → BadF G us → Same H G → Q (.ref l) G) : tLst (taD ds) σ H Q :=
  evA ds ok hv fun vs H1 p s1 => ⟨sl_le (by rw [Paired.length p, tlD_len, hN]; exact hM), fun q hq => k q vs _ upd_same (by rw [Paired.length p, tlD_len, hN]) ((bad_all p hb).same (Same.new hq)) (s1.trans (Same.new hq))⟩
def spBLv : Sp := fun vs H Q _ => vs = [] ∧ ∀ (l : Addr) (us : List V) (H' : Hp), H' l = some (.lst us) → 1 ≤ us.length → us.length ≤ 100 → BadF H' us → Same H H' → Q (.ref l) H'
abbrev aTh : Th := .tup [.str (Str.ofString "value"), .tup [.str (Str.ofString "truth"), .bl true]]
def spBFr : Sp := fun vs H Q _ => ∃ v : V, vs = [v] ∧ ThAt H v aTh ∧ ∀ (l : Addr) (us : List V) (H' : Hp), H' l = some (.lst us) → 1 ≤ us.length → us.length ≤ 100 → BadF H' us → Same H H' → Q (.ref l) H'
theorem ThAt.pen {K : PySem.W.Frag} {S : Addr × List Int} {H H' : Hp} {p : Addr} {n m : Nat} {v : V} {th : Th} (h : ThAt H v th) (a : PenD K S H p n) (b : PenD K S H' p m) (s : KeepX p H H') : ThAt H' v th := by
  obtain ⟨kvs, e1⟩ := a.ob
  obtain ⟨kvs', e2⟩ := b.ob
  induction h with
  | non => exact .non
  | bl b => exact .bl b
  | int i => exact .int i
  | str z hz => exact .str z hz
  | lst e => exact .lst (s _ _ (ne_of e e1 (by intro z; cases z)) e)
  | @dic a kv e =>
    by_cases ha : a = p
    · subst ha; exact .dic e2
    · exact .dic (s _ _ ha e)
  | tup e hn _ ih => exact .tup (s _ _ (ne_of e e1 (by intro z; cases z)) e) hn ih
theorem BadF.pen {K : PySem.W.Frag} {S : Addr × List Int} {H H' : Hp} {p : Addr} {n m : Nat} {us : List V} (h : BadF H us) (a : PenD K S H p n) (b : PenD K S H' p m) (s : KeepX p H H') : BadF H' us := fun v hv => let ⟨th, x, y⟩ := h v hv; ⟨th, x.pen a b s, y⟩
theorem bad_up {th t : Th} (hb : badT t = true) (ht : t ∈ prtT th) : badT th = true := by
  unfold badT
  rw [show treeT 8 3 th = false from tree_no (n := 7) ht (badT_no hb (pr := 3) (by decide))]
  rfl
abbrev gTh : Th := .tup [.str (zS "gone")]
theorem bad_op {t : Th} (hb : badT t = true) : badT (.tup [.str (zS "op"), .str (zS "-"), gTh, t]) = true := bad_up hb (by rw [prt_pl (by decide +kernel), show plN (zS "op") = [2, 3] by decide +kernel]; simp)
theorem bad_own {t : Th} (hb : badT t = true) : badT (.tup [.str (zS "own"), .str (zS "f"), .tup [gTh, t]]) = true := bad_up hb (by rw [prt_own]; simp)
theorem bad_if {t : Th} (hb : badT t = true) : badT (.tup [.str (zS "if"), t, gTh, gTh]) = true := bad_up hb (by rw [prt_pl (by decide +kernel), show plN (zS "if") = [1, 2, 3] by decide +kernel]; simp)
def spBad (K : PySem.W.Frag) : Sp := fun vs H Q _ => ∃ (p : Addr) (c : Nat) (S : Addr × List Int), vs = [.ref p] ∧ PenD K S H p c ∧ c ≤ 6000000 ∧ ∀ (v : V) (th : Th) (H' : Hp), ThAt H' v th → badT th = true → PenD K S H' p (c + 3) → KeepX p H H' → Q v H'
def szd : Nat → Nat → Th
  | 0, _ => .non
  | m + 1, n => if n = 1 then gTh else if n = 2 then .tup [.str (zS "neg"), gTh] else .tup [.str (zS "op"), .str (zS "+"), szd m ((n - 1) / 2), szd m (n - 1 - (n - 1) / 2)]
def spSzd (m : Nat) : Sp := fun vs H Q _ => ∃ (i : Int) (n : Nat), vs = [.int i] ∧ i = (n : Int) ∧ 1 ≤ n ∧ n ≤ m ∧ ∀ (v : V) (H' : Hp), ThAt H' v (szd m n) → Same H H' → Q v H'
def Ch (i : Nat) (th : Th) : Prop := ∀ n, treeT n 0 th = decide (i ≤ n) ∧ szN n th ≤ 2 * i
theorem ch_leaf {th : Th} (hf : formT 0 th = true) (hp : prtT th = []) : Ch 1 th := fun n => by
  cases n with
  | zero => exact ⟨rfl, Nat.zero_le _⟩
  | succ n =>
    constructor
    · rw [tree_all hf, hp, decide_eq_true (by omega)]; rfl
    · show 1 + ((prtT th).map (szN n)).sum ≤ 2 * 1
      rw [hp]; simp
theorem ch_one {i : Nat} {th t : Th} (h : Ch i t) (hf : formT 0 th = true) (hp : prtT th = [t]) : Ch (i + 1) th := fun n => by
  cases n with
  | zero => exact ⟨(decide_eq_false (by omega)).symm, Nat.zero_le _⟩
  | succ n =>
    obtain ⟨h1, h2⟩ := h n
    constructor
    · rw [tree_all hf, hp, List.all_cons, List.all_nil, Bool.and_true, h1]
      by_cases c : i ≤ n
      · rw [decide_eq_true c, decide_eq_true (by omega)]
      · rw [decide_eq_false c, decide_eq_false (by omega)]
    · show 1 + ((prtT th).map (szN n)).sum ≤ 2 * (i + 1)
      rw [hp]
      simp
      omega
theorem ch_two {i : Nat} {th s t : Th} (h0 : Ch 1 s) (hs : ∀ n, szN n s ≤ 1) (h : Ch i t) (hi : 1 ≤ i) (hf : formT 0 th = true) (hp : prtT th = [s, t]) : Ch (i + 1) th := fun n => by
  cases n with
  | zero => exact ⟨(decide_eq_false (by omega)).symm, Nat.zero_le _⟩
  | succ n =>
    obtain ⟨h1, h2⟩ := h n
    obtain ⟨h3, h4⟩ := h0 n
    constructor
    · rw [tree_all hf, hp, List.all_cons, List.all_cons, List.all_nil, Bool.and_true, h1, h3]
      by_cases c : i ≤ n
      · rw [decide_eq_true c, decide_eq_true (by omega), decide_eq_true (by omega)]; rfl
      · rw [decide_eq_false c, Bool.and_false, decide_eq_false (by omega)]
    · have h4' := hs n
      show 1 + ((prtT th).map (szN n)).sum ≤ 2 * (i + 1)
      rw [hp]
      simp
      omega
theorem gone_form : formT 0 gTh = true := by decide +kernel
theorem gone_prt : prtT gTh = [] := by rw [prt_pl (by decide +kernel), show plN (zS "gone") = [] by decide +kernel]; rfl
theorem gone_sz (n : Nat) : szN n gTh ≤ 1 := by
  cases n with
  | zero => exact Nat.zero_le _
  | succ n => show 1 + ((prtT gTh).map (szN n)).sum ≤ 1; rw [gone_prt]; simp
theorem ch_gone : Ch 1 gTh := ch_leaf gone_form gone_prt
theorem ch_val : Ch 1 (.tup [.str (zS "value"), .tup [.str (zS "truth"), .bl false]]) := ch_leaf (by decide +kernel) (by rw [prt_pl (by decide +kernel), show plN (zS "value") = [] by decide +kernel]; rfl)
theorem f_neg (t : Th) : formT 0 (.tup [.str (zS "neg"), t]) = true := form_mk (by show (2 : Int) = _; decide +kernel) (rf_else (by decide +kernel))
theorem f_sum (t : Th) : formT 0 (.tup [.str (zS "sum"), t]) = true := form_mk (by show (2 : Int) = _; decide +kernel) (rf_else (by decide +kernel))
theorem f_mul (s t : Th) : formT 0 (.tup [.str (zS "op"), .str (zS "*"), s, t]) = true := form_mk (by show (4 : Int) = _; decide +kernel) ((rf_op _ _).trans (by show inV (vS "*") OPV = true; decide +kernel))
theorem ch_neg {i : Nat} {t : Th} (h : Ch i t) : Ch (i + 1) (.tup [.str (zS "neg"), t]) := ch_one h (f_neg t) (by rw [prt_pl (by decide +kernel), show plN (zS "neg") = [1] by decide +kernel]; rfl)
theorem ch_sum {i : Nat} {t : Th} (h : Ch i t) : Ch (i + 1) (.tup [.str (zS "sum"), t]) := ch_one h (f_sum t) (by rw [prt_pl (by decide +kernel), show plN (zS "sum") = [1] by decide +kernel]; rfl)
theorem ch_mul {i : Nat} {t : Th} (h : Ch i t) (hi : 1 ≤ i) : Ch (i + 1) (.tup [.str (zS "op"), .str (zS "*"), gTh, t]) := ch_two ch_gone gone_sz h hi (f_mul gTh t) (by rw [prt_pl (by decide +kernel), show plN (zS "op") = [2, 3] by decide +kernel]; rfl)
theorem ch_fm {i : Nat} {th : Th} (h : Ch i th) : fmT 0 th = decide ((i : Int) < 9) := by
  obtain ⟨h1, h2⟩ := h 8
  unfold fmT
  rw [h1]
  by_cases c : i ≤ 8
  · rw [decide_eq_true c, decide_eq_true (by omega), decide_eq_true (by omega)]; rfl
  · rw [decide_eq_false c, Bool.false_and, decide_eq_false (by omega)]
theorem szd_fm {n : Nat} (h0 : 20 ≤ n) (h1 : n ≤ 28) : fmT 0 (szd 28 n) = decide ((n : Int) < 25) := by
  have all : ∀ n < 29, 20 ≤ n → fmT 0 (szd 28 n) = decide ((n : Int) < 25) := by decide +kernel
  exact all n (by omega) h0
def spDeepD (K : PySem.W.Frag) : Sp := fun vs H Q _ => ∃ (p : Addr) (m : Int) (n : Nat) (c : Nat) (S : Addr × List Int), vs = [.ref p, .int m] ∧ m = (n : Int) ∧ 1 ≤ n ∧ n ≤ 100 ∧ PenD K S H p c ∧ c ≤ 6000000 ∧ ∀ (v : V) (th : Th) (H' : Hp), ThAt H' v th → Ch n th → PenD K S H' p (c + n) → KeepX p H H' → Q v H'
theorem pick3L {r : Int} (h0 : 0 ≤ r) (h1 : r < 3) (a b c : V) : (r = 0 ∧ atI [a, b, c] r = some a) ∨ (r = 1 ∧ atI [a, b, c] r = some b) ∨ (r = 2 ∧ atI [a, b, c] r = some c) := by
  have : r = 0 ∨ r = 1 ∨ r = 2 := by omega
  rcases this with rfl | rfl | rfl
  · exact .inl ⟨rfl, rfl⟩
  · exact .inr (.inl ⟨rfl, rfl⟩)
  · exact .inr (.inr ⟨rfl, rfl⟩)
theorem szd_1 {m : Nat} : szd (m + 1) 1 = gTh := by unfold szd; rw [if_pos rfl]
theorem szd_2 {m : Nat} : szd (m + 1) 2 = .tup [.str (zS "neg"), gTh] := by unfold szd; rw [if_neg (by decide), if_pos rfl]
theorem szd_3 {m n : Nat} (h1 : n ≠ 1) (h2 : n ≠ 2) : szd (m + 1) n = .tup [.str (zS "op"), .str (zS "+"), szd m ((n - 1) / 2), szd m (n - 1 - (n - 1) / 2)] := by rw [szd, if_neg h1, if_neg h2]
theorem fm_true {pr : Nat} {f : Fm} {q : Int} (fo : FO pr 8 f) (sz : (szF f : Int) ≤ 24) (hq : (pr : Int) ≤ q) (h3 : pr ≤ 3) : fmT q (thF f) = true := by
  unfold fmT
  rw [fo.tree hq h3, fo.szN, decide_eq_true sz]
  rfl
theorem fm_false {pr : Nat} {f : Fm} (fo : FO pr 8 f) (h : 0 < mpF f) : fmT (mpF f - 1) (thF f) = false := by
  unfold fmT
  cases e : treeT 8 (mpF f - 1) (thF f) with
  | false => rfl
  | true => have := fo.mp (by omega) e; omega
theorem fm_bad {pr : Nat} {th : Th} (h : badT th = true) (hp : pr ≤ 3) : fmT pr th = false := by
  unfold fmT
  rw [badT_no h hp]
  rfl
theorem pick6 {r : Int} (h0 : 0 ≤ r) (h1 : r < 6) : ∃ n : Nat, atI [V.int 6, V.int 7, V.int 8, V.int 9, V.int 10, V.int 100] r = some (V.int (n : Int)) ∧ 1 ≤ n ∧ n ≤ 100 := by
  have : r = 0 ∨ r = 1 ∨ r = 2 ∨ r = 3 ∨ r = 4 ∨ r = 5 := by omega
  rcases this with rfl | rfl | rfl | rfl | rfl | rfl
  · exact ⟨6, rfl, by decide, by decide⟩
  · exact ⟨7, rfl, by decide, by decide⟩
  · exact ⟨8, rfl, by decide, by decide⟩
  · exact ⟨9, rfl, by decide, by decide⟩
  · exact ⟨10, rfl, by decide, by decide⟩
  · exact ⟨100, rfl, by decide, by decide⟩
end Fs
open PySem L2 Mx Fs
namespace Fs
def top (i : Nat) : Stmt := PySem.Challenge.pw_freshsheet_k13_what_is_a_formula.main.body.getD i (.Pass ⟨0, 0, 0, 0⟩)
abbrev s_is_whole : Stmt := top 1
abbrev s_greatest_divisor : Stmt := top 2
abbrev s_is_number : Stmt := top 3
abbrev s_is_sheet_name : Stmt := top 9
abbrev s_is_within : Stmt := top 10
abbrev s_is_cell : Stmt := top 11
abbrev s_has_few_figures : Stmt := top 17
abbrev s_is_short_number : Stmt := top 18
abbrev s_is_text : Stmt := top 19
abbrev s_is_fault_word : Stmt := top 20
abbrev s_is_value : Stmt := top 21
abbrev s_parts_of : Stmt := top 33
abbrev s_all_parts : Stmt := top 34
abbrev s_count_parts : Stmt := top 35
abbrev s_is_formula_name : Stmt := top 36
abbrev s_is_one_of : Stmt := top 37
abbrev s_is_written_value : Stmt := top 38
abbrev s_is_sheet_or_none : Stmt := top 39
abbrev s_is_corner : Stmt := top 40
abbrev s_is_column_end : Stmt := top 41
abbrev s_is_reference : Stmt := top 42
abbrev s_is_called : Stmt := top 43
abbrev s_is_param : Stmt := top 44
abbrev s_has_form : Stmt := top 45
abbrev s_is_tree : Stmt := top 46
abbrev s_is_formula : Stmt := top 47
abbrev s__law_pen : Stmt := top 49
abbrev s__law_take : Stmt := top 50
abbrev s__law_letters : Stmt := top 51
abbrev s__law_sheet : Stmt := top 52
abbrev s__law_corner : Stmt := top 53
abbrev s__law_reference : Stmt := top 54
abbrev s__law_value : Stmt := top 55
abbrev s__law_leaf : Stmt := top 56
abbrev s__law_frame : Stmt := top 57
abbrev s__law_made : Stmt := top 58
abbrev s__law_grown : Stmt := top 59
abbrev s__law_column : Stmt := top 60
abbrev s__law_corner_text : Stmt := top 61
abbrev s__law_leaf_text : Stmt := top 62
abbrev s__law_parts : Stmt := top 63
abbrev s__law_tight : Stmt := top 64
abbrev s__law_placed : Stmt := top 65
abbrev s__law_bare : Stmt := top 66
abbrev s__law_written : Stmt := top 67
abbrev s__law_formula : Stmt := top 68
abbrev s__law_bad_leaves : Stmt := top 69
abbrev s__law_bad_frames : Stmt := top 70
abbrev s__law_bad : Stmt := top 71
abbrev s__law_sized : Stmt := top 72
abbrev s__law_deep : Stmt := top 73
abbrev s__law_most_param : Stmt := top 74
abbrev s_law : Stmt := top 75
theorem len_0 {α : Type} {us : List α} (h : us.length = 0) : us = [] := match us, h with | [], _ => rfl
theorem len_1 {α : Type} {us : List α} (h : us.length = 1) : ∃ a0, us = [a0] := match us, h with | [a0], _ => ⟨a0, rfl⟩
theorem len_2 {α : Type} {us : List α} (h : us.length = 2) : ∃ a0 a1, us = [a0, a1] := match us, h with | [a0, a1], _ => ⟨a0, a1, rfl⟩
theorem len_3 {α : Type} {us : List α} (h : us.length = 3) : ∃ a0 a1 a2, us = [a0, a1, a2] := match us, h with | [a0, a1, a2], _ => ⟨a0, a1, a2, rfl⟩
theorem len_4 {α : Type} {us : List α} (h : us.length = 4) : ∃ a0 a1 a2 a3, us = [a0, a1, a2, a3] := match us, h with | [a0, a1, a2, a3], _ => ⟨a0, a1, a2, a3, rfl⟩
set_option genInjectivity false in
set_option genSizeOf false in
structure Ad where
  f_is_whole : Addr
  d_is_whole : FuncData
  f_greatest_divisor : Addr
  d_greatest_divisor : FuncData
  f_is_number : Addr
  d_is_number : FuncData
  f_is_sheet_name : Addr
  d_is_sheet_name : FuncData
  f_is_within : Addr
  d_is_within : FuncData
  f_is_cell : Addr
  d_is_cell : FuncData
  f_has_few_figures : Addr
  d_has_few_figures : FuncData
  f_is_short_number : Addr
  d_is_short_number : FuncData
  f_is_text : Addr
  d_is_text : FuncData
  f_is_fault_word : Addr
  d_is_fault_word : FuncData
  f_is_value : Addr
  d_is_value : FuncData
  f_parts_of : Addr
  d_parts_of : FuncData
  f_all_parts : Addr
  d_all_parts : FuncData
  f_count_parts : Addr
  d_count_parts : FuncData
  f_is_formula_name : Addr
  d_is_formula_name : FuncData
  f_is_one_of : Addr
  d_is_one_of : FuncData
  f_is_written_value : Addr
  d_is_written_value : FuncData
  f_is_sheet_or_none : Addr
  d_is_sheet_or_none : FuncData
  f_is_corner : Addr
  d_is_corner : FuncData
  f_is_column_end : Addr
  d_is_column_end : FuncData
  f_is_reference : Addr
  d_is_reference : FuncData
  f_is_called : Addr
  d_is_called : FuncData
  f_is_param : Addr
  d_is_param : FuncData
  f_has_form : Addr
  d_has_form : FuncData
  f_is_tree : Addr
  d_is_tree : FuncData
  f_is_formula : Addr
  d_is_formula : FuncData
  f__law_pen : Addr
  d__law_pen : FuncData
  f__law_take : Addr
  d__law_take : FuncData
  f__law_letters : Addr
  d__law_letters : FuncData
  f__law_sheet : Addr
  d__law_sheet : FuncData
  f__law_corner : Addr
  d__law_corner : FuncData
  f__law_reference : Addr
  d__law_reference : FuncData
  f__law_value : Addr
  d__law_value : FuncData
  f__law_leaf : Addr
  d__law_leaf : FuncData
  f__law_frame : Addr
  d__law_frame : FuncData
  f__law_made : Addr
  d__law_made : FuncData
  f__law_grown : Addr
  d__law_grown : FuncData
  f__law_column : Addr
  d__law_column : FuncData
  f__law_corner_text : Addr
  d__law_corner_text : FuncData
  f__law_leaf_text : Addr
  d__law_leaf_text : FuncData
  f__law_parts : Addr
  d__law_parts : FuncData
  f__law_tight : Addr
  d__law_tight : FuncData
  f__law_placed : Addr
  d__law_placed : FuncData
  f__law_bare : Addr
  d__law_bare : FuncData
  f__law_written : Addr
  d__law_written : FuncData
  f__law_formula : Addr
  d__law_formula : FuncData
  f__law_bad_leaves : Addr
  d__law_bad_leaves : FuncData
  f__law_bad_frames : Addr
  d__law_bad_frames : FuncData
  f__law_bad : Addr
  d__law_bad : FuncData
  f__law_sized : Addr
  d__law_sized : FuncData
  f__law_deep : Addr
  d__law_deep : FuncData
  f__law_most_param : Addr
  d__law_most_param : FuncData
  f_law : Addr
  d_law : FuncData
structure Txt (w : World) (K : PySem.W.Frag) (mg : Str → Option Value) (t : Ad) : Prop where
  c_is_whole : Df K mg "is_whole" s_is_whole ["thing"] t.f_is_whole t.d_is_whole
  c_greatest_divisor : Df K mg "greatest_divisor" s_greatest_divisor ["one", "other"] t.f_greatest_divisor t.d_greatest_divisor
  c_is_number : Df K mg "is_number" s_is_number ["top", "bottom"] t.f_is_number t.d_is_number
  c_is_sheet_name : Df K mg "is_sheet_name" s_is_sheet_name ["thing"] t.f_is_sheet_name t.d_is_sheet_name
  c_is_within : Df K mg "is_within" s_is_within ["thing", "last"] t.f_is_within t.d_is_within
  c_is_cell : Df K mg "is_cell" s_is_cell ["thing"] t.f_is_cell t.d_is_cell
  c_has_few_figures : Df K mg "has_few_figures" s_has_few_figures ["thing"] t.f_has_few_figures t.d_has_few_figures
  c_is_short_number : Df K mg "is_short_number" s_is_short_number ["top", "bottom"] t.f_is_short_number t.d_is_short_number
  c_is_text : Df K mg "is_text" s_is_text ["thing"] t.f_is_text t.d_is_text
  c_is_fault_word : Df K mg "is_fault_word" s_is_fault_word ["thing"] t.f_is_fault_word t.d_is_fault_word
  c_is_value : Df K mg "is_value" s_is_value ["thing"] t.f_is_value t.d_is_value
  c_parts_of : Df K mg "parts_of" s_parts_of ["formula"] t.f_parts_of t.d_parts_of
  c_all_parts : Df K mg "all_parts" s_all_parts ["formula"] t.f_all_parts t.d_all_parts
  c_count_parts : Df K mg "count_parts" s_count_parts ["formula"] t.f_count_parts t.d_count_parts
  c_is_formula_name : Df K mg "is_formula_name" s_is_formula_name ["thing"] t.f_is_formula_name t.d_is_formula_name
  c_is_one_of : Df K mg "is_one_of" s_is_one_of ["thing", "texts"] t.f_is_one_of t.d_is_one_of
  c_is_written_value : Df K mg "is_written_value" s_is_written_value ["thing"] t.f_is_written_value t.d_is_written_value
  c_is_sheet_or_none : Df K mg "is_sheet_or_none" s_is_sheet_or_none ["thing"] t.f_is_sheet_or_none t.d_is_sheet_or_none
  c_is_corner : Df K mg "is_corner" s_is_corner ["thing"] t.f_is_corner t.d_is_corner
  c_is_column_end : Df K mg "is_column_end" s_is_column_end ["thing"] t.f_is_column_end t.d_is_column_end
  c_is_reference : Df K mg "is_reference" s_is_reference ["thing"] t.f_is_reference t.d_is_reference
  c_is_called : Df K mg "is_called" s_is_called ["thing"] t.f_is_called t.d_is_called
  c_is_param : Df K mg "is_param" s_is_param ["thing", "params"] t.f_is_param t.d_is_param
  c_has_form : Df K mg "has_form" s_has_form ["thing", "params"] t.f_has_form t.d_has_form
  c_is_tree : Df K mg "is_tree" s_is_tree ["thing", "params", "deep"] t.f_is_tree t.d_is_tree
  c_is_formula : Df K mg "is_formula" s_is_formula ["thing", "params"] t.f_is_formula t.d_is_formula
  c__law_pen : Df K mg "_law_pen" s__law_pen ["_law_script"] t.f__law_pen t.d__law_pen
  c__law_take : Df K mg "_law_take" s__law_take ["_law_pen_here", "_law_amount"] t.f__law_take t.d__law_take
  c__law_letters : Df K mg "_law_letters" s__law_letters ["_law_pen_here", "_law_free"] t.f__law_letters t.d__law_letters
  c__law_sheet : Df K mg "_law_sheet" s__law_sheet ["_law_pen_here"] t.f__law_sheet t.d__law_sheet
  c__law_corner : Df K mg "_law_corner" s__law_corner ["_law_pen_here", "_law_row", "_law_column_here"] t.f__law_corner t.d__law_corner
  c__law_reference : Df K mg "_law_reference" s__law_reference ["_law_pen_here", "_law_way"] t.f__law_reference t.d__law_reference
  c__law_value : Df K mg "_law_value" s__law_value ["_law_pen_here", "_law_way"] t.f__law_value t.d__law_value
  c__law_leaf : Df K mg "_law_leaf" s__law_leaf ["_law_pen_here", "_law_params"] t.f__law_leaf t.d__law_leaf
  c__law_frame : Df K mg "_law_frame" s__law_frame ["_law_pen_here"] t.f__law_frame t.d__law_frame
  c__law_made : Df K mg "_law_made" s__law_made ["_law_frame_here", "_law_parts_here"] t.f__law_made t.d__law_made
  c__law_grown : Df K mg "_law_grown" s__law_grown ["_law_pen_here", "_law_room", "_law_deep_here", "_law_params"] t.f__law_grown t.d__law_grown
  c__law_column : Df K mg "_law_column" s__law_column ["_law_column_here", "_law_stands"] t.f__law_column t.d__law_column
  c__law_corner_text : Df K mg "_law_corner_text" s__law_corner_text ["_law_corner_here"] t.f__law_corner_text t.d__law_corner_text
  c__law_leaf_text : Df K mg "_law_leaf_text" s__law_leaf_text ["_law_formula_here"] t.f__law_leaf_text t.d__law_leaf_text
  c__law_parts : Df K mg "_law_parts" s__law_parts ["_law_formula_here"] t.f__law_parts t.d__law_parts
  c__law_tight : Df K mg "_law_tight" s__law_tight ["_law_formula_here"] t.f__law_tight t.d__law_tight
  c__law_placed : Df K mg "_law_placed" s__law_placed ["_law_formula_here", "_law_least", "_law_pen_here"] t.f__law_placed t.d__law_placed
  c__law_bare : Df K mg "_law_bare" s__law_bare ["_law_formula_here", "_law_pen_here"] t.f__law_bare t.d__law_bare
  c__law_written : Df K mg "_law_written" s__law_written ["_law_formula_here", "_law_pen_here"] t.f__law_written t.d__law_written
  c__law_formula : Df K mg "_law_formula" s__law_formula ["_law_pen_here", "_law_params"] t.f__law_formula t.d__law_formula
  c__law_bad_leaves : Df K mg "_law_bad_leaves" s__law_bad_leaves [] t.f__law_bad_leaves t.d__law_bad_leaves
  c__law_bad_frames : Df K mg "_law_bad_frames" s__law_bad_frames ["_law_a"] t.f__law_bad_frames t.d__law_bad_frames
  c__law_bad : Df K mg "_law_bad" s__law_bad ["_law_pen_here"] t.f__law_bad t.d__law_bad
  c__law_sized : Df K mg "_law_sized" s__law_sized ["_law_many"] t.f__law_sized t.d__law_sized
  c__law_deep : Df K mg "_law_deep" s__law_deep ["_law_pen_here", "_law_many"] t.f__law_deep t.d__law_deep
  c__law_most_param : Df K mg "_law_most_param" s__law_most_param ["_law_formula_here"] t.f__law_most_param t.d__law_most_param
  c_law : Df K mg "law" s_law ["_law_script"] t.f_law t.d_law
  len : mg "len" = none
  range : mg "range" = none
  isinstance : mg "isinstance" = none
  int : mg "int" = none
  bool : mg "bool" = none
  tuple : mg "tuple" = none
  str : mg "str" = none
  list : mg "list" = none
  all : mg "all" = none
  abs : mg "abs" = none
  max : mg "max" = none
  min : mg "min" = none
  reversed : mg "reversed" = none
  v_LETTERS : GStr mg "LETTERS" (Str.ofString "abcdefghijklmnopqrstuvwxyz")
  v_LONGEST_NAME : GInt mg "LONGEST_NAME" 6
  v_LAST_ROW : GInt mg "LAST_ROW" 16
  v_LAST_COLUMN : GInt mg "LAST_COLUMN" 8
  v_SIGNS : GStr mg "SIGNS" (Str.ofString "abcdefghijklmnopqrstuvwxyz0123456789 ")
  v_FAULTS : GTup K mg "FAULTS" (faults.map V.str)
  v_MOST_SIGNS : GInt mg "MOST_SIGNS" 20
  v_GREATEST_WHOLE : GInt mg "GREATEST_WHOLE" 999999999999999999999999999999
  v_MOST_PARTS : GInt mg "MOST_PARTS" 24
  v_MOST_DEEP : GInt mg "MOST_DEEP" 8
  v_MOST_OWN_PARTS : GInt mg "MOST_OWN_PARTS" 3
  v_MOST_PARAMS : GInt mg "MOST_PARAMS" 3
  v_GREATEST_WRITTEN : GInt mg "GREATEST_WRITTEN" 999999999
  v_WORDS : GTup K mg "WORDS" WDV
  v_OP_SIGNS : GTup K mg "OP_SIGNS" OPV
  v_SUMIF_SIGNS : GTup K mg "SUMIF_SIGNS" SFV
  v_LENGTHS : GDic w K mg "LENGTHS" LENK
  v_PART_PLACES : GDit w K mg "PART_PLACES" PPK
  ki_NoneType_int : PySem.W.kitOne K (.type "NoneType") (.type "int") = some false
  ki_NoneType_bool : PySem.W.kitOne K (.type "NoneType") (.type "bool") = some false
  ki_NoneType_str : PySem.W.kitOne K (.type "NoneType") (.type "str") = some false
  ki_NoneType_tuple : PySem.W.kitOne K (.type "NoneType") (.type "tuple") = some false
  ki_bool_int : PySem.W.kitOne K (.type "bool") (.type "int") = some true
  ki_bool_bool : PySem.W.kitOne K (.type "bool") (.type "bool") = some true
  ki_bool_str : PySem.W.kitOne K (.type "bool") (.type "str") = some false
  ki_bool_tuple : PySem.W.kitOne K (.type "bool") (.type "tuple") = some false
  ki_int_int : PySem.W.kitOne K (.type "int") (.type "int") = some true
  ki_int_bool : PySem.W.kitOne K (.type "int") (.type "bool") = some false
  ki_int_str : PySem.W.kitOne K (.type "int") (.type "str") = some false
  ki_int_tuple : PySem.W.kitOne K (.type "int") (.type "tuple") = some false
  ki_str_int : PySem.W.kitOne K (.type "str") (.type "int") = some false
  ki_str_bool : PySem.W.kitOne K (.type "str") (.type "bool") = some false
  ki_str_str : PySem.W.kitOne K (.type "str") (.type "str") = some true
  ki_str_tuple : PySem.W.kitOne K (.type "str") (.type "tuple") = some false
  ki_list_int : PySem.W.kitOne K (.type "list") (.type "int") = some false
  ki_list_bool : PySem.W.kitOne K (.type "list") (.type "bool") = some false
  ki_list_str : PySem.W.kitOne K (.type "list") (.type "str") = some false
  ki_list_tuple : PySem.W.kitOne K (.type "list") (.type "tuple") = some false
  ki_dict_int : PySem.W.kitOne K (.type "dict") (.type "int") = some false
  ki_dict_bool : PySem.W.kitOne K (.type "dict") (.type "bool") = some false
  ki_dict_str : PySem.W.kitOne K (.type "dict") (.type "str") = some false
  ki_dict_tuple : PySem.W.kitOne K (.type "dict") (.type "tuple") = some false
  ki_tuple_int : PySem.W.kitOne K (.type "tuple") (.type "int") = some false
  ki_tuple_bool : PySem.W.kitOne K (.type "tuple") (.type "bool") = some false
  ki_tuple_str : PySem.W.kitOne K (.type "tuple") (.type "str") = some false
  ki_tuple_tuple : PySem.W.kitOne K (.type "tuple") (.type "tuple") = some true
  kist : PySem.W.kitOne K (.type "str") (.type "tuple") = some false
  kiit : PySem.W.kitOne K (.type "int") (.type "tuple") = some false
  kib : PySem.W.kitOne K (.type "int") (.type "bool") = some false
theorem kiBl {w : World} {K : PySem.W.Frag} {mg : Str → Option Value} {t : Ad} (T : Txt w K mg t) (th : Th) : PySem.W.kitOne K (.type (tyN th)) (.type "bool") = some (isBl th) := by
  cases th with
  | non => exact T.ki_NoneType_bool
  | bl b => exact T.ki_bool_bool
  | int i => exact T.ki_int_bool
  | str z => exact T.ki_str_bool
  | lst => exact T.ki_list_bool
  | dic => exact T.ki_dict_bool
  | tup ts => exact T.ki_tuple_bool
seal PE PT PW PA PS PSs PI PG PGs PF PO PJ OpR CallR IxR SlR
section
variable {P : Program} {w : World} {K : PySem.W.Frag} {mg : Str → Option Value} {base : Heap} {t : Ad}
theorem scis_whole : FnScope ["thing"] ["thing"] (defScope s_is_whole) := ⟨rfl, rfl, rfl, by decide +kernel, rfl, by decide +kernel, by decide +kernel⟩
theorem ok_is_whole (T : Txt w K mg t) : FnOk P w K mg base CX0 1 t.f_is_whole t.d_is_whole ["thing"] (spT1 isInt) := by
  have D := T.c_is_whole
  refine D.fn.ok scis_whole (fun vs H Q E h => ?_) (fun cdv A outer s H vs Q E hr h => ?_)
  · obtain ⟨v, th, rfl, _⟩ := h
    rfl
  · obtain ⟨v, th, rfl, h, k⟩ := h
    have hu := hr.units0
    have hu1 := hu_of hr
    refine ⟨_, ((pss_one (ps_ret (pe_and (pe_callB call_isinst (by rfl) T.isinstance boot_isinstance (pa_consN (pv 0) (pa_consN (pe_typ T.int boot_int) pa_nil))) (pe_one (pe_not (pe_callB call_isinst (by rfl) T.isinstance boot_isinstance (pa_consN (pv 0) (pa_consN (pe_typ T.bool boot_bool) pa_nil))))))))), ?_⟩
    cases id h with
    | non =>
      exact ⟨_, rfl, _, _, _, _, false, rfl, h.ty, rfl, (fun _ => .inr trivial), T.ki_NoneType_int, false, rfl, iteF (k _ (Same.refl _))⟩
    | bl b =>
      refine ⟨_, rfl, _, _, _, _, true, rfl, h.ty, rfl, (fun _ => .inr trivial), T.ki_bool_int, true, rfl, iteT ?_⟩
      exact ⟨_, rfl, _, _, _, _, true, rfl, h.ty, rfl, (fun _ => .inr trivial), T.ki_bool_bool, true, rfl, k _ (Same.refl _)⟩
    | int i =>
      refine ⟨_, rfl, _, _, _, _, true, rfl, h.ty, rfl, (fun _ => .inr trivial), T.ki_int_int, true, rfl, iteT ?_⟩
      exact ⟨_, rfl, _, _, _, _, false, rfl, h.ty, rfl, (fun _ => .inr trivial), T.ki_int_bool, false, rfl, k _ (Same.refl _)⟩
    | str z hz =>
      exact ⟨_, rfl, _, _, _, _, false, rfl, h.ty, rfl, (fun _ => .inr trivial), T.ki_str_int, false, rfl, iteF (k _ (Same.refl _))⟩
    | @lst a xs e =>
      exact ⟨_, rfl, _, _, _, _, false, rfl, h.ty, rfl, (fun _ => .inr trivial), T.ki_list_int, false, rfl, iteF (k _ (Same.refl _))⟩
    | @dic a kvs e =>
      exact ⟨_, rfl, _, _, _, _, false, rfl, h.ty, rfl, (fun _ => .inr trivial), T.ki_dict_int, false, rfl, iteF (k _ (Same.refl _))⟩
    | @tup a us ts e hn hh =>
      exact ⟨_, rfl, _, _, _, _, false, rfl, h.ty, rfl, (fun _ => .inr trivial), T.ki_tuple_int, false, rfl, iteF (k _ (Same.refl _))⟩
theorem scgreatest_divisor : FnScope ["one", "other", "greater", "lesser", "rest"] ["one", "other"] (defScope s_greatest_divisor) := ⟨rfl, rfl, rfl, by decide +kernel, rfl, by decide +kernel, by decide +kernel⟩
theorem ok_greatest_divisor (T : Txt w K mg t) : FnOk P w K mg base CX0 1 t.f_greatest_divisor t.d_greatest_divisor ["one", "other"] spGd := by
  have D := T.c_greatest_divisor
  refine D.fn.ok scgreatest_divisor (fun vs H Q E h => ?_) (fun cdv A outer s H vs Q E hr h => ?_)
  · obtain ⟨a, b, rfl, _⟩ := h
    rfl
  · obtain ⟨a, b, rfl, k⟩ := h
    refine ⟨_, ((pss_cons (ps_set (i := 2) scgreatest_divisor.nd rfl (Or.inl rfl) (pe_callB call_abs (by rfl) T.abs boot_abs (pa_consN (pv 0) pa_nil)))
      (pss_cons (ps_set (i := 3) scgreatest_divisor.nd rfl (Or.inl rfl) (pe_callB call_abs (by rfl) T.abs boot_abs (pa_consN (pv 1) pa_nil)))
      (pss_cons (ps_while PassesOwn.never (pt_cmpR op_ne (pv 3) pe_int (nomark _)) (pss_cons (ps_set (i := 4) scgreatest_divisor.nd rfl (Or.inl rfl) (pe_op op_mod (pv 2) (pv 3)))
      (pss_cons (ps_set (i := 2) scgreatest_divisor.nd rfl (Or.inl rfl) (pv 3))
      (pss_one (ps_set (i := 3) scgreatest_divisor.nd rfl (Or.inl rfl) (pv 4))))))
      (pss_one (ps_ret (pv 2))))))), ?_⟩
    refine ⟨_, rfl, a, rfl, _, rfl, b, rfl, ?_⟩
    refine while_by (fun σ H' => H' = H ∧ ∃ (m n : Nat) (r : Option V), σ = [some (.int a), some (.int b), some (.int m), some (.int n), r] ∧ Nat.gcd m n = Nat.gcd a.natAbs b.natAbs)
      (fun σ _ => lastN σ) ⟨rfl, a.natAbs, b.natAbs, none, by rw [← abs_if a, ← abs_if b]; rfl, rfl⟩ ?_ (fun σ H Q Q' hq ⟨v, e, z, c, e2, q⟩ => ⟨v, e, z, c, e2, hq _ _ q⟩)
    rintro σ H' ⟨rfl, m, n, r, rfl, hg⟩
    refine ⟨_, rfl, rfl, _, rfl, ?_⟩
    refine ite2 (fun hc => ?_) (fun hc => ?_)
    · have hn : n ≠ 0 := by intro z; subst z; simp at hc
      refine ⟨_, rfl, _, rfl, _, _, rfl, rfl, (by show (0 : Int) < (n : Int); omega), _, rfl, _, rfl, ?_⟩
      refine ⟨⟨rfl, n, m % n, some (.int ((m : Int) % (n : Int))), ?_, by rw [gcd_turn]; exact hg⟩, ?_⟩
      · rw [Int.natCast_emod]; rfl
      · show ((m : Int) % (n : Int)).toNat < ((n : Int)).toNat
        have h1 := Int.emod_lt_of_pos (m : Int) (show (0 : Int) < n by omega)
        have h2 := Int.emod_nonneg (m : Int) (show (n : Int) ≠ 0 by omega)
        omega
    · have hn : n = 0 := by
        rcases Nat.eq_zero_or_pos n with z | z
        · exact z
        · exfalso; apply hc; simp; omega
      subst hn
      rw [Nat.gcd_zero_right] at hg
      rw [← hg] at k
      exact ⟨_, rfl, k⟩
theorem scis_number : FnScope ["top", "bottom"] ["top", "bottom"] (defScope s_is_number) := ⟨rfl, rfl, rfl, by decide +kernel, rfl, by decide +kernel, by decide +kernel⟩
theorem ok_is_number (T : Txt w K mg t) : FnOk P w K mg base CX0 2 t.f_is_number t.d_is_number ["top", "bottom"] spNN := by
  have D := T.c_is_number
  refine D.fn.ok scis_number (fun vs H Q E h => ?_) (fun cdv A outer s H vs Q E hr h => ?_)
  · obtain ⟨t, b, rfl, _⟩ := h
    rfl
  · obtain ⟨t, b, rfl, k⟩ := h
    have hu := hr.units0
    have hu1 := hu_of hr
    refine ⟨_, ((pss_one (ps_ret (pe_and (pe_cmpR op_ge (pv 1) pe_int (nomark _)) (pe_one (pe_cmpR op_eq (pe_cl T.c_greatest_divisor (ok_greatest_divisor T) (hr.mono (by decide)) (pa_consN (pv 0) (pa_consN (pv 1) pa_nil))) pe_int (nomark _))))))), ?_⟩
    refine ⟨_, rfl, _, _, rfl, rfl, _, rfl, ?_⟩
    by_cases hb : 1 ≤ b
    · rw [decide_eq_true hb]
      refine iteT ⟨_, rfl, _, rfl, t, b, rfl, rfl, ?_⟩
      have k : Q (.bl (decide (1 ≤ b) && decide (V.int ((Nat.gcd t.natAbs b.natAbs : Nat) : Int) = V.int 1))) H := k
      rw [decide_eq_true hb, Bool.true_and] at k
      exact k
    · rw [decide_eq_false hb]
      refine iteF ?_
      have k : Q (.bl (decide (1 ≤ b) && decide (V.int ((Nat.gcd t.natAbs b.natAbs : Nat) : Int) = V.int 1))) H := k
      rw [decide_eq_false hb, Bool.false_and] at k
      exact k
theorem scis_sheet_name : FnScope ["thing"] ["thing"] (defScope s_is_sheet_name) := ⟨rfl, rfl, rfl, by decide +kernel, rfl, by decide +kernel, by decide +kernel⟩
theorem ok_is_sheet_name (T : Txt w K mg t) : FnOk P w K mg base CX0 1 t.f_is_sheet_name t.d_is_sheet_name ["thing"] (spT1 nameT) := by
  have D := T.c_is_sheet_name
  refine D.fn.ok scis_sheet_name (fun vs H Q E h => ?_) (fun cdv A outer s H vs Q E hr h => ?_)
  · obtain ⟨v, th, rfl, _⟩ := h
    rfl
  · obtain ⟨v, th, rfl, h, k⟩ := h
    have hu := hr.units0
    have hu1 := hu_of hr
    refine ⟨_, ((pss_cons (ps_if (pw_or (pt_not (pt_val (pe_callB call_isinst (by rfl) T.isinstance boot_isinstance (pa_consN (pv 0) (pa_consN (pe_typ T.str boot_str) pa_nil))))) (pw_or (pt_cmpR op_lt (pe_callB call_len_str (by rfl) T.len PySem.boot_len (pa_consN (pv 0) pa_nil)) pe_int (nomark _)) (pw_or1 (pt_cmpR op_gt (pe_callB call_len_str (by rfl) T.len PySem.boot_len (pa_consN (pv 0) pa_nil)) (pe_gint T.v_LONGEST_NAME) (nomark _))))).pt (pss_one (ps_ret pe_bl)) pss_nil)
      (pss_one (ps_ret (pe_callB (call_all rfl) (by rfl) T.all boot_all (pa_consH (pe_comp (fv := []) (js := []) (cl := []) rfl (by with_unfolding_all rfl) ⟨rfl, by decide +kernel, by decide +kernel, rfl, by decide +kernel, by decide +kernel, (List.forall_mem_nil _), (List.forall_mem_nil _), .nil⟩ (pi_str (pv 0)) (fun _ _ _ _ _ => pf_nil) (fun _ _ _ _ _ => (pe_cmpR op_inS (pv 0) (pe_gstr T.v_LETTERS) rfl))) pa_nil)))))), ?_⟩
    cases id h with
    | non =>
      exact ⟨_, rfl, _, _, _, _, false, rfl, h.ty, rfl, (fun _ => .inr trivial), T.ki_NoneType_str, false, rfl, iteT (iteT (k _ (Same.refl _)))⟩
    | bl b =>
      exact ⟨_, rfl, _, _, _, _, false, rfl, h.ty, rfl, (fun _ => .inr trivial), T.ki_bool_str, false, rfl, iteT (iteT (k _ (Same.refl _)))⟩
    | int i =>
      exact ⟨_, rfl, _, _, _, _, false, rfl, h.ty, rfl, (fun _ => .inr trivial), T.ki_int_str, false, rfl, iteT (iteT (k _ (Same.refl _)))⟩
    | str z hz =>
      have hzz : z.length ≤ sizeLine := sl_le hz
      refine ⟨_, rfl, _, _, _, _, true, rfl, h.ty, rfl, (fun _ => .inr trivial), T.ki_str_str, true, rfl, iteF ?_⟩
      refine ⟨_, rfl, z, rfl, hzz, _, _, rfl, rfl, _, rfl, ?_⟩
      by_cases c0 : (z.length : Int) < 1
      · rw [decide_eq_true c0]
        refine iteT (iteT (rtv ?_ (k _ (Same.refl _))))
        unfold nameT
        simp only [decide_eq_true c0, Bool.not_true, Bool.not_false, Bool.true_and, Bool.false_and]
      rw [decide_eq_false c0]
      refine iteF ?_
      refine ⟨_, rfl, z, rfl, hzz, _, _, rfl, rfl, _, rfl, ?_⟩
      by_cases c1 : (6 : Int) < (z.length : Int)
      · rw [decide_eq_true c1]
        refine iteT (rtv ?_ (k _ (Same.refl _)))
        unfold nameT
        simp only [decide_eq_false c0, decide_eq_true c1, Bool.not_true, Bool.not_false, Bool.true_and, Bool.false_and]
      rw [decide_eq_false c1]
      refine iteF ?_
      refine ⟨_, rfl, z, rfl, fun D hD => ?_⟩
      obtain ⟨W, w0, turn⟩ := comp_signs (z := z) (Str.ofString "abcdefghijklmnopqrstuvwxyz") hz hD
      refine ⟨W, w0, fun i m' H' w' => ?_⟩
      rcases turn i m' H' w' with ⟨st, rfl⟩ | h
      case inr => exact .inr ⟨h.1, fun x H2 y => h.2 _ _ x H2 y⟩
      refine .inl ⟨st, ?_⟩
      refine ⟨D, _, rfl, SqL.of upd_same, rtv ?_ (k _ (Same.new hD))⟩
      unfold nameT
      simp only [decide_eq_false c0, decide_eq_false c1, Bool.not_false, Bool.true_and, signsT]
    | @lst a xs e =>
      exact ⟨_, rfl, _, _, _, _, false, rfl, h.ty, rfl, (fun _ => .inr trivial), T.ki_list_str, false, rfl, iteT (iteT (k _ (Same.refl _)))⟩
    | @dic a kvs e =>
      exact ⟨_, rfl, _, _, _, _, false, rfl, h.ty, rfl, (fun _ => .inr trivial), T.ki_dict_str, false, rfl, iteT (iteT (k _ (Same.refl _)))⟩
    | @tup a us ts e hn hh =>
      exact ⟨_, rfl, _, _, _, _, false, rfl, h.ty, rfl, (fun _ => .inr trivial), T.ki_tuple_str, false, rfl, iteT (iteT (k _ (Same.refl _)))⟩
theorem scis_within : FnScope ["thing", "last"] ["thing", "last"] (defScope s_is_within) := ⟨rfl, rfl, rfl, by decide +kernel, rfl, by decide +kernel, by decide +kernel⟩
theorem ok_is_within (T : Txt w K mg t) : FnOk P w K mg base CX0 2 t.f_is_within t.d_is_within ["thing", "last"] spTW := by
  have D := T.c_is_within
  refine D.fn.ok scis_within (fun vs H Q E h => ?_) (fun cdv A outer s H vs Q E hr h => ?_)
  · obtain ⟨v, th, l, rfl, _⟩ := h
    rfl
  · obtain ⟨v, th, l, rfl, h, k⟩ := h
    have hu := hr.units0
    have hu1 := hu_of hr
    refine ⟨_, ((pss_one (ps_ret (pe_and (pe_cl T.c_is_whole (ok_is_whole T) (hr.mono (by decide)) (pa_consN (pv 0) pa_nil)) (pe_and (pe_cmpR op_le pe_int (pv 0) (nomark _)) (pe_one (pe_cmpR op_le (pv 0) (pv 1) (nomark _)))))))), ?_⟩
    cases id h with
    | non =>
      exact ⟨_, rfl, _, _, rfl, h, fun H1 s1 => ⟨false, rfl, iteF (k _ s1)⟩⟩
    | bl b =>
      exact ⟨_, rfl, _, _, rfl, h, fun H1 s1 => ⟨false, rfl, iteF (k _ s1)⟩⟩
    | int i =>
      refine ⟨_, rfl, _, _, rfl, h, fun H1 s1 => ⟨true, rfl, iteT ?_⟩⟩
      refine ⟨_, rfl, _, _, rfl, rfl, _, rfl, ?_⟩
      have k' : Q (.bl (decide (1 ≤ i) && decide (i ≤ l))) H1 := k H1 s1
      by_cases c : 1 ≤ i
      · rw [decide_eq_true c] at k' ⊢
        rw [Bool.true_and] at k'
        exact iteT ⟨_, rfl, _, rfl, _, _, rfl, rfl, k'⟩
      · rw [decide_eq_false c] at k' ⊢
        rw [Bool.false_and] at k'
        exact iteF k'
    | str z hz =>
      exact ⟨_, rfl, _, _, rfl, h, fun H1 s1 => ⟨false, rfl, iteF (k _ s1)⟩⟩
    | @lst a xs e =>
      exact ⟨_, rfl, _, _, rfl, h, fun H1 s1 => ⟨false, rfl, iteF (k _ s1)⟩⟩
    | @dic a kvs e =>
      exact ⟨_, rfl, _, _, rfl, h, fun H1 s1 => ⟨false, rfl, iteF (k _ s1)⟩⟩
    | @tup a us ts e hn hh =>
      exact ⟨_, rfl, _, _, rfl, h, fun H1 s1 => ⟨false, rfl, iteF (k _ s1)⟩⟩
theorem scis_cell : FnScope ["thing"] ["thing"] (defScope s_is_cell) := ⟨rfl, rfl, rfl, by decide +kernel, rfl, by decide +kernel, by decide +kernel⟩
theorem ok_is_cell (T : Txt w K mg t) : FnOk P w K mg base CX0 3 t.f_is_cell t.d_is_cell ["thing"] (spT1 cellT) := by
  have D := T.c_is_cell
  refine D.fn.ok scis_cell (fun vs H Q E h => ?_) (fun cdv A outer s H vs Q E hr h => ?_)
  · obtain ⟨v, th, rfl, _⟩ := h
    rfl
  · obtain ⟨v, th, rfl, h, k⟩ := h
    have hu := hr.units0
    have hu1 := hu_of hr
    refine ⟨_, ((pss_cons (ps_if (pw_or (pt_not (pt_val (pe_callB call_isinst (by rfl) T.isinstance boot_isinstance (pa_consN (pv 0) (pa_consN (pe_typ T.tuple boot_tuple) pa_nil))))) (pw_or1 (pt_cmpR op_ne (pe_callB call_len_seq (by rfl) T.len PySem.boot_len (pa_consN (pv 0) pa_nil)) pe_int (nomark _)))).pt (pss_one (ps_ret pe_bl)) pss_nil)
      (pss_one (ps_ret (pe_and (pe_cl T.c_is_sheet_name (ok_is_sheet_name T) (hr.mono (by decide)) (pa_consS (pe_ix ix_tup (pv 0) pe_int (fun _ _ => rfl)) pa_nil)) (pe_and (pe_cl T.c_is_within (ok_is_within T) (hr.mono (by decide)) (pa_consS (pe_ix ix_tup (pv 0) pe_int (fun _ _ => rfl)) (pa_consN (pe_gint T.v_LAST_ROW) pa_nil))) (pe_one (pe_cl T.c_is_within (ok_is_within T) (hr.mono (by decide)) (pa_consS (pe_ix ix_tup (pv 0) pe_int (fun _ _ => rfl)) (pa_consN (pe_gint T.v_LAST_COLUMN) pa_nil)))))))))), ?_⟩
    cases id h with
    | non =>
      exact ⟨_, rfl, _, _, _, _, false, rfl, h.ty, rfl, (fun _ => .inr trivial), T.ki_NoneType_tuple, false, rfl, iteT (iteT (k _ (Same.refl _)))⟩
    | bl b =>
      exact ⟨_, rfl, _, _, _, _, false, rfl, h.ty, rfl, (fun _ => .inr trivial), T.ki_bool_tuple, false, rfl, iteT (iteT (k _ (Same.refl _)))⟩
    | int i =>
      exact ⟨_, rfl, _, _, _, _, false, rfl, h.ty, rfl, (fun _ => .inr trivial), T.ki_int_tuple, false, rfl, iteT (iteT (k _ (Same.refl _)))⟩
    | str z hz =>
      exact ⟨_, rfl, _, _, _, _, false, rfl, h.ty, rfl, (fun _ => .inr trivial), T.ki_str_tuple, false, rfl, iteT (iteT (k _ (Same.refl _)))⟩
    | @lst a xs e =>
      exact ⟨_, rfl, _, _, _, _, false, rfl, h.ty, rfl, (fun _ => .inr trivial), T.ki_list_tuple, false, rfl, iteT (iteT (k _ (Same.refl _)))⟩
    | @dic a kvs e =>
      exact ⟨_, rfl, _, _, _, _, false, rfl, h.ty, rfl, (fun _ => .inr trivial), T.ki_dict_tuple, false, rfl, iteT (iteT (k _ (Same.refl _)))⟩
    | @tup a us ts e hn hh =>
      have p := ThAt.toP hn hh
      refine ⟨_, rfl, _, _, _, _, true, rfl, h.ty, rfl, (fun _ => .inr trivial), T.ki_tuple_tuple, true, rfl, iteF ?_⟩
      by_cases hl : us.length = 3
      · refine ⟨_, rfl, a, _, rfl, .inr (SqT.of e), rfl, false, lenNF (by omega), iteF ?_⟩
        obtain ⟨u0, u1, u2, rfl⟩ : ∃ u0 u1 u2, us = [u0, u1, u2] := by
          match us, hl with
          | [u0, u1, u2], _ => exact ⟨u0, u1, u2, rfl⟩
        cases p with | cons p0 p => cases p with | cons p1 p => cases p with | cons p2 p => cases p with | nil =>
        rename_i t0 t1 t2
        have k : ∀ H', Same H H' → Q (.bl (nameT t0 && withT 16 t1 && withT 8 t2)) H' := k
        refine ⟨_, rfl, a, _, _, _, rfl, rfl, SqT.of e, rfl, u0, t0, rfl, p0, fun H1 s1 => ⟨_, rfl, ?_⟩⟩
        cases e0 : nameT t0 with
        | false => rw [e0] at k; exact iteF (k _ s1)
        | true =>
          refine iteT ⟨_, rfl, a, _, _, _, rfl, rfl, SqT.of (s1 _ _ e), rfl, u1, t1, 16, rfl, p1.same s1, fun H2 s2 => ⟨_, rfl, ?_⟩⟩
          cases e1 : withT 16 t1 with
          | false => rw [e0, e1] at k; exact iteF (k _ (s1.trans s2))
          | true =>
            rw [e0, e1] at k
            exact iteT ⟨_, rfl, a, _, _, _, rfl, rfl, SqT.of (s2 _ _ (s1 _ _ e)), rfl, u2, t2, 8, rfl, (p2.same s1).same s2, fun H3 s3 => k _ ((s1.trans s2).trans s3)⟩
      · refine ⟨_, rfl, a, _, rfl, .inr (SqT.of e), rfl, true, lenNT (by omega), iteT (rtv ?_ (k _ (Same.refl _)))⟩
        rw [cell_not3 (by rw [← hn]; exact hl)]
theorem schas_few_figures : FnScope ["thing"] ["thing"] (defScope s_has_few_figures) := ⟨rfl, rfl, rfl, by decide +kernel, rfl, by decide +kernel, by decide +kernel⟩
theorem ok_has_few_figures (T : Txt w K mg t) : FnOk P w K mg base CX0 2 t.f_has_few_figures t.d_has_few_figures ["thing"] (spT1 fewT) := by
  have D := T.c_has_few_figures
  refine D.fn.ok schas_few_figures (fun vs H Q E h => ?_) (fun cdv A outer s H vs Q E hr h => ?_)
  · obtain ⟨v, th, rfl, _⟩ := h
    rfl
  · obtain ⟨v, th, rfl, h, k⟩ := h
    have hu := hr.units0
    have hu1 := hu_of hr
    refine ⟨_, ((pss_one (ps_ret (pe_and (pe_cl T.c_is_whole (ok_is_whole T) (hr.mono (by decide)) (pa_consN (pv 0) pa_nil)) (pe_one (pe_cmpR op_le (pe_callB call_abs (by rfl) T.abs boot_abs (pa_consN (pv 0) pa_nil)) (pe_gint T.v_GREATEST_WHOLE) (nomark _))))))), ?_⟩
    cases id h with
    | non =>
      exact ⟨_, rfl, _, _, rfl, h, fun H1 s1 => ⟨false, rfl, iteF (k _ s1)⟩⟩
    | bl b =>
      exact ⟨_, rfl, _, _, rfl, h, fun H1 s1 => ⟨false, rfl, iteF (k _ s1)⟩⟩
    | int i =>
      refine ⟨_, rfl, _, _, rfl, h, fun H1 s1 => ⟨true, rfl, iteT ?_⟩⟩
      exact ⟨_, rfl, i, rfl, _, _, rfl, rfl, k _ s1⟩
    | str z hz =>
      exact ⟨_, rfl, _, _, rfl, h, fun H1 s1 => ⟨false, rfl, iteF (k _ s1)⟩⟩
    | @lst a xs e =>
      exact ⟨_, rfl, _, _, rfl, h, fun H1 s1 => ⟨false, rfl, iteF (k _ s1)⟩⟩
    | @dic a kvs e =>
      exact ⟨_, rfl, _, _, rfl, h, fun H1 s1 => ⟨false, rfl, iteF (k _ s1)⟩⟩
    | @tup a us ts e hn hh =>
      exact ⟨_, rfl, _, _, rfl, h, fun H1 s1 => ⟨false, rfl, iteF (k _ s1)⟩⟩
theorem scis_short_number : FnScope ["top", "bottom"] ["top", "bottom"] (defScope s_is_short_number) := ⟨rfl, rfl, rfl, by decide +kernel, rfl, by decide +kernel, by decide +kernel⟩
theorem ok_is_short_number (T : Txt w K mg t) : FnOk P w K mg base CX0 3 t.f_is_short_number t.d_is_short_number ["top", "bottom"] (spT2 shortT) := by
  have D := T.c_is_short_number
  refine D.fn.ok scis_short_number (fun vs H Q E h => ?_) (fun cdv A outer s H vs Q E hr h => ?_)
  · obtain ⟨v, u, th, tu, rfl, _⟩ := h
    rfl
  · obtain ⟨v, u, th, tu, rfl, h, g, k⟩ := h
    have hu := hr.units0
    have hu1 := hu_of hr
    refine ⟨_, ((pss_one (ps_ret (pe_and (pe_cl T.c_has_few_figures (ok_has_few_figures T) (hr.mono (by decide)) (pa_consN (pv 0) pa_nil)) (pe_and (pe_cl T.c_has_few_figures (ok_has_few_figures T) (hr.mono (by decide)) (pa_consN (pv 1) pa_nil)) (pe_one (pe_cl T.c_is_number (ok_is_number T) (hr.mono (by decide)) (pa_consN (pv 0) (pa_consN (pv 1) pa_nil))))))))), ?_⟩
    refine ⟨_, rfl, v, th, rfl, h, fun H1 s1 => ⟨_, rfl, ?_⟩⟩
    unfold shortT at k
    cases e1 : fewT th with
    | false => rw [e1] at k; exact iteF (k _ s1)
    | true =>
      refine iteT ⟨_, rfl, u, tu, rfl, g.same s1, fun H2 s2 => ⟨_, rfl, ?_⟩⟩
      cases e2 : fewT tu with
      | false => rw [e1, e2] at k; exact iteF (k _ (s1.trans s2))
      | true =>
        rw [e1, e2] at k
        refine iteT ?_
        cases th with
        | int x =>
          cases tu with
          | int y =>
            cases h
            cases g
            exact ⟨_, rfl, _, rfl, x, y, rfl, k _ (s1.trans s2)⟩
          | _ => exact absurd (show false = true from e2) Bool.false_ne_true
        | _ => exact absurd (show false = true from e1) Bool.false_ne_true
theorem scis_text : FnScope ["thing"] ["thing"] (defScope s_is_text) := ⟨rfl, rfl, rfl, by decide +kernel, rfl, by decide +kernel, by decide +kernel⟩
theorem ok_is_text (T : Txt w K mg t) : FnOk P w K mg base CX0 1 t.f_is_text t.d_is_text ["thing"] (spT1 textT) := by
  have D := T.c_is_text
  refine D.fn.ok scis_text (fun vs H Q E h => ?_) (fun cdv A outer s H vs Q E hr h => ?_)
  · obtain ⟨v, th, rfl, _⟩ := h
    rfl
  · obtain ⟨v, th, rfl, h, k⟩ := h
    have hu := hr.units0
    have hu1 := hu_of hr
    refine ⟨_, ((pss_cons (ps_if (pw_or (pt_not (pt_val (pe_callB call_isinst (by rfl) T.isinstance boot_isinstance (pa_consN (pv 0) (pa_consN (pe_typ T.str boot_str) pa_nil))))) (pw_or1 (pt_cmpR op_gt (pe_callB call_len_str (by rfl) T.len PySem.boot_len (pa_consN (pv 0) pa_nil)) (pe_gint T.v_MOST_SIGNS) (nomark _)))).pt (pss_one (ps_ret pe_bl)) pss_nil)
      (pss_one (ps_ret (pe_callB (call_all rfl) (by rfl) T.all boot_all (pa_consH (pe_comp (fv := []) (js := []) (cl := []) rfl (by with_unfolding_all rfl) ⟨rfl, by decide +kernel, by decide +kernel, rfl, by decide +kernel, by decide +kernel, (List.forall_mem_nil _), (List.forall_mem_nil _), .nil⟩ (pi_str (pv 0)) (fun _ _ _ _ _ => pf_nil) (fun _ _ _ _ _ => (pe_cmpR op_inS (pv 0) (pe_gstr T.v_SIGNS) rfl))) pa_nil)))))), ?_⟩
    cases id h with
    | non =>
      exact ⟨_, rfl, _, _, _, _, false, rfl, h.ty, rfl, (fun _ => .inr trivial), T.ki_NoneType_str, false, rfl, iteT (iteT (k _ (Same.refl _)))⟩
    | bl b =>
      exact ⟨_, rfl, _, _, _, _, false, rfl, h.ty, rfl, (fun _ => .inr trivial), T.ki_bool_str, false, rfl, iteT (iteT (k _ (Same.refl _)))⟩
    | int i =>
      exact ⟨_, rfl, _, _, _, _, false, rfl, h.ty, rfl, (fun _ => .inr trivial), T.ki_int_str, false, rfl, iteT (iteT (k _ (Same.refl _)))⟩
    | str z hz =>
      have hzz : z.length ≤ sizeLine := sl_le hz
      refine ⟨_, rfl, _, _, _, _, true, rfl, h.ty, rfl, (fun _ => .inr trivial), T.ki_str_str, true, rfl, iteF ?_⟩
      refine ⟨_, rfl, z, rfl, hzz, _, _, rfl, rfl, _, rfl, ?_⟩
      by_cases c0 : (20 : Int) < (z.length : Int)
      · rw [decide_eq_true c0]
        refine iteT (rtv ?_ (k _ (Same.refl _)))
        unfold textT
        simp only [decide_eq_true c0, Bool.not_true, Bool.not_false, Bool.true_and, Bool.false_and]
      rw [decide_eq_false c0]
      refine iteF ?_
      refine ⟨_, rfl, z, rfl, fun D hD => ?_⟩
      obtain ⟨W, w0, turn⟩ := comp_signs (z := z) (Str.ofString "abcdefghijklmnopqrstuvwxyz0123456789 ") hz hD
      refine ⟨W, w0, fun i m' H' w' => ?_⟩
      rcases turn i m' H' w' with ⟨st, rfl⟩ | h
      case inr => exact .inr ⟨h.1, fun x H2 y => h.2 _ _ x H2 y⟩
      refine .inl ⟨st, ?_⟩
      refine ⟨D, _, rfl, SqL.of upd_same, rtv ?_ (k _ (Same.new hD))⟩
      unfold textT
      simp only [decide_eq_false c0, Bool.not_false, Bool.true_and, signsT]
    | @lst a xs e =>
      exact ⟨_, rfl, _, _, _, _, false, rfl, h.ty, rfl, (fun _ => .inr trivial), T.ki_list_str, false, rfl, iteT (iteT (k _ (Same.refl _)))⟩
    | @dic a kvs e =>
      exact ⟨_, rfl, _, _, _, _, false, rfl, h.ty, rfl, (fun _ => .inr trivial), T.ki_dict_str, false, rfl, iteT (iteT (k _ (Same.refl _)))⟩
    | @tup a us ts e hn hh =>
      exact ⟨_, rfl, _, _, _, _, false, rfl, h.ty, rfl, (fun _ => .inr trivial), T.ki_tuple_str, false, rfl, iteT (iteT (k _ (Same.refl _)))⟩
theorem scis_fault_word : FnScope ["thing"] ["thing"] (defScope s_is_fault_word) := ⟨rfl, rfl, rfl, by decide +kernel, rfl, by decide +kernel, by decide +kernel⟩
theorem ok_is_fault_word (T : Txt w K mg t) : FnOk P w K mg base CX0 1 t.f_is_fault_word t.d_is_fault_word ["thing"] (spT1 wordT) := by
  have D := T.c_is_fault_word
  refine D.fn.ok scis_fault_word (fun vs H Q E h => ?_) (fun cdv A outer s H vs Q E hr h => ?_)
  · obtain ⟨v, th, rfl, _⟩ := h
    rfl
  · obtain ⟨v, th, rfl, h, k⟩ := h
    have hu := hr.units0
    have hu1 := hu_of hr
    refine ⟨_, ((pss_one (ps_ret (pe_and (pe_callB call_isinst (by rfl) T.isinstance boot_isinstance (pa_consN (pv 0) (pa_consN (pe_typ T.str boot_str) pa_nil))) (pe_one (pe_cmpR op_in_seq (pv 0) (pe_gtup T.v_FAULTS) rfl)))))), ?_⟩
    cases id h with
    | non =>
      exact ⟨_, rfl, _, _, _, _, false, rfl, h.ty, rfl, (fun _ => .inr trivial), T.ki_NoneType_str, false, rfl, iteF (k _ (Same.refl _))⟩
    | bl b =>
      exact ⟨_, rfl, _, _, _, _, false, rfl, h.ty, rfl, (fun _ => .inr trivial), T.ki_bool_str, false, rfl, iteF (k _ (Same.refl _))⟩
    | int i =>
      exact ⟨_, rfl, _, _, _, _, false, rfl, h.ty, rfl, (fun _ => .inr trivial), T.ki_int_str, false, rfl, iteF (k _ (Same.refl _))⟩
    | str z hz =>
      refine ⟨_, rfl, _, _, _, _, true, rfl, h.ty, rfl, (fun _ => .inr trivial), T.ki_str_str, true, rfl, iteT ?_⟩
      exact ⟨_, rfl, fun a ha => ⟨a, _, rfl, .inr (ha _), rfl, faults_flat, k _ (Same.refl _)⟩⟩
    | @lst a xs e =>
      exact ⟨_, rfl, _, _, _, _, false, rfl, h.ty, rfl, (fun _ => .inr trivial), T.ki_list_str, false, rfl, iteF (k _ (Same.refl _))⟩
    | @dic a kvs e =>
      exact ⟨_, rfl, _, _, _, _, false, rfl, h.ty, rfl, (fun _ => .inr trivial), T.ki_dict_str, false, rfl, iteF (k _ (Same.refl _))⟩
    | @tup a us ts e hn hh =>
      exact ⟨_, rfl, _, _, _, _, false, rfl, h.ty, rfl, (fun _ => .inr trivial), T.ki_tuple_str, false, rfl, iteF (k _ (Same.refl _))⟩
theorem scis_value : FnScope ["thing", "kind"] ["thing"] (defScope s_is_value) := ⟨rfl, rfl, rfl, by decide +kernel, rfl, by decide +kernel, by decide +kernel⟩
theorem ok_is_value (T : Txt w K mg t) : FnOk P w K mg base CX0 4 t.f_is_value t.d_is_value ["thing"] (spT1 valT) := by
  have D := T.c_is_value
  refine D.fn.ok scis_value (fun vs H Q E h => ?_) (fun cdv A outer s H vs Q E hr h => ?_)
  · obtain ⟨v, th, rfl, _⟩ := h
    rfl
  · obtain ⟨v, th, rfl, h, k⟩ := h
    have hu := hr.units0
    have hu1 := hu_of hr
    refine ⟨_, ((pss_cons (ps_if (pw_or (pt_not (pt_val (pe_callB call_isinst (by rfl) T.isinstance boot_isinstance (pa_consN (pv 0) (pa_consN (pe_typ T.tuple boot_tuple) pa_nil))))) (pw_or (pt_cmpR op_eq (pe_callB call_len_seq (by rfl) T.len PySem.boot_len (pa_consN (pv 0) pa_nil)) pe_int (nomark _)) (pw_or1 (pt_not (pt_val (pe_callB call_isinst (by rfl) T.isinstance boot_isinstance (pa_consS (pe_ix ix_tup (pv 0) pe_int (fun _ _ => rfl)) (pa_consN (pe_typ T.str boot_str) pa_nil)))))))).pt (pss_one (ps_ret pe_bl)) pss_nil)
      (pss_cons (ps_set (i := 1) scis_value.nd rfl (Or.inl rfl) (pe_ix ix_tup (pv 0) pe_int (fun _ _ => rfl)))
      (pss_cons (ps_if (pt_cmpR op_eq (pv 1) pe_str (nomark _)) (pss_one (ps_ret (pe_cmpR op_eq (pe_callB call_len_seq (by rfl) T.len PySem.boot_len (pa_consN (pv 0) pa_nil)) pe_int (nomark _)))) pss_nil)
      (pss_cons (ps_if (pt_cmpR op_eq (pv 1) pe_str (nomark _)) (pss_one (ps_ret (pe_and (pe_cmpR op_eq (pe_callB call_len_seq (by rfl) T.len PySem.boot_len (pa_consN (pv 0) pa_nil)) pe_int (nomark _)) (pe_one (pe_cl T.c_is_short_number (ok_is_short_number T) (hr.mono (by decide)) (pa_consS (pe_ix ix_tup (pv 0) pe_int (fun _ _ => rfl)) (pa_consS (pe_ix ix_tup (pv 0) pe_int (fun _ _ => rfl)) pa_nil))))))) pss_nil)
      (pss_cons (ps_if (pt_cmpR op_eq (pv 1) pe_str (nomark _)) (pss_one (ps_ret (pe_and (pe_cmpR op_eq (pe_callB call_len_seq (by rfl) T.len PySem.boot_len (pa_consN (pv 0) pa_nil)) pe_int (nomark _)) (pe_one (pe_cl T.c_is_text (ok_is_text T) (hr.mono (by decide)) (pa_consS (pe_ix ix_tup (pv 0) pe_int (fun _ _ => rfl)) pa_nil)))))) pss_nil)
      (pss_cons (ps_if (pt_cmpR op_eq (pv 1) pe_str (nomark _)) (pss_one (ps_ret (pe_and (pe_cmpR op_eq (pe_callB call_len_seq (by rfl) T.len PySem.boot_len (pa_consN (pv 0) pa_nil)) pe_int (nomark _)) (pe_one (pe_callB call_isinst (by rfl) T.isinstance boot_isinstance (pa_consS (pe_ix ix_tup (pv 0) pe_int (fun _ _ => rfl)) (pa_consN (pe_typ T.bool boot_bool) pa_nil))))))) pss_nil)
      (pss_cons (ps_if (pt_cmpR op_eq (pv 1) pe_str (nomark _)) (pss_one (ps_ret (pe_and (pe_cmpR op_eq (pe_callB call_len_seq (by rfl) T.len PySem.boot_len (pa_consN (pv 0) pa_nil)) pe_int (nomark _)) (pe_and (pe_cl T.c_is_fault_word (ok_is_fault_word T) (hr.mono (by decide)) (pa_consS (pe_ix ix_tup (pv 0) pe_int (fun _ _ => rfl)) pa_nil)) (pe_one (pe_cl T.c_is_cell (ok_is_cell T) (hr.mono (by decide)) (pa_consS (pe_ix ix_tup (pv 0) pe_int (fun _ _ => rfl)) pa_nil))))))) pss_nil)
      (pss_one (ps_ret pe_bl)))))))))), ?_⟩
    cases id h with
    | non =>
      exact ⟨_, rfl, _, _, _, _, false, rfl, h.ty, rfl, (fun _ => .inr trivial), T.ki_NoneType_tuple, false, rfl, iteT (iteT (k _ (Same.refl _)))⟩
    | bl b =>
      exact ⟨_, rfl, _, _, _, _, false, rfl, h.ty, rfl, (fun _ => .inr trivial), T.ki_bool_tuple, false, rfl, iteT (iteT (k _ (Same.refl _)))⟩
    | int i =>
      exact ⟨_, rfl, _, _, _, _, false, rfl, h.ty, rfl, (fun _ => .inr trivial), T.ki_int_tuple, false, rfl, iteT (iteT (k _ (Same.refl _)))⟩
    | str z hz =>
      exact ⟨_, rfl, _, _, _, _, false, rfl, h.ty, rfl, (fun _ => .inr trivial), T.ki_str_tuple, false, rfl, iteT (iteT (k _ (Same.refl _)))⟩
    | @lst a xs e =>
      exact ⟨_, rfl, _, _, _, _, false, rfl, h.ty, rfl, (fun _ => .inr trivial), T.ki_list_tuple, false, rfl, iteT (iteT (k _ (Same.refl _)))⟩
    | @dic a kvs e =>
      exact ⟨_, rfl, _, _, _, _, false, rfl, h.ty, rfl, (fun _ => .inr trivial), T.ki_dict_tuple, false, rfl, iteT (iteT (k _ (Same.refl _)))⟩
    | @tup a us ts e hn hh =>
      have p := ThAt.toP hn hh
      refine ⟨_, rfl, _, _, _, _, true, rfl, h.ty, rfl, (fun _ => .inr trivial), T.ki_tuple_tuple, true, rfl, iteF ?_⟩
      cases p with
      | nil => exact ⟨_, rfl, a, _, rfl, .inr (SqT.of e), rfl, true, lenT rfl, iteT (iteT (k _ (Same.refl _)))⟩
      | cons p0 p =>
        rename_i u0 t0 us ts
        have hlen : us.length = ts.length := Paired.length p
        refine ⟨_, rfl, a, _, rfl, .inr (SqT.of e), rfl, false, lenF (by simp only [List.length_cons]; omega), iteF ?_⟩
        cases id p0 with
        | non =>
          exact ⟨_, rfl, a, _, _, _, rfl, rfl, SqT.of e, atI_nat (j := 0) rfl, _, _, _, _, false, rfl, p0.ty, rfl, (fun _ => .inr trivial), T.ki_NoneType_str, false, rfl, iteT (k _ (Same.refl _))⟩
        | bl b =>
          exact ⟨_, rfl, a, _, _, _, rfl, rfl, SqT.of e, atI_nat (j := 0) rfl, _, _, _, _, false, rfl, p0.ty, rfl, (fun _ => .inr trivial), T.ki_bool_str, false, rfl, iteT (k _ (Same.refl _))⟩
        | int i =>
          exact ⟨_, rfl, a, _, _, _, rfl, rfl, SqT.of e, atI_nat (j := 0) rfl, _, _, _, _, false, rfl, p0.ty, rfl, (fun _ => .inr trivial), T.ki_int_str, false, rfl, iteT (k _ (Same.refl _))⟩
        | str z hz =>
          refine ⟨_, rfl, a, _, _, _, rfl, rfl, SqT.of e, atI_nat (j := 0) rfl, _, _, _, _, true, rfl, p0.ty, rfl, (fun _ => .inr trivial), T.ki_str_str, true, rfl, iteF ?_⟩
          refine ⟨_, rfl, a, _, _, _, rfl, rfl, SqT.of e, atI_nat (j := 0) rfl, ?_⟩
          have k : ∀ H', Same H H' → Q (.bl (restT z ts)) H' := k
          unfold restT at k
          by_cases h0 : z = (Str.ofString "none")
          · rw [if_pos h0] at k
            refine ⟨_, rfl, rfl, true, strT h0, iteT ?_⟩
            refine ⟨_, rfl, a, _, rfl, .inr (SqT.of e), rfl, rtv ?_ (k _ (Same.refl _))⟩
            cases p with
            | nil => exact lenT rfl
            | cons p1 p => exact lenF (by simp only [List.length_cons]; omega)
          rw [if_neg h0] at k
          refine ⟨_, rfl, rfl, false, strN h0, iteF ?_⟩
          by_cases h1 : z = (Str.ofString "number")
          · rw [if_pos h1] at k
            refine ⟨_, rfl, rfl, true, strT h1, iteT ?_⟩
            cases p with
            | nil =>
              exact ⟨_, rfl, a, _, rfl, .inr (SqT.of e), rfl, false, lenF (by simp only [List.length_cons, List.length_nil]; omega), iteF (k _ (Same.refl _))⟩
            | @cons u1 t1 us1' ts1' p1 p =>
              cases p with
              | nil =>
                exact ⟨_, rfl, a, _, rfl, .inr (SqT.of e), rfl, false, lenF (by simp only [List.length_cons, List.length_nil]; omega), iteF (k _ (Same.refl _))⟩
              | @cons u2 t2 us2' ts2' p2 p =>
                cases p with
                | nil =>
                  refine ⟨_, rfl, a, _, rfl, .inr (SqT.of e), rfl, true, lenT rfl, iteT ?_⟩
                  exact ⟨_, rfl, a, _, _, _, rfl, rfl, SqT.of e, rfl, _, rfl, a, _, _, _, rfl, rfl, SqT.of e, rfl, _, _, _, _, rfl, p1, p2, k⟩
                | cons p3 p =>
                  exact ⟨_, rfl, a, _, rfl, .inr (SqT.of e), rfl, false, lenF (by simp only [List.length_cons, List.length_nil]; omega), iteF (k _ (Same.refl _))⟩
          rw [if_neg h1] at k
          refine ⟨_, rfl, rfl, false, strN h1, iteF ?_⟩
          by_cases h2 : z = (Str.ofString "text")
          · rw [if_pos h2] at k
            refine ⟨_, rfl, rfl, true, strT h2, iteT ?_⟩
            cases p with
            | nil =>
              exact ⟨_, rfl, a, _, rfl, .inr (SqT.of e), rfl, false, lenF (by simp only [List.length_cons, List.length_nil]; omega), iteF (k _ (Same.refl _))⟩
            | @cons u1 t1 us1' ts1' p1 p =>
              cases p with
              | nil =>
                refine ⟨_, rfl, a, _, rfl, .inr (SqT.of e), rfl, true, lenT rfl, iteT ?_⟩
                exact ⟨_, rfl, a, _, _, _, rfl, rfl, SqT.of e, rfl, _, _, rfl, p1, k⟩
              | cons p2 p =>
                exact ⟨_, rfl, a, _, rfl, .inr (SqT.of e), rfl, false, lenF (by simp only [List.length_cons, List.length_nil]; omega), iteF (k _ (Same.refl _))⟩
          rw [if_neg h2] at k
          refine ⟨_, rfl, rfl, false, strN h2, iteF ?_⟩
          by_cases h3 : z = (Str.ofString "truth")
          · rw [if_pos h3] at k
            refine ⟨_, rfl, rfl, true, strT h3, iteT ?_⟩
            cases p with
            | nil =>
              exact ⟨_, rfl, a, _, rfl, .inr (SqT.of e), rfl, false, lenF (by simp only [List.length_cons, List.length_nil]; omega), iteF (k _ (Same.refl _))⟩
            | @cons u1 t1 us1' ts1' p1 p =>
              cases p with
              | nil =>
                refine ⟨_, rfl, a, _, rfl, .inr (SqT.of e), rfl, true, lenT rfl, iteT ?_⟩
                cases id p1 with
                | non => exact ⟨_, rfl, a, _, _, _, rfl, rfl, SqT.of e, rfl, _, _, _, _, false, rfl, p1.ty, rfl, (fun _ => .inr trivial), T.ki_NoneType_bool, k _ (Same.refl _)⟩
                | bl b => exact ⟨_, rfl, a, _, _, _, rfl, rfl, SqT.of e, rfl, _, _, _, _, true, rfl, p1.ty, rfl, (fun _ => .inr trivial), T.ki_bool_bool, k _ (Same.refl _)⟩
                | int i => exact ⟨_, rfl, a, _, _, _, rfl, rfl, SqT.of e, rfl, _, _, _, _, false, rfl, p1.ty, rfl, (fun _ => .inr trivial), T.ki_int_bool, k _ (Same.refl _)⟩
                | str z1 hz1 => exact ⟨_, rfl, a, _, _, _, rfl, rfl, SqT.of e, rfl, _, _, _, _, false, rfl, p1.ty, rfl, (fun _ => .inr trivial), T.ki_str_bool, k _ (Same.refl _)⟩
                | @lst a1 xs1 e1 => exact ⟨_, rfl, a, _, _, _, rfl, rfl, SqT.of e, rfl, _, _, _, _, false, rfl, p1.ty, rfl, (fun _ => .inr trivial), T.ki_list_bool, k _ (Same.refl _)⟩
                | @dic a1 kvs1 e1 => exact ⟨_, rfl, a, _, _, _, rfl, rfl, SqT.of e, rfl, _, _, _, _, false, rfl, p1.ty, rfl, (fun _ => .inr trivial), T.ki_dict_bool, k _ (Same.refl _)⟩
                | @tup a1 us1 ts1 e1 hn1 hh1 => exact ⟨_, rfl, a, _, _, _, rfl, rfl, SqT.of e, rfl, _, _, _, _, false, rfl, p1.ty, rfl, (fun _ => .inr trivial), T.ki_tuple_bool, k _ (Same.refl _)⟩
              | cons p2 p =>
                exact ⟨_, rfl, a, _, rfl, .inr (SqT.of e), rfl, false, lenF (by simp only [List.length_cons, List.length_nil]; omega), iteF (k _ (Same.refl _))⟩
          rw [if_neg h3] at k
          refine ⟨_, rfl, rfl, false, strN h3, iteF ?_⟩
          by_cases h4 : z = (Str.ofString "fault")
          · rw [if_pos h4] at k
            refine ⟨_, rfl, rfl, true, strT h4, iteT ?_⟩
            cases p with
            | nil =>
              exact ⟨_, rfl, a, _, rfl, .inr (SqT.of e), rfl, false, lenF (by simp only [List.length_cons, List.length_nil]; omega), iteF (k _ (Same.refl _))⟩
            | @cons u1 t1 us1' ts1' p1 p =>
              cases p with
              | nil =>
                exact ⟨_, rfl, a, _, rfl, .inr (SqT.of e), rfl, false, lenF (by simp only [List.length_cons, List.length_nil]; omega), iteF (k _ (Same.refl _))⟩
              | @cons u2 t2 us2' ts2' p2 p =>
                cases p with
                | nil =>
                  refine ⟨_, rfl, a, _, rfl, .inr (SqT.of e), rfl, true, lenT rfl, iteT ?_⟩
                  refine ⟨_, rfl, a, _, _, _, rfl, rfl, SqT.of e, rfl, _, _, rfl, p1, fun H1 s1 => ⟨_, rfl, ?_⟩⟩
                  have k : ∀ H', Same H H' → Q (.bl (wordT t1 && cellT t2)) H' := k
                  cases ew : wordT t1 with
                  | false => rw [ew] at k; exact iteF (k _ s1)
                  | true =>
                    rw [ew] at k
                    exact iteT ⟨_, rfl, a, _, _, _, rfl, rfl, SqT.of (s1 _ _ e), rfl, _, _, rfl, p2.same s1, fun H2 s2 => k _ (s1.trans s2)⟩
                | cons p3 p =>
                  exact ⟨_, rfl, a, _, rfl, .inr (SqT.of e), rfl, false, lenF (by simp only [List.length_cons, List.length_nil]; omega), iteF (k _ (Same.refl _))⟩
          rw [if_neg h4] at k
          refine ⟨_, rfl, rfl, false, strN h4, iteF ?_⟩
          exact k _ (Same.refl _)
        | @lst a0 xs e0 =>
          exact ⟨_, rfl, a, _, _, _, rfl, rfl, SqT.of e, atI_nat (j := 0) rfl, _, _, _, _, false, rfl, p0.ty, rfl, (fun _ => .inr trivial), T.ki_list_str, false, rfl, iteT (k _ (Same.refl _))⟩
        | @dic a0 kvs e0 =>
          exact ⟨_, rfl, a, _, _, _, rfl, rfl, SqT.of e, atI_nat (j := 0) rfl, _, _, _, _, false, rfl, p0.ty, rfl, (fun _ => .inr trivial), T.ki_dict_str, false, rfl, iteT (k _ (Same.refl _))⟩
        | @tup a0 us0 ts0 e0 hn0 hh0 =>
          exact ⟨_, rfl, a, _, _, _, rfl, rfl, SqT.of e, atI_nat (j := 0) rfl, _, _, _, _, false, rfl, p0.ty, rfl, (fun _ => .inr trivial), T.ki_tuple_str, false, rfl, iteT (k _ (Same.refl _))⟩
theorem scparts_of : FnScope ["formula"] ["formula"] (defScope s_parts_of) := ⟨rfl, rfl, rfl, by decide +kernel, rfl, by decide +kernel, by decide +kernel⟩
theorem ok_parts_of (T : Txt w K mg t) : FnOk P w K mg base CX0 1 t.f_parts_of t.d_parts_of ["formula"] spPT := by
  have D := T.c_parts_of
  refine D.fn.ok scparts_of (fun vs H Q E h => ?_) (fun cdv A outer s H vs Q E hr h => ?_)
  · obtain ⟨v, th, pr, rfl, _⟩ := h
    rfl
  · obtain ⟨v, th, pr, rfl, h, hf, k⟩ := h
    have hu := hr.units0
    have hu1 := hu_of hr
    refine ⟨_, ((pss_cons (ps_if (pt_cmpR op_eq (pe_ix ix_tup (pv 0) pe_int (fun _ _ => rfl)) pe_str (nomark _)) (pss_one (ps_ret (pe_callTy call_list_of (by rfl) T.list boot_list (pa_consS (pe_ix ix_tup (pv 0) pe_int (fun _ _ => rfl)) pa_nil)))) pss_nil)
      (pss_one (ps_ret (pe_comp (fv := ["formula"]) (js := [0]) (cl := [("formula", s.heap.objs.size + 1)]) rfl (by with_unfolding_all rfl) ⟨rfl, by decide +kernel, by decide +kernel, rfl, by decide +kernel, by decide +kernel, (List.forall_mem_cons.mpr ⟨⟨rfl, rfl, rfl⟩, (List.forall_mem_nil _)⟩), (List.forall_mem_cons.mpr ⟨rfl, (List.forall_mem_nil _)⟩), (.cons rfl .nil)⟩ (pi_tup (pe_kget2 (pe_gdit T.v_PART_PLACES) (pe_ix ix_tup (pv 0) pe_int (fun _ _ => rfl)) (pe_tup pa_nil) ⟨rfl, rfl, rfl, rfl⟩)) (fun _ _ _ _ _ => pf_nil) (fun _ _ _ _ _ => (pe_ix ixc_tup (pv 1) (pv 0) (fun _ _ => rfl)))))))), ?_⟩
    obtain ⟨k0, ts, rfl⟩ := form_shape hf
    obtain ⟨a, us0, rfl, e, p⟩ := tup_shape h
    have p00 := p
    cases p with | cons p0 p =>
    rename_i us
    cases p0
    by_cases hk : k0 = zS "own"
    · subst hk
      obtain ⟨t1, ws, rfl, h3⟩ := form_own hf
      cases p with | cons p1 p => cases p with | cons p2 p => cases p with | nil =>
      obtain ⟨b, vs2, rfl, e2, p3⟩ := tup_shape p2
      refine ⟨_, rfl, a, _, _, _, rfl, rfl, SqT.of e, atI_hd, rfl, true, (by decide +kernel), iteT ?_⟩
      refine ⟨_, rfl, a, _, _, _, rfl, rfl, SqT.of e, atI_2, b, vs2, rfl, .inr (SqT.of e2), fun d hd => ?_⟩
      exact k d vs2 _ hd upd_same (by rw [prt_own]; exact pths p3 (Same.new hd)) (Same.new hd)
    · rw [prt_pl hk] at k
      have hin := pl_in hf
      refine ⟨_, rfl, a, _, _, _, rfl, rfl, SqT.of e, atI_hd, rfl, false, strN hk, iteF ?_⟩
      refine fun pa kvs hk' hp => ⟨pa, kvs, rfl, hk', _, rfl, a, _, _, _, rfl, rfl, SqT.of e, atI_hd, Nat.zero_le _, fun e9 he => ⟨Sum.inr k0, rfl, ?_⟩⟩
      have s1 := Same.new (o := .tup []) he
      have l3 := plN_le k0
      have hlen : us.length = ts.length := Paired.length p
      have p1 := pths p00 s1
      have hb : ∃ b, (valV kvs (Sum.inr k0)).getD (.ref e9) = .ref b ∧ ∀ H', Same (upd H e9 (.tup [])) H' → SqT K H' b ((plN k0).map fun p => V.int (p : Nat)) := by
        rcases pl_at k0 with ⟨h1, h2⟩ | h1
        · rw [pp_none hp h1, h2]
          exact ⟨e9, rfl, fun H' s => SqT.of (s _ _ upd_same)⟩
        · obtain ⟨b, hb, hsq⟩ := pp_get hp h1
          rw [hb]
          exact ⟨b, rfl, fun H' _ => hsq _⟩
      obtain ⟨b, hb1, hsq⟩ := hb
      rw [hb1]
      have e1 := s1 _ _ e
      have nsl : ∀ {D : Addr}, upd H e9 (.tup []) D = none → H D = none := fun {D} h => Same.back0 s1 h
      generalize upd H e9 (.tup []) = H2 at *
      generalize hws : ((plN k0).map fun p => (V.str k0 :: us).getD p .non) = ws
      have lws : ws.length = (plN k0).length := by rw [← hws, List.length_map]
      refine ⟨b, rfl, ⟨_, hsq _ (Same.refl _)⟩, fun D hD => ?_⟩
      have sD : ∀ ws, Same H2 (upd H2 D (.lst ws)) := fun ws => Same.new hD
      refine ⟨fun i m H4 => m = ws.length - i ∧ i ≤ ws.length ∧ H4 = upd H2 D (.lst (ws.take i)), ⟨ws.length, rfl, Nat.zero_le _, rfl⟩, ?_⟩
      rintro i m H4 ⟨rfl, hi, rfl⟩
      by_cases hlt : i < ws.length
      · have hp1 : (plN k0)[i]? = some ((plN k0)[i]'(by omega)) := List.getElem?_eq_getElem (by omega)
        generalize (plN k0)[i]'(by omega) = pp at hp1
        have hpp := hin pp (List.mem_of_getElem? hp1)
        have hx1 : ((plN k0).map fun p => V.int (p : Nat))[i]? = some (.int pp) := by rw [List.getElem?_map, hp1]; rfl
        have hw1 : ws[i]? = some ((V.str k0 :: us).getD pp .non) := by rw [← hws, List.getElem?_map, hp1]; rfl
        have hat : (V.str k0 :: us)[pp]? = some ((V.str k0 :: us).getD pp .non) := by rw [List.getD_eq_getElem?_getD, List.getElem?_eq_getElem (by rw [List.length_cons]; omega)]; rfl
        refine .inr ⟨⟨_, _, hsq _ (sD _), hx1⟩, fun x H' y => ?_⟩
        obtain ⟨e, y⟩ := y
        subst e
        have hx := y _ (hsq _ (sD _))
        rw [hx1] at hx
        cases hx
        refine ⟨_, rfl, _, rfl, a, _, _, _, rfl, rfl, SqT.of (sD _ _ _ e1), atI_nat hat, _, upd_same, sl_lt (by rw [List.length_take]; omega), ws.length - (i + 1), (by omega), rfl, hlt, ?_⟩
        rw [upd_upd, List.take_add_one, hw1]; rfl
      have ei : i = ws.length := by omega
      subst ei
      refine .inl ⟨⟨_, hsq _ (sD _), (by rw [List.length_map, lws]; exact Nat.le_refl _)⟩, ?_⟩
      rw [List.take_length]
      have s3 := s1.trans (sD ws)
      refine k D ws _ (nsl hD) upd_same ?_ s3
      rw [← hws]
      exact pl_pair V.non (pths p1 (sD _)) fun p hp => by have := hin p hp; rw [List.length_cons]; omega
theorem scall_parts : FnScope ["formula", "waiting", "row", "part"] ["formula"] (defScope s_all_parts) := ⟨rfl, rfl, rfl, by decide +kernel, rfl, by decide +kernel, by decide +kernel⟩
theorem ok_all_parts (T : Txt w K mg t) : FnOk P w K mg base CX0 2 t.f_all_parts t.d_all_parts ["formula"] spAllT := by
  have D := T.c_all_parts
  refine D.fn.ok scall_parts (fun vs H Q E h => ?_) (fun cdv A outer s H vs Q E hr h => ?_)
  · obtain ⟨v, th, pr, rfl, _⟩ := h
    rfl
  · obtain ⟨v, th, pr, rfl, h, ht, k⟩ := h
    have hu := hr.units0
    have hu1 := hu_of hr
    refine ⟨_, ((pss_cons (ps_set (i := 1) scall_parts.nd rfl (Or.inl rfl) (pe_lst (pa_consN (pv 0) pa_nil)))
      (pss_cons (ps_set (i := 2) scall_parts.nd rfl (Or.inl rfl) (pe_lst pa_nil))
      (pss_cons (ps_while PassesOwn.never (pt_cmpR op_gt (pe_callB call_len_seq (by rfl) T.len PySem.boot_len (pa_consN (pv 1) pa_nil)) pe_int (nomark _)) (pss_cons (ps_set (i := 3) scall_parts.nd rfl (Or.inl rfl) (pe_bm0 PySem.F.plainAttrs_list PySem.F.slot_list_pop PySem.F.type_list_pop mt_pop (pv 1)))
      (pss_cons (ps_expr (pe_bm PySem.F.plainAttrs_list PySem.F.slot_list_append PySem.F.type_list_append mt_append (pv 2) (pa_consN (pv 3) pa_nil)))
      (pss_one (ps_expr (pe_bm PySem.F.plainAttrs_list PySem.F.slot_list_extend PySem.F.type_list_extend mt_extend (pv 1) (pa_consC (pe_cl T.c_parts_of (ok_parts_of T) (hr.mono (by decide)) (pa_consN (pv 3) pa_nil)) pa_nil)))))))
      (pss_one (ps_ret (pe_listrev rfl (by rfl) T.list boot_list (by rfl) T.reversed (pv 2)))))))), ?_⟩
    have bd : szN 8 th ≤ 3280 := Nat.le_trans (sz_le ht) (by decide)
    refine ⟨_, rfl, one_le, fun l hl => ?_⟩
    have s0 := Same.new (o := .lst [v]) hl
    have hl1 : upd H l (.lst [v]) l = some (.lst [v]) := upd_same
    have hv1 := h.same s0
    generalize upd H l (.lst [v]) = H1 at *
    refine ⟨Nat.zero_le _, fun r hr' => ?_⟩
    have s1 := Same.new (o := .lst []) hr'
    have nlr : l ≠ r := fun z => by rw [← z, hl1] at hr'; cases hr'
    have hr0 : H r = none := Same.back0 s0 hr'
    refine ⟨fun m σ H5 => ∃ (vs rs : List V) (fs : List Th) (x : Option V), σ = [some v, some (.ref l), some (.ref r), x] ∧ H5 l = some (.lst vs) ∧ H5 r = some (.lst rs) ∧ Paired (ThAt H5) vs fs ∧ (∀ g ∈ fs, treeT 8 pr g = true) ∧ szL 8 fs = m ∧ m + rs.length = szN 8 th ∧ Same H H5,
      ⟨szN 8 th, _, _, [th], none, rfl, s1 _ _ hl1, upd_same, .cons (hv1.same s1) .nil, (fun g hg => by rw [List.mem_singleton.mp hg]; exact ht), szL_one 8 th, rfl, fun b o e => s1 _ _ (s0 _ _ e)⟩, ?_⟩
    rintro m σ H5 ⟨vs, rs, fs, x, rfl, hl5, hr5, fm5, good, hm, him, s5⟩
    refine ⟨_, rfl, l, _, rfl, .inl (SqL.of hl5), _, _, rfl, rfl, _, rfl, ?_⟩
    rcases List.eq_nil_or_concat vs with rfl | ⟨vs', y, hvs⟩
    · have e0 : fs = [] := List.length_eq_zero_iff.mp (Paired.length fm5).symm
      subst e0
      refine iteF ⟨_, rfl, r, rs, rfl, SqL.of hr5, fun lq hlq => ?_⟩
      have s6 := Same.new (o := .lst rs.reverse) hlq
      have m0 : m = 0 := by rw [← hm]; rfl
      exact k lq rs.reverse _ upd_same (by rw [List.length_reverse]; omega) fun b o e => s6 _ _ (s5 _ _ e)
    have hvs : vs = vs' ++ [y] := by rw [hvs, List.concat_eq_append]
    subst hvs
    obtain ⟨fs', g, rfl, fm', hg⟩ := psplit fm5
    have fg := good g (by simp)
    have hsz : szL 8 fs' + (1 + szL 8 (prtT g)) = m := by rw [← hm, szL_app, szL_one, sz_prt fg]
    have hne : decide ((0 : Int) < ((vs' ++ [y]).length : Int)) = true := decide_eq_true (by rw [List.length_append, List.length_singleton]; omega)
    rw [hne]
    refine iteT ⟨fun σ' H' => ∃ m', m' < m ∧ ∃ (vs rs : List V) (fs : List Th) (x : Option V), σ' = [some v, some (.ref l), some (.ref r), x] ∧ H' l = some (.lst vs) ∧ H' r = some (.lst rs) ∧ Paired (ThAt H') vs fs ∧ (∀ g ∈ fs, treeT 8 pr g = true) ∧ szL 8 fs = m' ∧ m' + rs.length = szN 8 th ∧ Same H H', fun _ _ z => z, ?_⟩
    refine ⟨_, rfl, .inl ⟨rfl, _, SqL.of hl5⟩, l, _, y, rfl, rfl, hl5, (by simp), ?_⟩
    rw [List.dropLast_concat]
    have hl7 : upd H5 l (.lst vs') l = some (.lst vs') := upd_same
    have hr7 : upd H5 l (.lst vs') r = some (.lst rs) := by rw [upd_ne nlr.symm]; exact hr5
    have fm7 := pthU (ws := vs') fm' hl5
    have hg7 := hg.updL (ws := vs') hl5
    have s7 : Same H (upd H5 l (.lst vs')) := fun b o e => by rw [upd_ne (ne_of_none e hl)]; exact s5 _ _ e
    generalize upd H5 l (.lst vs') = H7 at *
    refine ⟨_, rfl, .inl ⟨rfl, _, SqL.of hr7⟩, _, rfl, r, rs, y, rfl, rfl, hr7, slm (by omega), ?_⟩
    have hl8 : upd H7 r (.lst (rs ++ [y])) l = some (.lst vs') := by rw [upd_ne nlr]; exact hl7
    have hr8 : upd H7 r (.lst (rs ++ [y])) r = some (.lst (rs ++ [y])) := upd_same
    have fm8 := pthU (ws := rs ++ [y]) fm7 hr7
    have hg8 := hg7.updL (ws := rs ++ [y]) hr7
    have s8 : Same H (upd H7 r (.lst (rs ++ [y]))) := fun b o e => by rw [upd_ne (ne_of_none e hr0)]; exact s7 _ _ e
    generalize upd H7 r (.lst (rs ++ [y])) = H8 at *
    refine ⟨_, rfl, .inl ⟨rfl, _, SqL.of hl8⟩, _, rfl, y, g, pr, rfl, hg8, (tree_form fg).1, fun lp ws HA hlp0 hlp fmp sA => ?_⟩
    have n1 : vs'.length = fs'.length := Paired.length fm7
    have n2 : ws.length = (prtT g).length := Paired.length fmp
    have n3 : fs'.length ≤ szL 8 fs' := szL_len 7 fs'
    have n4 : (prtT g).length ≤ szL 8 (prtT g) := szL_len 7 (prtT g)
    have hlA := sA _ _ hl8
    have hrA := sA _ _ hr8
    refine ⟨l, lp, vs', ws, rfl, rfl, hlA, hlp, slm (by omega), ?_⟩
    refine ⟨szL 8 fs' + szL 8 (prtT g), (by omega), vs' ++ ws, rs ++ [y], fs' ++ prtT g, _, rfl, upd_same, (by rw [upd_ne nlr.symm]; exact hrA), papp (pthU (pths fm8 sA) hlA) (pthU fmp hlA), fun x hx => ?_, szL_app _ _ _, ?_, fun b o e => ?_⟩
    · rcases List.mem_append.mp hx with q | q
      · exact good x (List.mem_append.mpr (.inl q))
      · exact tree_mono ((tree_form fg).2 x q)
    · rw [List.length_append, List.length_singleton]; omega
    · rw [upd_ne (ne_of_none e hl)]; exact sA _ _ (s8 _ _ e)
theorem sccount_parts : FnScope ["formula"] ["formula"] (defScope s_count_parts) := ⟨rfl, rfl, rfl, by decide +kernel, rfl, by decide +kernel, by decide +kernel⟩
theorem ok_count_parts (T : Txt w K mg t) : FnOk P w K mg base CX0 3 t.f_count_parts t.d_count_parts ["formula"] spCntT := by
  have D := T.c_count_parts
  refine D.fn.ok sccount_parts (fun vs H Q E h => ?_) (fun cdv A outer s H vs Q E hr h => ?_)
  · obtain ⟨v, th, pr, rfl, _⟩ := h
    rfl
  · obtain ⟨v, th, pr, rfl, h, ht, k⟩ := h
    have hu := hr.units0
    have hu1 := hu_of hr
    refine ⟨_, ((pss_one (ps_ret (pe_callB call_len_seq (by rfl) T.len PySem.boot_len (pa_consC (pe_cl T.c_all_parts (ok_all_parts T) (hr.mono (by decide)) (pa_consN (pv 0) pa_nil)) pa_nil))))), ?_⟩
    refine ⟨_, rfl, v, th, pr, rfl, h, ht, fun l ws H' hl e s => ?_⟩
    refine ⟨l, ws, rfl, .inl (SqL.of hl), ?_⟩
    rw [e]
    exact k _ s
theorem scis_formula_name : FnScope ["thing"] ["thing"] (defScope s_is_formula_name) := ⟨rfl, rfl, rfl, by decide +kernel, rfl, by decide +kernel, by decide +kernel⟩
theorem ok_is_formula_name (T : Txt w K mg t) : FnOk P w K mg base CX0 2 t.f_is_formula_name t.d_is_formula_name ["thing"] (spT1 frnT) := by
  have D := T.c_is_formula_name
  refine D.fn.ok scis_formula_name (fun vs H Q E h => ?_) (fun cdv A outer s H vs Q E hr h => ?_)
  · obtain ⟨v, th, rfl, _⟩ := h
    rfl
  · obtain ⟨v, th, rfl, h, k⟩ := h
    have hu := hr.units0
    have hu1 := hu_of hr
    refine ⟨_, ((pss_one (ps_ret (pe_and (pe_cl T.c_is_sheet_name (ok_is_sheet_name T) (hr.mono (by decide)) (pa_consN (pv 0) pa_nil)) (pe_one (pe_cmpR op_notIn_seq (pv 0) (pe_gtup T.v_WORDS) rfl)))))), ?_⟩
    cases id h with
    | non =>
      exact ⟨_, rfl, _, _, rfl, h, fun H1 s1 => ⟨false, rfl, iteF (k _ s1)⟩⟩
    | bl b =>
      exact ⟨_, rfl, _, _, rfl, h, fun H1 s1 => ⟨false, rfl, iteF (k _ s1)⟩⟩
    | int i =>
      exact ⟨_, rfl, _, _, rfl, h, fun H1 s1 => ⟨false, rfl, iteF (k _ s1)⟩⟩
    | str z hz =>
      refine ⟨_, rfl, _, _, rfl, h, fun H1 s1 => ⟨_, rfl, ?_⟩⟩
      have k' : ∀ H', Same H H' → Q (.bl (nameT (.str z) && !inV (.str z) WDV)) H' := k
      cases e1 : nameT (.str z) with
      | false => rw [e1] at k'; exact iteF (k' _ s1)
      | true => rw [e1] at k'; exact iteT ⟨_, rfl, fun b hb => ⟨b, _, rfl, .inr (hb _), rfl, wdv_flat, k' _ s1⟩⟩
    | @lst a xs e =>
      exact ⟨_, rfl, _, _, rfl, h, fun H1 s1 => ⟨false, rfl, iteF (k _ s1)⟩⟩
    | @dic a kvs e =>
      exact ⟨_, rfl, _, _, rfl, h, fun H1 s1 => ⟨false, rfl, iteF (k _ s1)⟩⟩
    | @tup a us ts e hn hh =>
      exact ⟨_, rfl, _, _, rfl, h, fun H1 s1 => ⟨false, rfl, iteF (k _ s1)⟩⟩
theorem scis_one_of : FnScope ["thing", "texts"] ["thing", "texts"] (defScope s_is_one_of) := ⟨rfl, rfl, rfl, by decide +kernel, rfl, by decide +kernel, by decide +kernel⟩
theorem ok_is_one_of (T : Txt w K mg t) : FnOk P w K mg base CX0 1 t.f_is_one_of t.d_is_one_of ["thing", "texts"] (spOne K) := by
  have D := T.c_is_one_of
  refine D.fn.ok scis_one_of (fun vs H Q E h => ?_) (fun cdv A outer s H vs Q E hr h => ?_)
  · obtain ⟨v, th, b, ys, rfl, _⟩ := h
    rfl
  · obtain ⟨v, th, b, ys, rfl, h, hb, hf, k⟩ := h
    have hu := hr.units0
    have hu1 := hu_of hr
    refine ⟨_, ((pss_one (ps_ret (pe_and (pe_callB call_isinst (by rfl) T.isinstance boot_isinstance (pa_consN (pv 0) (pa_consN (pe_typ T.str boot_str) pa_nil))) (pe_one (pe_cmpR op_in_seq (pv 0) (pv 1) rfl)))))), ?_⟩
    cases id h with
    | non =>
      exact ⟨_, rfl, _, _, _, _, false, rfl, h.ty, rfl, (fun _ => .inr trivial), T.ki_NoneType_str, false, rfl, iteF (k _ (Same.refl _))⟩
    | bl bb =>
      exact ⟨_, rfl, _, _, _, _, false, rfl, h.ty, rfl, (fun _ => .inr trivial), T.ki_bool_str, false, rfl, iteF (k _ (Same.refl _))⟩
    | int i =>
      exact ⟨_, rfl, _, _, _, _, false, rfl, h.ty, rfl, (fun _ => .inr trivial), T.ki_int_str, false, rfl, iteF (k _ (Same.refl _))⟩
    | str z hz =>
      refine ⟨_, rfl, _, _, _, _, true, rfl, h.ty, rfl, (fun _ => .inr trivial), T.ki_str_str, true, rfl, iteT ?_⟩
      exact ⟨_, rfl, _, rfl, b, ys, rfl, .inr (hb _), rfl, hf, k _ (Same.refl _)⟩
    | @lst a xs e =>
      exact ⟨_, rfl, _, _, _, _, false, rfl, h.ty, rfl, (fun _ => .inr trivial), T.ki_list_str, false, rfl, iteF (k _ (Same.refl _))⟩
    | @dic a kvs e =>
      exact ⟨_, rfl, _, _, _, _, false, rfl, h.ty, rfl, (fun _ => .inr trivial), T.ki_dict_str, false, rfl, iteF (k _ (Same.refl _))⟩
    | @tup a us ts e hn hh =>
      exact ⟨_, rfl, _, _, _, _, false, rfl, h.ty, rfl, (fun _ => .inr trivial), T.ki_tuple_str, false, rfl, iteF (k _ (Same.refl _))⟩
theorem scis_written_value : FnScope ["thing"] ["thing"] (defScope s_is_written_value) := ⟨rfl, rfl, rfl, by decide +kernel, rfl, by decide +kernel, by decide +kernel⟩
theorem ok_is_written_value (T : Txt w K mg t) : FnOk P w K mg base CX0 5 t.f_is_written_value t.d_is_written_value ["thing"] (spT1 wrT) := by
  have D := T.c_is_written_value
  refine D.fn.ok scis_written_value (fun vs H Q E h => ?_) (fun cdv A outer s H vs Q E hr h => ?_)
  · obtain ⟨v, th, rfl, _⟩ := h
    rfl
  · obtain ⟨v, th, rfl, h, k⟩ := h
    have hu := hr.units0
    have hu1 := hu_of hr
    refine ⟨_, ((pss_cons (ps_if (pt_not (pt_val (pe_cl T.c_is_value (ok_is_value T) (hr.mono (by decide)) (pa_consN (pv 0) pa_nil)))) (pss_one (ps_ret pe_bl)) pss_nil)
      (pss_cons (ps_if (pt_cmpR op_eq (pe_ix ix_tup (pv 0) pe_int (fun _ _ => rfl)) pe_str (nomark _)) (pss_one (ps_ret (pe_and (pe_cmpR op_eq (pe_ix ix_tup (pv 0) pe_int (fun _ _ => rfl)) pe_int (nomark _)) (pe_and (pe_cmpR op_le pe_int (pe_ix ix_tup (pv 0) pe_int (fun _ _ => rfl)) (nomark _)) (pe_one (pe_cmpR op_le (pe_ix ix_tup (pv 0) pe_int (fun _ _ => rfl)) (pe_gint T.v_GREATEST_WRITTEN) (nomark _))))))) pss_nil)
      (pss_one (ps_ret (pe_or (pe_cmpR op_eq (pe_ix ix_tup (pv 0) pe_int (fun _ _ => rfl)) pe_str (nomark _)) (pe_one (pe_cmpR op_eq (pe_ix ix_tup (pv 0) pe_int (fun _ _ => rfl)) pe_str (nomark _))))))))), ?_⟩
    cases id h with
    | non =>
      exact ⟨_, rfl, _, _, rfl, h, fun H1 s1 => ⟨false, rfl, iteT (k _ s1)⟩⟩
    | bl b =>
      exact ⟨_, rfl, _, _, rfl, h, fun H1 s1 => ⟨false, rfl, iteT (k _ s1)⟩⟩
    | int i =>
      exact ⟨_, rfl, _, _, rfl, h, fun H1 s1 => ⟨false, rfl, iteT (k _ s1)⟩⟩
    | str z hz =>
      exact ⟨_, rfl, _, _, rfl, h, fun H1 s1 => ⟨false, rfl, iteT (k _ s1)⟩⟩
    | @lst a xs e =>
      exact ⟨_, rfl, _, _, rfl, h, fun H1 s1 => ⟨false, rfl, iteT (k _ s1)⟩⟩
    | @dic a kvs e =>
      exact ⟨_, rfl, _, _, rfl, h, fun H1 s1 => ⟨false, rfl, iteT (k _ s1)⟩⟩
    | @tup a us ts e hn hh =>
      have p := ThAt.toP hn hh
      refine ⟨_, rfl, _, _, rfl, h, fun H1 s1 => ⟨_, rfl, ?_⟩⟩
      cases e1 : valT (.tup ts) with
      | false => exact iteT (rtv (by rw [wr_no e1]) (k _ s1))
      | true =>
        refine iteF ?_
        have e' := s1 _ _ e
        obtain ⟨k0, ts', rfl⟩ := val_shape e1
        rw [wr_eq e1] at k
        cases p with | cons p0 p =>
        cases p0
        by_cases hk : k0 = zS "number"
        · subst hk
          obtain ⟨x, y, rfl⟩ := val_num e1
          cases p with | cons p1 p => cases p with | cons p2 p => cases p with | nil =>
          cases p1; cases p2
          rw [wrR_num] at k
          refine ⟨_, rfl, a, _, _, _, rfl, rfl, SqT.of e', atI_hd, rfl, true, (by decide +kernel), iteT ?_⟩
          exact ⟨_, rfl, a, _, _, _, rfl, rfl, SqT.of e', atI_2, rfl, andP (fun k => ⟨_, rfl, a, _, _, _, rfl, rfl, SqT.of e', atI_1, _, _, rfl, rfl, andP (fun k => ⟨_, rfl, a, _, _, _, rfl, rfl, SqT.of e', atI_1, _, _, rfl, rfl, k⟩) k⟩) (k _ s1)⟩
        · rw [wrR_no hk] at k
          refine ⟨_, rfl, a, _, _, _, rfl, rfl, SqT.of e', atI_hd, rfl, false, strN hk, iteF ?_⟩
          by_cases ht : k0 = zS "text"
          · exact ⟨_, rfl, a, _, _, _, rfl, rfl, SqT.of e', atI_hd, rfl, true, strT ht, iteT (rtv (by rw [decide_eq_true ht]; rfl) (k _ s1))⟩
          · exact ⟨_, rfl, a, _, _, _, rfl, rfl, SqT.of e', atI_hd, rfl, false, strN ht, iteF ⟨_, rfl, a, _, _, _, rfl, rfl, SqT.of e', atI_hd, rfl, rtv (by rw [decide_eq_false ht, Bool.false_or]; exact strD) (k _ s1)⟩⟩
theorem scis_sheet_or_none : FnScope ["thing"] ["thing"] (defScope s_is_sheet_or_none) := ⟨rfl, rfl, rfl, by decide +kernel, rfl, by decide +kernel, by decide +kernel⟩
theorem ok_is_sheet_or_none (T : Txt w K mg t) : FnOk P w K mg base CX0 2 t.f_is_sheet_or_none t.d_is_sheet_or_none ["thing"] (spT1 shnT) := by
  have D := T.c_is_sheet_or_none
  refine D.fn.ok scis_sheet_or_none (fun vs H Q E h => ?_) (fun cdv A outer s H vs Q E hr h => ?_)
  · obtain ⟨v, th, rfl, _⟩ := h
    rfl
  · obtain ⟨v, th, rfl, h, k⟩ := h
    have hu := hr.units0
    have hu1 := hu_of hr
    refine ⟨_, ((pss_one (ps_ret (pe_or (pe_cmpR op_isN (pv 0) pe_non (nomark _)) (pe_one (pe_cl T.c_is_sheet_name (ok_is_sheet_name T) (hr.mono (by decide)) (pa_consN (pv 0) pa_nil))))))), ?_⟩
    cases id h with
    | non =>
      exact ⟨_, rfl, rfl, true, rfl, iteT (k _ (Same.refl _))⟩
    | bl b =>
      exact ⟨_, rfl, rfl, false, rfl, iteF ⟨_, rfl, _, _, rfl, h, k⟩⟩
    | int i =>
      exact ⟨_, rfl, rfl, false, rfl, iteF ⟨_, rfl, _, _, rfl, h, k⟩⟩
    | str z hz =>
      exact ⟨_, rfl, rfl, false, rfl, iteF ⟨_, rfl, _, _, rfl, h, k⟩⟩
    | @lst a xs e =>
      exact ⟨_, rfl, rfl, false, rfl, iteF ⟨_, rfl, _, _, rfl, h, k⟩⟩
    | @dic a kvs e =>
      exact ⟨_, rfl, rfl, false, rfl, iteF ⟨_, rfl, _, _, rfl, h, k⟩⟩
    | @tup a us ts e hn hh =>
      exact ⟨_, rfl, rfl, false, rfl, iteF ⟨_, rfl, _, _, rfl, h, k⟩⟩
theorem scis_corner : FnScope ["thing", "stands"] ["thing"] (defScope s_is_corner) := ⟨rfl, rfl, rfl, by decide +kernel, rfl, by decide +kernel, by decide +kernel⟩
theorem ok_is_corner (T : Txt w K mg t) : FnOk P w K mg base CX0 3 t.f_is_corner t.d_is_corner ["thing"] (spT1 cornT) := by
  have D := T.c_is_corner
  refine D.fn.ok scis_corner (fun vs H Q E h => ?_) (fun cdv A outer s H vs Q E hr h => ?_)
  · obtain ⟨v, th, rfl, _⟩ := h
    rfl
  · obtain ⟨v, th, rfl, h, k⟩ := h
    have hu := hr.units0
    have hu1 := hu_of hr
    refine ⟨_, ((pss_cons (ps_if (pw_or (pt_not (pt_val (pe_callB call_isinst (by rfl) T.isinstance boot_isinstance (pa_consN (pv 0) (pa_consN (pe_typ T.tuple boot_tuple) pa_nil))))) (pw_or1 (pt_cmpR op_ne (pe_callB call_len_seq (by rfl) T.len PySem.boot_len (pa_consN (pv 0) pa_nil)) pe_int (nomark _)))).pt (pss_one (ps_ret pe_bl)) pss_nil)
      (pss_cons (ps_set (i := 1) scis_corner.nd rfl (Or.inl rfl) (pe_and (pe_callB call_isinst (by rfl) T.isinstance boot_isinstance (pa_consS (pe_ix ix_tup (pv 0) pe_int (fun _ _ => rfl)) (pa_consN (pe_typ T.bool boot_bool) pa_nil))) (pe_one (pe_callB call_isinst (by rfl) T.isinstance boot_isinstance (pa_consS (pe_ix ix_tup (pv 0) pe_int (fun _ _ => rfl)) (pa_consN (pe_typ T.bool boot_bool) pa_nil))))))
      (pss_one (ps_ret (pe_and (pv 1) (pe_and (pe_cl T.c_is_within (ok_is_within T) (hr.mono (by decide)) (pa_consS (pe_ix ix_tup (pv 0) pe_int (fun _ _ => rfl)) (pa_consN (pe_gint T.v_LAST_ROW) pa_nil))) (pe_one (pe_cl T.c_is_within (ok_is_within T) (hr.mono (by decide)) (pa_consS (pe_ix ix_tup (pv 0) pe_int (fun _ _ => rfl)) (pa_consN (pe_gint T.v_LAST_COLUMN) pa_nil))))))))))), ?_⟩
    cases id h with
    | non =>
      exact ⟨_, rfl, _, _, _, _, false, rfl, h.ty, rfl, (fun _ => .inr trivial), T.ki_NoneType_tuple, false, rfl, iteT (iteT (k _ (Same.refl _)))⟩
    | bl b =>
      exact ⟨_, rfl, _, _, _, _, false, rfl, h.ty, rfl, (fun _ => .inr trivial), T.ki_bool_tuple, false, rfl, iteT (iteT (k _ (Same.refl _)))⟩
    | int i =>
      exact ⟨_, rfl, _, _, _, _, false, rfl, h.ty, rfl, (fun _ => .inr trivial), T.ki_int_tuple, false, rfl, iteT (iteT (k _ (Same.refl _)))⟩
    | str z hz =>
      exact ⟨_, rfl, _, _, _, _, false, rfl, h.ty, rfl, (fun _ => .inr trivial), T.ki_str_tuple, false, rfl, iteT (iteT (k _ (Same.refl _)))⟩
    | @lst a xs e =>
      exact ⟨_, rfl, _, _, _, _, false, rfl, h.ty, rfl, (fun _ => .inr trivial), T.ki_list_tuple, false, rfl, iteT (iteT (k _ (Same.refl _)))⟩
    | @dic a kvs e =>
      exact ⟨_, rfl, _, _, _, _, false, rfl, h.ty, rfl, (fun _ => .inr trivial), T.ki_dict_tuple, false, rfl, iteT (iteT (k _ (Same.refl _)))⟩
    | @tup a us ts e hn hh =>
      have p := ThAt.toP hn hh
      refine ⟨_, rfl, _, _, _, _, true, rfl, h.ty, rfl, (fun _ => .inr trivial), T.ki_tuple_tuple, true, rfl, iteF ?_⟩
      by_cases hl : us.length = 4
      · refine ⟨_, rfl, a, _, rfl, .inr (SqT.of e), rfl, false, lenNF (by omega), iteF ?_⟩
        obtain ⟨u0, u1, u2, u3, rfl⟩ : ∃ u0 u1 u2 u3, us = [u0, u1, u2, u3] := kid4 hl
        cases p with | cons p0 p => cases p with | cons p1 p => cases p with | cons p2 p => cases p with | cons p3 p => cases p with | nil =>
        rename_i t0 t1 t2 t3
        have k : ∀ H', Same H H' → Q (.bl (isBl t2 && isBl t3 && withT 16 t0 && withT 8 t1)) H' := k
        refine ⟨_, rfl, a, _, _, _, rfl, rfl, SqT.of e, atI_2, _, _, _, _, (isBl t2), rfl, p2.ty, rfl, (fun _ => .inr trivial), kiBl T t2, andP (fun q => ⟨_, rfl, a, _, _, _, rfl, rfl, SqT.of e, atI_3, _, _, _, _, (isBl t3), rfl, p3.ty, rfl, (fun _ => .inr trivial), kiBl T t3, q⟩) ?_⟩
        refine ⟨_, rfl, _, rfl, ?_⟩
        cases e2 : (isBl t2 && isBl t3) with
        | false => rw [e2] at k; exact iteF (k _ (Same.refl _))
        | true =>
          rw [e2] at k
          refine iteT ⟨_, rfl, a, _, _, _, rfl, rfl, SqT.of e, atI_hd, u0, t0, 16, rfl, p0, fun H2 s2 => ⟨_, rfl, ?_⟩⟩
          cases e3 : withT 16 t0 with
          | false => rw [e3] at k; exact iteF (k _ s2)
          | true =>
            rw [e3] at k
            exact iteT ⟨_, rfl, a, _, _, _, rfl, rfl, SqT.of (s2 _ _ e), atI_1, u1, t1, 8, rfl, p1.same s2, fun H3 s3 => k _ (s2.trans s3)⟩
      · refine ⟨_, rfl, a, _, rfl, .inr (SqT.of e), rfl, true, lenNT (by omega), iteT (rtv ?_ (k _ (Same.refl _)))⟩
        rw [corn_not4 (by rw [← hn]; exact hl)]
theorem scis_column_end : FnScope ["thing"] ["thing"] (defScope s_is_column_end) := ⟨rfl, rfl, rfl, by decide +kernel, rfl, by decide +kernel, by decide +kernel⟩
theorem ok_is_column_end (T : Txt w K mg t) : FnOk P w K mg base CX0 3 t.f_is_column_end t.d_is_column_end ["thing"] (spT1 colmT) := by
  have D := T.c_is_column_end
  refine D.fn.ok scis_column_end (fun vs H Q E h => ?_) (fun cdv A outer s H vs Q E hr h => ?_)
  · obtain ⟨v, th, rfl, _⟩ := h
    rfl
  · obtain ⟨v, th, rfl, h, k⟩ := h
    have hu := hr.units0
    have hu1 := hu_of hr
    refine ⟨_, ((pss_cons (ps_if (pw_or (pt_not (pt_val (pe_callB call_isinst (by rfl) T.isinstance boot_isinstance (pa_consN (pv 0) (pa_consN (pe_typ T.tuple boot_tuple) pa_nil))))) (pw_or1 (pt_cmpR op_ne (pe_callB call_len_seq (by rfl) T.len PySem.boot_len (pa_consN (pv 0) pa_nil)) pe_int (nomark _)))).pt (pss_one (ps_ret pe_bl)) pss_nil)
      (pss_one (ps_ret (pe_and (pe_cl T.c_is_within (ok_is_within T) (hr.mono (by decide)) (pa_consS (pe_ix ix_tup (pv 0) pe_int (fun _ _ => rfl)) (pa_consN (pe_gint T.v_LAST_COLUMN) pa_nil))) (pe_one (pe_callB call_isinst (by rfl) T.isinstance boot_isinstance (pa_consS (pe_ix ix_tup (pv 0) pe_int (fun _ _ => rfl)) (pa_consN (pe_typ T.bool boot_bool) pa_nil))))))))), ?_⟩
    cases id h with
    | non =>
      exact ⟨_, rfl, _, _, _, _, false, rfl, h.ty, rfl, (fun _ => .inr trivial), T.ki_NoneType_tuple, false, rfl, iteT (iteT (k _ (Same.refl _)))⟩
    | bl b =>
      exact ⟨_, rfl, _, _, _, _, false, rfl, h.ty, rfl, (fun _ => .inr trivial), T.ki_bool_tuple, false, rfl, iteT (iteT (k _ (Same.refl _)))⟩
    | int i =>
      exact ⟨_, rfl, _, _, _, _, false, rfl, h.ty, rfl, (fun _ => .inr trivial), T.ki_int_tuple, false, rfl, iteT (iteT (k _ (Same.refl _)))⟩
    | str z hz =>
      exact ⟨_, rfl, _, _, _, _, false, rfl, h.ty, rfl, (fun _ => .inr trivial), T.ki_str_tuple, false, rfl, iteT (iteT (k _ (Same.refl _)))⟩
    | @lst a xs e =>
      exact ⟨_, rfl, _, _, _, _, false, rfl, h.ty, rfl, (fun _ => .inr trivial), T.ki_list_tuple, false, rfl, iteT (iteT (k _ (Same.refl _)))⟩
    | @dic a kvs e =>
      exact ⟨_, rfl, _, _, _, _, false, rfl, h.ty, rfl, (fun _ => .inr trivial), T.ki_dict_tuple, false, rfl, iteT (iteT (k _ (Same.refl _)))⟩
    | @tup a us ts e hn hh =>
      have p := ThAt.toP hn hh
      refine ⟨_, rfl, _, _, _, _, true, rfl, h.ty, rfl, (fun _ => .inr trivial), T.ki_tuple_tuple, true, rfl, iteF ?_⟩
      by_cases hl : us.length = 2
      · refine ⟨_, rfl, a, _, rfl, .inr (SqT.of e), rfl, false, lenNF (by omega), iteF ?_⟩
        obtain ⟨u0, u1, rfl⟩ : ∃ u0 u1, us = [u0, u1] := kid2 hl
        cases p with | cons p0 p => cases p with | cons p1 p => cases p with | nil =>
        rename_i t0 t1
        have k : ∀ H', Same H H' → Q (.bl (withT 8 t0 && isBl t1)) H' := k
        refine ⟨_, rfl, a, _, _, _, rfl, rfl, SqT.of e, atI_hd, u0, t0, 8, rfl, p0, fun H2 s2 => ⟨_, rfl, ?_⟩⟩
        cases e3 : withT 8 t0 with
        | false => rw [e3] at k; exact iteF (k _ s2)
        | true =>
          rw [e3] at k
          exact iteT ⟨_, rfl, a, _, _, _, rfl, rfl, SqT.of (s2 _ _ e), atI_1, _, _, _, _, (isBl t1), rfl, (p1.same s2).ty, rfl, (fun _ => .inr trivial), kiBl T t1, k _ s2⟩
      · refine ⟨_, rfl, a, _, rfl, .inr (SqT.of e), rfl, true, lenNT (by omega), iteT (rtv ?_ (k _ (Same.refl _)))⟩
        rw [colm_not2 (by rw [← hn]; exact hl)]
theorem scis_reference : FnScope ["thing"] ["thing"] (defScope s_is_reference) := ⟨rfl, rfl, rfl, by decide +kernel, rfl, by decide +kernel, by decide +kernel⟩
theorem ok_is_reference (T : Txt w K mg t) : FnOk P w K mg base CX0 4 t.f_is_reference t.d_is_reference ["thing"] spRf := by
  have D := T.c_is_reference
  refine D.fn.ok scis_reference (fun vs H Q E h => ?_) (fun cdv A outer s H vs Q E hr h => ?_)
  · obtain ⟨v, k0, ts, rfl, _⟩ := h
    rfl
  · obtain ⟨v, k0, ts, rfl, h, hk, k⟩ := h
    have hu := hr.units0
    have hu1 := hu_of hr
    refine ⟨_, ((pss_cons (ps_if (pt_not (pt_val (pe_cl T.c_is_sheet_or_none (ok_is_sheet_or_none T) (hr.mono (by decide)) (pa_consS (pe_ix ix_tup (pv 0) pe_int (fun _ _ => rfl)) pa_nil)))) (pss_one (ps_ret pe_bl)) pss_nil)
      (pss_cons (ps_if (pt_cmpR op_eq (pe_ix ix_tup (pv 0) pe_int (fun _ _ => rfl)) pe_str (nomark _)) (pss_one (ps_ret (pe_and (pe_cl T.c_is_column_end (ok_is_column_end T) (hr.mono (by decide)) (pa_consS (pe_ix ix_tup (pv 0) pe_int (fun _ _ => rfl)) pa_nil)) (pe_and (pe_cl T.c_is_column_end (ok_is_column_end T) (hr.mono (by decide)) (pa_consS (pe_ix ix_tup (pv 0) pe_int (fun _ _ => rfl)) pa_nil)) (pe_one (pe_cmpR op_le (pe_ix ix_tup (pe_ix ix_tup (pv 0) pe_int (fun _ _ => rfl)) pe_int (fun _ _ => rfl)) (pe_ix ix_tup (pe_ix ix_tup (pv 0) pe_int (fun _ _ => rfl)) pe_int (fun _ _ => rfl)) (nomark _))))))) pss_nil)
      (pss_cons (ps_if (pt_not (pt_val (pe_cl T.c_is_corner (ok_is_corner T) (hr.mono (by decide)) (pa_consS (pe_ix ix_tup (pv 0) pe_int (fun _ _ => rfl)) pa_nil)))) (pss_one (ps_ret pe_bl)) pss_nil)
      (pss_cons (ps_if (pt_cmpR op_eq (pe_ix ix_tup (pv 0) pe_int (fun _ _ => rfl)) pe_str (nomark _)) (pss_one (ps_ret pe_bl)) pss_nil)
      (pss_one (ps_ret (pe_and (pe_cl T.c_is_corner (ok_is_corner T) (hr.mono (by decide)) (pa_consS (pe_ix ix_tup (pv 0) pe_int (fun _ _ => rfl)) pa_nil)) (pe_and (pe_cmpR op_le (pe_ix ix_tup (pe_ix ix_tup (pv 0) pe_int (fun _ _ => rfl)) pe_int (fun _ _ => rfl)) (pe_ix ix_tup (pe_ix ix_tup (pv 0) pe_int (fun _ _ => rfl)) pe_int (fun _ _ => rfl)) (nomark _)) (pe_one (pe_cmpR op_le (pe_ix ix_tup (pe_ix ix_tup (pv 0) pe_int (fun _ _ => rfl)) pe_int (fun _ _ => rfl)) (pe_ix ix_tup (pe_ix ix_tup (pv 0) pe_int (fun _ _ => rfl)) pe_int (fun _ _ => rfl)) (nomark _)))))))))))), ?_⟩
    obtain ⟨a, us, rfl, e, p⟩ := tup_shape h
    cases p with | cons p0 p =>
    cases p0
    rcases hk with ⟨rfl, hl⟩ | ⟨rfl, hl⟩ | ⟨rfl, hl⟩
    · obtain ⟨t1, t2, rfl⟩ := kid2 hl
      cases p with | cons p1 p => cases p with | cons p2 p => cases p with | nil =>
      rw [ref_cell] at k
      refine ⟨_, rfl, a, _, _, _, rfl, rfl, SqT.of e, atI_1, _, t1, rfl, p1, fun H1 s1 => ⟨_, rfl, ?_⟩⟩
      cases e1 : shnT t1 with
      | false => rw [e1] at k; exact iteT (k _ s1)
      | true =>
        rw [e1] at k
        refine iteF ?_
        have e' := s1 _ _ e
        refine ⟨_, rfl, a, _, _, _, rfl, rfl, SqT.of e', atI_hd, rfl, false, (by decide +kernel), iteF ?_⟩
        refine ⟨_, rfl, a, _, _, _, rfl, rfl, SqT.of e', atI_2, _, t2, rfl, p2.same s1, fun H2 s2 => ⟨_, rfl, ?_⟩⟩
        cases e2 : cornT t2 with
        | false => rw [e2] at k; exact iteT (k _ (s1.trans s2))
        | true =>
          rw [e2] at k
          exact iteF ⟨_, rfl, a, _, _, _, rfl, rfl, SqT.of (s2 _ _ e'), atI_hd, rfl, true, (by decide +kernel), iteT (k _ (s1.trans s2))⟩
    · obtain ⟨t1, t2, t3, rfl⟩ := kid3 hl
      cases p with | cons p1 p => cases p with | cons p2 p => cases p with | cons p3 p => cases p with | nil =>
      rw [ref_range] at k
      refine ⟨_, rfl, a, _, _, _, rfl, rfl, SqT.of e, atI_1, _, t1, rfl, p1, fun H1 s1 => ⟨_, rfl, ?_⟩⟩
      cases e1 : shnT t1 with
      | false => rw [e1] at k; exact iteT (k _ s1)
      | true =>
        rw [e1, Bool.true_and] at k
        refine iteF ?_
        have e' := s1 _ _ e
        refine ⟨_, rfl, a, _, _, _, rfl, rfl, SqT.of e', atI_hd, rfl, false, (by decide +kernel), iteF ?_⟩
        refine ⟨_, rfl, a, _, _, _, rfl, rfl, SqT.of e', atI_2, _, t2, rfl, p2.same s1, fun H2 s2 => ⟨_, rfl, ?_⟩⟩
        have s12 := s1.trans s2
        have e'' := s2 _ _ e'
        cases e2 : cornT t2 with
        | false => rw [rng_no1 e2] at k; exact iteT (k _ s12)
        | true =>
          refine iteF ⟨_, rfl, a, _, _, _, rfl, rfl, SqT.of e'', atI_hd, rfl, false, (by decide +kernel), iteF ?_⟩
          refine ⟨_, rfl, a, _, _, _, rfl, rfl, SqT.of e'', atI_3, _, t3, rfl, p3.same s12, fun H3 s3 => ⟨_, rfl, ?_⟩⟩
          have s13 := s12.trans s3
          have e3' := s3 _ _ e''
          cases e3 : cornT t3 with
          | false => rw [rng_no2 e3] at k; exact iteF (k _ s13)
          | true =>
            obtain ⟨i, j, b, c, rfl⟩ := corn_shape e2
            obtain ⟨i', j', b', c', rfl⟩ := corn_shape e3
            rw [rng_yes e2 e3] at k
            obtain ⟨q, vs1, rfl, hq, pq⟩ := tup_shape (p2.same s13)
            obtain ⟨q', vs2, rfl, hq', pq'⟩ := tup_shape (p3.same s13)
            cases pq with | cons q0 pq => cases pq with | cons q1 pq =>
            cases pq' with | cons q0' pq' => cases pq' with | cons q1' pq' =>
            cases q0; cases q1; cases q0'; cases q1'
            exact iteT ⟨_, rfl, a, _, _, _, rfl, rfl, SqT.of e3', atI_2, q, _, _, _, rfl, rfl, SqT.of hq, atI_hd, _, rfl, a, _, _, _, rfl, rfl, SqT.of e3', atI_3, q', _, _, _, rfl, rfl, SqT.of hq', atI_hd, _, _, rfl, rfl, andP (fun k => ⟨_, rfl, a, _, _, _, rfl, rfl, SqT.of e3', atI_2, q, _, _, _, rfl, rfl, SqT.of hq, atI_1, _, rfl, a, _, _, _, rfl, rfl, SqT.of e3', atI_3, q', _, _, _, rfl, rfl, SqT.of hq', atI_1, _, _, rfl, rfl, k⟩) (k _ s13)⟩
    · obtain ⟨t1, t2, t3, rfl⟩ := kid3 hl
      cases p with | cons p1 p => cases p with | cons p2 p => cases p with | cons p3 p => cases p with | nil =>
      rw [ref_columns] at k
      refine ⟨_, rfl, a, _, _, _, rfl, rfl, SqT.of e, atI_1, _, t1, rfl, p1, fun H1 s1 => ⟨_, rfl, ?_⟩⟩
      cases e1 : shnT t1 with
      | false => rw [e1] at k; exact iteT (k _ s1)
      | true =>
        rw [e1, Bool.true_and] at k
        refine iteF ?_
        have e' := s1 _ _ e
        refine ⟨_, rfl, a, _, _, _, rfl, rfl, SqT.of e', atI_hd, rfl, true, (by decide +kernel), iteT ?_⟩
        refine ⟨_, rfl, a, _, _, _, rfl, rfl, SqT.of e', atI_2, _, t2, rfl, p2.same s1, fun H2 s2 => ⟨_, rfl, ?_⟩⟩
        have s12 := s1.trans s2
        have e'' := s2 _ _ e'
        cases e2 : colmT t2 with
        | false => rw [cols_no1 e2] at k; exact iteF (k _ s12)
        | true =>
          refine iteT ⟨_, rfl, a, _, _, _, rfl, rfl, SqT.of e'', atI_3, _, t3, rfl, p3.same s12, fun H3 s3 => ⟨_, rfl, ?_⟩⟩
          have s13 := s12.trans s3
          have e3' := s3 _ _ e''
          cases e3 : colmT t3 with
          | false => rw [cols_no2 e3] at k; exact iteF (k _ s13)
          | true =>
            obtain ⟨i, b, rfl⟩ := colm_shape e2
            obtain ⟨i', b', rfl⟩ := colm_shape e3
            rw [cols_yes e2 e3] at k
            obtain ⟨q, vs1, rfl, hq, pq⟩ := tup_shape (p2.same s13)
            obtain ⟨q', vs2, rfl, hq', pq'⟩ := tup_shape (p3.same s13)
            cases pq with | cons q0 pq =>
            cases pq' with | cons q0' pq' =>
            cases q0; cases q0'
            exact iteT ⟨_, rfl, a, _, _, _, rfl, rfl, SqT.of e3', atI_2, q, _, _, _, rfl, rfl, SqT.of hq, atI_hd, _, rfl, a, _, _, _, rfl, rfl, SqT.of e3', atI_3, q', _, _, _, rfl, rfl, SqT.of hq', atI_hd, _, _, rfl, rfl, k _ s13⟩
theorem scis_called : FnScope ["thing"] ["thing"] (defScope s_is_called) := ⟨rfl, rfl, rfl, by decide +kernel, rfl, by decide +kernel, by decide +kernel⟩
theorem ok_is_called (T : Txt w K mg t) : FnOk P w K mg base CX0 3 t.f_is_called t.d_is_called ["thing"] spCal := by
  have D := T.c_is_called
  refine D.fn.ok scis_called (fun vs H Q E h => ?_) (fun cdv A outer s H vs Q E hr h => ?_)
  · obtain ⟨v, k0, ts, rfl, _⟩ := h
    rfl
  · obtain ⟨v, k0, ts, rfl, h, hk, k⟩ := h
    have hu := hr.units0
    have hu1 := hu_of hr
    refine ⟨_, ((pss_cons (ps_if (pt_not (pt_val (pe_cl T.c_is_formula_name (ok_is_formula_name T) (hr.mono (by decide)) (pa_consS (pe_ix ix_tup (pv 0) pe_int (fun _ _ => rfl)) pa_nil)))) (pss_one (ps_ret pe_bl)) pss_nil)
      (pss_cons (ps_if (pt_cmpR op_eq (pe_ix ix_tup (pv 0) pe_int (fun _ _ => rfl)) pe_str (nomark _)) (pss_one (ps_ret pe_bl)) pss_nil)
      (pss_one (ps_ret (pe_and (pe_callB call_isinst (by rfl) T.isinstance boot_isinstance (pa_consS (pe_ix ix_tup (pv 0) pe_int (fun _ _ => rfl)) (pa_consN (pe_typ T.tuple boot_tuple) pa_nil))) (pe_one (pe_cmpR op_le (pe_callB call_len_seq (by rfl) T.len PySem.boot_len (pa_consS (pe_ix ix_tup (pv 0) pe_int (fun _ _ => rfl)) pa_nil)) (pe_gint T.v_MOST_OWN_PARTS) (nomark _))))))))), ?_⟩
    obtain ⟨a, us, rfl, e, p⟩ := tup_shape h
    cases p with | cons p0 p =>
    cases p0
    rcases hk with ⟨rfl, hl⟩ | ⟨rfl, hl⟩
    · obtain ⟨t1, rfl⟩ := kid1 hl
      cases p with | cons p1 p => cases p with | nil =>
      rw [cal_name] at k
      refine ⟨_, rfl, a, _, _, _, rfl, rfl, SqT.of e, atI_1, _, t1, rfl, p1, fun H1 s1 => ⟨_, rfl, ?_⟩⟩
      cases e1 : frnT t1 with
      | false => rw [e1] at k; exact iteT (k _ s1)
      | true =>
        rw [e1] at k
        have e' := s1 _ _ e
        exact iteF ⟨_, rfl, a, _, _, _, rfl, rfl, SqT.of e', atI_hd, rfl, true, (by decide +kernel), iteT (k _ s1)⟩
    · obtain ⟨t1, t2, rfl⟩ := kid2 hl
      cases p with | cons p1 p => cases p with | cons p2 p => cases p with | nil =>
      rw [cal_own] at k
      refine ⟨_, rfl, a, _, _, _, rfl, rfl, SqT.of e, atI_1, _, t1, rfl, p1, fun H1 s1 => ⟨_, rfl, ?_⟩⟩
      cases e1 : frnT t1 with
      | false => rw [e1] at k; exact iteT (k _ s1)
      | true =>
        rw [e1, Bool.true_and] at k
        refine iteF ?_
        have e' := s1 _ _ e
        refine ⟨_, rfl, a, _, _, _, rfl, rfl, SqT.of e', atI_hd, rfl, false, (by decide +kernel), iteF ?_⟩
        have h2 := p2.same s1
        cases id h2 with
        | non => exact ⟨_, rfl, a, _, _, _, rfl, rfl, SqT.of e', atI_2, _, _, _, _, false, rfl, h2.ty, rfl, (fun _ => .inr trivial), T.ki_NoneType_tuple, false, rfl, iteF (k _ s1)⟩
        | bl b => exact ⟨_, rfl, a, _, _, _, rfl, rfl, SqT.of e', atI_2, _, _, _, _, false, rfl, h2.ty, rfl, (fun _ => .inr trivial), T.ki_bool_tuple, false, rfl, iteF (k _ s1)⟩
        | int i => exact ⟨_, rfl, a, _, _, _, rfl, rfl, SqT.of e', atI_2, _, _, _, _, false, rfl, h2.ty, rfl, (fun _ => .inr trivial), T.ki_int_tuple, false, rfl, iteF (k _ s1)⟩
        | str z hz => exact ⟨_, rfl, a, _, _, _, rfl, rfl, SqT.of e', atI_2, _, _, _, _, false, rfl, h2.ty, rfl, (fun _ => .inr trivial), T.ki_str_tuple, false, rfl, iteF (k _ s1)⟩
        | @lst b2 xs2 e2 => exact ⟨_, rfl, a, _, _, _, rfl, rfl, SqT.of e', atI_2, _, _, _, _, false, rfl, h2.ty, rfl, (fun _ => .inr trivial), T.ki_list_tuple, false, rfl, iteF (k _ s1)⟩
        | @dic b2 kvs2 e2 => exact ⟨_, rfl, a, _, _, _, rfl, rfl, SqT.of e', atI_2, _, _, _, _, false, rfl, h2.ty, rfl, (fun _ => .inr trivial), T.ki_dict_tuple, false, rfl, iteF (k _ s1)⟩
        | @tup b2 us2 ts2 e2 hn2 hh2 => exact ⟨_, rfl, a, _, _, _, rfl, rfl, SqT.of e', atI_2, _, _, _, _, true, rfl, h2.ty, rfl, (fun _ => .inr trivial), T.ki_tuple_tuple, true, rfl, iteT ⟨_, rfl, a, _, _, _, rfl, rfl, SqT.of e', atI_2, b2, _, rfl, .inr (SqT.of e2), _, _, rfl, rfl, rtv (by rw [hn2]; exact congrArg V.bl leI3) (k _ s1)⟩⟩
theorem scis_param : FnScope ["thing", "params"] ["thing", "params"] (defScope s_is_param) := ⟨rfl, rfl, rfl, by decide +kernel, rfl, by decide +kernel, by decide +kernel⟩
theorem ok_is_param (T : Txt w K mg t) : FnOk P w K mg base CX0 2 t.f_is_param t.d_is_param ["thing", "params"] spPar := by
  have D := T.c_is_param
  refine D.fn.ok scis_param (fun vs H Q E h => ?_) (fun cdv A outer s H vs Q E hr h => ?_)
  · obtain ⟨v, th, pr, rfl, _⟩ := h
    rfl
  · obtain ⟨v, th, pr, rfl, h, k⟩ := h
    have hu := hr.units0
    have hu1 := hu_of hr
    refine ⟨_, ((pss_one (ps_ret (pe_and (pe_cl T.c_is_whole (ok_is_whole T) (hr.mono (by decide)) (pa_consN (pv 0) pa_nil)) (pe_and (pe_cmpR op_le pe_int (pv 0) (nomark _)) (pe_one (pe_cmpR op_lt (pv 0) (pe_callB (call_min2 rfl) (by rfl) T.min boot_min (pa_consN (pv 1) (pa_consN (pe_gint T.v_MOST_PARAMS) pa_nil))) (nomark _)))))))), ?_⟩
    cases id h with
    | non =>
      exact ⟨_, rfl, _, _, rfl, h, fun H1 s1 => ⟨false, rfl, iteF (k _ s1)⟩⟩
    | bl b =>
      exact ⟨_, rfl, _, _, rfl, h, fun H1 s1 => ⟨false, rfl, iteF (k _ s1)⟩⟩
    | int i =>
      refine ⟨_, rfl, _, _, rfl, h, fun H1 s1 => ⟨true, rfl, iteT ?_⟩⟩
      have k' : Q (.bl (decide (0 ≤ i) && decide (i < min pr 3))) H1 := k H1 s1
      exact ⟨_, rfl, _, _, rfl, rfl, andP (fun k => ⟨_, rfl, _, rfl, _, _, rfl, _, _, rfl, rfl, rtv (by rw [min3]) k⟩) k'⟩
    | str z hz =>
      exact ⟨_, rfl, _, _, rfl, h, fun H1 s1 => ⟨false, rfl, iteF (k _ s1)⟩⟩
    | @lst a xs e =>
      exact ⟨_, rfl, _, _, rfl, h, fun H1 s1 => ⟨false, rfl, iteF (k _ s1)⟩⟩
    | @dic a kvs e =>
      exact ⟨_, rfl, _, _, rfl, h, fun H1 s1 => ⟨false, rfl, iteF (k _ s1)⟩⟩
    | @tup a us ts e hn hh =>
      exact ⟨_, rfl, _, _, rfl, h, fun H1 s1 => ⟨false, rfl, iteF (k _ s1)⟩⟩
theorem schas_form : FnScope ["thing", "params", "kind"] ["thing", "params"] (defScope s_has_form) := ⟨rfl, rfl, rfl, by decide +kernel, rfl, by decide +kernel, by decide +kernel⟩
theorem ok_has_form (T : Txt w K mg t) : FnOk P w K mg base CX0 6 t.f_has_form t.d_has_form ["thing", "params"] spHF := by
  have D := T.c_has_form
  refine D.fn.ok schas_form (fun vs H Q E h => ?_) (fun cdv A outer s H vs Q E hr h => ?_)
  · obtain ⟨v, th, pr, rfl, _⟩ := h
    rfl
  · obtain ⟨v, th, pr, rfl, h, k⟩ := h
    have hu := hr.units0
    have hu1 := hu_of hr
    refine ⟨_, ((pss_cons (ps_if (pw_or (pt_not (pt_val (pe_callB call_isinst (by rfl) T.isinstance boot_isinstance (pa_consN (pv 0) (pa_consN (pe_typ T.tuple boot_tuple) pa_nil))))) (pw_or (pt_cmpR op_eq (pe_callB call_len_seq (by rfl) T.len PySem.boot_len (pa_consN (pv 0) pa_nil)) pe_int (nomark _)) (pw_or1 (pt_not (pt_val (pe_callB call_isinst (by rfl) T.isinstance boot_isinstance (pa_consS (pe_ix ix_tup (pv 0) pe_int (fun _ _ => rfl)) (pa_consN (pe_typ T.str boot_str) pa_nil)))))))).pt (pss_one (ps_ret pe_bl)) pss_nil)
      (pss_cons (ps_set (i := 2) schas_form.nd rfl (Or.inl rfl) (pe_ix ix_tup (pv 0) pe_int (fun _ _ => rfl)))
      (pss_cons (ps_if (pt_cmpR op_ne (pe_callB call_len_seq (by rfl) T.len PySem.boot_len (pa_consN (pv 0) pa_nil)) (pe_kget2 (pe_gdic T.v_LENGTHS) (pv 2) pe_int ⟨rfl, rfl, rfl, rfl⟩) (nomark _)) (pss_one (ps_ret pe_bl)) pss_nil)
      (pss_cons (ps_if (pt_cmpR op_eq (pv 2) pe_str (nomark _)) (pss_one (ps_ret (pe_cl T.c_is_written_value (ok_is_written_value T) (hr.mono (by decide)) (pa_consS (pe_ix ix_tup (pv 0) pe_int (fun _ _ => rfl)) pa_nil)))) pss_nil)
      (pss_cons (ps_if (pw_or (pt_cmpR op_eq (pv 2) pe_str (nomark _)) (pw_or (pt_cmpR op_eq (pv 2) pe_str (nomark _)) (pw_or1 (pt_cmpR op_eq (pv 2) pe_str (nomark _))))).pt (pss_one (ps_ret (pe_cl T.c_is_reference (ok_is_reference T) (hr.mono (by decide)) (pa_consN (pv 0) pa_nil)))) pss_nil)
      (pss_cons (ps_if (pw_or (pt_cmpR op_eq (pv 2) pe_str (nomark _)) (pw_or1 (pt_cmpR op_eq (pv 2) pe_str (nomark _)))).pt (pss_one (ps_ret (pe_cl T.c_is_called (ok_is_called T) (hr.mono (by decide)) (pa_consN (pv 0) pa_nil)))) pss_nil)
      (pss_cons (ps_if (pt_cmpR op_eq (pv 2) pe_str (nomark _)) (pss_one (ps_ret (pe_cl T.c_is_param (ok_is_param T) (hr.mono (by decide)) (pa_consS (pe_ix ix_tup (pv 0) pe_int (fun _ _ => rfl)) (pa_consN (pv 1) pa_nil))))) pss_nil)
      (pss_cons (ps_if (pt_cmpR op_eq (pv 2) pe_str (nomark _)) (pss_one (ps_ret (pe_cl T.c_is_one_of (ok_is_one_of T) (hr.mono (by decide)) (pa_consS (pe_ix ix_tup (pv 0) pe_int (fun _ _ => rfl)) (pa_consN (pe_gtup T.v_OP_SIGNS) pa_nil))))) pss_nil)
      (pss_cons (ps_if (pt_cmpR op_eq (pv 2) pe_str (nomark _)) (pss_one (ps_ret (pe_cl T.c_is_one_of (ok_is_one_of T) (hr.mono (by decide)) (pa_consS (pe_ix ix_tup (pv 0) pe_int (fun _ _ => rfl)) (pa_consN (pe_gtup T.v_SUMIF_SIGNS) pa_nil))))) pss_nil)
      (pss_cons (ps_if (pt_cmpR op_eq (pv 2) pe_str (nomark _)) (pss_one (ps_ret (pe_and (pe_cl T.c_is_within (ok_is_within T) (hr.mono (by decide)) (pa_consS (pe_ix ix_tup (pv 0) pe_int (fun _ _ => rfl)) (pa_consN (pe_gint T.v_LAST_ROW) pa_nil))) (pe_one (pe_cl T.c_is_within (ok_is_within T) (hr.mono (by decide)) (pa_consS (pe_ix ix_tup (pv 0) pe_int (fun _ _ => rfl)) (pa_consN (pe_gint T.v_LAST_COLUMN) pa_nil))))))) pss_nil)
      (pss_one (ps_ret pe_bl))))))))))))), ?_⟩
    cases id h with
    | non =>
      exact ⟨_, rfl, _, _, _, _, false, rfl, h.ty, rfl, (fun _ => .inr trivial), T.ki_NoneType_tuple, false, rfl, iteT (iteT (k _ (Same.refl _)))⟩
    | bl b =>
      exact ⟨_, rfl, _, _, _, _, false, rfl, h.ty, rfl, (fun _ => .inr trivial), T.ki_bool_tuple, false, rfl, iteT (iteT (k _ (Same.refl _)))⟩
    | int i =>
      exact ⟨_, rfl, _, _, _, _, false, rfl, h.ty, rfl, (fun _ => .inr trivial), T.ki_int_tuple, false, rfl, iteT (iteT (k _ (Same.refl _)))⟩
    | str z hz =>
      exact ⟨_, rfl, _, _, _, _, false, rfl, h.ty, rfl, (fun _ => .inr trivial), T.ki_str_tuple, false, rfl, iteT (iteT (k _ (Same.refl _)))⟩
    | @lst a xs e =>
      exact ⟨_, rfl, _, _, _, _, false, rfl, h.ty, rfl, (fun _ => .inr trivial), T.ki_list_tuple, false, rfl, iteT (iteT (k _ (Same.refl _)))⟩
    | @dic a kvs e =>
      exact ⟨_, rfl, _, _, _, _, false, rfl, h.ty, rfl, (fun _ => .inr trivial), T.ki_dict_tuple, false, rfl, iteT (iteT (k _ (Same.refl _)))⟩
    | @tup a us ts e hn hh =>
      have p := ThAt.toP hn hh
      refine ⟨_, rfl, _, _, _, _, true, rfl, h.ty, rfl, (fun _ => .inr trivial), T.ki_tuple_tuple, true, rfl, iteF ?_⟩
      cases p with
      | nil => exact ⟨_, rfl, a, _, rfl, .inr (SqT.of e), rfl, true, lenT rfl, iteT (iteT (k _ (Same.refl _)))⟩
      | cons p0 p =>
        rename_i u0 t0 us ts
        have hlen : us.length = ts.length := Paired.length p
        refine ⟨_, rfl, a, _, rfl, .inr (SqT.of e), rfl, false, lenF (by simp only [List.length_cons]; omega), iteF ?_⟩
        cases id p0 with
        | non =>
          exact ⟨_, rfl, a, _, _, _, rfl, rfl, SqT.of e, atI_hd, _, _, _, _, false, rfl, p0.ty, rfl, (fun _ => .inr trivial), T.ki_NoneType_str, false, rfl, iteT (k _ (Same.refl _))⟩
        | bl b =>
          exact ⟨_, rfl, a, _, _, _, rfl, rfl, SqT.of e, atI_hd, _, _, _, _, false, rfl, p0.ty, rfl, (fun _ => .inr trivial), T.ki_bool_str, false, rfl, iteT (k _ (Same.refl _))⟩
        | int i =>
          exact ⟨_, rfl, a, _, _, _, rfl, rfl, SqT.of e, atI_hd, _, _, _, _, false, rfl, p0.ty, rfl, (fun _ => .inr trivial), T.ki_int_str, false, rfl, iteT (k _ (Same.refl _))⟩
        | str z hz =>
          refine ⟨_, rfl, a, _, _, _, rfl, rfl, SqT.of e, atI_hd, _, _, _, _, true, rfl, p0.ty, rfl, (fun _ => .inr trivial), T.ki_str_str, true, rfl, iteF ?_⟩
          refine ⟨_, rfl, a, _, _, _, rfl, rfl, SqT.of e, atI_hd, ?_⟩
          refine ⟨_, rfl, a, _, rfl, .inr (SqT.of e), fun pa hk => ⟨pa, _, rfl, hk, _, rfl, Sum.inr z, rfl, ?_⟩⟩
          rw [lenK_get]
          have k : ∀ H', Same H H' → Q (.bl (decide (((ts.length + 1 : Nat) : Int) = lenK z) && restF pr z ts)) H' := k
          by_cases hL : ((ts.length + 1 : Nat) : Int) = lenK z
          rotate_left
          · rw [decide_eq_false hL] at k
            exact ⟨rfl, true, lenNT (by simp only [List.length_cons]; rw [hlen]; exact hL), iteT (k _ (Same.refl _))⟩
          refine ⟨rfl, false, lenNF (by simp only [List.length_cons]; rw [hlen]; exact hL), iteF ?_⟩
          rw [decide_eq_true hL, Bool.true_and] at k
          by_cases h_value : z = zS "value"
          · subst h_value
            rw [rf_value] at k
            have hl : ts.length = 1 := by have e0 : lenK (zS "value") = 2 := (by decide +kernel); rw [e0] at hL; omega
            refine ⟨_, rfl, rfl, true, strT rfl, iteT ?_⟩
            obtain ⟨t1, rfl⟩ := kid1 hl
            cases p with | cons p1 p => 
            exact ⟨_, rfl, a, _, _, _, rfl, rfl, SqT.of e, atI_1, _, t1, rfl, p1, k⟩
          refine ⟨_, rfl, rfl, false, strN h_value, iteF ?_⟩
          by_cases h_cell : z = zS "cell"
          · subst h_cell
            rw [rf_cell] at k
            have hl : ts.length = 2 := by have e0 : lenK (zS "cell") = 3 := (by decide +kernel); rw [e0] at hL; omega
            refine ⟨_, rfl, rfl, true, strT rfl, iteT (iteT ?_)⟩
            exact ⟨_, rfl, _, _, ts, rfl, h, .inl ⟨rfl, hl⟩, k⟩
          refine ⟨_, rfl, rfl, false, strN h_cell, iteF ?_⟩
          by_cases h_range : z = zS "range"
          · subst h_range
            rw [rf_range] at k
            have hl : ts.length = 3 := by have e0 : lenK (zS "range") = 4 := (by decide +kernel); rw [e0] at hL; omega
            refine ⟨_, rfl, rfl, true, strT rfl, iteT (iteT ?_)⟩
            exact ⟨_, rfl, _, _, ts, rfl, h, .inr (.inl ⟨rfl, hl⟩), k⟩
          refine ⟨_, rfl, rfl, false, strN h_range, iteF ?_⟩
          by_cases h_columns : z = zS "columns"
          · subst h_columns
            rw [rf_columns] at k
            have hl : ts.length = 3 := by have e0 : lenK (zS "columns") = 4 := (by decide +kernel); rw [e0] at hL; omega
            refine ⟨_, rfl, rfl, true, strT rfl, iteT ?_⟩
            exact ⟨_, rfl, _, _, ts, rfl, h, .inr (.inr ⟨rfl, hl⟩), k⟩
          refine ⟨_, rfl, rfl, false, strN h_columns, iteF ?_⟩
          by_cases h_name : z = zS "name"
          · subst h_name
            rw [rf_name] at k
            have hl : ts.length = 1 := by have e0 : lenK (zS "name") = 2 := (by decide +kernel); rw [e0] at hL; omega
            refine ⟨_, rfl, rfl, true, strT rfl, iteT (iteT ?_)⟩
            exact ⟨_, rfl, _, _, ts, rfl, h, .inl ⟨rfl, hl⟩, k⟩
          refine ⟨_, rfl, rfl, false, strN h_name, iteF ?_⟩
          by_cases h_own : z = zS "own"
          · subst h_own
            rw [rf_own] at k
            have hl : ts.length = 2 := by have e0 : lenK (zS "own") = 3 := (by decide +kernel); rw [e0] at hL; omega
            refine ⟨_, rfl, rfl, true, strT rfl, iteT ?_⟩
            exact ⟨_, rfl, _, _, ts, rfl, h, .inr ⟨rfl, hl⟩, k⟩
          refine ⟨_, rfl, rfl, false, strN h_own, iteF ?_⟩
          by_cases h_param : z = zS "param"
          · subst h_param
            rw [rf_param] at k
            have hl : ts.length = 1 := by have e0 : lenK (zS "param") = 2 := (by decide +kernel); rw [e0] at hL; omega
            refine ⟨_, rfl, rfl, true, strT rfl, iteT ?_⟩
            obtain ⟨t1, rfl⟩ := kid1 hl
            cases p with | cons p1 p => 
            exact ⟨_, rfl, a, _, _, _, rfl, rfl, SqT.of e, atI_1, _, rfl, _, t1, pr, rfl, p1, k⟩
          refine ⟨_, rfl, rfl, false, strN h_param, iteF ?_⟩
          by_cases h_op : z = zS "op"
          · subst h_op
            rw [rf_op] at k
            have hl : ts.length = 3 := by have e0 : lenK (zS "op") = 4 := (by decide +kernel); rw [e0] at hL; omega
            refine ⟨_, rfl, rfl, true, strT rfl, iteT ?_⟩
            obtain ⟨t1, t2, t3, rfl⟩ := kid3 hl
            cases p with | cons p1 p => cases p with | cons p2 p => cases p with | cons p3 p =>
            exact ⟨_, rfl, a, _, _, _, rfl, rfl, SqT.of e, atI_1, fun b hb => ⟨_, t1, b, _, rfl, p1, hb, opv_flat, k⟩⟩
          refine ⟨_, rfl, rfl, false, strN h_op, iteF ?_⟩
          by_cases h_sumif : z = zS "sumif"
          · subst h_sumif
            rw [rf_sumif] at k
            have hl : ts.length = 4 := by have e0 : lenK (zS "sumif") = 5 := (by decide +kernel); rw [e0] at hL; omega
            refine ⟨_, rfl, rfl, true, strT rfl, iteT ?_⟩
            obtain ⟨t1, t2, t3, t4, rfl⟩ := kid4 hl
            cases p with | cons p1 p => cases p with | cons p2 p => cases p with | cons p3 p => cases p with | cons p4 p =>
            exact ⟨_, rfl, a, _, _, _, rfl, rfl, SqT.of e, atI_2, fun b hb => ⟨_, t2, b, _, rfl, p2, hb, sfv_flat, k⟩⟩
          refine ⟨_, rfl, rfl, false, strN h_sumif, iteF ?_⟩
          by_cases h_grid : z = zS "grid"
          · subst h_grid
            rw [rf_grid] at k
            have hl : ts.length = 4 := by have e0 : lenK (zS "grid") = 5 := (by decide +kernel); rw [e0] at hL; omega
            refine ⟨_, rfl, rfl, true, strT rfl, iteT ?_⟩
            obtain ⟨t1, t2, t3, t4, rfl⟩ := kid4 hl
            cases p with | cons p1 p => cases p with | cons p2 p => cases p with | cons p3 p => cases p with | cons p4 p =>
            have k : ∀ H', Same H H' → Q (.bl (withT 16 t1 && withT 8 t2)) H' := k
            refine ⟨_, rfl, a, _, _, _, rfl, rfl, SqT.of e, atI_1, _, t1, 16, rfl, p1, fun H1 s1 => ⟨_, rfl, ?_⟩⟩
            cases e1 : withT 16 t1 with
            | false => rw [e1] at k; exact iteF (k _ s1)
            | true =>
              rw [e1] at k
              exact iteT ⟨_, rfl, a, _, _, _, rfl, rfl, SqT.of (s1 _ _ e), atI_2, _, t2, 8, rfl, p2.same s1, fun H2 s2 => k _ (s1.trans s2)⟩
          refine ⟨_, rfl, rfl, false, strN h_grid, iteF ?_⟩
          rw [show restF pr z ts = true by unfold restF; rw [if_neg h_value, if_neg h_cell, if_neg h_range, if_neg h_columns, if_neg h_name, if_neg h_own, if_neg h_param, if_neg h_op, if_neg h_sumif, if_neg h_grid]] at k
          exact k _ (Same.refl _)
        | @lst a0 xs e0 =>
          exact ⟨_, rfl, a, _, _, _, rfl, rfl, SqT.of e, atI_hd, _, _, _, _, false, rfl, p0.ty, rfl, (fun _ => .inr trivial), T.ki_list_str, false, rfl, iteT (k _ (Same.refl _))⟩
        | @dic a0 kvs e0 =>
          exact ⟨_, rfl, a, _, _, _, rfl, rfl, SqT.of e, atI_hd, _, _, _, _, false, rfl, p0.ty, rfl, (fun _ => .inr trivial), T.ki_dict_str, false, rfl, iteT (k _ (Same.refl _))⟩
        | @tup a0 us0 ts0 e0 hn0 hh0 =>
          exact ⟨_, rfl, a, _, _, _, rfl, rfl, SqT.of e, atI_hd, _, _, _, _, false, rfl, p0.ty, rfl, (fun _ => .inr trivial), T.ki_tuple_str, false, rfl, iteT (k _ (Same.refl _))⟩
theorem scis_tree : FnScope ["thing", "params", "deep"] ["thing", "params", "deep"] (defScope s_is_tree) := ⟨rfl, rfl, rfl, by decide +kernel, rfl, by decide +kernel, by decide +kernel⟩
theorem ok_is_tree (T : Txt w K mg t) : ∀ n : Nat, FnOk P w K mg base CX0 (3 * n + 8) t.f_is_tree t.d_is_tree ["thing", "params", "deep"] (spTr n) := by
  have D := T.c_is_tree
  intro n
  induction n with
  | zero =>
    refine D.fn.ok scis_tree (fun vs H Q E h => ?_) (fun cdv A outer s H vs Q E hr h => ?_)
    · obtain ⟨v, th, pr, d, rfl, _⟩ := h
      rfl
    · obtain ⟨v, th, pr, d, rfl, hd, h, k⟩ := h
      have hu := hr.units0
      have hu1 := hu_of hr
      refine ⟨_, ((pss_cons (ps_if (pw_or (pt_cmpR op_eq (pv 2) pe_int (nomark _)) (pw_or1 (pt_not (pt_val (pe_cl T.c_has_form (ok_has_form T) (hr.mono (by omega)) (pa_consN (pv 0) (pa_consN (pv 1) pa_nil))))))).pt (pss_one (ps_ret pe_bl)) pss_nil)
      (pss_one ps_never))), ?_⟩
      subst hd
      exact ⟨_, rfl, rfl, true, rfl, iteT (iteT (k _ (Same.refl _)))⟩
  | succ n ih =>
    refine D.fn.ok scis_tree (fun vs H Q E h => ?_) (fun cdv A outer s H vs Q E hr h => ?_)
    · obtain ⟨v, th, pr, d, rfl, _⟩ := h
      rfl
    · obtain ⟨v, th, pr, d, rfl, hd, h, k⟩ := h
      have hu := hr.units0
      have hu1 := hu_of hr
      refine ⟨_, ((pss_cons (ps_if (pw_or (pt_cmpR op_eq (pv 2) pe_int (nomark _)) (pw_or1 (pt_not (pt_val (pe_cl T.c_has_form (ok_has_form T) (hr.mono (by omega)) (pa_consN (pv 0) (pa_consN (pv 1) pa_nil))))))).pt (pss_one (ps_ret pe_bl)) pss_nil)
      (pss_one (ps_ret (pe_callB (call_all rfl) (by rfl) T.all boot_all (pa_consH (pe_comp (fv := ["params", "deep"]) (js := [1, 2]) (cl := [("params", s.heap.objs.size + 1), ("deep", s.heap.objs.size + 2)]) rfl (by with_unfolding_all rfl) ⟨rfl, by decide +kernel, by decide +kernel, rfl, by decide +kernel, by decide +kernel, (List.forall_mem_cons.mpr ⟨⟨rfl, rfl, rfl⟩, (List.forall_mem_cons.mpr ⟨⟨rfl, rfl, rfl⟩, (List.forall_mem_nil _)⟩)⟩), (List.forall_mem_cons.mpr ⟨rfl, (List.forall_mem_cons.mpr ⟨rfl, (List.forall_mem_nil _)⟩)⟩), (.cons rfl (.cons rfl .nil))⟩ (pi_list (pe_cl T.c_parts_of (ok_parts_of T) (hr.mono (by omega)) (pa_consN (pv 0) pa_nil))) (fun _ _ _ _ _ => pf_nil) (fun _ _ _ _ _ => (pe_cl T.c_is_tree ih (hr.mono (by omega)) (pa_consN (pv 0) (pa_consN (pv 1) (pa_consB (pe_op op_sub (pv 2) pe_int) pa_nil)))))) pa_nil)))))), ?_⟩
      refine ⟨_, rfl, rfl, false, ?_, iteF ?_⟩
      · rw [decide_eq_false fun z => by injection z with z; omega]
      refine ⟨_, rfl, _, rfl, v, th, pr, rfl, h, fun H1 s1 => ⟨_, rfl, ?_⟩⟩
      cases e1 : formT pr th with
      | false => rw [tree_nof e1] at k; exact iteT (k _ s1)
      | true =>
        rw [tree_all e1] at k
        refine iteF ?_
        refine ⟨_, rfl, v, th, pr, rfl, h.same s1, e1, fun lp us H2 nlp hlp pm s2 => ?_⟩
        have p3 := prt_le e1
        have hus : us.length = (prtT th).length := Paired.length pm
        refine ⟨lp, rfl, ⟨_, SqL.of hlp⟩, fun D hD => ?_⟩
        refine ⟨fun i m H4 => m = us.length - i ∧ i ≤ us.length ∧ H4 D = some (.lst (((prtT th).take i).map fun g => V.bl (treeT n pr g))) ∧ Same H2 H4, ⟨us.length, rfl, Nat.zero_le _, upd_same, Same.new hD⟩, ?_⟩
        rintro i m H4 ⟨rfl, hi, hD4, s4⟩
        by_cases hlt : i < us.length
        · refine .inr ⟨⟨us, us[i], SqL.of (s4 _ _ hlp), List.getElem?_eq_getElem hlt⟩, fun x H' y => ?_⟩
          obtain ⟨e, y⟩ := y
          subst e
          have hx := y us (SqL.of (s4 _ _ hlp))
          obtain ⟨g, hg, xg⟩ := paired_at pm hx
          refine ⟨_, rfl, _, rfl, _, rfl, _, _, rfl, rfl, x, g, pr, _, rfl, (by omega), xg.same s4, fun H5 s5 => ?_⟩
          refine ⟨_, s5 _ _ hD4, sl_lt (by rw [List.length_map, List.length_take]; omega), us.length - (i + 1), (by omega), rfl, hlt, ?_, fun b o e => ?_⟩
          · rw [upd_same, List.take_add_one, hg, List.map_append]; rfl
          · rw [upd_ne (ne_of_none e hD)]; exact s5 _ _ (s4 _ _ e)
        have ei : i = us.length := by omega
        subst ei
        refine .inl ⟨⟨us, SqL.of (s4 _ _ hlp), Nat.le_refl _⟩, ?_⟩
        rw [hus, List.take_length, show ((prtT th).map fun g => V.bl (treeT n pr g)) = ((prtT th).map (treeT n pr)).map V.bl by rw [List.map_map]; rfl] at hD4
        refine ⟨D, _, rfl, SqL.of hD4, ?_⟩
        rw [List.all_map]
        exact k _ ((s1.trans s2).trans s4)
theorem scis_formula : FnScope ["thing", "params"] ["thing", "params"] (defScope s_is_formula) := ⟨rfl, rfl, rfl, by decide +kernel, rfl, by decide +kernel, by decide +kernel⟩
theorem ok_is_formula (T : Txt w K mg t) : FnOk P w K mg base CX0 33 t.f_is_formula t.d_is_formula ["thing", "params"] spIF := by
  have D := T.c_is_formula
  refine D.fn.ok scis_formula (fun vs H Q E h => ?_) (fun cdv A outer s H vs Q E hr h => ?_)
  · obtain ⟨v, th, pr, rfl, _⟩ := h
    rfl
  · obtain ⟨v, th, pr, rfl, h, k⟩ := h
    have hu := hr.units0
    have hu1 := hu_of hr
    refine ⟨_, ((pss_one (ps_ret (pe_and (pe_cl T.c_is_tree (ok_is_tree T 8) (hr.mono (by omega)) (pa_consN (pv 0) (pa_consN (pv 1) (pa_consN (pe_gint T.v_MOST_DEEP) pa_nil)))) (pe_one (pe_cmpR op_le (pe_cl T.c_count_parts (ok_count_parts T) (hr.mono (by decide)) (pa_consN (pv 0) pa_nil)) (pe_gint T.v_MOST_PARTS) (nomark _))))))), ?_⟩
    refine ⟨_, rfl, _, rfl, v, th, pr, _, rfl, rfl, h, fun H1 s1 => ⟨_, rfl, ?_⟩⟩
    unfold fmT at k
    cases e1 : treeT 8 pr th with
    | false => rw [e1] at k; exact iteF (k _ s1)
    | true =>
      rw [e1] at k
      exact iteT ⟨_, rfl, v, th, pr, rfl, h.same s1, e1, fun H2 s2 => ⟨_, _, rfl, rfl, k _ (s1.trans s2)⟩⟩
theorem sc_law_pen : FnScope ["_law_script", "_law_first"] ["_law_script"] (defScope s__law_pen) := ⟨rfl, rfl, rfl, by decide +kernel, rfl, by decide +kernel, by decide +kernel⟩
theorem ok__law_pen (T : Txt w K mg t) : FnOk P w K mg base CX0 1 t.f__law_pen t.d__law_pen ["_law_script"] (spPenD K) := by
  have D := T.c__law_pen
  refine D.fn.ok sc_law_pen (fun vs H Q E h => ?_) (fun cdv A outer s H vs Q E hr h => ?_)
  · obtain ⟨a, ns, rfl, _⟩ := h
    rfl
  · obtain ⟨a, ns, rfl, hS, h63, k⟩ := h
    have hu := hr.units0
    have hu1 := hu_of hr
    refine ⟨_, ((pss_cons (ps_set (i := 1) sc_law_pen.nd rfl (Or.inl rfl) pe_int)
      (pss_cons (ps_if (pt_cmpR op_gt (pe_callB call_len_seq (by rfl) T.len PySem.boot_len (pa_consN (pv 0) pa_nil)) pe_int (nomark _)) (pss_one (ps_set (i := 1) sc_law_pen.nd rfl (Or.inl rfl) (pe_ix ix_list (pv 0) pe_int (fun _ _ => rfl)))) pss_nil)
      (pss_one (ps_ret (pe_disp (pps_cons pe_str (pv 0) (pps_cons pe_str pe_int (pps_cons pe_str (pe_op op_fdiv (pv 1) pe_int) (pps_cons pe_str (pe_op op_mod (pv 1) pe_int) (pps_cons pe_str pe_int pps_nil))))) rfl rfl (by simp) (by decide))))))), ?_⟩
    have fin : ∀ (c : Int), (c % 2 = 0 ∨ (c % 2 = 1 ∧ 0 < ns.length)) → ∀ p, H p = none → Q (.ref p) (upd H p (.dK (penK a 0 (c / 2) (c % 2) 0))) := fun c hc p hp =>
      k p _ hp ⟨0, c / 2, c % 2, 0, upd_same, (Same.new hp).seq hS, by decide, by decide, by decide, hc, h63⟩ (Same.new hp)
    refine ⟨_, rfl, a, _, rfl, .inl hS, _, _, rfl, rfl, _, rfl, ite2 (fun c1 => ?_) (fun c1 => ?_)⟩
    · have hl : 0 < ns.length := by have := of_decide_eq_true c1; rw [List.length_map] at this; omega
      have h0 : atI (ns.map V.int) 0 = some (V.int ns[0]) := atI_nat (j := 0) (by rw [List.getElem?_map, List.getElem?_eq_getElem hl]; rfl)
      refine ⟨_, rfl, a, _, _, _, rfl, rfl, hS, h0, ?_⟩
      refine fun p hp => ⟨_, rfl, _, rfl, _, _, rfl, rfl, ⟨by decide, by decide⟩, _, rfl, _, _, rfl, rfl, (by show (0 : Int) < _; decide), upd_same, penK a 0 (ns[0] / 2) (ns[0] % 2) 0, rfl, (by show 5 ≤ 15; decide), ?_⟩
      rw [upd_upd]
      exact fin ns[0] (by omega) p hp
    · refine fun p hp => ⟨_, rfl, _, rfl, _, _, rfl, rfl, ⟨by decide, by decide⟩, _, rfl, _, _, rfl, rfl, (by show (0 : Int) < _; decide), upd_same, penK a 0 (0 / 2) (0 % 2) 0, rfl, (by show 5 ≤ 15; decide), ?_⟩
      rw [upd_upd]
      exact fin 0 (.inl (by decide)) p hp
theorem sc_law_take : FnScope ["_law_pen_here", "_law_amount", "_law_cells", "_law_cell", "_law_number", "_law_taken"] ["_law_pen_here", "_law_amount"] (defScope s__law_take) := ⟨rfl, rfl, rfl, by decide +kernel, rfl, by decide +kernel, by decide +kernel⟩
theorem ok__law_take (T : Txt w K mg t) : FnOk P w K mg base CX0 1 t.f__law_take t.d__law_take ["_law_pen_here", "_law_amount"] (spTakD K) := by
  have D := T.c__law_take
  refine D.fn.ok sc_law_take (fun vs H Q E h => ?_) (fun cdv A outer s H vs Q E hr h => ?_)
  · obtain ⟨p, m, n, S, rfl, _⟩ := h
    rfl
  · obtain ⟨p, m, n, S, rfl, hm, hz, hpen, hn, k⟩ := h
    have hu := hr.units0
    have hu1 := hu_of hr
    refine ⟨_, ((pss_cons (ps_set (i := 2) sc_law_take.nd rfl (Or.inl rfl) (pe_dget hu1 (pv 0) pe_str (fun _ _ => rfl)))
      (pss_cons (ps_dput hu1 (pv 0) pe_str (pe_op op_add (pe_dget hu1 (pv 0) pe_str (fun _ _ => rfl)) pe_int) rfl)
      (pss_cons (ps_if (pt_cmpR op_eq (pe_dget hu1 (pv 0) pe_str (fun _ _ => rfl)) pe_int (nomark _)) (pss_cons (ps_set (i := 3) sc_law_take.nd rfl (Or.inl rfl) (pe_op op_mod (pe_ix ix_list (pv 2) (pe_op op_mod (pe_dget hu1 (pv 0) pe_str (fun _ _ => rfl)) (pe_callB call_len_seq (by rfl) T.len PySem.boot_len (pa_consN (pv 2) pa_nil))) (fun _ _ => rfl)) pe_int))
      (pss_cons (ps_set (i := 4) sc_law_take.nd rfl (Or.inl rfl) (pe_op op_mod (pe_op op_mulW (pe_op op_add (pe_op op_add (pv 3) (pe_op op_mulW pe_int (pe_dget hu1 (pv 0) pe_str (fun _ _ => rfl)))) pe_int) pe_int) pe_int))
      (pss_cons (ps_set (i := 4) sc_law_take.nd rfl (Or.inl rfl) (pe_op op_mod (pe_op op_add (pe_op op_mulW (pv 4) (pv 4)) (pe_op op_mulW pe_int (pe_dget hu1 (pv 0) pe_str (fun _ _ => rfl)))) pe_int))
      (pss_one (ps_ret (pe_op op_mod (pe_op op_fdiv (pe_op op_mod (pe_op op_mulW (pv 4) (pe_op op_add (pv 4) pe_int)) pe_int) pe_int) (pv 1))))))) pss_nil)
      (pss_cons (ps_if (pt_cmpR op_eq (pe_op op_mod (pe_dget hu1 (pv 0) pe_str (fun _ _ => rfl)) pe_int) pe_int (nomark _)) (pss_cons (ps_dput hu1 (pv 0) pe_str (pe_op op_add (pe_dget hu1 (pv 0) pe_str (fun _ _ => rfl)) pe_int) rfl)
      (pss_cons (ps_dput hu1 (pv 0) pe_str pe_int rfl)
      (pss_one (ps_if (pt_cmpR op_lt (pe_dget hu1 (pv 0) pe_str (fun _ _ => rfl)) (pe_callB call_len_seq (by rfl) T.len PySem.boot_len (pa_consN (pv 2) pa_nil)) (nomark _)) (pss_one (ps_dput hu1 (pv 0) pe_str (pe_ix ix_list (pv 2) (pe_dget hu1 (pv 0) pe_str (fun _ _ => rfl)) (fun _ _ => rfl)) rfl)) pss_nil)))) pss_nil)
      (pss_cons (ps_set (i := 5) sc_law_take.nd rfl (Or.inl rfl) (pe_op op_mod (pe_dget hu1 (pv 0) pe_str (fun _ _ => rfl)) (pv 1)))
      (pss_cons (ps_dput hu1 (pv 0) pe_str (pe_op op_fdivW (pe_dget hu1 (pv 0) pe_str (fun _ _ => rfl)) (pv 1)) rfl)
      (pss_one (ps_ret (pv 5)))))))))), ?_⟩
    obtain ⟨a, ns⟩ := S
    obtain ⟨t, r, md, u, hp, hS, ht, hu0, hun, hmd, h63⟩ := hpen
    dsimp only at hp hS hmd h63
    refine ⟨_, rfl, p, _, rfl, gCells hp, ?_⟩
    refine ⟨_, rfl, p, _, rfl, gUsed hp, _, _, rfl, rfl, _, rfl, p, _, rfl, pUsed hp (u + 1), ?_⟩
    have hp1 := upd_same (H := H) (a := p) (o := .dK (penK a t r md (u + 1)))
    have kp1 : KeepX p H (upd H p (.dK (penK a t r md (u + 1)))) := KeepX.upd
    generalize upd H p (.dK (penK a t r md (u + 1))) = H1 at *
    have hS1 := SqL.kx hS hp kp1
    have fin : ∀ (t' r' x : Int) (H2 : Hp), 0 ≤ x → x < m → 0 ≤ t' → H2 p = some (.dK (penK a t' r' md (u + 1))) → KeepX p H H2 → Q (.int x) H2 := fun t' r' x H2 x0 x1 ht' h2 kp =>
      k x H2 x0 x1 ⟨t', r', md, u + 1, h2, SqL.kx hS hp kp, ht', by omega, by omega, hmd, h63⟩ kp
    refine ⟨_, rfl, p, _, rfl, gMode hp1, rfl, _, rfl, ite2 (fun c1 => ?_) (fun c1 => ?_)⟩
    · have hl : 0 < ns.length := by
        have : V.int md = V.int 1 := of_decide_eq_true c1
        injection this with this
        omega
      obtain ⟨v, hv⟩ := atI_ints (ns := ns) (Int.emod_nonneg (u + 1) (show (ns.length : Int) ≠ 0 by omega)) (Int.emod_lt_of_pos (u + 1) (show (0 : Int) < ns.length by omega))
      have n1 := Int.emod_nonneg v (show (2147483629 : Int) ≠ 0 by decide)
      have n2 := Int.emod_lt_of_pos v (show (0 : Int) < 2147483629 by decide)
      refine ⟨_, rfl, _, rfl, p, _, rfl, gUsed hp1, _, rfl, a, _, rfl, .inl hS1, _, _, rfl, rfl, (by rw [List.length_map]; omega), a, _, _, _, rfl, rfl, hS1, (by rw [List.length_map]; exact hv), _, _, rfl, rfl, (by show (0 : Int) < _; decide), ?_⟩
      generalize v % 2147483629 = y at n1 n2 ⊢
      have m1 := Int.emod_nonneg ((y + 7919 * (u + 1) + 3) * 48271) (show (2147483647 : Int) ≠ 0 by decide)
      have m2 := Int.emod_lt_of_pos ((y + 7919 * (u + 1) + 3) * 48271) (show (0 : Int) < 2147483647 by decide)
      refine ⟨_, rfl, _, rfl, p, _, rfl, gUsed hp1, _, _, rfl, rfl, ⟨sz4000 (by decide) (by decide), sz4000 (by omega) (by omega)⟩, _, _, rfl, rfl, _, _, rfl, rfl, _, _, rfl, rfl, ⟨sz4000 (by omega) (by omega), sz4000 (by decide) (by decide)⟩, _, _, rfl, rfl, (by show (0 : Int) < _; decide), ?_⟩
      generalize (y + 7919 * (u + 1) + 3) * 48271 % 2147483647 = x at m1 m2 ⊢
      have q1 := Int.emod_nonneg (x * x + 104729 * (u + 1)) (show (2147483629 : Int) ≠ 0 by decide)
      have q2 := Int.emod_lt_of_pos (x * x + 104729 * (u + 1)) (show (0 : Int) < 2147483629 by decide)
      refine ⟨_, rfl, _, rfl, _, _, rfl, rfl, ⟨sz4000 (by omega) (by omega), sz4000 (by omega) (by omega)⟩, _, rfl, p, _, rfl, gUsed hp1, _, _, rfl, rfl, ⟨sz4000 (by decide) (by decide), sz4000 (by omega) (by omega)⟩, _, _, rfl, rfl, _, _, rfl, rfl, (by show (0 : Int) < _; decide), ?_⟩
      generalize (x * x + 104729 * (u + 1)) % 2147483629 = w at q1 q2 ⊢
      refine ⟨_, rfl, _, rfl, _, _, rfl, rfl, _, _, rfl, rfl, ⟨sz4000 (by omega) (by omega), sz4000 (by omega) (by omega)⟩, _, _, rfl, rfl, (by show (0 : Int) < _; decide), _, _, rfl, rfl, ⟨by decide, by decide⟩, _, rfl, _, _, rfl, rfl, hm, ?_⟩
      exact fin t r _ H1 (Int.emod_nonneg _ (by omega)) (Int.emod_lt_of_pos _ hm) ht hp1 kp1
    · have last : ∀ (t' r' : Int) (H2 : Hp), 0 ≤ t' → H2 p = some (.dK (penK a t' r' md (u + 1))) → KeepX p H H2 → _ := fun t' r' H2 ht' h2 kp =>
        fin t' (r' / m) (r' % m) (upd H2 p (.dK (penK a t' (r' / m) md (u + 1)))) (Int.emod_nonneg _ (by omega)) (Int.emod_lt_of_pos _ hm) ht' upd_same (kp.trans KeepX.upd)
      refine ⟨_, rfl, p, _, rfl, gUsed hp1, _, _, rfl, rfl, (by show (0 : Int) < _; decide), rfl, _, rfl, ite2 (fun c2 => ?_) (fun c2 => ?_)⟩
      · refine ⟨_, rfl, p, _, rfl, gAt hp1, _, _, rfl, rfl, _, rfl, p, _, rfl, pAt hp1 (t + 1), ?_⟩
        have hp2 := upd_same (H := H1) (a := p) (o := .dK (penK a (t + 1) r md (u + 1)))
        have kp2 : KeepX p H (upd H1 p (.dK (penK a (t + 1) r md (u + 1)))) := kp1.trans KeepX.upd
        generalize upd H1 p (.dK (penK a (t + 1) r md (u + 1))) = H2 at *
        refine ⟨_, rfl, p, _, rfl, pRest hp2 0, ?_⟩
        have hp3 := upd_same (H := H2) (a := p) (o := .dK (penK a (t + 1) 0 md (u + 1)))
        have kp3 : KeepX p H (upd H2 p (.dK (penK a (t + 1) 0 md (u + 1)))) := kp2.trans KeepX.upd
        generalize upd H2 p (.dK (penK a (t + 1) 0 md (u + 1))) = H3 at *
        have hS3 := SqL.kx hS hp kp3
        refine ⟨_, rfl, p, _, rfl, gAt hp3, _, rfl, a, _, rfl, .inl hS3, _, _, rfl, rfl, _, rfl, ite2 (fun c3 => ?_) (fun c3 => ?_)⟩
        · have hlt : t + 1 < (ns.length : Int) := by have := of_decide_eq_true c3; rw [List.length_map] at this; exact this
          obtain ⟨v, hv⟩ := atI_ints (ns := ns) (show 0 ≤ t + 1 by omega) hlt
          refine ⟨_, rfl, _, rfl, p, _, rfl, gAt hp3, a, _, _, _, rfl, rfl, hS3, hv, _, rfl, p, _, rfl, pRest hp3 v, ?_⟩
          have hp4 := upd_same (H := H3) (a := p) (o := .dK (penK a (t + 1) v md (u + 1)))
          have kp4 : KeepX p H (upd H3 p (.dK (penK a (t + 1) v md (u + 1)))) := kp3.trans KeepX.upd
          generalize upd H3 p (.dK (penK a (t + 1) v md (u + 1))) = H4 at *
          refine ⟨_, rfl, p, _, rfl, gRest hp4, _, rfl, _, _, rfl, rfl, hm, ?_⟩
          refine ⟨_, rfl, p, _, rfl, gRest hp4, _, rfl, _, _, rfl, rfl, ⟨by omega, hz⟩, _, rfl, p, _, rfl, pRest hp4 _, ?_⟩
          rw [Int.fdiv_eq_ediv_of_nonneg _ (by omega)]
          exact ⟨_, rfl, last (t + 1) v H4 (by omega) hp4 kp4⟩
        · refine ⟨_, rfl, p, _, rfl, gRest hp3, _, rfl, _, _, rfl, rfl, hm, ?_⟩
          refine ⟨_, rfl, p, _, rfl, gRest hp3, _, rfl, _, _, rfl, rfl, ⟨by omega, hz⟩, _, rfl, p, _, rfl, pRest hp3 _, ?_⟩
          rw [Int.fdiv_eq_ediv_of_nonneg _ (by omega)]
          exact ⟨_, rfl, last (t + 1) 0 H3 (by omega) hp3 kp3⟩
      · refine ⟨_, rfl, p, _, rfl, gRest hp1, _, rfl, _, _, rfl, rfl, hm, ?_⟩
        refine ⟨_, rfl, p, _, rfl, gRest hp1, _, rfl, _, _, rfl, rfl, ⟨by omega, hz⟩, _, rfl, p, _, rfl, pRest hp1 _, ?_⟩
        rw [Int.fdiv_eq_ediv_of_nonneg _ (by omega)]
        exact ⟨_, rfl, last t r H1 ht hp1 kp1⟩
theorem sc_law_letters : FnScope ["_law_pen_here", "_law_free", "_law_known", "_law_way", "_law_many", "_law_word"] ["_law_pen_here", "_law_free"] (defScope s__law_letters) := ⟨rfl, rfl, rfl, by decide +kernel, rfl, by decide +kernel, by decide +kernel⟩
theorem ok__law_letters (T : Txt w K mg t) : FnOk P w K mg base CX0 2 t.f__law_letters t.d__law_letters ["_law_pen_here", "_law_free"] (spLet K) := by
  have D := T.c__law_letters
  refine D.fn.ok sc_law_letters (fun vs H Q E h => ?_) (fun cdv A outer s H vs Q E hr h => ?_)
  · obtain ⟨p, fr, n, S, rfl, _⟩ := h
    rfl
  · obtain ⟨p, fr, n, S, rfl, hpen, hn, k⟩ := h
    have hu := hr.units0
    have hu1 := hu_of hr
    refine ⟨_, ((pss_cons (ps_set (i := 2) sc_law_letters.nd rfl (Or.inl rfl) (pe_lst (pa_consK pe_str (pa_consK pe_str (pa_consK pe_str (pa_consK pe_str (pa_consK pe_str (pa_consK pe_str (pa_consK pe_str (pa_consK pe_str (pa_consK pe_str (pa_consK pe_str (pa_consK pe_str (pa_consK pe_str (pa_consK pe_str (pa_consK pe_str pa_nil))))))))))))))))
      (pss_cons (ps_set (i := 3) sc_law_letters.nd rfl (Or.inl rfl) (pe_cl T.c__law_take (ok__law_take T) (hr.mono (by decide)) (pa_consN (pv 0) (pa_consK pe_int pa_nil))))
      (pss_cons (ps_if (pw_and (pt_cmpR op_lt (pv 3) pe_int (nomark _)) (pw_and1 (pt_not (pt_val (pv 1))))).pt (pss_one (ps_ret (pe_ix ix_list (pv 2) (pv 3) (fun _ _ => rfl)))) pss_nil)
      (pss_cons (ps_if (pt_chain op_lt op_lt pe_int (pv 3) pe_int) (pss_one (ps_ret (pe_ix ix_list (pv 2) (pv 3) (fun _ _ => rfl)))) pss_nil)
      (pss_cons (ps_set (i := 4) sc_law_letters.nd rfl (Or.inl rfl) (pe_op op_add pe_int (pe_cl T.c__law_take (ok__law_take T) (hr.mono (by decide)) (pa_consN (pv 0) (pa_consK pe_int pa_nil)))))
      (pss_cons (ps_set (i := 5) sc_law_letters.nd rfl (Or.inl rfl) (pe_bm PySem.F.plainAttrs_str PySem.F.slot_str_join PySem.F.type_str_join mt_join pe_str (pa_consH (pe_comp (fv := ["_law_pen_here"]) (js := [0]) (cl := [("_law_pen_here", s.heap.objs.size + 1)]) rfl (by with_unfolding_all rfl) ⟨rfl, by decide +kernel, by decide +kernel, rfl, by decide +kernel, by decide +kernel, (List.forall_mem_cons.mpr ⟨⟨rfl, rfl, rfl⟩, (List.forall_mem_nil _)⟩), (List.forall_mem_cons.mpr ⟨rfl, (List.forall_mem_nil _)⟩), (.cons rfl .nil)⟩ (pi_range1 rfl T.range (pa_consN (pv 4) pa_nil)) (fun _ _ _ _ _ => pf_nil) (fun _ _ _ _ _ => (pe_ix ix_str pe_str (pe_cl T.c__law_take (ok__law_take T) (hr.mono (by decide)) (pa_consN (pv 1) (pa_consK pe_int pa_nil))) (fun _ _ => rfl)))) pa_nil)))
      (pss_cons (ps_if (pw_and (pt_val (pv 1)) (pw_and1 (pt_cmpR op_in_seq (pv 5) (pe_tup (pa_consK pe_str (pa_consK pe_str (pa_consK pe_str (pa_consK pe_str (pa_consK pe_str (pa_consK pe_str (pa_consK pe_str (pa_consK pe_str (pa_consK pe_str (pa_consK pe_str (pa_consK pe_str pa_nil)))))))))))) rfl))).pt (pss_one (ps_ret pe_str)) pss_nil)
      (pss_cons (ps_if (pw_and (pt_val (pv 1)) (pw_and1 (pt_cmpR op_in_seq (pv 5) (pe_tup (pa_consK pe_str (pa_consK pe_str pa_nil))) rfl))).pt (pss_one (ps_ret pe_str)) pss_nil)
      (pss_one (ps_ret (pv 5)))))))))))), ?_⟩
    refine ⟨(by show 14 ≤ sizeLine; decide), fun kn hkn => ?_⟩
    have s1 := Same.new (o := .lst KN14) hkn
    have hk1 : upd H kn (.lst KN14) kn = some (.lst KN14) := upd_same
    have nkp := hpen.ne hkn
    have pen1 := hpen.same s1
    have kp1 : KeepX p H (upd H kn (.lst KN14)) := Same.keep s1
    refine ⟨_, rfl, p, _, _, _, rfl, (by show (0 : Int) < _; decide), sz4000 (by decide) (by decide), pen1, (by omega), fun r2 H2 a2 b2 pen2 kp2 => ?_⟩
    have hk2 := kp2 _ _ nkp hk1
    have kp12 := kp1.trans kp2
    have word : ∀ w : Int, 0 ≤ w → w < 14 → (6 ≤ w ∨ fr = false) → ∃ z, atI KN14 w = some (V.str z) ∧ Q (.str z) H2 := fun w h0 h1 h6 => by
      obtain ⟨z, hz, nm, rs⟩ := kn14 h0 h1
      exact ⟨z, hz, k z H2 nm (fun e => rs (h6.resolve_right (by rw [e]; exact Bool.noConfusion))) (pen2.mono (by omega)) kp12⟩
    refine ⟨_, rfl, _, _, rfl, rfl, _, rfl, ite2 (fun c1 => ?_) (fun c1 => iteF ?_)⟩
    · have c1' := of_decide_eq_true c1
      refine ⟨_, rfl, fr, rfl, ite2 (fun c2 => ?_) (fun c2 => ?_)⟩
      · obtain ⟨z, hz, q⟩ := word r2 a2 (by omega) (.inr (by simpa using c2))
        exact ⟨_, rfl, _, rfl, kn, _, _, _, rfl, rfl, SqL.of hk2, hz, q⟩
      · refine ⟨_, rfl, _, _, rfl, rfl, _, rfl, ite2 (fun c3 => absurd (of_decide_eq_true c3) (by omega)) (fun c3 => ⟨_, rfl, iteF ?_⟩)⟩
        refine ⟨_, rfl, p, _, _, _, rfl, (by show (0 : Int) < _; decide), sz4000 (by decide) (by decide), pen2, (by omega), fun r3 H3 a3 b3 pen3 kp3 => ⟨_, _, rfl, rfl, ?_⟩⟩
        refine ⟨rfl, _, rfl, _, rfl, (by omega), (by omega), fun D hD => ?_⟩
        have npD := pen3.ne hD
        generalize hm : (1 + r3).toNat = m
        have hm6 : m ≤ 6 := by omega
        have hm1 : 1 ≤ m := by omega
        refine ⟨fun i mm H4 => mm = m - i ∧ i ≤ m ∧ ∃ ts : List Str, H4 D = some (.lst (ts.map V.str)) ∧ ts.length = i ∧ (∀ t ∈ ts, ∃ c, t = ⟨#[c]⟩ ∧ 97 ≤ c ∧ c ≤ 122) ∧ PenD K S H4 p (n + 2 + i) ∧ ∀ b o, b ≠ p → H3 b = some o → H4 b = some o,
          ⟨m, by simp, Nat.zero_le _, [], upd_same, rfl, (fun t ht => by cases ht), (pen3.same (Same.new hD)).mono (by omega), fun b o _ e => Same.new hD _ _ e⟩, ?_⟩
        rintro i mm H4 ⟨rfl, hi, ts, hD4, hl4, one4, pen4, kp4⟩
        by_cases hlt : i < m
        · refine .inr ⟨hlt, fun x H' y => ?_⟩
          obtain ⟨e, y⟩ := y
          subst e y
          refine ⟨_, rfl, p, _, _, _, rfl, (by show (0 : Int) < _; decide), sz4000 (by decide) (by decide), pen4, (by omega), fun r5 H5 a5 b5 pen5 kp5 => ⟨_, _, _, rfl, rfl, (by decide +kernel), az_at a5 b5, _, kp5 _ _ npD hD4, (by rw [List.length_map, hl4]; exact sl_lt (by omega)), m - (i + 1), (by omega), rfl, hlt, ts ++ [⟨#[97 + r5.toNat]⟩], (by rw [upd_same, List.map_append]; rfl), (by rw [List.length_append, hl4]; rfl), fun t ht => ?_, ?_, fun b o h1 e => ?_⟩⟩
          · rcases List.mem_append.mp ht with ht | ht
            · exact one4 t ht
            · rw [List.mem_singleton.mp ht]
              exact ⟨_, rfl, by omega, by omega⟩
          · exact (pen3.put hD pen5).mono (by omega)
          · rw [upd_ne (ne_of_none e hD)]; exact kp5 b o h1 (kp4 b o h1 e)
        have e : i = m := by omega
        subst e
        refine .inl ⟨Nat.le_refl _, ?_⟩
        refine ⟨_, D, ts, rfl, rfl, SqL.of hD4, join_ok one4 (by omega), ?_⟩
        have nm := join_nm one4 (by omega) (by omega)
        generalize Txt.join (Str.ofString "") ts = z at nm
        have kpz : KeepX p H H4 := kp12.trans (kp3.trans fun b o hb e => kp4 b o hb e)
        refine ⟨_, rfl, fr, rfl, ite2 (fun c5 => ?_) (fun c5 => iteF ?_)⟩
        · refine ⟨_, rfl, (by show 11 ≤ sizeLine; decide), fun t1 ht1 => ⟨t1, RS1, rfl, .inr (SqT.of upd_same), rfl, rfl, _, rfl, ite2 (fun c6 => ?_) (fun c6 => ?_)⟩⟩
          · exact k (Str.ofString "x") _ (nm_lit (by decide +kernel)) (fun _ => by decide +kernel) ((pen4.same (Same.new ht1)).mono (by omega)) (kpz.trans (Same.keep (Same.new ht1)))
          · refine ⟨_, rfl, fr, rfl, ite2 (fun c7 => ?_) (fun c7 => absurd c5 c7)⟩
            refine ⟨_, rfl, two_le, fun t2 ht2 => ⟨t2, RS2, rfl, .inr (SqT.of upd_same), rfl, rfl, _, rfl, ite2 (fun c8 => ?_) (fun c8 => ?_)⟩⟩
            · exact k (Str.ofString "y") _ (nm_lit (by decide +kernel)) (fun _ => by decide +kernel) (((pen4.same (Same.new ht1)).same (Same.new ht2)).mono (by omega)) (kpz.trans ((Same.keep (Same.new ht1)).trans (Same.keep (Same.new ht2))))
            · refine ⟨_, rfl, k z _ nm (fun _ => ?_) (((pen4.same (Same.new ht1)).same (Same.new ht2)).mono (by omega)) (kpz.trans ((Same.keep (Same.new ht1)).trans (Same.keep (Same.new ht2))))⟩
              have c6' : inV (V.str z) RS1 = false := Bool.eq_false_iff.mpr c6
              have c8' : inV (V.str z) RS2 = false := Bool.eq_false_iff.mpr c8
              unfold rsv
              rw [c6', c8']
              rfl
        · refine ⟨_, rfl, fr, rfl, ite2 (fun c7 => absurd c7 c5) (fun _ => iteF ⟨_, rfl, k z _ nm (fun e => absurd e c5) (pen4.mono (by omega)) kpz⟩)⟩
    · refine ⟨_, rfl, _, _, rfl, rfl, _, rfl, ite2 (fun c3 => ?_) (fun c3 => ⟨_, rfl, iteF ?_⟩)⟩
      · refine ⟨_, _, rfl, rfl, _, rfl, ite2 (fun c4 => ?_) (fun c4 => ?_)⟩
        · have c3' := of_decide_eq_true c3
          obtain ⟨z, hz, q⟩ := word r2 a2 (of_decide_eq_true c4) (.inl (by omega))
          exact ⟨_, rfl, _, rfl, kn, _, _, _, rfl, rfl, SqL.of hk2, hz, q⟩
        · skip
          refine ⟨_, rfl, p, _, _, _, rfl, (by show (0 : Int) < _; decide), sz4000 (by decide) (by decide), pen2, (by omega), fun r3 H3 a3 b3 pen3 kp3 => ⟨_, _, rfl, rfl, ?_⟩⟩
          refine ⟨rfl, _, rfl, _, rfl, (by omega), (by omega), fun D hD => ?_⟩
          have npD := pen3.ne hD
          generalize hm : (1 + r3).toNat = m
          have hm6 : m ≤ 6 := by omega
          have hm1 : 1 ≤ m := by omega
          refine ⟨fun i mm H4 => mm = m - i ∧ i ≤ m ∧ ∃ ts : List Str, H4 D = some (.lst (ts.map V.str)) ∧ ts.length = i ∧ (∀ t ∈ ts, ∃ c, t = ⟨#[c]⟩ ∧ 97 ≤ c ∧ c ≤ 122) ∧ PenD K S H4 p (n + 2 + i) ∧ ∀ b o, b ≠ p → H3 b = some o → H4 b = some o,
            ⟨m, by simp, Nat.zero_le _, [], upd_same, rfl, (fun t ht => by cases ht), (pen3.same (Same.new hD)).mono (by omega), fun b o _ e => Same.new hD _ _ e⟩, ?_⟩
          rintro i mm H4 ⟨rfl, hi, ts, hD4, hl4, one4, pen4, kp4⟩
          by_cases hlt : i < m
          · refine .inr ⟨hlt, fun x H' y => ?_⟩
            obtain ⟨e, y⟩ := y
            subst e y
            refine ⟨_, rfl, p, _, _, _, rfl, (by show (0 : Int) < _; decide), sz4000 (by decide) (by decide), pen4, (by omega), fun r5 H5 a5 b5 pen5 kp5 => ⟨_, _, _, rfl, rfl, (by decide +kernel), az_at a5 b5, _, kp5 _ _ npD hD4, (by rw [List.length_map, hl4]; exact sl_lt (by omega)), m - (i + 1), (by omega), rfl, hlt, ts ++ [⟨#[97 + r5.toNat]⟩], (by rw [upd_same, List.map_append]; rfl), (by rw [List.length_append, hl4]; rfl), fun t ht => ?_, ?_, fun b o h1 e => ?_⟩⟩
            · rcases List.mem_append.mp ht with ht | ht
              · exact one4 t ht
              · rw [List.mem_singleton.mp ht]
                exact ⟨_, rfl, by omega, by omega⟩
            · exact (pen3.put hD pen5).mono (by omega)
            · rw [upd_ne (ne_of_none e hD)]; exact kp5 b o h1 (kp4 b o h1 e)
          have e : i = m := by omega
          subst e
          refine .inl ⟨Nat.le_refl _, ?_⟩
          refine ⟨_, D, ts, rfl, rfl, SqL.of hD4, join_ok one4 (by omega), ?_⟩
          have nm := join_nm one4 (by omega) (by omega)
          generalize Txt.join (Str.ofString "") ts = z at nm
          have kpz : KeepX p H H4 := kp12.trans (kp3.trans fun b o hb e => kp4 b o hb e)
          refine ⟨_, rfl, fr, rfl, ite2 (fun c5 => ?_) (fun c5 => iteF ?_)⟩
          · refine ⟨_, rfl, (by show 11 ≤ sizeLine; decide), fun t1 ht1 => ⟨t1, RS1, rfl, .inr (SqT.of upd_same), rfl, rfl, _, rfl, ite2 (fun c6 => ?_) (fun c6 => ?_)⟩⟩
            · exact k (Str.ofString "x") _ (nm_lit (by decide +kernel)) (fun _ => by decide +kernel) ((pen4.same (Same.new ht1)).mono (by omega)) (kpz.trans (Same.keep (Same.new ht1)))
            · refine ⟨_, rfl, fr, rfl, ite2 (fun c7 => ?_) (fun c7 => absurd c5 c7)⟩
              refine ⟨_, rfl, two_le, fun t2 ht2 => ⟨t2, RS2, rfl, .inr (SqT.of upd_same), rfl, rfl, _, rfl, ite2 (fun c8 => ?_) (fun c8 => ?_)⟩⟩
              · exact k (Str.ofString "y") _ (nm_lit (by decide +kernel)) (fun _ => by decide +kernel) (((pen4.same (Same.new ht1)).same (Same.new ht2)).mono (by omega)) (kpz.trans ((Same.keep (Same.new ht1)).trans (Same.keep (Same.new ht2))))
              · refine ⟨_, rfl, k z _ nm (fun _ => ?_) (((pen4.same (Same.new ht1)).same (Same.new ht2)).mono (by omega)) (kpz.trans ((Same.keep (Same.new ht1)).trans (Same.keep (Same.new ht2))))⟩
                have c6' : inV (V.str z) RS1 = false := Bool.eq_false_iff.mpr c6
                have c8' : inV (V.str z) RS2 = false := Bool.eq_false_iff.mpr c8
                unfold rsv
                rw [c6', c8']
                rfl
          · refine ⟨_, rfl, fr, rfl, ite2 (fun c7 => absurd c7 c5) (fun _ => iteF ⟨_, rfl, k z _ nm (fun e => absurd e c5) (pen4.mono (by omega)) kpz⟩)⟩
      · skip
        refine ⟨_, rfl, p, _, _, _, rfl, (by show (0 : Int) < _; decide), sz4000 (by decide) (by decide), pen2, (by omega), fun r3 H3 a3 b3 pen3 kp3 => ⟨_, _, rfl, rfl, ?_⟩⟩
        refine ⟨rfl, _, rfl, _, rfl, (by omega), (by omega), fun D hD => ?_⟩
        have npD := pen3.ne hD
        generalize hm : (1 + r3).toNat = m
        have hm6 : m ≤ 6 := by omega
        have hm1 : 1 ≤ m := by omega
        refine ⟨fun i mm H4 => mm = m - i ∧ i ≤ m ∧ ∃ ts : List Str, H4 D = some (.lst (ts.map V.str)) ∧ ts.length = i ∧ (∀ t ∈ ts, ∃ c, t = ⟨#[c]⟩ ∧ 97 ≤ c ∧ c ≤ 122) ∧ PenD K S H4 p (n + 2 + i) ∧ ∀ b o, b ≠ p → H3 b = some o → H4 b = some o,
          ⟨m, by simp, Nat.zero_le _, [], upd_same, rfl, (fun t ht => by cases ht), (pen3.same (Same.new hD)).mono (by omega), fun b o _ e => Same.new hD _ _ e⟩, ?_⟩
        rintro i mm H4 ⟨rfl, hi, ts, hD4, hl4, one4, pen4, kp4⟩
        by_cases hlt : i < m
        · refine .inr ⟨hlt, fun x H' y => ?_⟩
          obtain ⟨e, y⟩ := y
          subst e y
          refine ⟨_, rfl, p, _, _, _, rfl, (by show (0 : Int) < _; decide), sz4000 (by decide) (by decide), pen4, (by omega), fun r5 H5 a5 b5 pen5 kp5 => ⟨_, _, _, rfl, rfl, (by decide +kernel), az_at a5 b5, _, kp5 _ _ npD hD4, (by rw [List.length_map, hl4]; exact sl_lt (by omega)), m - (i + 1), (by omega), rfl, hlt, ts ++ [⟨#[97 + r5.toNat]⟩], (by rw [upd_same, List.map_append]; rfl), (by rw [List.length_append, hl4]; rfl), fun t ht => ?_, ?_, fun b o h1 e => ?_⟩⟩
          · rcases List.mem_append.mp ht with ht | ht
            · exact one4 t ht
            · rw [List.mem_singleton.mp ht]
              exact ⟨_, rfl, by omega, by omega⟩
          · exact (pen3.put hD pen5).mono (by omega)
          · rw [upd_ne (ne_of_none e hD)]; exact kp5 b o h1 (kp4 b o h1 e)
        have e : i = m := by omega
        subst e
        refine .inl ⟨Nat.le_refl _, ?_⟩
        refine ⟨_, D, ts, rfl, rfl, SqL.of hD4, join_ok one4 (by omega), ?_⟩
        have nm := join_nm one4 (by omega) (by omega)
        generalize Txt.join (Str.ofString "") ts = z at nm
        have kpz : KeepX p H H4 := kp12.trans (kp3.trans fun b o hb e => kp4 b o hb e)
        refine ⟨_, rfl, fr, rfl, ite2 (fun c5 => ?_) (fun c5 => iteF ?_)⟩
        · refine ⟨_, rfl, (by show 11 ≤ sizeLine; decide), fun t1 ht1 => ⟨t1, RS1, rfl, .inr (SqT.of upd_same), rfl, rfl, _, rfl, ite2 (fun c6 => ?_) (fun c6 => ?_)⟩⟩
          · exact k (Str.ofString "x") _ (nm_lit (by decide +kernel)) (fun _ => by decide +kernel) ((pen4.same (Same.new ht1)).mono (by omega)) (kpz.trans (Same.keep (Same.new ht1)))
          · refine ⟨_, rfl, fr, rfl, ite2 (fun c7 => ?_) (fun c7 => absurd c5 c7)⟩
            refine ⟨_, rfl, two_le, fun t2 ht2 => ⟨t2, RS2, rfl, .inr (SqT.of upd_same), rfl, rfl, _, rfl, ite2 (fun c8 => ?_) (fun c8 => ?_)⟩⟩
            · exact k (Str.ofString "y") _ (nm_lit (by decide +kernel)) (fun _ => by decide +kernel) (((pen4.same (Same.new ht1)).same (Same.new ht2)).mono (by omega)) (kpz.trans ((Same.keep (Same.new ht1)).trans (Same.keep (Same.new ht2))))
            · refine ⟨_, rfl, k z _ nm (fun _ => ?_) (((pen4.same (Same.new ht1)).same (Same.new ht2)).mono (by omega)) (kpz.trans ((Same.keep (Same.new ht1)).trans (Same.keep (Same.new ht2))))⟩
              have c6' : inV (V.str z) RS1 = false := Bool.eq_false_iff.mpr c6
              have c8' : inV (V.str z) RS2 = false := Bool.eq_false_iff.mpr c8
              unfold rsv
              rw [c6', c8']
              rfl
        · refine ⟨_, rfl, fr, rfl, ite2 (fun c7 => absurd c7 c5) (fun _ => iteF ⟨_, rfl, k z _ nm (fun e => absurd e c5) (pen4.mono (by omega)) kpz⟩)⟩
theorem sc_law_sheet : FnScope ["_law_pen_here"] ["_law_pen_here"] (defScope s__law_sheet) := ⟨rfl, rfl, rfl, by decide +kernel, rfl, by decide +kernel, by decide +kernel⟩
theorem ok__law_sheet (T : Txt w K mg t) : FnOk P w K mg base CX0 3 t.f__law_sheet t.d__law_sheet ["_law_pen_here"] (spShD K) := by
  have D := T.c__law_sheet
  refine D.fn.ok sc_law_sheet (fun vs H Q E h => ?_) (fun cdv A outer s H vs Q E hr h => ?_)
  · obtain ⟨p, n, S, rfl, _⟩ := h
    rfl
  · obtain ⟨p, n, S, rfl, hpen, hn, k⟩ := h
    have hu := hr.units0
    have hu1 := hu_of hr
    refine ⟨_, ((pss_cons (ps_if (pt_cmpR op_gt (pe_cl T.c__law_take (ok__law_take T) (hr.mono (by decide)) (pa_consN (pv 0) (pa_consK pe_int pa_nil))) pe_int (nomark _)) (pss_one (ps_ret pe_non)) pss_nil)
      (pss_one (ps_ret (pe_cl T.c__law_letters (ok__law_letters T) (hr.mono (by decide)) (pa_consN (pv 0) (pa_consK pe_bl pa_nil))))))), ?_⟩
    refine ⟨_, rfl, p, _, _, _, rfl, (by show (0 : Int) < _; decide), sz4000 (by decide) (by decide), hpen, (by omega), fun r1 H1 a1 b1 pen1 kp1 => ⟨_, _, rfl, rfl, _, rfl, ite2 (fun _ => ?_) (fun _ => ?_)⟩⟩
    · exact k none H1 trivial (pen1.mono (by omega)) kp1
    · exact ⟨_, rfl, p, false, _, S, rfl, pen1, (by omega), fun z H2 nm _ pen2 kp2 => k (some z) H2 nm (pen2.mono (by omega)) (kp1.trans kp2)⟩
theorem sc_law_corner : FnScope ["_law_pen_here", "_law_row", "_law_column_here"] ["_law_pen_here", "_law_row", "_law_column_here"] (defScope s__law_corner) := ⟨rfl, rfl, rfl, by decide +kernel, rfl, by decide +kernel, by decide +kernel⟩
theorem ok__law_corner (T : Txt w K mg t) : FnOk P w K mg base CX0 2 t.f__law_corner t.d__law_corner ["_law_pen_here", "_law_row", "_law_column_here"] (spCorD K) := by
  have D := T.c__law_corner
  refine D.fn.ok sc_law_corner (fun vs H Q E h => ?_) (fun cdv A outer s H vs Q E hr h => ?_)
  · obtain ⟨p, r, c, n, S, rfl, _⟩ := h
    rfl
  · obtain ⟨p, r, c, n, S, rfl, hpen, hn, k⟩ := h
    have hu := hr.units0
    have hu1 := hu_of hr
    refine ⟨_, ((pss_one (ps_ret (pe_tup (pa_consN (pv 1) (pa_consN (pv 2) (pa_consM (pe_cmpR op_eq (pe_cl T.c__law_take (ok__law_take T) (hr.mono (by decide)) (pa_consN (pv 0) (pa_consK pe_int pa_nil))) pe_int (nomark _)) (pa_consM (pe_cmpR op_eq (pe_cl T.c__law_take (ok__law_take T) (hr.mono (by decide)) (pa_consN (pv 0) (pa_consK pe_int pa_nil))) pe_int (nomark _)) pa_nil)))))))), ?_⟩
    refine ⟨_, rfl, _, rfl, _, rfl, p, _, _, _, rfl, (by show (0 : Int) < _; decide), sz4000 (by decide) (by decide), hpen, (by omega), fun r1 H1 a1 b1 pen1 kp1 => ⟨rfl, _, rfl, p, _, _, _, rfl, (by show (0 : Int) < _; decide), sz4000 (by decide) (by decide), pen1, (by omega), fun r2 H2 a2 b2 pen2 kp2 => ⟨rfl, (by show 4 ≤ sizeLine; decide), fun q hq => ?_⟩⟩⟩
    exact k q (decide (V.int r1 = V.int 1)) (decide (V.int r2 = V.int 1)) _ upd_same (pen2.same (Same.new hq)) ((kp1.trans kp2).trans (Same.keep (Same.new hq)))
theorem sc_law_reference : FnScope ["_law_pen_here", "_law_way", "_law_row", "_law_column_here", "_law_sheet_here", "_law_last", "_law_end"] ["_law_pen_here", "_law_way"] (defScope s__law_reference) := ⟨rfl, rfl, rfl, by decide +kernel, rfl, by decide +kernel, by decide +kernel⟩
theorem ok__law_reference (T : Txt w K mg t) : FnOk P w K mg base CX0 4 t.f__law_reference t.d__law_reference ["_law_pen_here", "_law_way"] (spRefD K) := by
  have D := T.c__law_reference
  refine D.fn.ok sc_law_reference (fun vs H Q E h => ?_) (fun cdv A outer s H vs Q E hr h => ?_)
  · obtain ⟨p, w, n, S, rfl, _⟩ := h
    rfl
  · obtain ⟨p, w, n, S, rfl, hpen, hn, k⟩ := h
    have hu := hr.units0
    have hu1 := hu_of hr
    refine ⟨_, ((pss_cons (ps_set (i := 2) sc_law_reference.nd rfl (Or.inl rfl) (pe_op op_add pe_int (pe_cl T.c__law_take (ok__law_take T) (hr.mono (by decide)) (pa_consN (pv 0) (pa_consK pe_int pa_nil)))))
      (pss_cons (ps_set (i := 3) sc_law_reference.nd rfl (Or.inl rfl) (pe_op op_add pe_int (pe_cl T.c__law_take (ok__law_take T) (hr.mono (by decide)) (pa_consN (pv 0) (pa_consK pe_int pa_nil)))))
      (pss_cons (ps_set (i := 4) sc_law_reference.nd rfl (Or.inl rfl) (pe_cl T.c__law_sheet (ok__law_sheet T) (hr.mono (by decide)) (pa_consN (pv 0) pa_nil)))
      (pss_cons (ps_if (pt_cmpR op_eq (pv 1) pe_int (nomark _)) (pss_one (ps_ret (pe_tup (pa_consK pe_str (pa_consN (pv 4) (pa_consC (pe_cl T.c__law_corner (ok__law_corner T) (hr.mono (by decide)) (pa_consN (pv 0) (pa_consN (pv 2) (pa_consN (pv 3) pa_nil)))) pa_nil)))))) pss_nil)
      (pss_cons (ps_set (i := 5) sc_law_reference.nd rfl (Or.inl rfl) (pe_op op_add (pv 3) (pe_cl T.c__law_take (ok__law_take T) (hr.mono (by decide)) (pa_consN (pv 0) (pa_consB (pe_op op_sub pe_int (pv 3)) pa_nil)))))
      (pss_cons (ps_if (pt_cmpR op_eq (pv 1) pe_int (nomark _)) (pss_one (ps_ret (pe_tup (pa_consK pe_str (pa_consN (pv 4) (pa_consT (pe_tup (pa_consN (pv 3) (pa_consM (pe_cmpR op_eq (pe_cl T.c__law_take (ok__law_take T) (hr.mono (by decide)) (pa_consN (pv 0) (pa_consK pe_int pa_nil))) pe_int (nomark _)) pa_nil))) (pa_consT (pe_tup (pa_consN (pv 5) (pa_consM (pe_cmpR op_eq (pe_cl T.c__law_take (ok__law_take T) (hr.mono (by decide)) (pa_consN (pv 0) (pa_consK pe_int pa_nil))) pe_int (nomark _)) pa_nil))) pa_nil))))))) pss_nil)
      (pss_cons (ps_set (i := 6) sc_law_reference.nd rfl (Or.inl rfl) (pe_op op_add (pv 2) (pe_cl T.c__law_take (ok__law_take T) (hr.mono (by decide)) (pa_consN (pv 0) (pa_consB (pe_op op_sub pe_int (pv 2)) pa_nil)))))
      (pss_one (ps_ret (pe_tup (pa_consK pe_str (pa_consN (pv 4) (pa_consC (pe_cl T.c__law_corner (ok__law_corner T) (hr.mono (by decide)) (pa_consN (pv 0) (pa_consN (pv 2) (pa_consN (pv 3) pa_nil)))) (pa_consC (pe_cl T.c__law_corner (ok__law_corner T) (hr.mono (by decide)) (pa_consN (pv 0) (pa_consN (pv 6) (pa_consN (pv 5) pa_nil)))) pa_nil))))))))))))))), ?_⟩
    refine ⟨_, rfl, p, _, _, _, rfl, (by show (0 : Int) < _; decide), sz4000 (by decide) (by decide), hpen, (by omega), fun r1 H1 a1 b1 pen1 kp1 => ⟨_, _, rfl, rfl, ?_⟩⟩
    refine ⟨_, rfl, p, _, _, _, rfl, (by show (0 : Int) < _; decide), sz4000 (by decide) (by decide), pen1, (by omega), fun r2 H2 a2 b2 pen2 kp2 => ⟨_, _, rfl, rfl, ?_⟩⟩
    refine ⟨_, rfl, p, _, S, rfl, pen2, (by omega), fun s H3 sh pen3 kp3 => ?_⟩
    have kp13 := (kp1.trans kp2).trans kp3
    refine ⟨_, rfl, rfl, _, rfl, ite2 (fun _ => ?_) (fun _ => ?_)⟩
    · refine ⟨_, rfl, _, rfl, _, rfl, _, rfl, p, _, _, _, S, rfl, pen3, (by omega), fun q x y H4 hq pen4 kp4 => ⟨three_le, fun a ha => ?_⟩⟩
      exact k a (.cell s ⟨1 + r1, 1 + r2, x, y⟩) _ ⟨q, upd_same, Same.new ha _ _ hq⟩ (fun _ => ⟨sh, by dsimp only; omega, by dsimp only; omega, by dsimp only; omega, by dsimp only; omega⟩) ((pen4.same (Same.new ha)).mono (by omega)) ((kp13.trans kp4).trans (Same.keep (Same.new ha)))
    · refine ⟨_, rfl, _, rfl, _, rfl, _, _, rfl, rfl, p, _, _, _, rfl, (by omega), sz4000 (by omega) (by omega), pen3, (by omega), fun r4 H4 a4 b4 pen4 kp4 => ⟨_, _, rfl, rfl, ?_⟩⟩
      refine ⟨_, rfl, rfl, _, rfl, ite2 (fun _ => ?_) (fun _ => ?_)⟩
      · refine ⟨_, rfl, _, rfl, _, rfl, p, _, _, _, rfl, (by show (0 : Int) < _; decide), sz4000 (by decide) (by decide), pen4, (by omega), fun r5 H5 a5 b5 pen5 kp5 => ⟨rfl, two_le, fun q hq => ?_⟩⟩
        have s5 := Same.new (o := .tup [.int (1 + r2), .bl (decide (V.int r5 = V.int 1))]) hq
        refine ⟨_, rfl, _, rfl, p, _, _, _, rfl, (by show (0 : Int) < _; decide), sz4000 (by decide) (by decide), (pen5.same s5), (by omega), fun r6 H6 a6 b6 pen6 kp6 => ⟨rfl, two_le, fun u hu => ?_⟩⟩
        have hq6 := Kp.pen (pen5.same s5) kp6 _ _ (upd_same (H := H5) (a := q) (o := .tup [.int (1 + r2), .bl (decide (V.int r5 = V.int 1))]))
        have s6 := Same.new (o := .tup [.int (1 + r2 + r4), .bl (decide (V.int r6 = V.int 1))]) hu
        refine ⟨(by show 4 ≤ sizeLine; decide), fun a ha => ?_⟩
        have s7 := Same.new (o := .tup [vS "columns", shV s, .ref q, .ref u]) ha
        exact k a (.cols s (1 + r2) (decide (V.int r5 = V.int 1)) (1 + r2 + r4) (decide (V.int r6 = V.int 1))) _ ⟨q, u, upd_same, s7 _ _ (s6 _ _ hq6), s7 _ _ upd_same⟩ (fun _ => ⟨sh, by omega, by omega, by omega⟩) (((pen6.same s6).same s7).mono (by omega)) (((((kp13.trans kp4).trans kp5).trans ((Same.keep s5).trans kp6)).trans (Same.keep s6)).trans (Same.keep s7))
      · refine ⟨_, rfl, _, rfl, _, rfl, _, _, rfl, rfl, p, _, _, _, rfl, (by omega), sz4000 (by omega) (by omega), pen4, (by omega), fun r5 H5 a5 b5 pen5 kp5 => ⟨_, _, rfl, rfl, ?_⟩⟩
        refine ⟨_, rfl, _, rfl, _, rfl, _, rfl, p, _, _, _, S, rfl, pen5, (by omega), fun q x y H6 hq pen6 kp6 => ?_⟩
        refine ⟨_, rfl, _, rfl, _, rfl, p, _, _, _, S, rfl, pen6, (by omega), fun u x2 y2 H7 hu pen7 kp7 => ⟨(by show 4 ≤ sizeLine; decide), fun a ha => ?_⟩⟩
        have hq7 := Kp.pen pen6 kp7 _ _ hq
        have s8 := Same.new (o := .tup [vS "range", shV s, .ref q, .ref u]) ha
        exact k a (.rng s ⟨1 + r1, 1 + r2, x, y⟩ ⟨1 + r1 + r5, 1 + r2 + r4, x2, y2⟩) _ ⟨q, u, upd_same, s8 _ _ hq7, s8 _ _ hu⟩ (fun _ => ⟨sh, ⟨by dsimp only; omega, by dsimp only; omega, by dsimp only; omega, by dsimp only; omega⟩, ⟨by dsimp only; omega, by dsimp only; omega, by dsimp only; omega, by dsimp only; omega⟩, by dsimp only; omega, by dsimp only; omega⟩) ((pen7.same s8).mono (by omega)) (((((kp13.trans kp4).trans kp5).trans kp6).trans kp7).trans (Same.keep s8))
theorem sc_law_value : FnScope ["_law_pen_here", "_law_way", "_law_signs"] ["_law_pen_here", "_law_way"] (defScope s__law_value) := ⟨rfl, rfl, rfl, by decide +kernel, rfl, by decide +kernel, by decide +kernel⟩
theorem ok__law_value (T : Txt w K mg t) : FnOk P w K mg base CX0 2 t.f__law_value t.d__law_value ["_law_pen_here", "_law_way"] (spValD K) := by
  have D := T.c__law_value
  refine D.fn.ok sc_law_value (fun vs H Q E h => ?_) (fun cdv A outer s H vs Q E hr h => ?_)
  · obtain ⟨p, w, n, S, rfl, _⟩ := h
    rfl
  · obtain ⟨p, w, n, S, rfl, hpen, hn, k⟩ := h
    have hu := hr.units0
    have hu1 := hu_of hr
    refine ⟨_, ((pss_cons (ps_if (pt_cmpR op_eq (pv 1) pe_int (nomark _)) (pss_one (ps_ret (pe_tup (pa_consK pe_str (pa_consC (pe_cl T.c__law_take (ok__law_take T) (hr.mono (by decide)) (pa_consN (pv 0) (pa_consS (pe_ix ix_list (pe_lst (pa_consK pe_int (pa_consK pe_int (pa_consK pe_int pa_nil)))) (pe_cl T.c__law_take (ok__law_take T) (hr.mono (by decide)) (pa_consN (pv 0) (pa_consK pe_int pa_nil))) (fun _ _ => rfl)) pa_nil))) (pa_consK pe_int pa_nil)))))) pss_nil)
      (pss_cons (ps_if (pt_cmpR op_eq (pv 1) pe_int (nomark _)) (pss_cons (ps_set (i := 2) sc_law_value.nd rfl (Or.inr rfl) pe_str)
      (pss_one (ps_ret (pe_tup (pa_consK pe_str (pa_consC (pe_bm PySem.F.plainAttrs_str PySem.F.slot_str_join PySem.F.type_str_join mt_join pe_str (pa_consH (pe_comp (fv := ["_law_pen_here", "_law_signs"]) (js := [0, 2]) (cl := [("_law_signs", s.heap.objs.size + 2), ("_law_pen_here", s.heap.objs.size + 1)]) rfl (by with_unfolding_all rfl) ⟨rfl, by decide +kernel, by decide +kernel, rfl, by decide +kernel, by decide +kernel, (List.forall_mem_cons.mpr ⟨⟨rfl, rfl, rfl⟩, (List.forall_mem_cons.mpr ⟨⟨rfl, rfl, rfl⟩, (List.forall_mem_nil _)⟩)⟩), (List.forall_mem_cons.mpr ⟨rfl, (List.forall_mem_cons.mpr ⟨rfl, (List.forall_mem_nil _)⟩)⟩), (.cons rfl (.cons rfl .nil))⟩ (pi_range1 rfl T.range (pa_consC (pe_cl T.c__law_take (ok__law_take T) (hr.mono (by decide)) (pa_consN (pv 0) (pa_consS (pe_ix ix_list (pe_lst (pa_consK pe_int (pa_consK pe_int pa_nil))) (pe_cl T.c__law_take (ok__law_take T) (hr.mono (by decide)) (pa_consN (pv 0) (pa_consK pe_int pa_nil))) (fun _ _ => rfl)) pa_nil))) pa_nil)) (fun _ _ _ _ _ => pf_nil) (fun _ _ _ _ _ => (pe_ix ix_str (pv 2) (pe_cl T.c__law_take (ok__law_take T) (hr.mono (by decide)) (pa_consN (pv 1) (pa_consK pe_int pa_nil))) (fun _ _ => rfl)))) pa_nil)) pa_nil)))))) pss_nil)
      (pss_one (ps_ret (pe_tup (pa_consK pe_str (pa_consM (pe_cmpR op_eq (pe_cl T.c__law_take (ok__law_take T) (hr.mono (by decide)) (pa_consN (pv 0) (pa_consK pe_int pa_nil))) pe_int (nomark _)) pa_nil)))))))), ?_⟩
    refine ⟨_, rfl, rfl, _, rfl, ite2 (fun _ => ?_) (fun _ => ?_)⟩
    · refine ⟨_, rfl, three_le, fun l hl => ?_⟩
      have s0 := Same.new (o := .lst [.int 10, .int 1000, .int 1000000000]) hl
      have nl := hpen.ne hl
      refine ⟨_, rfl, p, _, _, _, rfl, (by show (0 : Int) < _; decide), sz4000 (by decide) (by decide), (hpen.same s0), (by omega), fun r1 H1 a1 b1 pen1 kp1 => ?_⟩
      obtain ⟨v, hv, v0, v9⟩ := pickN a1 b1
      refine ⟨l, _, _, _, rfl, rfl, SqL.of (kp1 _ _ nl upd_same), hv, p, _, _, _, rfl, (by omega), sz4000 (by omega) (by omega), pen1, (by omega), fun r2 H2 a2 b2 pen2 kp2 => ⟨three_le, fun q hq => ?_⟩⟩
      exact k q (.num r2 1) _ upd_same ⟨low_one, by omega, by decide⟩ ⟨rfl, a2, by omega⟩ ((pen2.same (Same.new hq)).mono (by omega)) ((((Same.keep s0).trans kp1).trans kp2).trans (Same.keep (Same.new hq)))
    refine ⟨_, rfl, rfl, _, rfl, ite2 (fun _ => ?_) (fun _ => ?_)⟩
    · refine ⟨rfl, _, rfl, two_le, fun l hl => ?_⟩
      have s0 := Same.new (o := .lst [.int 4, .int 21]) hl
      have nl := hpen.ne hl
      refine ⟨_, rfl, p, _, _, _, rfl, (by show (0 : Int) < _; decide), sz4000 (by decide) (by decide), (hpen.same s0), (by omega), fun r1 H1 a1 b1 pen1 kp1 => ?_⟩
      obtain ⟨v, hv, v0, v9⟩ := pickT a1 b1
      refine ⟨l, _, _, _, rfl, rfl, SqL.of (kp1 _ _ nl upd_same), hv, p, _, _, _, rfl, (by omega), sz4000 (by omega) (by omega), pen1, (by omega), fun r2 H2 a2 b2 pen2 kp2 => ⟨_, rfl, (by omega), (by omega), fun D hD => ?_⟩⟩
      have npD := pen2.ne hD
      generalize hm : r2.toNat = m
      have hm6 : m ≤ 20 := by omega
      refine ⟨fun i mm H4 => mm = m - i ∧ i ≤ m ∧ ∃ ts : List Str, H4 D = some (.lst (ts.map V.str)) ∧ ts.length = i ∧ (∀ t ∈ ts, ∃ c, t = ⟨#[c]⟩ ∧ c ∈ (Str.ofString "abcdefghijklmnopqrstuvwxyz0123456789 ").cps.toList) ∧ PenD K S H4 p (n + 2 + i) ∧ ∀ b o, b ≠ p → H2 b = some o → H4 b = some o,
        ⟨m, by simp, Nat.zero_le _, [], upd_same, rfl, (fun t ht => by cases ht), (pen2.same (Same.new hD)).mono (by omega), fun b o _ e => Same.new hD _ _ e⟩, ?_⟩
      rintro i mm H4 ⟨rfl, hi, ts, hD4, hl4, one4, pen4, kp4⟩
      by_cases hlt : i < m
      · refine .inr ⟨hlt, fun x H' y => ?_⟩
        obtain ⟨e, y⟩ := y
        subst e y
        refine ⟨_, rfl, _, rfl, p, _, _, _, rfl, (by show (0 : Int) < _; decide), sz4000 (by decide) (by decide), pen4, (by omega), fun r5 H5 a5 b5 pen5 kp5 => ?_⟩
        obtain ⟨c, hc, hin⟩ := pick37 a5 b5
        refine ⟨_, _, c, rfl, rfl, (by decide +kernel), hc, _, kp5 _ _ npD hD4, (by rw [List.length_map, hl4]; exact sl_lt (by omega)), m - (i + 1), (by omega), rfl, hlt, ts ++ [⟨#[c]⟩], (by rw [upd_same, List.map_append]; rfl), (by rw [List.length_append, hl4]; rfl), fun t ht => ?_, (pen2.put hD pen5).mono (by omega), fun b o h1 e => ?_⟩
        · rcases List.mem_append.mp ht with ht | ht
          · exact one4 t ht
          · rw [List.mem_singleton.mp ht]
            exact ⟨_, rfl, hin⟩
        · rw [upd_ne (ne_of_none e hD)]; exact kp5 b o h1 (kp4 b o h1 e)
      have e : i = m := by omega
      subst e
      refine .inl ⟨Nat.le_refl _, ?_⟩
      obtain ⟨ok, jo⟩ := join_txt one4 (by omega)
      refine ⟨_, D, ts, rfl, rfl, SqL.of hD4, jo, two_le, fun q hq => ?_⟩
      exact k q (.txt _) _ upd_same ok trivial ((pen4.same (Same.new hq)).mono (by omega)) ((((Same.keep s0).trans kp1).trans (kp2.trans fun b o hb e => kp4 b o hb e)).trans (Same.keep (Same.new hq)))
    · refine ⟨_, rfl, p, _, _, _, rfl, (by show (0 : Int) < _; decide), sz4000 (by decide) (by decide), hpen, (by omega), fun r1 H1 a1 b1 pen1 kp1 => ⟨rfl, two_le, fun q hq => ?_⟩⟩
      exact k q (.tru _) _ upd_same trivial trivial ((pen1.same (Same.new hq)).mono (by omega)) (kp1.trans (Same.keep (Same.new hq)))
theorem sc_law_leaf : FnScope ["_law_pen_here", "_law_params", "_law_way"] ["_law_pen_here", "_law_params"] (defScope s__law_leaf) := ⟨rfl, rfl, rfl, by decide +kernel, rfl, by decide +kernel, by decide +kernel⟩
theorem ok__law_leaf (T : Txt w K mg t) : FnOk P w K mg base CX0 5 t.f__law_leaf t.d__law_leaf ["_law_pen_here", "_law_params"] (spLeafD K) := by
  have D := T.c__law_leaf
  refine D.fn.ok sc_law_leaf (fun vs H Q E h => ?_) (fun cdv A outer s H vs Q E hr h => ?_)
  · obtain ⟨p, pr, n, S, rfl, _⟩ := h
    rfl
  · obtain ⟨p, pr, n, S, rfl, hpr, hpen, hn, k⟩ := h
    have hu := hr.units0
    have hu1 := hu_of hr
    refine ⟨_, ((pss_cons (ps_set (i := 2) sc_law_leaf.nd rfl (Or.inl rfl) (pe_cl T.c__law_take (ok__law_take T) (hr.mono (by decide)) (pa_consN (pv 0) (pa_consK pe_int pa_nil))))
      (pss_cons (ps_if (pt_cmpR op_lt (pv 2) pe_int (nomark _)) (pss_one (ps_ret (pe_tup (pa_consK pe_str (pa_consC (pe_cl T.c__law_value (ok__law_value T) (hr.mono (by decide)) (pa_consN (pv 0) (pa_consN (pv 2) pa_nil))) pa_nil))))) pss_nil)
      (pss_cons (ps_if (pt_cmpR op_lt (pv 2) pe_int (nomark _)) (pss_one (ps_ret (pe_cl T.c__law_reference (ok__law_reference T) (hr.mono (by decide)) (pa_consN (pv 0) (pa_consS (pe_ix ix_list (pe_lst (pa_consK pe_int (pa_consK pe_int (pa_consK pe_int (pa_consK pe_int pa_nil))))) (pe_op op_sub (pv 2) pe_int) (fun _ _ => rfl)) pa_nil))))) pss_nil)
      (pss_cons (ps_if (pt_cmpR op_eq (pv 2) pe_int (nomark _)) (pss_one (ps_ret (pe_tup (pa_consK pe_str pa_nil)))) pss_nil)
      (pss_cons (ps_if (pw_and (pt_cmpR op_eq (pv 2) pe_int (nomark _)) (pw_and1 (pt_cmpR op_gt (pv 1) pe_int (nomark _)))).pt (pss_one (ps_ret (pe_tup (pa_consK pe_str (pa_consC (pe_cl T.c__law_take (ok__law_take T) (hr.mono (by decide)) (pa_consN (pv 0) (pa_consN (pv 1) pa_nil))) pa_nil))))) pss_nil)
      (pss_one (ps_ret (pe_tup (pa_consK pe_str (pa_consC (pe_cl T.c__law_letters (ok__law_letters T) (hr.mono (by decide)) (pa_consN (pv 0) (pa_consK pe_bl pa_nil))) pa_nil))))))))))), ?_⟩
    refine ⟨_, rfl, p, _, _, _, rfl, (by show (0 : Int) < _; decide), sz4000 (by decide) (by decide), hpen, (by omega), fun r1 H1 a1 b1 pen1 kp1 => ?_⟩
    refine ⟨_, rfl, _, _, rfl, rfl, _, rfl, ite2 (fun _ => ?_) (fun c1 => ?_)⟩
    · refine ⟨_, rfl, _, rfl, p, _, _, S, rfl, pen1, (by omega), fun q v H2 hq ok w2 pen2 kp2 => ⟨two_le, fun a ha => ?_⟩⟩
      exact k a (.val v) _ ⟨q, upd_same, VlAt.same hq (Same.new ha)⟩ ⟨ok, w2⟩ ((pen2.same (Same.new ha)).mono (by omega)) ((kp1.trans kp2).trans (Same.keep (Same.new ha)))
    have c1' : ¬ r1 < 3 := fun z => c1 (decide_eq_true z)
    refine ⟨_, rfl, _, _, rfl, rfl, _, rfl, ite2 (fun c2 => ?_) (fun c2 => ?_)⟩
    · have c2' := of_decide_eq_true c2
      refine ⟨_, rfl, (by show 4 ≤ sizeLine; decide), fun l hl => ?_⟩
      have s0 := Same.new (o := .lst [.int 0, .int 0, .int 1, .int 2]) hl
      obtain ⟨v, hv⟩ := pick4 (r := r1 - 3) (by omega) (by omega)
      refine ⟨_, rfl, _, _, rfl, rfl, l, _, _, _, rfl, rfl, SqL.of upd_same, hv, p, _, _, S, rfl, pen1.same s0, (by omega), fun a lf H2 ha ok pen2 kp2 => ?_⟩
      exact k a lf _ ha (ok pr) (pen2.mono (by omega)) (kp1.trans ((Same.keep s0).trans kp2))
    refine ⟨_, rfl, rfl, _, rfl, ite2 (fun _ => ?_) (fun _ => ?_)⟩
    · exact ⟨(by show 1 ≤ sizeLine; decide), fun a ha => k a .gone _ upd_same trivial ((pen1.same (Same.new ha)).mono (by omega)) (kp1.trans (Same.keep (Same.new ha)))⟩
    refine ⟨_, rfl, rfl, _, rfl, ite2 (fun _ => ?_) (fun _ => iteF ?_)⟩
    · refine ⟨_, rfl, _, _, rfl, rfl, _, rfl, ite2 (fun c4 => ?_) (fun _ => ?_)⟩
      · have c4' := of_decide_eq_true c4
        refine ⟨_, rfl, _, rfl, p, _, _, _, rfl, (by omega), sz4000 (by omega) (by omega), pen1, (by omega), fun r2 H2 a2 b2 pen2 kp2 => ⟨two_le, fun a ha => ?_⟩⟩
        exact k a (.par r2) _ upd_same ⟨a2, b2⟩ ((pen2.same (Same.new ha)).mono (by omega)) ((kp1.trans kp2).trans (Same.keep (Same.new ha)))
      · refine ⟨_, rfl, p, true, _, S, rfl, pen1, (by omega), fun z H2 nm rs pen2 kp2 => ⟨two_le, fun a ha => ?_⟩⟩
        exact k a (.nam z) _ upd_same ⟨nm, rs rfl⟩ ((pen2.same (Same.new ha)).mono (by omega)) ((kp1.trans kp2).trans (Same.keep (Same.new ha)))
    · refine ⟨_, rfl, p, true, _, S, rfl, pen1, (by omega), fun z H2 nm rs pen2 kp2 => ⟨two_le, fun a ha => ?_⟩⟩
      exact k a (.nam z) _ upd_same ⟨nm, rs rfl⟩ ((pen2.same (Same.new ha)).mono (by omega)) ((kp1.trans kp2).trans (Same.keep (Same.new ha)))
theorem sc_law_frame : FnScope ["_law_pen_here", "_law_way", "_law_words", "_law_word"] ["_law_pen_here"] (defScope s__law_frame) := ⟨rfl, rfl, rfl, by decide +kernel, rfl, by decide +kernel, by decide +kernel⟩
theorem ok__law_frame (T : Txt w K mg t) : FnOk P w K mg base CX0 3 t.f__law_frame t.d__law_frame ["_law_pen_here"] (spFrmD K) := by
  have D := T.c__law_frame
  refine D.fn.ok sc_law_frame (fun vs H Q E h => ?_) (fun cdv A outer s H vs Q E hr h => ?_)
  · obtain ⟨p, n, S, rfl, _⟩ := h
    rfl
  · obtain ⟨p, n, S, rfl, hpen, hn, k⟩ := h
    have hu := hr.units0
    have hu1 := hu_of hr
    refine ⟨_, ((pss_cons (ps_set (i := 1) sc_law_frame.nd rfl (Or.inl rfl) (pe_cl T.c__law_take (ok__law_take T) (hr.mono (by decide)) (pa_consN (pv 0) (pa_consK pe_int pa_nil))))
      (pss_cons (ps_if (pt_cmpR op_lt (pv 1) pe_int (nomark _)) (pss_one (ps_ret (pe_tup (pa_consT (pe_tup (pa_consK pe_str (pa_consS (pe_ix ix_str pe_str (pv 1) (fun _ _ => rfl)) pa_nil))) (pa_consK pe_int pa_nil))))) pss_nil)
      (pss_cons (ps_if (pt_cmpR op_lt (pv 1) pe_int (nomark _)) (pss_one (ps_ret (pe_tup (pa_consT (pe_tup (pa_consK pe_str pa_nil)) (pa_consK pe_int pa_nil))))) pss_nil)
      (pss_cons (ps_if (pt_cmpR op_lt (pv 1) pe_int (nomark _)) (pss_one (ps_ret (pe_tup (pa_consT (pe_tup (pa_consK pe_str (pa_consC (pe_cl T.c__law_letters (ok__law_letters T) (hr.mono (by decide)) (pa_consN (pv 0) (pa_consK pe_bl pa_nil))) pa_nil))) (pa_consC (pe_cl T.c__law_take (ok__law_take T) (hr.mono (by decide)) (pa_consN (pv 0) (pa_consK pe_int pa_nil))) pa_nil))))) pss_nil)
      (pss_cons (ps_if (pt_cmpR op_eq (pv 1) pe_int (nomark _)) (pss_one (ps_ret (pe_tup (pa_consT (pe_tup (pa_consK pe_str (pa_consB (pe_op op_add pe_int (pe_cl T.c__law_take (ok__law_take T) (hr.mono (by decide)) (pa_consN (pv 0) (pa_consK pe_int pa_nil)))) (pa_consB (pe_op op_add pe_int (pe_cl T.c__law_take (ok__law_take T) (hr.mono (by decide)) (pa_consN (pv 0) (pa_consK pe_int pa_nil)))) pa_nil)))) (pa_consK pe_int pa_nil))))) pss_nil)
      (pss_cons (ps_if (pt_cmpR op_eq (pv 1) pe_int (nomark _)) (pss_one (ps_ret (pe_tup (pa_consT (pe_tup (pa_consK pe_str (pa_consS (pe_ix ix_str pe_str (pe_cl T.c__law_take (ok__law_take T) (hr.mono (by decide)) (pa_consN (pv 0) (pa_consK pe_int pa_nil))) (fun _ _ => rfl)) pa_nil))) (pa_consK pe_int pa_nil))))) pss_nil)
      (pss_cons (ps_set (i := 2) sc_law_frame.nd rfl (Or.inl rfl) (pe_lst (pa_consK pe_str (pa_consK pe_str (pa_consK pe_str (pa_consK pe_str (pa_consK pe_str (pa_consK pe_str (pa_consK pe_str (pa_consK pe_str (pa_consK pe_str pa_nil)))))))))))
      (pss_cons (ps_set (i := 3) sc_law_frame.nd rfl (Or.inl rfl) (pe_ix ix_list (pv 2) (pe_cl T.c__law_take (ok__law_take T) (hr.mono (by decide)) (pa_consN (pv 0) (pa_consK pe_int pa_nil))) (fun _ _ => rfl)))
      (pss_one (ps_ret (pe_tup (pa_consT (pe_tup (pa_consN (pv 3) pa_nil)) (pa_consS (pe_ix ix_list (pe_lst (pa_consK pe_int (pa_consK pe_int (pa_consK pe_int (pa_consK pe_int (pa_consK pe_int (pa_consK pe_int (pa_consK pe_int (pa_consK pe_int (pa_consK pe_int pa_nil)))))))))) (pe_bm PySem.F.plainAttrs_list PySem.F.slot_list_index PySem.F.type_list_index mt_index (pv 2) (pa_consN (pv 3) pa_nil)) (fun _ _ => rfl)) pa_nil)))))))))))))), ?_⟩
    refine ⟨_, rfl, p, _, _, _, rfl, (by show (0 : Int) < _; decide), sz4000 (by decide) (by decide), hpen, (by omega), fun r1 H1 a1 b1 pen1 kp1 => ?_⟩
    refine ⟨_, rfl, _, _, rfl, rfl, _, rfl, ite2 (fun c1 => ?_) (fun c1 => ?_)⟩
    · obtain ⟨c, hc, hin⟩ := op7 a1 (of_decide_eq_true c1)
      refine ⟨_, rfl, _, _, c, rfl, rfl, (by decide +kernel), hc, two_le, fun f hf => ?_⟩
      have s8 := Same.new (o := .tup (frV (.op ⟨#[c]⟩))) hf
      refine ⟨two_le, fun a ha => ?_⟩
      exact k a f (.op ⟨#[c]⟩) 2 _ upd_same (Same.new ha _ _ upd_same) ⟨hin, rfl⟩ (((pen1.same s8).same (Same.new ha)).mono (by omega)) (kp1.trans ((Same.keep s8).trans (Same.keep (Same.new ha))))
    refine ⟨_, rfl, _, _, rfl, rfl, _, rfl, ite2 (fun _ => ?_) (fun _ => ?_)⟩
    · refine ⟨(by show 1 ≤ sizeLine; decide), fun f hf => ?_⟩
      have s8 := Same.new (o := .tup (frV (.neg))) hf
      refine ⟨two_le, fun a ha => ?_⟩
      exact k a f (.neg) 1 _ upd_same (Same.new ha _ _ upd_same) rfl (((pen1.same s8).same (Same.new ha)).mono (by omega)) (kp1.trans ((Same.keep s8).trans (Same.keep (Same.new ha))))
    refine ⟨_, rfl, _, _, rfl, rfl, _, rfl, ite2 (fun _ => ?_) (fun _ => ?_)⟩
    · refine ⟨_, rfl, p, true, _, S, rfl, pen1, (by omega), fun z H2 nm rs pen2 kp2 => ⟨two_le, fun f hf => ?_⟩⟩
      have s3 := Same.new (o := .tup (frV (.own z))) hf
      refine ⟨_, rfl, p, _, _, _, rfl, (by show (0 : Int) < _; decide), sz4000 (by decide) (by decide), (pen2.same s3), (by omega), fun r4 H4 a4 b4 pen4 kp4 => ⟨two_le, fun a ha => ?_⟩⟩
      obtain ⟨m, hm⟩ : ∃ m : Nat, r4 = (m : Int) := ⟨r4.toNat, by omega⟩
      subst hm
      have hf4 := Kp.pen (pen2.same s3) kp4 _ _ (upd_same (H := H2) (a := f) (o := .tup (frV (.own z))))
      exact k a f (.own z) m _ upd_same (Same.new ha _ _ hf4) ⟨nm, rs rfl, by omega⟩ ((pen4.same (Same.new ha)).mono (by omega)) (((kp1.trans kp2).trans ((Same.keep s3).trans kp4)).trans (Same.keep (Same.new ha)))
    refine ⟨_, rfl, rfl, _, rfl, ite2 (fun _ => ?_) (fun _ => ?_)⟩
    · refine ⟨_, rfl, p, _, _, _, rfl, (by show (0 : Int) < _; decide), sz4000 (by decide) (by decide), pen1, (by omega), fun r2 H2 a2 b2 pen2 kp2 => ⟨_, _, rfl, rfl, _, rfl, p, _, _, _, rfl, (by show (0 : Int) < _; decide), sz4000 (by decide) (by decide), pen2, (by omega), fun r3 H3 a3 b3 pen3 kp3 => ⟨_, _, rfl, rfl, three_le, fun f hf => ?_⟩⟩⟩
      have s8 := Same.new (o := .tup (frV (.grid (1 + r2) (1 + r3)))) hf
      refine ⟨two_le, fun a ha => ?_⟩
      exact k a f (.grid (1 + r2) (1 + r3)) 2 _ upd_same (Same.new ha _ _ upd_same) ⟨by omega, by omega, by omega, by omega, rfl⟩ (((pen3.same s8).same (Same.new ha)).mono (by omega)) (((kp1.trans kp2).trans kp3).trans ((Same.keep s8).trans (Same.keep (Same.new ha))))
    refine ⟨_, rfl, rfl, _, rfl, ite2 (fun _ => ?_) (fun _ => ?_)⟩
    · refine ⟨_, rfl, p, _, _, _, rfl, (by show (0 : Int) < _; decide), sz4000 (by decide) (by decide), pen1, (by omega), fun r2 H2 a2 b2 pen2 kp2 => ?_⟩
      obtain ⟨c, hc, hin⟩ := op2 a2 b2
      refine ⟨_, _, c, rfl, rfl, (by decide +kernel), hc, two_le, fun f hf => ?_⟩
      have s8 := Same.new (o := .tup (frV (.sumif ⟨#[c]⟩))) hf
      refine ⟨two_le, fun a ha => ?_⟩
      exact k a f (.sumif ⟨#[c]⟩) 3 _ upd_same (Same.new ha _ _ upd_same) ⟨hin, rfl⟩ (((pen2.same s8).same (Same.new ha)).mono (by omega)) ((kp1.trans kp2).trans ((Same.keep s8).trans (Same.keep (Same.new ha))))
    refine ⟨(by show 9 ≤ sizeLine; decide), fun l hl => ?_⟩
    have s2 := Same.new (o := .lst (WD9.map V.str)) hl
    have nl := pen1.ne hl
    refine ⟨_, rfl, _, rfl, p, _, _, _, rfl, (by show (0 : Int) < _; decide), sz4000 (by decide) (by decide), (pen1.same s2), (by omega), fun r2 H2 a2 b2 pen2 kp2 => ?_⟩
    obtain ⟨z, j, m, hz, hj, hno, hm, hin⟩ := wd9 a2 b2
    have hl2 := kp2 _ _ nl (upd_same (H := H1) (a := l) (o := .lst (WD9.map V.str)))
    refine ⟨l, _, _, _, rfl, rfl, SqL.of hl2, hz, ?_⟩
    refine ⟨_, rfl, (by show 1 ≤ sizeLine; decide), fun f hf => ?_⟩
    have s3 := Same.new (o := .tup (frV (.wd z))) hf
    refine ⟨(by show 9 ≤ sizeLine; decide), fun l3 hl3 => ?_⟩
    have s4 := Same.new (o := .lst [.int 3, .int 1, .int 1, .int 1, .int 1, .int 3, .int 1, .int 2, .int 1]) hl3
    refine ⟨_, rfl, .inl ⟨rfl, _, SqL.of (s4 _ _ (s3 _ _ hl2))⟩, _, rfl, l, WD9, z, j, rfl, rfl, s4 _ _ (s3 _ _ hl2), hj, hno, ?_⟩
    refine ⟨l3, _, _, _, rfl, rfl, SqL.of upd_same, hm, two_le, fun a ha => ?_⟩
    exact k a f (.wd z) m _ upd_same (Same.new ha _ _ (s4 _ _ upd_same)) hin ((((pen2.same s3).same s4).same (Same.new ha)).mono (by omega)) ((kp1.trans ((Same.keep s2).trans kp2)).trans (((Same.keep s3).trans (Same.keep s4)).trans (Same.keep (Same.new ha))))
theorem sc_law_made : FnScope ["_law_frame_here", "_law_parts_here"] ["_law_frame_here", "_law_parts_here"] (defScope s__law_made) := ⟨rfl, rfl, rfl, by decide +kernel, rfl, by decide +kernel, by decide +kernel⟩
theorem ok__law_made (T : Txt w K mg t) : FnOk P w K mg base CX0 1 t.f__law_made t.d__law_made ["_law_frame_here", "_law_parts_here"] spMadD := by
  have D := T.c__law_made
  refine D.fn.ok sc_law_made (fun vs H Q E h => ?_) (fun cdv A outer s H vs Q E hr h => ?_)
  · obtain ⟨f, l, kd, us, rfl, _⟩ := h
    rfl
  · obtain ⟨f, l, kd, us, rfl, hf, hl, ok, k_⟩ := h
    have hu := hr.units0
    have hu1 := hu_of hr
    refine ⟨_, ((pss_cons (ps_if (pt_cmpR op_eq (pe_ix ix_tup (pv 0) pe_int (fun _ _ => rfl)) pe_str (nomark _)) (pss_one (ps_ret (pe_tup (pa_consK pe_str (pa_consS (pe_ix ix_tup (pv 0) pe_int (fun _ _ => rfl)) (pa_consC (pe_callTy call_tuple_of (by rfl) T.tuple boot_tuple (pa_consN (pv 1) pa_nil)) pa_nil)))))) pss_nil)
      (pss_cons (ps_if (pt_cmpR op_eq (pe_ix ix_tup (pv 0) pe_int (fun _ _ => rfl)) pe_str (nomark _)) (pss_one (ps_ret (pe_tup (pa_consK pe_str (pa_consS (pe_ix ix_list (pv 1) pe_int (fun _ _ => rfl)) (pa_consS (pe_ix ix_tup (pv 0) pe_int (fun _ _ => rfl)) (pa_consS (pe_ix ix_list (pv 1) pe_int (fun _ _ => rfl)) (pa_consS (pe_ix ix_list (pv 1) pe_int (fun _ _ => rfl)) pa_nil)))))))) pss_nil)
      (pss_one (ps_ret (pe_op op_catT (pv 0) (pe_callTy call_tuple_of (by rfl) T.tuple boot_tuple (pa_consN (pv 1) pa_nil)))))))), ?_⟩
    have ar3 := ok.le
    cases kd with
    | own z =>
      refine ⟨_, rfl, f, _, _, _, rfl, rfl, SqT.of hf, rfl, rfl, true, (by decide +kernel), iteT ?_⟩
      refine ⟨_, rfl, f, _, _, _, rfl, rfl, SqT.of hf, rfl, _, rfl, l, us, rfl, .inl ⟨SqL.of hl, fun t ht => ⟨three_le, fun a ha => ?_⟩⟩⟩
      exact k_ a t _ upd_same (fun _ => Same.new ha _ _ upd_same) ((Same.new ht).trans (Same.new ha))
    | sumif z =>
      obtain ⟨u0, u1, u2, rfl⟩ := kid3 (show us.length = 3 from ok.2)
      refine ⟨_, rfl, f, _, _, _, rfl, rfl, SqT.of hf, rfl, rfl, false, (by decide +kernel), iteF ?_⟩
      refine ⟨_, rfl, f, _, _, _, rfl, rfl, SqT.of hf, rfl, rfl, true, (by decide +kernel), iteT ?_⟩
      refine ⟨_, rfl, l, _, _, _, rfl, rfl, SqL.of hl, rfl, _, rfl, f, _, _, _, rfl, rfl, SqT.of hf, rfl, _, rfl, l, _, _, _, rfl, rfl, SqL.of hl, rfl, _, rfl, l, _, _, _, rfl, rfl, SqL.of hl, rfl, (by show 5 ≤ sizeLine; decide), fun a ha => ?_⟩
      exact k_ a a _ upd_same (fun z => by cases z) (Same.new ha)
    | op z =>
      have ar : us.length = 2 := ok.2
      refine ⟨_, rfl, f, _, _, _, rfl, rfl, SqT.of hf, rfl, rfl, false, (by decide +kernel), iteF ?_⟩
      refine ⟨_, rfl, f, _, _, _, rfl, rfl, SqT.of hf, rfl, rfl, false, (by decide +kernel), iteF ?_⟩
      refine ⟨_, rfl, _, rfl, l, us, rfl, .inl ⟨SqL.of hl, fun t ht => ?_⟩⟩
      have s1 := Same.new (o := .tup us) ht
      refine ⟨f, t, _, us, rfl, rfl, SqT.of (s1 _ _ hf), SqT.of upd_same, (fun z => by cases z), sl_le (by simp [frV]; omega), fun z => ?_, fun _ a ha => ?_⟩
      · subst z
        simp at ar
      · exact k_ a t _ upd_same (fun z => by cases z) (s1.trans (Same.new ha))
    | neg =>
      have ar : us.length = 1 := ok
      refine ⟨_, rfl, f, _, _, _, rfl, rfl, SqT.of hf, rfl, rfl, false, (by decide +kernel), iteF ?_⟩
      refine ⟨_, rfl, f, _, _, _, rfl, rfl, SqT.of hf, rfl, rfl, false, (by decide +kernel), iteF ?_⟩
      refine ⟨_, rfl, _, rfl, l, us, rfl, .inl ⟨SqL.of hl, fun t ht => ?_⟩⟩
      have s1 := Same.new (o := .tup us) ht
      refine ⟨f, t, _, us, rfl, rfl, SqT.of (s1 _ _ hf), SqT.of upd_same, (fun z => by cases z), sl_le (by simp [frV]; omega), fun z => ?_, fun _ a ha => ?_⟩
      · subst z
        simp at ar
      · exact k_ a t _ upd_same (fun z => by cases z) (s1.trans (Same.new ha))
    | grid i j =>
      have ar : us.length = 2 := ok.2.2.2.2
      refine ⟨_, rfl, f, _, _, _, rfl, rfl, SqT.of hf, rfl, rfl, false, (by decide +kernel), iteF ?_⟩
      refine ⟨_, rfl, f, _, _, _, rfl, rfl, SqT.of hf, rfl, rfl, false, (by decide +kernel), iteF ?_⟩
      refine ⟨_, rfl, _, rfl, l, us, rfl, .inl ⟨SqL.of hl, fun t ht => ?_⟩⟩
      have s1 := Same.new (o := .tup us) ht
      refine ⟨f, t, _, us, rfl, rfl, SqT.of (s1 _ _ hf), SqT.of upd_same, (fun z => by cases z), sl_le (by simp [frV]; omega), fun z => ?_, fun _ a ha => ?_⟩
      · subst z
        simp at ar
      · exact k_ a t _ upd_same (fun z => by cases z) (s1.trans (Same.new ha))
    | wd z =>
      have hw : (z, us.length) ∈ WDS := ok
      have hz : ∀ x ∈ WDS, decide (V.str x.1 = vS "own") = false ∧ decide (V.str x.1 = vS "sumif") = false ∧ 1 ≤ x.2 := by decide +kernel
      obtain ⟨h1, h2, ar⟩ := hz _ hw
      dsimp only at h1 h2 ar
      refine ⟨_, rfl, f, _, _, _, rfl, rfl, SqT.of hf, rfl, rfl, false, congrArg V.bl h1, iteF ?_⟩
      refine ⟨_, rfl, f, _, _, _, rfl, rfl, SqT.of hf, rfl, rfl, false, congrArg V.bl h2, iteF ?_⟩
      refine ⟨_, rfl, _, rfl, l, us, rfl, .inl ⟨SqL.of hl, fun t ht => ?_⟩⟩
      have s1 := Same.new (o := .tup us) ht
      refine ⟨f, t, _, us, rfl, rfl, SqT.of (s1 _ _ hf), SqT.of upd_same, (fun z => by cases z), sl_le (by simp [frV]; omega), fun z => ?_, fun _ a ha => ?_⟩
      · subst z
        simp at ar
      · exact k_ a t _ upd_same (fun z => by cases z) (s1.trans (Same.new ha))
theorem sc_law_grown : FnScope ["_law_pen_here", "_law_room", "_law_deep_here", "_law_params", "_law_frame_here", "_law_many", "_law_left", "_law_parts_here", "_law_k", "_law_own"] ["_law_pen_here", "_law_room", "_law_deep_here", "_law_params"] (defScope s__law_grown) := ⟨rfl, rfl, rfl, by decide +kernel, rfl, by decide +kernel, by decide +kernel⟩
theorem ok__law_grown (T : Txt w K mg t) : ∀ n : Nat, FnOk P w K mg base CX0 (n + 6) t.f__law_grown t.d__law_grown ["_law_pen_here", "_law_room", "_law_deep_here", "_law_params"] (spGrowZ K n) := by
  have D := T.c__law_grown
  intro n
  induction n with
  | zero =>
    refine D.fn.ok sc_law_grown (fun vs H Q E h => ?_) (fun cdv A outer s H vs Q E hr h => ?_)
    · obtain ⟨p, room, d, pr, c, S, rfl, _⟩ := h
      rfl
    · obtain ⟨p, room, d, pr, c, S, rfl, hd, hr0, hr1, hpr, hpen, hc, k⟩ := h
      have hu := hr.units0
      have hu1 := hu_of hr
      have ih : FnOk P w K mg base CX0 0 t.f__law_grown t.d__law_grown ["_law_pen_here", "_law_room", "_law_deep_here", "_law_params"] (fun _ _ _ _ => False) := ⟨fun _ _ _ _ z => z.elim, fun _ _ _ _ _ _ _ _ _ _ _ _ _ z => z.elim⟩
      refine ⟨_, ((pss_cons (ps_if (pw_or (pt_cmpR op_lt (pv 1) pe_int (nomark _)) (pw_or (pt_cmpR op_lt (pv 2) pe_int (nomark _)) (pw_or1 (pt_cmpR op_eq (pe_cl T.c__law_take (ok__law_take T) (hr.mono (by omega)) (pa_consN (pv 0) (pa_consK pe_int pa_nil))) pe_int (nomark _))))).pt (pss_one (ps_ret (pe_cl T.c__law_leaf (ok__law_leaf T) (hr.mono (by omega)) (pa_consN (pv 0) (pa_consN (pv 3) pa_nil))))) pss_nil)
      (pss_cons ps_never (pss_cons ps_never (pss_cons ps_never (pss_cons ps_never (pss_cons ps_never (pss_one ps_never)))))))), ?_⟩
      refine ⟨_, rfl, _, _, rfl, rfl, _, rfl, ite2 (fun _ => iteT ⟨_, rfl, _, rfl, p, pr, _, S, rfl, hpr, hpen, (by omega), fun a lf HL ha ok penL kpL => k (.ref a) (.lf lf) HL (.lf ha) (.lf ok) (szlf hr0) (penL.mono (by omega)) ( kpL)⟩) (fun _ => ?_)⟩
      refine ⟨_, rfl, _, _, rfl, rfl, _, rfl, ite2 (fun _ => iteT ⟨_, rfl, _, rfl, p, pr, _, S, rfl, hpr, hpen, (by omega), fun a lf HL ha ok penL kpL => k (.ref a) (.lf lf) HL (.lf ha) (.lf ok) (szlf hr0) (penL.mono (by omega)) ( kpL)⟩) (fun z => absurd (decide_eq_true (by omega)) z)⟩
  | succ n ih =>
    refine D.fn.ok sc_law_grown (fun vs H Q E h => ?_) (fun cdv A outer s H vs Q E hr h => ?_)
    · obtain ⟨p, room, d, pr, c, S, rfl, _⟩ := h
      rfl
    · obtain ⟨p, room, d, pr, c, S, rfl, hd, hr0, hr1, hpr, hpen, hc, k⟩ := h
      have hu := hr.units0
      have hu1 := hu_of hr
      refine ⟨_, ((pss_cons (ps_if (pw_or (pt_cmpR op_lt (pv 1) pe_int (nomark _)) (pw_or (pt_cmpR op_lt (pv 2) pe_int (nomark _)) (pw_or1 (pt_cmpR op_eq (pe_cl T.c__law_take (ok__law_take T) (hr.mono (by omega)) (pa_consN (pv 0) (pa_consK pe_int pa_nil))) pe_int (nomark _))))).pt (pss_one (ps_ret (pe_cl T.c__law_leaf (ok__law_leaf T) (hr.mono (by omega)) (pa_consN (pv 0) (pa_consN (pv 3) pa_nil))))) pss_nil)
      (pss_cons (ps_asg (pe_cl T.c__law_frame (ok__law_frame T) (hr.mono (by omega)) (pa_consN (pv 0) pa_nil)) (pg_tup rfl (pgs_cons (pg_name (i := 4) sc_law_grown.nd rfl (Or.inl rfl)) (pgs_cons (pg_name (i := 5) sc_law_grown.nd rfl (Or.inl rfl)) pgs_nil))))
      (pss_cons (ps_if (pt_cmpR op_gt (pv 5) (pe_op op_sub (pv 1) pe_int) (nomark _)) (pss_one (ps_ret (pe_cl T.c__law_leaf (ok__law_leaf T) (hr.mono (by omega)) (pa_consN (pv 0) (pa_consN (pv 3) pa_nil))))) pss_nil)
      (pss_cons (ps_set (i := 6) sc_law_grown.nd rfl (Or.inl rfl) (pe_op op_sub (pv 1) pe_int))
      (pss_cons (ps_set (i := 7) sc_law_grown.nd rfl (Or.inl rfl) (pe_lst pa_nil))
      (pss_cons (ps_for PassesOwn.never rfl (pi_range1 rfl T.range (pa_consN (pv 5) pa_nil)) (pg_name (i := 8) sc_law_grown.nd rfl (Or.inl rfl))
      (pss_cons (ps_set (i := 9) sc_law_grown.nd rfl (Or.inl rfl) (pe_op op_add pe_int (pe_cl T.c__law_take (ok__law_take T) (hr.mono (by omega)) (pa_consN (pv 0) (pa_consB (pe_op op_add (pe_op op_sub (pv 6) (pe_op op_sub (pv 5) (pv 8))) pe_int) pa_nil)))))
      (pss_cons (ps_expr (pe_bm PySem.F.plainAttrs_list PySem.F.slot_list_append PySem.F.type_list_append mt_append (pv 7) (pa_consC (pe_cl T.c__law_grown ih (hr.mono (by omega)) (pa_consN (pv 0) (pa_consN (pv 9) (pa_consB (pe_op op_sub (pv 2) pe_int) (pa_consN (pv 3) pa_nil))))) pa_nil)))
      (pss_one (ps_set (i := 6) sc_law_grown.nd rfl (Or.inl rfl) (pe_op op_sub (pv 6) (pv 9)))))))
      (pss_one (ps_ret (pe_cl T.c__law_made (ok__law_made T) (hr.mono (by omega)) (pa_consN (pv 4) (pa_consN (pv 7) pa_nil)))))))))))), ?_⟩
      refine ⟨_, rfl, _, _, rfl, rfl, _, rfl, ite2 (fun _ => iteT ⟨_, rfl, _, rfl, p, pr, _, S, rfl, hpr, hpen, (by omega), fun a lf HL ha ok penL kpL => k (.ref a) (.lf lf) HL (.lf ha) (.lf ok) (szlf hr0) (penL.mono (by omega)) ( kpL)⟩) (fun c1 => ?_)⟩
      have c1' : ¬ room < 2 := fun z => c1 (decide_eq_true z)
      refine ⟨_, rfl, _, _, rfl, rfl, _, rfl, ite2 (fun _ => iteT ⟨_, rfl, _, rfl, p, pr, _, S, rfl, hpr, hpen, (by omega), fun a lf HL ha ok penL kpL => k (.ref a) (.lf lf) HL (.lf ha) (.lf ok) (szlf hr0) (penL.mono (by omega)) ( kpL)⟩) (fun _ => ?_)⟩
      refine ⟨_, rfl, p, _, _, _, rfl, (by show (0 : Int) < _; decide), sz4000 (by decide) (by decide), hpen, (by omega), fun r1 H1 a1 b1 pen1 kp1 => ⟨rfl, _, rfl, ite2 (fun _ => ⟨_, rfl, _, rfl, p, pr, _, S, rfl, hpr, pen1, (by omega), fun a lf HL ha ok penL kpL => k (.ref a) (.lf lf) HL (.lf ha) (.lf ok) (szlf hr0) (penL.mono (by omega)) (kp1.trans kpL)⟩) (fun _ => ?_)⟩⟩
      refine ⟨_, rfl, p, _, S, rfl, pen1, (by omega), fun a f kd m H2 ha hf ok pen2 kp2 => ?_⟩
      have m3 := ok.le
      refine ⟨a, _, rfl, SqT.of ha, rfl, _, _, rfl, _, _, rfl, rfl, ?_⟩
      refine ⟨_, rfl, _, rfl, _, _, rfl, rfl, _, _, rfl, rfl, _, rfl, ite2 (fun _ => ⟨_, rfl, _, rfl, p, pr, _, S, rfl, hpr, pen2, (by omega), fun a lf HL ha ok penL kpL => k (.ref a) (.lf lf) HL (.lf ha) (.lf ok) (szlf hr0) (penL.mono (by omega)) ((kp1.trans kp2).trans kpL)⟩) (fun c2 => ?_)⟩
      have c2' : ¬ room - 1 < (m : Int) := fun z => c2 (decide_eq_true z)
      refine ⟨_, rfl, _, _, rfl, rfl, ?_⟩
      refine ⟨Nat.zero_le _, fun l hl => ?_⟩
      have s3 := Same.new (o := .lst []) hl
      have nlp := pen2.ne hl
      refine ⟨_, rfl, _, rfl, (by omega), (by omega), ?_⟩
      refine for_range (n := (m : Int).toNat) (fun i σ H3 => ∃ (left : Int) (x8 x9 : Option V) (vs : List V) (acc : List Fm), σ = [some (.ref p), some (.int room), some (.int d), some (.int pr), some (.ref f), some (.int m), some (.int left), some (.ref l), x8, x9] ∧ H3 l = some (.lst vs) ∧ FmsAt H3 vs acc ∧ (∀ g ∈ acc, FO pr (n + 1) g) ∧ acc.length = i ∧ (m : Int) - i ≤ left ∧ left ≤ room - 1 ∧ (szs acc : Int) + left ≤ room - 1 ∧ PenD K S H3 p (c + 13 + i + 80 * (room - 1 - left).toNat) ∧ KeepX p H H3 ∧ H3 f = some (.tup (frV kd)))
        ⟨room - 1, none, none, [], [], rfl, upd_same, .nil, (fun g h => by cases h), rfl, (by omega), (by omega), (by rw [szs]; omega), (pen2.same s3).mono (by omega), (kp1.trans kp2).trans (Same.keep s3), s3 _ _ hf⟩ ?_ ?_
      · rintro i σ H3 hi ⟨left, x8, x9, vs, acc, rfl, h3, r3, fo3, l3, lo, hi3, sz3, pen3, kp3, hf3⟩
        refine ⟨_, rfl, _, rfl, _, rfl, _, rfl, _, _, rfl, rfl, _, _, rfl, rfl, _, _, rfl, rfl, p, _, _, _, rfl, (by omega), sz4000 (by omega) (by omega), pen3, (by omega), fun r4 H4 a4 b4 pen4 kp4 => ⟨_, _, rfl, rfl, ?_⟩⟩
        have h4 := kp4 _ _ nlp h3
        have r4 := FmsAt.kp r3 (Kp.pen pen3 kp4)
        have hf4 := Kp.pen pen3 kp4 _ _ hf3
        refine ⟨_, rfl, .inl ⟨rfl, _, SqL.of h4⟩, _, rfl, _, rfl, _, rfl, _, _, rfl, rfl, _, rfl, p, _, _, pr, _, S, rfl, (by omega), (by omega), (by omega), hpr, pen4, (by omega), fun v g H5 hv fo szg pen5 kp5 => ?_⟩
        have h5 := kp5 _ _ nlp h4
        have r5 := FmsAt.kp r4 (Kp.pen pen4 kp5)
        have hlv : vs.length = acc.length := Paired.length r3
        refine ⟨l, _, _, rfl, rfl, h5, sl_lt (by omega), ?_⟩
        have k6 : Kp H5 (upd H5 l (.lst (vs ++ [v]))) := Kp.lst h5 KeepX.upd
        refine ⟨_, rfl, _, rfl, _, _, rfl, rfl, ?_⟩
        refine ⟨_, _, _, vs ++ [v], acc ++ [g], rfl, upd_same, psnoc (FmsAt.kp r5 k6) (FmAt.kp hv k6), fun x hx => ?_, (by simp [l3]), (by omega), (by omega), (by rw [szs_app, szs, szs]; omega), ?_, fun b o hb e => ?_, k6 _ _ (Kp.pen pen4 kp5 _ _ hf4)⟩
        · rcases List.mem_append.mp hx with z | z
          · exact fo3 x z
          · rw [List.mem_singleton.mp z]; exact fo
        · exact (pen2.put hl pen5).mono (by omega)
        · have nbl : b ≠ l := fun z => by
            have := kp2 _ _ hb (kp1 _ _ hb e)
            rw [z, hl] at this; cases this
          rw [upd_ne nbl]
          exact kp5 _ _ hb (kp4 _ _ hb (kp3 _ _ hb e))
      · rintro σ H3 ⟨left, x8, x9, vs, acc, rfl, h3, r3, fo3, l3, lo, hi3, sz3, pen3, kp3, hf3⟩
        have hlv : vs.length = acc.length := Paired.length r3
        have l3' : acc.length = m := by rw [l3]; omega
        refine ⟨_, rfl, _, rfl, f, l, kd, vs, rfl, hf3, h3, (by rw [hlv, l3']; exact ok), fun a2 t2 H4 ha2 ht2 s4 => ?_⟩
        have r4 := FmsAt.kp r3 (Kp.same s4)
        refine k (.ref a2) (.nd kd acc) H4 (.nd ha2 ht2 hlv fun j u g e1 e2 => ?_) (.nd (by rw [l3']; exact ok) fo3) (by rw [szF]; omega) ((pen3.same s4).mono (by omega)) (kp3.trans (Same.keep s4))
        obtain ⟨g', e3, x⟩ := paired_at r4 e1
        rw [e3] at e2
        cases e2
        exact x
theorem sc_law_column : FnScope ["_law_column_here", "_law_stands"] ["_law_column_here", "_law_stands"] (defScope s__law_column) := ⟨rfl, rfl, rfl, by decide +kernel, rfl, by decide +kernel, by decide +kernel⟩
theorem ok__law_column (T : Txt w K mg t) : FnOk P w K mg base CX0 1 t.f__law_column t.d__law_column ["_law_column_here", "_law_stands"] spColD := by
  have D := T.c__law_column
  refine D.fn.ok sc_law_column (fun vs H Q E h => ?_) (fun cdv A outer s H vs Q E hr h => ?_)
  · obtain ⟨c, x, rfl, _⟩ := h
    rfl
  · obtain ⟨c, x, rfl, h0, h1, k⟩ := h
    have hu := hr.units0
    have hu1 := hu_of hr
    refine ⟨_, ((pss_one (ps_ret (pe_op op_add_str (pe_ix ix_list (pe_lst (pa_consK pe_str (pa_consK pe_str pa_nil))) (pe_callTy call_int1 (by rfl) T.int boot_int (pa_consN (pv 1) pa_nil)) (fun _ _ => rfl)) (pe_ix ix_str pe_str (pe_op op_sub (pv 0) pe_int) (fun _ _ => rfl)))))), ?_⟩
    obtain ⟨_, a2, _⟩ := col_at h0 h1
    have e2 : (colL c).length = 1 := rfl
    have e3 := dl_len x
    refine ⟨two_le, fun l hl => ⟨_, rfl, .inr ⟨x, rfl, l, _, _, _, rfl, rfl, SqL.of upd_same, dl_at x, ?_⟩⟩⟩
    refine ⟨_, rfl, _, _, rfl, rfl, _, _, _, rfl, rfl, (by decide +kernel), a2, _, _, rfl, rfl, sl_le (by show _ + (colL c).length ≤ _; omega), ?_⟩
    have e := dl_col c x
    unfold colL at e
    rw [e]
    exact k _ (Same.new hl)
theorem sc_law_corner_text : FnScope ["_law_corner_here"] ["_law_corner_here"] (defScope s__law_corner_text) := ⟨rfl, rfl, rfl, by decide +kernel, rfl, by decide +kernel, by decide +kernel⟩
theorem ok__law_corner_text (T : Txt w K mg t) : FnOk P w K mg base CX0 2 t.f__law_corner_text t.d__law_corner_text ["_law_corner_here"] spCoT := by
  have D := T.c__law_corner_text
  refine D.fn.ok sc_law_corner_text (fun vs H Q E h => ?_) (fun cdv A outer s H vs Q E hr h => ?_)
  · obtain ⟨a, c, rfl, _⟩ := h
    rfl
  · obtain ⟨a, c, rfl, ha, ok, k⟩ := h
    have hu := hr.units0
    have hu1 := hu_of hr
    refine ⟨_, ((pss_one (ps_ret (pe_op op_add_str (pe_op op_add_str (pe_cl T.c__law_column (ok__law_column T) (hr.mono (by decide)) (pa_consS (pe_ix ix_tup (pv 0) pe_int (fun _ _ => rfl)) (pa_consS (pe_ix ix_tup (pv 0) pe_int (fun _ _ => rfl)) pa_nil))) (pe_ix ix_list (pe_lst (pa_consK pe_str (pa_consK pe_str pa_nil))) (pe_callTy call_int1 (by rfl) T.int boot_int (pa_consS (pe_ix ix_tup (pv 0) pe_int (fun _ _ => rfl)) pa_nil)) (fun _ _ => rfl))) (pe_callTy call_str_int (by rfl) T.str boot_str (pa_consS (pe_ix ix_tup (pv 0) pe_int (fun _ _ => rfl)) pa_nil)))))), ?_⟩
    have l1 := colT_len c.c c.y
    have l2 := dl_len c.x
    have l3 := num_s ok.r0 ok.r1
    refine ⟨_, rfl, a, _, _, _, rfl, rfl, SqT.of ha, rfl, _, rfl, a, _, _, _, rfl, rfl, SqT.of ha, rfl, c.c, c.y, rfl, ok.c0, ok.c1, fun H1 s1 => ?_⟩
    have ha1 := s1 _ _ ha
    refine ⟨two_le, fun l hl => ?_⟩
    have ha2 := Same.new (o := .lst [vS "", vS "$"]) hl _ _ ha1
    refine ⟨_, rfl, a, _, _, _, rfl, rfl, SqT.of ha2, rfl, .inr ⟨c.x, rfl, l, _, _, _, rfl, rfl, SqL.of upd_same, dl_at c.x, _, _, rfl, rfl, sl_le (by omega), ?_⟩⟩
    refine ⟨_, rfl, a, _, _, _, rfl, rfl, SqT.of ha2, rfl, _, rfl, log16 (by have := ok.r0; omega) (by have := ok.r1; omega), _, _, rfl, rfl, sl_le (by rw [len_app]; show _ + (num c.r).length ≤ _; omega), ?_⟩
    have e := dl_cor c
    unfold num at e
    rw [show (toString c.r : Str) = Str.ofString (toString c.r) from rfl, e]
    exact k _ (s1.trans (Same.new hl))
theorem sc_law_leaf_text : FnScope ["_law_formula_here", "_law_word", "_law_ahead"] ["_law_formula_here"] (defScope s__law_leaf_text) := ⟨rfl, rfl, rfl, by decide +kernel, rfl, by decide +kernel, by decide +kernel⟩
theorem ok__law_leaf_text (T : Txt w K mg t) : FnOk P w K mg base CX0 3 t.f__law_leaf_text t.d__law_leaf_text ["_law_formula_here"] spLfT := by
  have D := T.c__law_leaf_text
  refine D.fn.ok sc_law_leaf_text (fun vs H Q E h => ?_) (fun cdv A outer s H vs Q E hr h => ?_)
  · obtain ⟨a, l, pr, rfl, _⟩ := h
    rfl
  · obtain ⟨a, l, pr, rfl, ha, ok, hpr, k⟩ := h
    have hu := hr.units0
    have hu1 := hu_of hr
    refine ⟨_, ((pss_cons (ps_set (i := 1) sc_law_leaf_text.nd rfl (Or.inl rfl) (pe_ix ix_tup (pv 0) pe_int (fun _ _ => rfl)))
      (pss_cons (ps_if (pt_cmpR op_eq (pv 1) pe_str (nomark _)) (pss_one (ps_ret pe_str)) pss_nil)
      (pss_cons (ps_if (pt_cmpR op_eq (pv 1) pe_str (nomark _)) (pss_one (ps_ret (pe_ix ix_tup (pv 0) pe_int (fun _ _ => rfl)))) pss_nil)
      (pss_cons (ps_if (pt_cmpR op_eq (pv 1) pe_str (nomark _)) (pss_one (ps_ret (pe_op op_add_str pe_str (pe_callTy call_str_int (by rfl) T.str boot_str (pa_consS (pe_ix ix_tup (pv 0) pe_int (fun _ _ => rfl)) pa_nil))))) pss_nil)
      (pss_cons (ps_if (pw_and (pt_cmpR op_eq (pv 1) pe_str (nomark _)) (pw_and1 (pt_cmpR op_eq (pe_ix ix_tup (pe_ix ix_tup (pv 0) pe_int (fun _ _ => rfl)) pe_int (fun _ _ => rfl)) pe_str (nomark _)))).pt (pss_one (ps_ret (pe_ix ix_list (pe_lst (pa_consK pe_str (pa_consK pe_str pa_nil))) (pe_callTy call_int1 (by rfl) T.int boot_int (pa_consS (pe_ix ix_tup (pe_ix ix_tup (pv 0) pe_int (fun _ _ => rfl)) pe_int (fun _ _ => rfl)) pa_nil)) (fun _ _ => rfl)))) pss_nil)
      (pss_cons (ps_if (pw_and (pt_cmpR op_eq (pv 1) pe_str (nomark _)) (pw_and1 (pt_cmpR op_eq (pe_ix ix_tup (pe_ix ix_tup (pv 0) pe_int (fun _ _ => rfl)) pe_int (fun _ _ => rfl)) pe_str (nomark _)))).pt (pss_one (ps_ret (pe_op op_add_str (pe_op op_add_str pe_str (pe_ix ix_tup (pe_ix ix_tup (pv 0) pe_int (fun _ _ => rfl)) pe_int (fun _ _ => rfl))) pe_str))) pss_nil)
      (pss_cons (ps_if (pt_cmpR op_eq (pv 1) pe_str (nomark _)) (pss_one (ps_ret (pe_callTy call_str_int (by rfl) T.str boot_str (pa_consS (pe_ix ix_tup (pe_ix ix_tup (pv 0) pe_int (fun _ _ => rfl)) pe_int (fun _ _ => rfl)) pa_nil)))) pss_nil)
      (pss_cons (ps_set (i := 2) sc_law_leaf_text.nd rfl (Or.inl rfl) pe_str)
      (pss_cons (ps_if (pt_cmpR op_notN (pe_ix ix_tup (pv 0) pe_int (fun _ _ => rfl)) pe_non (nomark _)) (pss_one (ps_set (i := 2) sc_law_leaf_text.nd rfl (Or.inl rfl) (pe_op op_add_str (pe_ix ix_tup (pv 0) pe_int (fun _ _ => rfl)) pe_str))) pss_nil)
      (pss_cons (ps_if (pt_cmpR op_eq (pv 1) pe_str (nomark _)) (pss_one (ps_ret (pe_op op_add_str (pv 2) (pe_cl T.c__law_corner_text (ok__law_corner_text T) (hr.mono (by decide)) (pa_consS (pe_ix ix_tup (pv 0) pe_int (fun _ _ => rfl)) pa_nil))))) pss_nil)
      (pss_cons (ps_if (pt_cmpR op_eq (pv 1) pe_str (nomark _)) (pss_one (ps_ret (pe_op op_add_str (pe_op op_add_str (pe_op op_add_str (pv 2) (pe_cl T.c__law_corner_text (ok__law_corner_text T) (hr.mono (by decide)) (pa_consS (pe_ix ix_tup (pv 0) pe_int (fun _ _ => rfl)) pa_nil))) pe_str) (pe_cl T.c__law_corner_text (ok__law_corner_text T) (hr.mono (by decide)) (pa_consS (pe_ix ix_tup (pv 0) pe_int (fun _ _ => rfl)) pa_nil))))) pss_nil)
      (pss_one (ps_ret (pe_op op_add_str (pe_op op_add_str (pe_op op_add_str (pv 2) (pe_cl T.c__law_column (ok__law_column T) (hr.mono (by decide)) (pa_consS (pe_ix ix_tup (pe_ix ix_tup (pv 0) pe_int (fun _ _ => rfl)) pe_int (fun _ _ => rfl)) (pa_consS (pe_ix ix_tup (pe_ix ix_tup (pv 0) pe_int (fun _ _ => rfl)) pe_int (fun _ _ => rfl)) pa_nil)))) pe_str) (pe_cl T.c__law_column (ok__law_column T) (hr.mono (by decide)) (pa_consS (pe_ix ix_tup (pe_ix ix_tup (pv 0) pe_int (fun _ _ => rfl)) pe_int (fun _ _ => rfl)) (pa_consS (pe_ix ix_tup (pe_ix ix_tup (pv 0) pe_int (fun _ _ => rfl)) pe_int (fun _ _ => rfl)) pa_nil)))))))))))))))))), ?_⟩
    cases l with
    | gone =>
      have ha1 : H a = some (.tup [vS "gone"]) := ha
      refine ⟨_, rfl, a, _, _, _, rfl, rfl, SqT.of ha1, rfl, ?_⟩
      refine ⟨_, rfl, rfl, true, (by decide +kernel), iteT ?_⟩
      exact k _ (Same.refl _)
    | nam z =>
      have ha1 : H a = some (.tup [vS "name", .str z]) := ha
      refine ⟨_, rfl, a, _, _, _, rfl, rfl, SqT.of ha1, rfl, ?_⟩
      refine ⟨_, rfl, rfl, false, (by decide +kernel), iteF ?_⟩
      refine ⟨_, rfl, rfl, true, (by decide +kernel), iteT ?_⟩
      exact ⟨_, rfl, a, _, _, _, rfl, rfl, SqT.of ha1, rfl, k _ (Same.refl _)⟩
    | par i =>
      have ha1 : H a = some (.tup [vS "param", .int i]) := ha
      have l1 := num_len (n := i) ok.1 (by have := ok.2; omega)
      have e1 : (zS "?").length = 1 := by decide +kernel
      refine ⟨_, rfl, a, _, _, _, rfl, rfl, SqT.of ha1, rfl, ?_⟩
      refine ⟨_, rfl, rfl, false, (by decide +kernel), iteF ?_⟩
      refine ⟨_, rfl, rfl, false, (by decide +kernel), iteF ?_⟩
      refine ⟨_, rfl, rfl, true, (by decide +kernel), iteT ?_⟩
      exact ⟨_, rfl, a, _, _, _, rfl, rfl, SqT.of ha1, rfl, _, rfl, log16 ok.1 (by have := ok.2; omega), _, _, rfl, rfl, sl_le (by show (zS "?").length + (num i).length ≤ _; omega), k _ (Same.refl _)⟩
    | val v =>
      obtain ⟨q, ha1, hv⟩ := ha
      obtain ⟨vok, w⟩ := ok
      cases v with
      | none => exact w.elim
      | flt w' z r c => exact w.elim
      | tru b =>
        have hq : H q = some (.tup [vS "truth", .bl b]) := hv
        refine ⟨_, rfl, a, _, _, _, rfl, rfl, SqT.of ha1, rfl, ?_⟩
        refine ⟨_, rfl, rfl, false, (by decide +kernel), iteF ?_⟩
        refine ⟨_, rfl, rfl, false, (by decide +kernel), iteF ?_⟩
        refine ⟨_, rfl, rfl, false, (by decide +kernel), iteF ?_⟩
        refine ⟨_, rfl, rfl, true, (by decide +kernel), iteT ?_⟩
        refine ⟨_, rfl, a, _, _, _, rfl, rfl, SqT.of ha1, rfl, q, _, _, _, rfl, rfl, SqT.of hq, rfl, rfl, true, (by decide +kernel), iteT ?_⟩
        refine ⟨two_le, fun l hl => ?_⟩
        have s1 := Same.new (o := .lst [vS "no", vS "yes"]) hl
        refine ⟨_, rfl, a, _, _, _, rfl, rfl, SqT.of (s1 _ _ ha1), rfl, q, _, _, _, rfl, rfl, SqT.of (s1 _ _ hq), rfl, .inr ⟨b, rfl, l, _, _, _, rfl, rfl, SqL.of upd_same, (by cases b <;> rfl), k _ s1⟩⟩
      | txt z =>
        have hq : H q = some (.tup [vS "text", .str z]) := hv
        have h20 : z.length ≤ 20 := vok.1
        have e1 : (zS "\"").length = 1 := by decide +kernel
        refine ⟨_, rfl, a, _, _, _, rfl, rfl, SqT.of ha1, rfl, ?_⟩
        refine ⟨_, rfl, rfl, false, (by decide +kernel), iteF ?_⟩
        refine ⟨_, rfl, rfl, false, (by decide +kernel), iteF ?_⟩
        refine ⟨_, rfl, rfl, false, (by decide +kernel), iteF ?_⟩
        refine ⟨_, rfl, rfl, true, (by decide +kernel), iteT ?_⟩
        refine ⟨_, rfl, a, _, _, _, rfl, rfl, SqT.of ha1, rfl, q, _, _, _, rfl, rfl, SqT.of hq, rfl, rfl, false, (by decide +kernel), iteF ?_⟩
        refine ⟨_, rfl, rfl, true, (by decide +kernel), iteT ?_⟩
        refine ⟨_, rfl, a, _, _, _, rfl, rfl, SqT.of ha1, rfl, q, _, _, _, rfl, rfl, SqT.of hq, rfl, rfl, true, (by decide +kernel), iteT ?_⟩
        exact ⟨_, rfl, a, _, _, _, rfl, rfl, SqT.of ha1, rfl, q, _, _, _, rfl, rfl, SqT.of hq, rfl, _, _, rfl, rfl, sl_le (by show (zS "\"").length + _ ≤ _; omega), _, _, rfl, rfl, sl_le (by rw [len_app]; show (zS "\"").length + _ + (zS "\"").length ≤ _; omega), k _ (Same.refl _)⟩
      | num t b =>
        have hq : H q = some (.tup [vS "number", .int t, .int b]) := hv
        refine ⟨_, rfl, a, _, _, _, rfl, rfl, SqT.of ha1, rfl, ?_⟩
        refine ⟨_, rfl, rfl, false, (by decide +kernel), iteF ?_⟩
        refine ⟨_, rfl, rfl, false, (by decide +kernel), iteF ?_⟩
        refine ⟨_, rfl, rfl, false, (by decide +kernel), iteF ?_⟩
        refine ⟨_, rfl, rfl, true, (by decide +kernel), iteT ?_⟩
        refine ⟨_, rfl, a, _, _, _, rfl, rfl, SqT.of ha1, rfl, q, _, _, _, rfl, rfl, SqT.of hq, rfl, rfl, false, (by decide +kernel), iteF ?_⟩
        refine ⟨_, rfl, rfl, true, (by decide +kernel), iteT ?_⟩
        refine ⟨_, rfl, a, _, _, _, rfl, rfl, SqT.of ha1, rfl, q, _, _, _, rfl, rfl, SqT.of hq, rfl, rfl, false, (by decide +kernel), iteF ?_⟩
        refine ⟨_, rfl, rfl, true, (by decide +kernel), iteT ?_⟩
        exact ⟨_, rfl, a, _, _, _, rfl, rfl, SqT.of ha1, rfl, q, _, _, _, rfl, rfl, SqT.of hq, rfl, _, rfl, log16 w.2.1 (by have := w.2.2; omega), k _ (Same.refl _)⟩
    | cell s c =>
      obtain ⟨q, ha1, hq⟩ := ha
      refine ⟨_, rfl, a, _, _, _, rfl, rfl, SqT.of ha1, rfl, ?_⟩
      refine ⟨_, rfl, rfl, false, (by decide +kernel), iteF ?_⟩
      refine ⟨_, rfl, rfl, false, (by decide +kernel), iteF ?_⟩
      refine ⟨_, rfl, rfl, false, (by decide +kernel), iteF ?_⟩
      refine ⟨_, rfl, rfl, false, (by decide +kernel), iteF (iteF ?_)⟩
      refine ⟨_, rfl, rfl, false, (by decide +kernel), iteF (iteF ?_)⟩
      refine ⟨_, rfl, rfl, false, (by decide +kernel), iteF ?_⟩
      have ls := stx_len ok.1
      have lc : (zS ":").length = 1 := by decide +kernel
      obtain ⟨hd, goon⟩ : True ∧ True := ⟨trivial, trivial⟩
      cases s with
      | none =>
        refine ⟨_, rfl, a, _, _, _, rfl, rfl, SqT.of ha1, rfl, rfl, false, rfl, iteF ?_⟩
        have es : (stx none) = zS "" := rfl
        rw [show (V.str (Str.ofString "")) = V.str (stx none) from rfl]
        skip
        refine ⟨_, rfl, rfl, true, (by decide +kernel), iteT ?_⟩
        refine ⟨_, rfl, _, rfl, a, _, _, _, rfl, rfl, SqT.of ha1, rfl, q, c, rfl, hq, ok.2, fun H1 s1 => ⟨_, _, rfl, rfl, sl_le (by have := corT_len ok.2; show (stx none).length + _ ≤ _; omega), k _ s1⟩⟩
      | some z =>
        have hz6 := (show Nm z from ok.1).hi
        have e1 : (zS "!").length = 1 := by decide +kernel
        refine ⟨_, rfl, a, _, _, _, rfl, rfl, SqT.of ha1, rfl, rfl, true, rfl, iteT ?_⟩
        refine ⟨_, rfl, a, _, _, _, rfl, rfl, SqT.of ha1, rfl, _, _, rfl, rfl, sl_le (by show z.length + (zS "!").length ≤ _; omega), ?_⟩
        refine ⟨_, rfl, rfl, true, (by decide +kernel), iteT ?_⟩
        refine ⟨_, rfl, _, rfl, a, _, _, _, rfl, rfl, SqT.of ha1, rfl, q, c, rfl, hq, ok.2, fun H1 s1 => ⟨_, _, rfl, rfl, sl_le (by have := corT_len ok.2; show (stx (some z)).length + _ ≤ _; omega), k _ s1⟩⟩
    | rng s c d =>
      obtain ⟨q, u, ha1, hq, hu'⟩ := ha
      refine ⟨_, rfl, a, _, _, _, rfl, rfl, SqT.of ha1, rfl, ?_⟩
      refine ⟨_, rfl, rfl, false, (by decide +kernel), iteF ?_⟩
      refine ⟨_, rfl, rfl, false, (by decide +kernel), iteF ?_⟩
      refine ⟨_, rfl, rfl, false, (by decide +kernel), iteF ?_⟩
      refine ⟨_, rfl, rfl, false, (by decide +kernel), iteF (iteF ?_)⟩
      refine ⟨_, rfl, rfl, false, (by decide +kernel), iteF (iteF ?_)⟩
      refine ⟨_, rfl, rfl, false, (by decide +kernel), iteF ?_⟩
      have ls := stx_len ok.1
      have lc : (zS ":").length = 1 := by decide +kernel
      obtain ⟨hd, goon⟩ : True ∧ True := ⟨trivial, trivial⟩
      cases s with
      | none =>
        refine ⟨_, rfl, a, _, _, _, rfl, rfl, SqT.of ha1, rfl, rfl, false, rfl, iteF ?_⟩
        have es : (stx none) = zS "" := rfl
        rw [show (V.str (Str.ofString "")) = V.str (stx none) from rfl]
        skip
        refine ⟨_, rfl, rfl, false, (by decide +kernel), iteF ?_⟩
        refine ⟨_, rfl, rfl, true, (by decide +kernel), iteT ?_⟩
        have l1 := corT_len ok.2.1
        have l2 := corT_len ok.2.2.1
        refine ⟨_, rfl, _, rfl, a, _, _, _, rfl, rfl, SqT.of ha1, rfl, q, c, rfl, hq, ok.2.1, fun H1 s1 => ⟨_, _, rfl, rfl, sl_le (by show (stx none).length + _ ≤ _; omega), _, _, rfl, rfl, sl_le (by rw [len_app]; show (stx none).length + _ + (zS ":").length ≤ _; omega), ?_⟩⟩
        exact ⟨_, rfl, a, _, _, _, rfl, rfl, SqT.of (s1 _ _ ha1), rfl, u, d, rfl, s1 _ _ hu', ok.2.2.1, fun H2 s2 => ⟨_, _, rfl, rfl, sl_le (by rw [len_app, len_app]; show (stx none).length + _ + (zS ":").length + _ ≤ _; omega), k _ (s1.trans s2)⟩⟩
      | some z =>
        have hz6 := (show Nm z from ok.1).hi
        have e1 : (zS "!").length = 1 := by decide +kernel
        refine ⟨_, rfl, a, _, _, _, rfl, rfl, SqT.of ha1, rfl, rfl, true, rfl, iteT ?_⟩
        refine ⟨_, rfl, a, _, _, _, rfl, rfl, SqT.of ha1, rfl, _, _, rfl, rfl, sl_le (by show z.length + (zS "!").length ≤ _; omega), ?_⟩
        refine ⟨_, rfl, rfl, false, (by decide +kernel), iteF ?_⟩
        refine ⟨_, rfl, rfl, true, (by decide +kernel), iteT ?_⟩
        have l1 := corT_len ok.2.1
        have l2 := corT_len ok.2.2.1
        refine ⟨_, rfl, _, rfl, a, _, _, _, rfl, rfl, SqT.of ha1, rfl, q, c, rfl, hq, ok.2.1, fun H1 s1 => ⟨_, _, rfl, rfl, sl_le (by show (stx (some z)).length + _ ≤ _; omega), _, _, rfl, rfl, sl_le (by rw [len_app]; show (stx (some z)).length + _ + (zS ":").length ≤ _; omega), ?_⟩⟩
        exact ⟨_, rfl, a, _, _, _, rfl, rfl, SqT.of (s1 _ _ ha1), rfl, u, d, rfl, s1 _ _ hu', ok.2.2.1, fun H2 s2 => ⟨_, _, rfl, rfl, sl_le (by rw [len_app, len_app]; show (stx (some z)).length + _ + (zS ":").length + _ ≤ _; omega), k _ (s1.trans s2)⟩⟩
    | cols s i x j y =>
      obtain ⟨q, u, ha1, hq, hu'⟩ := ha
      refine ⟨_, rfl, a, _, _, _, rfl, rfl, SqT.of ha1, rfl, ?_⟩
      refine ⟨_, rfl, rfl, false, (by decide +kernel), iteF ?_⟩
      refine ⟨_, rfl, rfl, false, (by decide +kernel), iteF ?_⟩
      refine ⟨_, rfl, rfl, false, (by decide +kernel), iteF ?_⟩
      refine ⟨_, rfl, rfl, false, (by decide +kernel), iteF (iteF ?_)⟩
      refine ⟨_, rfl, rfl, false, (by decide +kernel), iteF (iteF ?_)⟩
      refine ⟨_, rfl, rfl, false, (by decide +kernel), iteF ?_⟩
      have ls := stx_len ok.1
      have lc : (zS ":").length = 1 := by decide +kernel
      obtain ⟨hd, goon⟩ : True ∧ True := ⟨trivial, trivial⟩
      cases s with
      | none =>
        refine ⟨_, rfl, a, _, _, _, rfl, rfl, SqT.of ha1, rfl, rfl, false, rfl, iteF ?_⟩
        have es : (stx none) = zS "" := rfl
        rw [show (V.str (Str.ofString "")) = V.str (stx none) from rfl]
        skip
        refine ⟨_, rfl, rfl, false, (by decide +kernel), iteF ?_⟩
        refine ⟨_, rfl, rfl, false, (by decide +kernel), iteF ?_⟩
        have l1 := colT_len i x
        have l2 := colT_len j y
        refine ⟨_, rfl, _, rfl, a, _, _, _, rfl, rfl, SqT.of ha1, rfl, q, _, _, _, rfl, rfl, SqT.of hq, rfl, _, rfl, a, _, _, _, rfl, rfl, SqT.of ha1, rfl, q, _, _, _, rfl, rfl, SqT.of hq, rfl, i, x, rfl, ok.2.1, (by have := ok.2.2; omega), fun H1 s1 => ⟨_, _, rfl, rfl, sl_le (by show (stx none).length + _ ≤ _; omega), _, _, rfl, rfl, sl_le (by rw [len_app]; show (stx none).length + _ + (zS ":").length ≤ _; omega), ?_⟩⟩
        exact ⟨_, rfl, a, _, _, _, rfl, rfl, SqT.of (s1 _ _ ha1), rfl, u, _, _, _, rfl, rfl, SqT.of (s1 _ _ hu'), rfl, _, rfl, a, _, _, _, rfl, rfl, SqT.of (s1 _ _ ha1), rfl, u, _, _, _, rfl, rfl, SqT.of (s1 _ _ hu'), rfl, j, y, rfl, (by have := ok.2; omega), (by have := ok.2.2; omega), fun H2 s2 => ⟨_, _, rfl, rfl, sl_le (by rw [len_app, len_app]; show (stx none).length + _ + (zS ":").length + _ ≤ _; omega), k _ (s1.trans s2)⟩⟩
      | some z =>
        have hz6 := (show Nm z from ok.1).hi
        have e1 : (zS "!").length = 1 := by decide +kernel
        refine ⟨_, rfl, a, _, _, _, rfl, rfl, SqT.of ha1, rfl, rfl, true, rfl, iteT ?_⟩
        refine ⟨_, rfl, a, _, _, _, rfl, rfl, SqT.of ha1, rfl, _, _, rfl, rfl, sl_le (by show z.length + (zS "!").length ≤ _; omega), ?_⟩
        refine ⟨_, rfl, rfl, false, (by decide +kernel), iteF ?_⟩
        refine ⟨_, rfl, rfl, false, (by decide +kernel), iteF ?_⟩
        have l1 := colT_len i x
        have l2 := colT_len j y
        refine ⟨_, rfl, _, rfl, a, _, _, _, rfl, rfl, SqT.of ha1, rfl, q, _, _, _, rfl, rfl, SqT.of hq, rfl, _, rfl, a, _, _, _, rfl, rfl, SqT.of ha1, rfl, q, _, _, _, rfl, rfl, SqT.of hq, rfl, i, x, rfl, ok.2.1, (by have := ok.2.2; omega), fun H1 s1 => ⟨_, _, rfl, rfl, sl_le (by show (stx (some z)).length + _ ≤ _; omega), _, _, rfl, rfl, sl_le (by rw [len_app]; show (stx (some z)).length + _ + (zS ":").length ≤ _; omega), ?_⟩⟩
        exact ⟨_, rfl, a, _, _, _, rfl, rfl, SqT.of (s1 _ _ ha1), rfl, u, _, _, _, rfl, rfl, SqT.of (s1 _ _ hu'), rfl, _, rfl, a, _, _, _, rfl, rfl, SqT.of (s1 _ _ ha1), rfl, u, _, _, _, rfl, rfl, SqT.of (s1 _ _ hu'), rfl, j, y, rfl, (by have := ok.2; omega), (by have := ok.2.2; omega), fun H2 s2 => ⟨_, _, rfl, rfl, sl_le (by rw [len_app, len_app]; show (stx (some z)).length + _ + (zS ":").length + _ ≤ _; omega), k _ (s1.trans s2)⟩⟩
theorem sc_law_parts : FnScope ["_law_formula_here", "_law_word"] ["_law_formula_here"] (defScope s__law_parts) := ⟨rfl, rfl, rfl, by decide +kernel, rfl, by decide +kernel, by decide +kernel⟩
theorem ok__law_parts (T : Txt w K mg t) : FnOk P w K mg base CX0 1 t.f__law_parts t.d__law_parts ["_law_formula_here"] spPrt := by
  have D := T.c__law_parts
  refine D.fn.ok sc_law_parts (fun vs H Q E h => ?_) (fun cdv A outer s H vs Q E hr h => ?_)
  · obtain ⟨v, f, pr, n, rfl, _⟩ := h
    rfl
  · obtain ⟨v, f, pr, n, rfl, hv, fo, k⟩ := h
    have hu := hr.units0
    have hu1 := hu_of hr
    refine ⟨_, ((pss_cons (ps_set (i := 1) sc_law_parts.nd rfl (Or.inl rfl) (pe_ix ix_tup (pv 0) pe_int (fun _ _ => rfl)))
      (pss_cons (ps_if (pt_cmpR op_in_seq (pv 1) (pe_tup (pa_consK pe_str (pa_consK pe_str (pa_consK pe_str (pa_consK pe_str (pa_consK pe_str (pa_consK pe_str (pa_consK pe_str pa_nil)))))))) rfl) (pss_one (ps_ret (pe_lst pa_nil))) pss_nil)
      (pss_cons (ps_if (pt_cmpR op_eq (pv 1) pe_str (nomark _)) (pss_one (ps_ret (pe_callTy call_list_of (by rfl) T.list boot_list (pa_consS (pe_ix ix_tup (pv 0) pe_int (fun _ _ => rfl)) pa_nil)))) pss_nil)
      (pss_one (ps_ret (pe_comp (fv := []) (js := []) (cl := []) rfl (by with_unfolding_all rfl) ⟨rfl, by decide +kernel, by decide +kernel, rfl, by decide +kernel, by decide +kernel, (List.forall_mem_nil _), (List.forall_mem_nil _), .nil⟩ (pi_tup (pe_slice sl_tup (pv 0) (po_some pe_int) po_none)) (fun _ _ _ _ _ => (pf_one (pt_val (pe_callB (call_isinstC (K := K) rfl) (by rfl) T.isinstance boot_isinstance (pa_consN (pv 0) (pa_consN (pe_typ T.tuple boot_tuple) pa_nil)))))) (fun _ _ _ _ _ => (pv 0))))))))), ?_⟩
    cases hv with
    | @lf a l hl =>
      obtain ⟨w, r, ha, hin, _⟩ := hl.hd
      refine ⟨_, rfl, a, _, _, _, rfl, rfl, SqT.of ha, atI_hd, ?_⟩
      refine ⟨_, rfl, (by show 7 ≤ sizeLine; decide), fun t ht => ⟨t, L7, rfl, .inr (SqT.of upd_same), rfl, rfl, true, congrArg V.bl hin, iteT ?_⟩⟩
      have s1 := Same.new (o := .tup L7) ht
      exact ⟨Nat.zero_le _, fun d hd => k d [] _ (Same.back0 s1 hd) upd_same .nil (s1.trans (Same.new hd))⟩
    | @nd a t kd us ps ha ht hl hh =>
      cases fo with
      | nd ok hp =>
      obtain ⟨r0, er⟩ := lay_kw t kd us
      have ha0 : H a = some (.tup (.str (kw kd) :: r0)) := by rw [ha, er]
      have fm := FmAt.parts hl hh
      refine ⟨_, rfl, a, _, _, _, rfl, rfl, SqT.of ha0, atI_hd, ?_⟩
      refine ⟨_, rfl, (by show 7 ≤ sizeLine; decide), fun t7 ht7 => ⟨t7, L7, rfl, .inr (SqT.of upd_same), rfl, rfl, false, congrArg V.bl (kw_no ok), iteF ?_⟩⟩
      have s1 := Same.new (o := .tup L7) ht7
      cases ho : isOwn kd with
      | true =>
        obtain ⟨z, rfl⟩ : ∃ z, kd = .own z := by cases kd <;> first | exact ⟨_, rfl⟩ | cases ho
        refine ⟨_, rfl, rfl, true, congrArg V.bl ((kw_own ok).trans ho), iteT ?_⟩
        refine ⟨_, rfl, a, _, _, _, rfl, rfl, SqT.of (s1 _ _ ha), rfl, t, us, rfl, .inr (SqT.of (s1 _ _ (ht rfl))), fun d hd => ?_⟩
        exact k d us _ (Same.back0 s1 hd) upd_same (FmsAt.kp fm (Kp.same (s1.trans (Same.new hd)))) (s1.trans (Same.new hd))
      | false =>
        refine ⟨_, rfl, rfl, false, congrArg V.bl ((kw_own ok).trans ho), iteF ?_⟩
        obtain ⟨r, er2, hit, hfil, hlen⟩ := lay_tail (t := t) (H := H) (by rw [hl]; exact ok) ho (fun u hu => by
          obtain ⟨j, hj, e⟩ := List.mem_iff_getElem.mp hu
          have e1 : us[j]? = some u := by rw [List.getElem?_eq_getElem hj, e]
          obtain ⟨g, _, x⟩ := paired_at fm e1
          exact x.tup)
        have ha2 : H a = some (.tup (.str (kw kd) :: r)) := by rw [ha, er2]
        obtain ⟨ec, nw⟩ := cut1 (.str (kw kd)) r
        refine ⟨_, rfl, _, rfl, a, _, rfl, SqT.of (s1 _ _ ha2), nw, fun sl hsl => ?_⟩
        rw [ec]
        have s2 : Same H (upd (upd H t7 (.tup L7)) sl (.tup r)) := s1.trans (Same.new hsl)
        have hs2 : upd (upd H t7 (.tup L7)) sl (.tup r) sl = some (.tup r) := upd_same
        have nsl : ∀ {D : Addr}, upd (upd H t7 (.tup L7)) sl (.tup r) D = none → H D = none := fun {D} h => Same.back0 s2 h
        generalize upd (upd H t7 (.tup L7)) sl (.tup r) = H2 at *
        refine ⟨sl, rfl, ⟨_, SqT.of hs2⟩, fun D hD => ?_⟩
        have sD : ∀ ws, Same H2 (upd H2 D (.lst ws)) := fun ws => Same.new hD
        refine ⟨fun i m H4 => m = r.length - i ∧ i ≤ r.length ∧ H4 = upd H2 D (.lst ((r.take i).filter isRefV)), ⟨r.length, rfl, Nat.zero_le _, rfl⟩, ?_⟩
        rintro i m H4 ⟨rfl, hi, rfl⟩
        by_cases hlt : i < r.length
        · refine .inr ⟨⟨r, r[i], SqT.of (sD _ _ _ hs2), List.getElem?_eq_getElem hlt⟩, fun x H' y => ?_⟩
          obtain ⟨e, y⟩ := y
          subst e
          have hx := y r (SqT.of (sD _ _ _ hs2))
          have hm : x ∈ r := List.mem_of_getElem? hx
          have et : (r.take (i + 1)).filter isRefV = (r.take i).filter isRefV ++ [x].filter isRefV := by
            rw [List.take_add_one, hx, List.filter_append]; rfl
          have lf : ((r.take i).filter isRefV).length ≤ 5 := Nat.le_trans (List.length_filter_le _ _) (by rw [List.length_take]; omega)
          rcases hit x hm with ⟨b, ys, rfl, hb⟩ | ⟨z, rfl⟩ | ⟨j, rfl⟩
          · refine ⟨_, rfl, _, _, _, _, true, rfl, .tup (sD _ _ _ (s2 _ _ hb)), rfl, (fun _ => .inr trivial), kit_tt _ _, true, rfl, iteT ?_⟩
            refine ⟨_, rfl, _, upd_same, sl_lt (by omega), r.length - (i + 1), (by omega), rfl, hlt, ?_⟩
            rw [upd_upd, et]; rfl
          · refine ⟨_, rfl, _, _, _, _, false, rfl, .str _, rfl, (fun _ => .inr trivial), T.kist, false, rfl, iteF ?_⟩
            refine ⟨r.length - (i + 1), (by omega), rfl, hlt, ?_⟩
            rw [et]; exact congrArg (fun z => upd H2 D (HO.lst z)) (List.append_nil _).symm
          · refine ⟨_, rfl, _, _, _, _, false, rfl, .int _, rfl, (fun _ => .inr trivial), T.kiit, false, rfl, iteF ?_⟩
            refine ⟨r.length - (i + 1), (by omega), rfl, hlt, ?_⟩
            rw [et]; exact congrArg (fun z => upd H2 D (HO.lst z)) (List.append_nil _).symm
        have ei : i = r.length := by omega
        subst ei
        refine .inl ⟨⟨r, SqT.of (sD _ _ _ hs2), Nat.le_refl _⟩, ?_⟩
        rw [List.take_length, hfil]
        have s3 := s2.trans (sD us)
        exact k D us _ (nsl hD) upd_same (FmsAt.kp fm (Kp.same s3)) s3
theorem sc_law_tight : FnScope ["_law_formula_here"] ["_law_formula_here"] (defScope s__law_tight) := ⟨rfl, rfl, rfl, by decide +kernel, rfl, by decide +kernel, by decide +kernel⟩
theorem ok__law_tight (T : Txt w K mg t) : FnOk P w K mg base CX0 1 t.f__law_tight t.d__law_tight ["_law_formula_here"] spTgt := by
  have D := T.c__law_tight
  refine D.fn.ok sc_law_tight (fun vs H Q E h => ?_) (fun cdv A outer s H vs Q E hr h => ?_)
  · obtain ⟨v, f, pr, n, rfl, _⟩ := h
    rfl
  · obtain ⟨v, f, pr, n, rfl, hv, fo, k⟩ := h
    have hu := hr.units0
    have hu1 := hu_of hr
    refine ⟨_, ((pss_cons (ps_if (pt_cmpR op_eq (pe_ix ix_tup (pv 0) pe_int (fun _ _ => rfl)) pe_str (nomark _)) (pss_one (ps_ret (pe_dget hu1 (pe_disp (pps_cons pe_str pe_int (pps_cons pe_str pe_int (pps_cons pe_str pe_int (pps_cons pe_str pe_int (pps_cons pe_str pe_int (pps_cons pe_str pe_int (pps_cons pe_str pe_int pps_nil))))))) rfl rfl (by simp) (by decide)) (pe_ix ix_tup (pv 0) pe_int (fun _ _ => rfl)) (fun _ _ => rfl)))) pss_nil)
      (pss_one (ps_ret (pe_ix ix_list (pe_lst (pa_consK pe_int (pa_consK pe_int pa_nil))) (pe_callTy call_int1 (by rfl) T.int boot_int (pa_consM (pe_cmpR op_eq (pe_ix ix_tup (pv 0) pe_int (fun _ _ => rfl)) pe_str (nomark _)) pa_nil)) (fun _ _ => rfl)))))), ?_⟩
    cases hv with
    | @lf a l hl =>
      obtain ⟨w, r, ha, _, h1, h2⟩ := hl.hd
      refine ⟨_, rfl, a, _, _, _, rfl, rfl, SqT.of ha, atI_hd, rfl, false, h1, iteF ?_⟩
      refine ⟨two_le, fun d hd => ?_⟩
      have s1 := Same.new (o := .lst [.int 9, .int 5]) hd
      refine ⟨_, rfl, a, _, _, _, rfl, rfl, SqT.of (s1 _ _ ha), atI_hd, rfl, .inr ⟨_, rfl, d, _, _, _, rfl, rfl, SqL.of upd_same, ?_, k _ s1⟩⟩
      injection h2 with h2
      rw [h2]; rfl
    | @nd a t kd us ps ha ht hl hh =>
      cases fo with
      | nd ok hp =>
      obtain ⟨r0, er⟩ := lay_kw t kd us
      have ha0 : H a = some (.tup (.str (kw kd) :: r0)) := by rw [ha, er]
      obtain ⟨h1, h2, _⟩ := kw_op ok
      cases kd with
      | op z =>
        replace ha : H a = some (.tup (vS "op" :: .str z :: us)) := ha
        refine ⟨_, rfl, a, _, _, _, rfl, rfl, SqT.of ha, atI_hd, rfl, true, (by decide +kernel), iteT ?_⟩
        refine fun p hp' => ⟨upd_same, OPK, rfl, (by show 7 ≤ 15; decide), ?_⟩
        rw [upd_upd]
        have s1 := Same.new (o := .dK (mergeK [] OPK)) hp'
        refine ⟨_, rfl, a, _, _, _, rfl, rfl, SqT.of (s1 _ _ ha), atI_1, p, _, rfl, ?_, k _ s1⟩
        have g := DGet.k (k := Sum.inr z) (upd_same (H := H) (a := p) (o := .dK (mergeK [] OPK)))
        rw [op_val ok.1] at g
        exact g
      | neg =>
        replace ha : H a = some (.tup (vS "neg" :: us)) := ha
        refine ⟨_, rfl, a, _, _, _, rfl, rfl, SqT.of ha, atI_hd, rfl, false, (by decide +kernel), iteF ?_⟩
        refine ⟨two_le, fun d hd => ?_⟩
        have s1 := Same.new (o := .lst [.int 9, .int 5]) hd
        exact ⟨_, rfl, a, _, _, _, rfl, rfl, SqT.of (s1 _ _ ha), atI_hd, rfl, .inr ⟨_, rfl, d, _, _, _, rfl, rfl, SqL.of upd_same, (by show atI [V.int 9, V.int 5] (if decide (vS "neg" = vS "neg") = true then 1 else 0) = some (V.int 5); decide +kernel), k _ s1⟩⟩
      | _ =>
        refine ⟨_, rfl, a, _, _, _, rfl, rfl, SqT.of ha0, atI_hd, rfl, false, congrArg V.bl h1, iteF ?_⟩
        refine ⟨two_le, fun d hd => ?_⟩
        have s1 := Same.new (o := .lst [.int 9, .int 5]) hd
        refine ⟨_, rfl, a, _, _, _, rfl, rfl, SqT.of (s1 _ _ ha0), atI_hd, rfl, .inr ⟨_, rfl, d, _, _, _, rfl, rfl, SqL.of upd_same, ?_, k _ s1⟩⟩
        rw [h2]; rfl
theorem sc_law_placed : FnScope ["_law_formula_here", "_law_least", "_law_pen_here", "_law_text"] ["_law_formula_here", "_law_least", "_law_pen_here"] (defScope s__law_placed) := ⟨rfl, rfl, rfl, by decide +kernel, rfl, by decide +kernel, by decide +kernel⟩
theorem ok__law_placed (T : Txt w K mg t) {n k : Nat} (F : FnOk P w K mg base CX0 k t.f__law_written t.d__law_written ["_law_formula_here", "_law_pen_here"] (spWr n)) (hk : 1 ≤ k) : FnOk P w K mg base CX0 (k + 1) t.f__law_placed t.d__law_placed ["_law_formula_here", "_law_least", "_law_pen_here"] (spPl n) := by
  have D := T.c__law_placed
  refine D.fn.ok sc_law_placed (fun vs H Q E h => ?_) (fun cdv A outer s H vs Q E hr h => ?_)
  · obtain ⟨v, i, f, pr, rfl, _⟩ := h
    rfl
  · obtain ⟨v, i, f, pr, rfl, hv, fo, hp, h8, k_⟩ := h
    have hu := hr.units0
    have hu1 := hu_of hr
    refine ⟨_, ((pss_cons (ps_set (i := 3) sc_law_placed.nd rfl (Or.inl rfl) (pe_cl T.c__law_written F (hr.mono (by omega)) (pa_consN (pv 0) (pa_consN (pv 2) pa_nil))))
      (pss_cons (ps_if (pt_cmpR op_lt (pe_cl T.c__law_tight (ok__law_tight T) (hr.mono (by omega)) (pa_consN (pv 0) pa_nil)) (pv 1) (nomark _)) (pss_one (ps_ret (pe_op op_add_str (pe_op op_add_str pe_str (pv 3)) pe_str))) pss_nil)
      (pss_one (ps_ret (pv 3)))))), ?_⟩
    have le := ftx_le fo hp h8
    have e1 : (zS "(").length = 1 := by decide +kernel
    have e2 : (zS ")").length = 1 := by decide +kernel
    refine ⟨_, rfl, _, rfl, v, f, pr, rfl, hv, fo, hp, h8, fun H1 s1 => ?_⟩
    refine ⟨_, rfl, v, f, pr, n, rfl, FmAt.kp hv (Kp.same s1), fo, fun H2 s2 => ?_⟩
    have q := k_ H2 (s1.trans s2)
    refine ⟨_, rfl, _, _, rfl, rfl, _, rfl, ite2 (fun c => ?_) (fun c => ?_)⟩
    · have eb : brk (decide (tgt f < i)) (ftx f) = (zS "(" ++ ftx f) ++ zS ")" := by unfold brk; rw [if_pos c]
      rw [eb] at q
      exact ⟨_, rfl, _, _, rfl, rfl, slm (by show (zS "(").length + _ ≤ _; omega), _, _, rfl, rfl, slm (by show (zS "(" ++ ftx f).length + (zS ")").length ≤ _; rw [len_app]; omega), q⟩
    · have eb : brk (decide (tgt f < i)) (ftx f) = ftx f := by unfold brk; rw [if_neg c]
      rw [eb] at q
      exact ⟨_, rfl, q⟩
theorem sc_law_bare : FnScope ["_law_formula_here", "_law_pen_here", "_law_word", "_law_own", "_law_texts"] ["_law_formula_here", "_law_pen_here"] (defScope s__law_bare) := ⟨rfl, rfl, rfl, by decide +kernel, rfl, by decide +kernel, by decide +kernel⟩
theorem ok__law_bare (T : Txt w K mg t) {n k : Nat} (F : FnOk P w K mg base CX0 k t.f__law_written t.d__law_written ["_law_formula_here", "_law_pen_here"] (spWr n)) (hk : 5 ≤ k) : FnOk P w K mg base CX0 (k + 3) t.f__law_bare t.d__law_bare ["_law_formula_here", "_law_pen_here"] (spBr n) := by
  have D := T.c__law_bare
  refine D.fn.ok sc_law_bare (fun vs H Q E h => ?_) (fun cdv A outer s H vs Q E hr h => ?_)
  · obtain ⟨v, f, pr, rfl, _⟩ := h
    rfl
  · obtain ⟨v, f, pr, rfl, hv, fo, hp, h7, k_⟩ := h
    have hu := hr.units0
    have hu1 := hu_of hr
    refine ⟨_, ((pss_cons (ps_set (i := 2) sc_law_bare.nd rfl (Or.inl rfl) (pe_ix ix_tup (pv 0) pe_int (fun _ _ => rfl)))
      (pss_cons (ps_if (pt_cmpR op_in_seq (pv 2) (pe_tup (pa_consK pe_str (pa_consK pe_str (pa_consK pe_str (pa_consK pe_str (pa_consK pe_str (pa_consK pe_str (pa_consK pe_str pa_nil)))))))) rfl) (pss_one (ps_ret (pe_cl T.c__law_leaf_text (ok__law_leaf_text T) (hr.mono (by omega)) (pa_consN (pv 0) pa_nil)))) pss_nil)
      (pss_cons (ps_if (pt_cmpR op_eq (pv 2) pe_str (nomark _)) (pss_cons (ps_set (i := 3) sc_law_bare.nd rfl (Or.inl rfl) (pe_cl T.c__law_tight (ok__law_tight T) (hr.mono (by omega)) (pa_consN (pv 0) pa_nil)))
      (pss_one (ps_ret (pe_op op_add_str (pe_op op_add_str (pe_cl T.c__law_placed (ok__law_placed T F (by omega)) (hr.mono (by omega)) (pa_consS (pe_ix ix_tup (pv 0) pe_int (fun _ _ => rfl)) (pa_consN (pv 3) (pa_consN (pv 1) pa_nil)))) (pe_ix ix_tup (pv 0) pe_int (fun _ _ => rfl))) (pe_cl T.c__law_placed (ok__law_placed T F (by omega)) (hr.mono (by omega)) (pa_consS (pe_ix ix_tup (pv 0) pe_int (fun _ _ => rfl)) (pa_consB (pe_op op_add (pv 3) pe_int) (pa_consN (pv 1) pa_nil)))))))) pss_nil)
      (pss_cons (ps_if (pt_cmpR op_eq (pv 2) pe_str (nomark _)) (pss_one (ps_ret (pe_op op_add_str pe_str (pe_cl T.c__law_placed (ok__law_placed T F (by omega)) (hr.mono (by omega)) (pa_consS (pe_ix ix_tup (pv 0) pe_int (fun _ _ => rfl)) (pa_consK pe_int (pa_consN (pv 1) pa_nil))))))) pss_nil)
      (pss_cons (ps_setC (i := 4) sc_law_bare.nd rfl rfl (fv := ["_law_pen_here"]) (js := [1]) (cl := [("_law_pen_here", s.heap.objs.size + 1)]) rfl (by with_unfolding_all rfl) ⟨rfl, by decide +kernel, by decide +kernel, rfl, by decide +kernel, by decide +kernel, (List.forall_mem_cons.mpr ⟨⟨rfl, rfl, rfl⟩, (List.forall_mem_nil _)⟩), (List.forall_mem_cons.mpr ⟨rfl, (List.forall_mem_nil _)⟩), (.cons rfl .nil)⟩ (pi_list (pe_cl T.c__law_parts (ok__law_parts T) (hr.mono (by omega)) (pa_consN (pv 0) pa_nil))) (fun _ _ _ _ _ => pf_nil) (fun _ _ _ _ _ => (pe_cl T.c__law_written F (hr.mono (by omega)) (pa_consN (pv 0) (pa_consN (pv 1) pa_nil)))))
      (pss_cons (ps_if (pt_cmpR op_eq (pv 2) pe_str (nomark _)) (pss_one (ps_ret (pe_op op_add_str (pe_op op_add_str (pe_op op_add_str (pe_ix ix_tup (pv 0) pe_int (fun _ _ => rfl)) pe_str) (pe_bm PySem.F.plainAttrs_str PySem.F.slot_str_join PySem.F.type_str_join mt_join pe_str (pa_consN (pv 4) pa_nil))) pe_str))) pss_nil)
      (pss_cons (ps_if (pt_cmpR op_eq (pv 2) pe_str (nomark _)) (pss_one (ps_set (i := 4) sc_law_bare.nd rfl (Or.inl rfl) (pe_op op_cat (pe_op op_cat (pe_slice sl_list (pv 4) po_none (po_some pe_int)) (pe_lst (pa_consS (pe_ix ix_tup (pv 0) pe_int (fun _ _ => rfl)) pa_nil))) (pe_slice sl_list (pv 4) (po_some pe_int) po_none)))) pss_nil)
      (pss_cons (ps_if (pt_cmpR op_eq (pv 2) pe_str (nomark _)) (pss_one (ps_set (i := 4) sc_law_bare.nd rfl (Or.inl rfl) (pe_op op_cat (pe_lst (pa_consC (pe_callTy call_str_int (by rfl) T.str boot_str (pa_consS (pe_ix ix_tup (pv 0) pe_int (fun _ _ => rfl)) pa_nil)) (pa_consC (pe_callTy call_str_int (by rfl) T.str boot_str (pa_consS (pe_ix ix_tup (pv 0) pe_int (fun _ _ => rfl)) pa_nil)) pa_nil))) (pv 4)))) pss_nil)
      (pss_one (ps_ret (pe_op op_add_str (pe_op op_add_str (pe_op op_add_str (pv 2) pe_str) (pe_bm PySem.F.plainAttrs_str PySem.F.slot_str_join PySem.F.type_str_join mt_join pe_str (pa_consN (pv 4) pa_nil))) pe_str)))))))))))), ?_⟩
    have hv0 := hv
    have fo0 := fo
    cases hv with
    | @lf a l hl =>
      cases fo with
      | lf okl =>
      obtain ⟨w, r, ha, hin, _⟩ := hl.hd
      refine ⟨_, rfl, a, _, _, _, rfl, rfl, SqT.of ha, atI_hd, ?_⟩
      refine ⟨_, rfl, (by show 7 ≤ sizeLine; decide), fun t7 ht7 => ⟨t7, L7, rfl, .inr (SqT.of upd_same), rfl, rfl, true, congrArg V.bl hin, iteT ?_⟩⟩
      have s1 := Same.new (o := .tup L7) ht7
      refine ⟨_, rfl, a, l, pr, rfl, LfAt.kp hl (Kp.same s1), okl, hp, fun H' s' => ?_⟩
      have q := k_ H' (s1.trans s')
      rw [ftx_lf] at q
      exact q
    | @nd a t kd us ps ha ht hl hh =>
      cases fo with
      | nd ok hps =>
      obtain ⟨r0, er⟩ := lay_kw t kd us
      have ha0 : H a = some (.tup (.str (kw kd) :: r0)) := by rw [ha, er]
      have fm := FmAt.parts hl hh
      have q0 : ∀ H', Same H H' → Q (.str (ktx kd (ps.map tgt) (ps.map ftx))) H' := fun H' s' => by
        have q := k_ H' s'
        rw [ftx_nd] at q
        exact q
      have kids : ∀ x ∈ ps.map ftx, x.length ≤ 2000000 := fun x hx => by
        obtain ⟨f, hf, rfl⟩ := List.mem_map.mp hx
        exact ftx_lo (hps f hf) hp h7
      refine ⟨_, rfl, a, _, _, _, rfl, rfl, SqT.of ha0, atI_hd, ?_⟩
      refine ⟨_, rfl, (by show 7 ≤ sizeLine; decide), fun t7 ht7 => ⟨t7, L7, rfl, .inr (SqT.of upd_same), rfl, rfl, false, congrArg V.bl (kw_no ok), iteF ?_⟩⟩
      have s1 := Same.new (o := .tup L7) ht7
      generalize upd H t7 (.tup L7) = H1 at *
      obtain ⟨h1, h2, h3, h4⟩ := kw_op ok
      have h5 := kw_own ok
      cases hk1 : isOp kd with
      | true =>
        obtain ⟨z, rfl⟩ : ∃ z, kd = .op z := by cases kd <;> first | exact ⟨_, rfl⟩ | cases hk1
        refine ⟨_, rfl, rfl, true, congrArg V.bl (h1.trans hk1), iteT ?_⟩
        obtain ⟨p1, p2, rfl⟩ := kid2 ok.2
        obtain ⟨u1, u2, rfl⟩ := kid2 (hl.trans ok.2)
        replace ha : H a = some (.tup [vS "op", .str z, u1, u2]) := ha
        have lz := ops_len ok.1
        have f1 := hps p1 (by simp)
        have f2 := hps p2 (by simp)
        have l1 := kids (ftx p1) (by simp)
        have l2 := kids (ftx p2) (by simp)
        have b1 := brk_len (decide (tgt p1 < opT z)) (ftx p1)
        have b2 := brk_len (decide (tgt p2 < opT z + 1)) (ftx p2)
        refine ⟨_, rfl, .ref a, _, pr, n + 1, rfl, FmAt.kp hv0 (Kp.same s1), fo0, fun H2 s2 => ?_⟩
        have s12 := s1.trans s2
        refine ⟨_, rfl, a, _, _, _, rfl, rfl, SqT.of (s12 _ _ ha), atI_2, _, rfl, _, rfl, u1, opT z, p1, pr, rfl, FmAt.kp (hh 0 u1 p1 rfl rfl) (Kp.same s12), f1, hp, (by omega), fun H3 s3 => ?_⟩
        have s13 := s12.trans s3
        refine ⟨_, rfl, a, _, _, _, rfl, rfl, SqT.of (s13 _ _ ha), atI_1, _, _, rfl, rfl, slm (by omega), ?_⟩
        refine ⟨_, rfl, a, _, _, _, rfl, rfl, SqT.of (s13 _ _ ha), atI_3, _, rfl, _, _, rfl, rfl, _, rfl, u2, opT z + 1, p2, pr, rfl, FmAt.kp (hh 1 u2 p2 rfl rfl) (Kp.same s13), f2, hp, (by omega), fun H4 s4 => ?_⟩
        exact ⟨_, _, rfl, rfl, slm (by rw [len_app]; omega), q0 _ (s13.trans s4)⟩
      | false =>
      refine ⟨_, rfl, rfl, false, congrArg V.bl (h1.trans hk1), iteF ?_⟩
      cases hk2 : isNeg kd with
      | true =>
        obtain rfl : kd = .neg := by cases kd <;> first | rfl | cases hk2
        refine ⟨_, rfl, rfl, true, congrArg V.bl (h2.trans hk2), iteT ?_⟩
        obtain ⟨p1, rfl⟩ := kid1 (show ps.length = 1 from ok)
        obtain ⟨u1, rfl⟩ := kid1 (hl.trans (show [p1].length = 1 from rfl))
        replace ha : H a = some (.tup [vS "neg", u1]) := ha
        have f1 := hps p1 (by simp)
        have l1 := kids (ftx p1) (by simp)
        have b1 := brk_len (decide (tgt p1 < 5)) (ftx p1)
        have e1 : (zS "-").length = 1 := by decide +kernel
        refine ⟨_, rfl, a, _, _, _, rfl, rfl, SqT.of (s1 _ _ ha), atI_1, _, rfl, u1, 5, p1, pr, rfl, FmAt.kp (hh 0 u1 p1 rfl rfl) (Kp.same s1), f1, hp, (by omega), fun H3 s3 => ?_⟩
        exact ⟨_, _, rfl, rfl, slm (by show (zS "-").length + _ ≤ _; omega), q0 _ (s1.trans s3)⟩
      | false =>
      refine ⟨_, rfl, rfl, false, congrArg V.bl (h2.trans hk2), iteF ?_⟩
      refine ⟨_, rfl, .ref a, .nd kd ps, pr, n + 1, rfl, FmAt.kp hv0 (Kp.same s1), fo0, fun lw ws H2 hl0 hl2 fm2 s2 => ?_⟩
      have s12 := s1.trans s2
      replace fm2 : FmsAt H2 ws ps := fm2
      have hwl : ws.length = ps.length := Paired.length fm2
      have p3 := ok.le
      refine ⟨lw, rfl, ⟨_, SqL.of hl2⟩, fun D hD => ?_⟩
      refine ⟨fun i m H4 => m = ws.length - i ∧ i ≤ ws.length ∧ H4 D = some (.lst ((ps.take i).map fun f => V.str (ftx f))) ∧ Same H2 H4, ⟨ws.length, rfl, Nat.zero_le _, upd_same, Same.new hD⟩, ?_⟩
      rintro i m H4 ⟨rfl, hi, hD4, s4⟩
      by_cases hlt : i < ws.length
      · refine .inr ⟨⟨ws, ws[i], SqL.of (s4 _ _ hl2), List.getElem?_eq_getElem hlt⟩, fun x H' y => ?_⟩
        obtain ⟨e, y⟩ := y
        subst e
        have hx := y ws (SqL.of (s4 _ _ hl2))
        obtain ⟨g, hg, xg⟩ := paired_at fm2 hx
        refine ⟨_, rfl, _, rfl, x, g, pr, rfl, FmAt.kp xg (Kp.same s4), hps g (List.mem_of_getElem? hg), hp, (by omega), fun H5 s5 => ?_⟩
        refine ⟨_, s5 _ _ hD4, sl_lt (by rw [List.length_map, List.length_take]; omega), ws.length - (i + 1), (by omega), rfl, hlt, ?_, fun b o e => ?_⟩
        · rw [upd_same, List.take_add_one, hg, List.map_append]; rfl
        · rw [upd_ne (ne_of_none e hD)]; exact s5 _ _ (s4 _ _ e)
      have ei : i = ws.length := by omega
      subst ei
      refine .inl ⟨⟨ws, SqL.of (s4 _ _ hl2), Nat.le_refl _⟩, ?_⟩
      rw [hwl, List.take_length, show (ps.map fun f => V.str (ftx f)) = (ps.map ftx).map V.str by rw [List.map_map]; rfl] at hD4
      have s14 := s12.trans s4
      have tl : (ps.map ftx).length = ps.length := List.length_map _
      generalize ps.map ftx = ts at *
      cases kd with
      | op z => cases hk1
      | neg => cases hk2
      | own z =>
        replace ha : H a = some (.tup [vS "own", .str z, .ref t]) := ha
        obtain ⟨c1, c2, c3, c4⟩ := call_sz (z := z) ok.1.hi kids (by omega)
        refine ⟨_, rfl, rfl, true, congrArg V.bl h5, iteT ?_⟩
        exact ⟨_, rfl, a, _, _, _, rfl, rfl, SqT.of (s14 _ _ ha), atI_1, _, _, rfl, rfl, c1, rfl, _, rfl, _, D, _, rfl, rfl, SqL.of hD4, c2, _, _, rfl, rfl, c3, _, _, rfl, rfl, c4, q0 _ s14⟩
      | sumif z =>
        have h3' : ts.length = 3 := tl.trans ok.2
        have hz1 : z.length ≤ 2000000 := by rcases ok.1 with e | e <;> (rw [e]; decide +kernel)
        obtain ⟨c1, c2, c3, c4⟩ := call_sz (z := zS "sumif") (ts := ts.take 1 ++ z :: ts.drop 1) (by decide +kernel) (ins_mem hz1 kids) (by rw [List.length_append, List.length_take, List.length_cons, List.length_drop]; omega)
        obtain ⟨t1, t2, t3, rfl⟩ := kid3 h3'
        obtain ⟨v1, v2, v3, rfl⟩ := kid3 (hl.trans ok.2)
        replace ha : H a = some (.tup [vS "sumif", v1, .str z, v2, v3]) := ha
        refine ⟨_, rfl, rfl, false, congrArg V.bl h5, iteF ?_⟩
        refine ⟨_, rfl, rfl, true, congrArg V.bl h3, iteT ?_⟩
        refine ⟨_, rfl, _, rfl, D, _, rfl, SqL.of hD4, fun d1 hd1 => ?_⟩
        have n1 := Same.new (o := .lst (cutV ([t1, t2, t3].map V.str) none (some 1))) hd1
        have x1 : upd H4 d1 (.lst (cutV ([t1, t2, t3].map V.str) none (some 1))) d1 = some (.lst [V.str t1]) := upd_same
        generalize upd H4 d1 (.lst (cutV ([t1, t2, t3].map V.str) none (some 1))) = H5 at *
        have s15 := s14.trans n1
        refine ⟨_, rfl, a, _, _, _, rfl, rfl, SqT.of (s15 _ _ ha), atI_2, (by show 1 ≤ sizeLine; decide), fun d2 hd2 => ?_⟩
        have n2 := Same.new (o := .lst [V.str z]) hd2
        have x2 : upd H5 d2 (.lst [V.str z]) d2 = some (.lst [V.str z]) := upd_same
        have x1' := n2 _ _ x1
        generalize upd H5 d2 (.lst [V.str z]) = H6 at *
        refine ⟨d1, d2, _, _, rfl, rfl, x1', x2, (by show 2 ≤ sizeLine; decide), fun d3 hd3 => ?_⟩
        have n3 := Same.new (o := .lst ([V.str t1] ++ [V.str z])) hd3
        have x3 : upd H6 d3 (.lst ([V.str t1] ++ [V.str z])) d3 = some (.lst [V.str t1, V.str z]) := upd_same
        have y3 := n3 _ _ (n2 _ _ (n1 _ _ hD4))
        generalize upd H6 d3 (.lst ([V.str t1] ++ [V.str z])) = H7 at *
        refine ⟨_, rfl, _, rfl, D, _, rfl, SqL.of y3, fun d4 hd4 => ?_⟩
        have n4 := Same.new (o := .lst (cutV ([t1, t2, t3].map V.str) (some 1) none)) hd4
        have x4 : upd H7 d4 (.lst (cutV ([t1, t2, t3].map V.str) (some 1) none)) d4 = some (.lst [V.str t2, V.str t3]) := upd_same
        have x3' := n4 _ _ x3
        generalize upd H7 d4 (.lst (cutV ([t1, t2, t3].map V.str) (some 1) none)) = H8 at *
        refine ⟨d3, d4, _, _, rfl, rfl, x3', x4, (by show 4 ≤ sizeLine; decide), fun d5 hd5 => ?_⟩
        have n5 := Same.new (o := .lst ([V.str t1, V.str z] ++ [V.str t2, V.str t3])) hd5
        have x5 : upd H8 d5 (.lst ([V.str t1, V.str z] ++ [V.str t2, V.str t3])) d5 = some (.lst ([t1, z, t2, t3].map V.str)) := upd_same
        generalize upd H8 d5 (.lst ([V.str t1, V.str z] ++ [V.str t2, V.str t3])) = H9 at *
        refine ⟨_, rfl, rfl, false, congrArg V.bl h4, iteF ?_⟩
        exact ⟨_, rfl, _, _, rfl, rfl, c1, rfl, _, rfl, _, d5, _, rfl, rfl, SqL.of x5, c2, _, _, rfl, rfl, c3, _, _, rfl, rfl, c4, q0 _ ((((s15.trans n2).trans n3).trans n4).trans n5)⟩
      | grid i j =>
        obtain ⟨i0, i1, j0, j1, h2'⟩ := ok
        replace ha : H a = some (.tup (vS "grid" :: .int i :: .int j :: us)) := ha
        have li := num_s i0 i1
        have lj := num_s j0 (by omega)
        obtain ⟨c1, c2, c3, c4⟩ := call_sz (z := zS "grid") (ts := num i :: num j :: ts) (by decide +kernel) (fun x hx => by
          rcases List.mem_cons.mp hx with q | q
          · rw [q]; omega
          · rcases List.mem_cons.mp q with q | q
            · rw [q]; omega
            · exact kids x q) (by simp; omega)
        refine ⟨_, rfl, rfl, false, congrArg V.bl h5, iteF ?_⟩
        refine ⟨_, rfl, rfl, false, congrArg V.bl h3, iteF ?_⟩
        refine ⟨_, rfl, rfl, true, congrArg V.bl h4, iteT ?_⟩
        refine ⟨_, rfl, a, _, _, _, rfl, rfl, SqT.of (s14 _ _ ha), atI_1, _, rfl, log16 (by omega) (by omega), _, rfl, a, _, _, _, rfl, rfl, SqT.of (s14 _ _ ha), atI_2, _, rfl, log16 (by omega) (by omega), two_le, fun d1 hd1 => ?_⟩
        have n1 := Same.new (o := .lst [V.str (num i), V.str (num j)]) hd1
        have x1 : upd H4 d1 (.lst [V.str (num i), V.str (num j)]) d1 = some (.lst [V.str (num i), V.str (num j)]) := upd_same
        have y1 := n1 _ _ hD4
        unfold num at *
        generalize upd H4 d1 (.lst [V.str (Str.ofString (toString i)), V.str (Str.ofString (toString j))]) = H5 at *
        refine ⟨_, rfl, d1, D, _, _, rfl, rfl, x1, y1, sl_le (by simp; omega), fun d2 hd2 => ?_⟩
        have n2 := Same.new (o := .lst ([V.str (Str.ofString (toString i)), V.str (Str.ofString (toString j))] ++ ts.map V.str)) hd2
        have x2 : upd H5 d2 (.lst ([V.str (Str.ofString (toString i)), V.str (Str.ofString (toString j))] ++ ts.map V.str)) d2 = some (.lst ((Str.ofString (toString i) :: Str.ofString (toString j) :: ts).map V.str)) := upd_same
        exact ⟨_, rfl, _, _, rfl, rfl, c1, rfl, _, rfl, _, d2, _, rfl, rfl, SqL.of x2, c2, _, _, rfl, rfl, c3, _, _, rfl, rfl, c4, q0 _ ((s14.trans n1).trans n2)⟩
      | wd z =>
        have hw : (z, ps.length) ∈ WDS := ok
        have hz6 : ∀ x ∈ WDS, x.1.length ≤ 6 := by decide +kernel
        obtain ⟨c1, c2, c3, c4⟩ := call_sz (z := z) (hz6 _ hw) kids (by omega)
        refine ⟨_, rfl, rfl, false, congrArg V.bl h5, iteF ?_⟩
        refine ⟨_, rfl, rfl, false, congrArg V.bl h3, iteF ?_⟩
        refine ⟨_, rfl, rfl, false, congrArg V.bl h4, iteF ?_⟩
        exact ⟨_, rfl, _, _, rfl, rfl, c1, rfl, _, rfl, _, D, _, rfl, rfl, SqL.of hD4, c2, _, _, rfl, rfl, c3, _, _, rfl, rfl, c4, q0 _ s14⟩
theorem sc_law_written : FnScope ["_law_formula_here", "_law_pen_here", "_law_text", "_law_more"] ["_law_formula_here", "_law_pen_here"] (defScope s__law_written) := ⟨rfl, rfl, rfl, by decide +kernel, rfl, by decide +kernel, by decide +kernel⟩
theorem ok__law_written (T : Txt w K mg t) : ∀ n : Nat, FnOk P w K mg base CX0 (6 * n + 6) t.f__law_written t.d__law_written ["_law_formula_here", "_law_pen_here"] (spWr n) := by
  have D := T.c__law_written
  intro n
  induction n with
  | zero => exact ⟨fun _ _ _ _ h => (by obtain ⟨_, _, _, _, _, fo, _⟩ := h; cases fo), fun _ _ _ _ _ _ _ _ _ _ _ _ _ h => (by obtain ⟨_, _, _, _, _, fo, _⟩ := h; cases fo)⟩
  | succ n ih =>
    refine D.fn.ok sc_law_written (fun vs H Q E h => ?_) (fun cdv A outer s H vs Q E hr h => ?_)
    · obtain ⟨v, f, pr, rfl, _⟩ := h
      rfl
    · obtain ⟨v, f, pr, rfl, hv, fo, hp, h8, k_⟩ := h
      have hu := hr.units0
      have hu1 := hu_of hr
      refine ⟨_, ((pss_cons (ps_set (i := 2) sc_law_written.nd rfl (Or.inl rfl) (pe_cl T.c__law_bare (ok__law_bare T ih (by omega)) (hr.mono (by omega)) (pa_consN (pv 0) (pa_consN (pv 1) pa_nil))))
      (pss_cons (ps_set (i := 3) sc_law_written.nd rfl (Or.inl rfl) pe_int)
      (pss_cons (ps_if (pt_cmpR op_notN (pv 1) pe_non (nomark _)) (pss_one (ps_set (i := 3) sc_law_written.nd rfl (Or.inl rfl) (pe_ix ix_list (pe_lst (pa_consK pe_int (pa_consK pe_int (pa_consK pe_int (pa_consK pe_int (pa_consK pe_int (pa_consK pe_int pa_nil))))))) (pe_cl T.c__law_take (ok__law_take T) (hr.mono (by omega)) (pa_consN (pv 1) (pa_consK pe_int pa_nil))) (fun _ _ => rfl)))) pss_nil)
      (pss_one (ps_ret (pe_op op_add_str (pe_op op_add_str (pe_op op_mul_str pe_str (pv 3)) (pv 2)) (pe_op op_mul_str pe_str (pv 3))))))))), ?_⟩
      have le := ftx_le fo hp h8
      refine ⟨_, rfl, _, rfl, v, f, pr, rfl, hv, fo, hp, (by omega), fun H1 s1 => ?_⟩
      refine ⟨_, rfl, rfl, false, rfl, iteF ?_⟩
      have e0 : Txt.mul (zS "(") 0 = zS "" := by decide +kernel
      have e3 : Txt.mul (zS ")") 0 = zS "" := by decide +kernel
      have e4 : (zS "").length = 0 := by decide +kernel
      refine ⟨_, rfl, _, _, rfl, rfl, mul0, ?_⟩
      rw [e0]
      refine ⟨_, rfl, _, _, rfl, rfl, slm (by omega), ?_⟩
      rw [nil_app]
      refine ⟨_, rfl, _, _, rfl, rfl, mul0, ?_⟩
      rw [e3]
      refine ⟨_, _, rfl, rfl, slm (by omega), ?_⟩
      rw [app_e]
      exact k_ _ s1
theorem sc_law_formula : FnScope ["_law_pen_here", "_law_params", "_law_formula_here"] ["_law_pen_here", "_law_params"] (defScope s__law_formula) := ⟨rfl, rfl, rfl, by decide +kernel, rfl, by decide +kernel, by decide +kernel⟩
theorem ok__law_formula (T : Txt w K mg t) : FnOk P w K mg base CX0 60 t.f__law_formula t.d__law_formula ["_law_pen_here", "_law_params"] (spFmlZ K) := by
  have D := T.c__law_formula
  refine D.fn.ok sc_law_formula (fun vs H Q E h => ?_) (fun cdv A outer s H vs Q E hr h => ?_)
  · obtain ⟨p, pr, c, S, rfl, _⟩ := h
    rfl
  · obtain ⟨p, pr, c, S, rfl, hpr, hpen, hc, k⟩ := h
    have hu := hr.units0
    have hu1 := hu_of hr
    refine ⟨_, ((pss_cons (ps_set (i := 2) sc_law_formula.nd rfl (Or.inl rfl) (pe_cl T.c__law_grown (ok__law_grown T 7) (hr.mono (by omega)) (pa_consN (pv 0) (pa_consS (pe_ix ix_list (pe_lst (pa_consK pe_int (pa_consK pe_int (pa_consK pe_int (pa_consK pe_int pa_nil))))) (pe_cl T.c__law_take (ok__law_take T) (hr.mono (by omega)) (pa_consN (pv 0) (pa_consK pe_int pa_nil))) (fun _ _ => rfl)) (pa_consK pe_int (pa_consN (pv 1) pa_nil))))))
      (pss_cons (ps_if (pt_cmpR op_gt (pe_callB call_len_str (by rfl) T.len PySem.boot_len (pa_consC (pe_cl T.c__law_written (ok__law_written T 8) (hr.mono (by omega)) (pa_consN (pv 2) (pa_consK pe_non pa_nil))) pa_nil)) pe_int (nomark _)) (pss_one (ps_set (i := 2) sc_law_formula.nd rfl (Or.inl rfl) (pe_cl T.c__law_grown (ok__law_grown T 2) (hr.mono (by omega)) (pa_consN (pv 0) (pa_consK pe_int (pa_consK pe_int (pa_consN (pv 1) pa_nil))))))) pss_nil)
      (pss_one (ps_ret (pv 2)))))), ?_⟩
    refine ⟨_, rfl, (by show 4 ≤ sizeLine; decide), fun l hl => ?_⟩
    have s0 := Same.new (o := .lst [.int 3, .int 8, .int 24, .int 24]) hl
    have nl := hpen.ne hl
    refine ⟨_, rfl, p, _, _, _, rfl, (by show (0 : Int) < _; decide), sz4000 (by decide) (by decide), (hpen.same s0), (by omega), fun r1 H1 a1 b1 pen1 kp1 => ?_⟩
    obtain ⟨rm, hrm, m3, m24⟩ := pickR a1 b1
    refine ⟨l, _, _, _, rfl, rfl, SqL.of (kp1 _ _ nl upd_same), hrm, _, rfl, p, rm, 8, pr, _, S, rfl, (by decide), (by omega), (by omega), hpr, pen1, (by omega), fun v f H2 hv fo sz pen2 kp2 => ?_⟩
    have kp02 := ((Same.keep s0).trans kp1).trans kp2
    refine ⟨_, rfl, v, f, pr, rfl, hv, fo, hpr, (by decide), fun H3 s3 => ?_⟩
    refine ⟨_, rfl, slm (by have := ftx_le fo hpr (by decide); omega), _, _, rfl, rfl, _, rfl, ite2 (fun _ => ?_) (fun _ => ?_)⟩
    · refine ⟨_, rfl, _, rfl, p, 3, 3, pr, _, S, rfl, (by decide), (by decide), (by decide), hpr, pen2.same s3, (by omega), fun v2 f2 H4 hv2 fo2 sz2 pen4 kp4 => ?_⟩
      exact ⟨_, rfl, k v2 f2 H4 hv2 (fo2.mono (by decide)) (by omega) (pen4.mono (by omega)) ((kp02.trans (Same.keep s3)).trans kp4)⟩
    · exact ⟨_, rfl, k v f H3 (FmAt.kp hv (Kp.same s3)) fo (by omega) ((pen2.same s3).mono (by omega)) (kp02.trans (Same.keep s3))⟩
theorem sc_law_bad_leaves : FnScope ["_law_right", "_law_some"] [] (defScope s__law_bad_leaves) := ⟨rfl, rfl, rfl, by decide +kernel, rfl, by decide +kernel, by decide +kernel⟩
theorem ok__law_bad_leaves (T : Txt w K mg t) : FnOk P w K mg base CX0 1 t.f__law_bad_leaves t.d__law_bad_leaves [] spBLv := by
  have D := T.c__law_bad_leaves
  refine D.fn.ok sc_law_bad_leaves (fun vs H Q E h => ?_) (fun cdv A outer s H vs Q E hr h => ?_)
  · obtain ⟨rfl, _⟩ := h
    rfl
  · obtain ⟨rfl, k⟩ := h
    have hu := hr.units0
    have hu1 := hu_of hr
    refine ⟨_, ((pss_cons (ps_set (i := 0) sc_law_bad_leaves.nd rfl (Or.inl rfl) (pe_tup (pa_consK pe_int (pa_consK pe_int (pa_consK pe_bl (pa_consK pe_bl pa_nil))))))
      (pss_cons (ps_set (i := 1) sc_law_bad_leaves.nd rfl (Or.inl rfl) (pe_lst (pa_consT (pe_tup (pa_consK pe_str (pa_consT (pe_tup (pa_consK pe_str (pa_consU (pe_un un_neg pe_int) (pa_consK pe_int pa_nil)))) pa_nil))) (pa_consT (pe_tup (pa_consK pe_str (pa_consT (pe_tup (pa_consK pe_str (pa_consK pe_int (pa_consK pe_int pa_nil)))) pa_nil))) (pa_consT (pe_tup (pa_consK pe_str (pa_consT (pe_tup (pa_consK pe_str (pa_consK pe_int (pa_consK pe_int pa_nil)))) pa_nil))) pa_nil)))))
      (pss_cons (ps_set (i := 1) sc_law_bad_leaves.nd rfl (Or.inl rfl) (pe_op op_cat (pv 1) (pe_lst (pa_consT (pe_tup (pa_consK pe_str (pa_consT (pe_tup (pa_consK pe_str (pa_consK pe_bl (pa_consK pe_int pa_nil)))) pa_nil))) (pa_consT (pe_tup (pa_consK pe_str (pa_consT (pe_tup (pa_consK pe_str (pa_consK pe_int pa_nil))) pa_nil))) (pa_consT (pe_tup (pa_consK pe_str (pa_consT (pe_tup (pa_consK pe_str (pa_consK pe_str pa_nil))) pa_nil))) pa_nil))))))
      (pss_cons (ps_set (i := 1) sc_law_bad_leaves.nd rfl (Or.inl rfl) (pe_op op_cat (pv 1) (pe_lst (pa_consT (pe_tup (pa_consK pe_str (pa_consT (pe_tup (pa_consK pe_str (pa_consB (pe_op op_mul_str pe_str pe_int) pa_nil))) pa_nil))) (pa_consT (pe_tup (pa_consK pe_str (pa_consT (pe_tup (pa_consK pe_str (pa_consK pe_int pa_nil))) pa_nil))) (pa_consT (pe_tup (pa_consK pe_str (pa_consT (pe_tup (pa_consK pe_str (pa_consK pe_int pa_nil))) pa_nil))) (pa_consT (pe_tup (pa_consK pe_str (pa_consT (pe_tup (pa_consK pe_str pa_nil)) pa_nil))) pa_nil)))))))
      (pss_cons (ps_set (i := 1) sc_law_bad_leaves.nd rfl (Or.inl rfl) (pe_op op_cat (pv 1) (pe_lst (pa_consT (pe_tup (pa_consK pe_str (pa_consT (pe_tup (pa_consK pe_str (pa_consK pe_str (pa_consT (pe_tup (pa_consK pe_str (pa_consK pe_int (pa_consK pe_int pa_nil)))) pa_nil)))) pa_nil))) (pa_consT (pe_tup (pa_consK pe_str pa_nil)) (pa_consT (pe_tup (pa_consK pe_str (pa_consT (pe_tup (pa_consK pe_str (pa_consK pe_bl pa_nil))) (pa_consK pe_int pa_nil)))) (pa_consT (pe_tup (pa_consK pe_str (pa_consK pe_int pa_nil))) pa_nil)))))))
      (pss_cons (ps_set (i := 1) sc_law_bad_leaves.nd rfl (Or.inl rfl) (pe_op op_cat (pv 1) (pe_lst (pa_consT (pe_tup (pa_consK pe_str (pa_consK pe_str (pa_consN (pv 0) pa_nil)))) (pa_consT (pe_tup (pa_consK pe_str (pa_consK pe_str (pa_consN (pv 0) pa_nil)))) (pa_consT (pe_tup (pa_consK pe_str (pa_consK pe_str (pa_consN (pv 0) pa_nil)))) (pa_consT (pe_tup (pa_consK pe_str (pa_consK pe_int (pa_consN (pv 0) pa_nil)))) pa_nil)))))))
      (pss_cons (ps_set (i := 1) sc_law_bad_leaves.nd rfl (Or.inl rfl) (pe_op op_cat (pv 1) (pe_lst (pa_consT (pe_tup (pa_consK pe_str (pa_consK pe_non (pa_consT (pe_tup (pa_consK pe_int (pa_consK pe_int (pa_consK pe_bl (pa_consK pe_bl pa_nil))))) pa_nil)))) (pa_consT (pe_tup (pa_consK pe_str (pa_consK pe_non (pa_consT (pe_tup (pa_consK pe_int (pa_consK pe_int (pa_consK pe_bl (pa_consK pe_bl pa_nil))))) pa_nil)))) (pa_consT (pe_tup (pa_consK pe_str (pa_consK pe_non pa_nil))) pa_nil))))))
      (pss_cons (ps_set (i := 1) sc_law_bad_leaves.nd rfl (Or.inl rfl) (pe_op op_cat (pv 1) (pe_lst (pa_consT (pe_tup (pa_consK pe_str (pa_consK pe_non (pa_consT (pe_tup (pa_consK pe_int (pa_consK pe_int (pa_consK pe_bl (pa_consK pe_bl pa_nil))))) pa_nil)))) (pa_consT (pe_tup (pa_consK pe_str (pa_consK pe_non (pa_consT (pe_tup (pa_consK pe_int (pa_consK pe_int (pa_consK pe_bl (pa_consK pe_bl pa_nil))))) pa_nil)))) (pa_consT (pe_tup (pa_consK pe_str (pa_consN (pv 0) pa_nil))) pa_nil))))))
      (pss_cons (ps_set (i := 1) sc_law_bad_leaves.nd rfl (Or.inl rfl) (pe_op op_cat (pv 1) (pe_lst (pa_consT (pe_tup (pa_consK pe_str (pa_consK pe_non (pa_consT (pe_tup (pa_consK pe_bl (pa_consK pe_int (pa_consK pe_bl (pa_consK pe_bl pa_nil))))) pa_nil)))) (pa_consT (pe_tup (pa_consK pe_str (pa_consK pe_non (pa_consT (pe_tup (pa_consK pe_int (pa_consK pe_int (pa_consK pe_int (pa_consK pe_bl pa_nil))))) pa_nil)))) (pa_consT (pe_tup (pa_consK pe_str (pa_consK pe_non (pa_consN (pv 0) (pa_consK pe_int pa_nil))))) pa_nil))))))
      (pss_cons (ps_set (i := 1) sc_law_bad_leaves.nd rfl (Or.inl rfl) (pe_op op_cat (pv 1) (pe_lst (pa_consT (pe_tup (pa_consK pe_str (pa_consK pe_non (pa_consT (pe_tup (pa_consK pe_int (pa_consK pe_int (pa_consK pe_bl pa_nil)))) pa_nil)))) (pa_consT (pe_tup (pa_consK pe_str (pa_consK pe_non (pa_consL (pe_lst (pa_consK pe_int (pa_consK pe_int (pa_consK pe_bl (pa_consK pe_bl pa_nil))))) pa_nil)))) (pa_consT (pe_tup (pa_consK pe_str (pa_consK pe_non (pa_consK pe_non pa_nil)))) pa_nil))))))
      (pss_cons (ps_set (i := 1) sc_law_bad_leaves.nd rfl (Or.inl rfl) (pe_op op_cat (pv 1) (pe_lst (pa_consT (pe_tup (pa_consK pe_str (pa_consK pe_non (pa_consN (pv 0) (pa_consT (pe_tup (pa_consK pe_int (pa_consK pe_int (pa_consK pe_bl (pa_consK pe_bl pa_nil))))) pa_nil))))) (pa_consT (pe_tup (pa_consK pe_str (pa_consK pe_non (pa_consN (pv 0) (pa_consT (pe_tup (pa_consK pe_int (pa_consK pe_int (pa_consK pe_bl (pa_consK pe_bl pa_nil))))) pa_nil))))) pa_nil)))))
      (pss_cons (ps_set (i := 1) sc_law_bad_leaves.nd rfl (Or.inl rfl) (pe_op op_cat (pv 1) (pe_lst (pa_consT (pe_tup (pa_consK pe_str (pa_consK pe_non (pa_consN (pv 0) pa_nil)))) (pa_consT (pe_tup (pa_consK pe_str (pa_consK pe_non (pa_consN (pv 0) (pa_consN (pv 0) (pa_consN (pv 0) pa_nil)))))) (pa_consT (pe_tup (pa_consK pe_str (pa_consN (pv 0) (pa_consN (pv 0) pa_nil)))) pa_nil))))))
      (pss_cons (ps_set (i := 1) sc_law_bad_leaves.nd rfl (Or.inl rfl) (pe_op op_cat (pv 1) (pe_lst (pa_consT (pe_tup (pa_consK pe_str (pa_consK pe_non (pa_consT (pe_tup (pa_consK pe_int (pa_consK pe_bl pa_nil))) (pa_consT (pe_tup (pa_consK pe_int (pa_consK pe_bl pa_nil))) pa_nil))))) (pa_consT (pe_tup (pa_consK pe_str (pa_consK pe_non (pa_consT (pe_tup (pa_consK pe_int (pa_consK pe_bl pa_nil))) (pa_consT (pe_tup (pa_consK pe_int (pa_consK pe_bl pa_nil))) pa_nil))))) pa_nil)))))
      (pss_cons (ps_set (i := 1) sc_law_bad_leaves.nd rfl (Or.inl rfl) (pe_op op_cat (pv 1) (pe_lst (pa_consT (pe_tup (pa_consK pe_str (pa_consK pe_non (pa_consT (pe_tup (pa_consK pe_int (pa_consK pe_bl pa_nil))) (pa_consT (pe_tup (pa_consK pe_int (pa_consK pe_bl pa_nil))) pa_nil))))) (pa_consT (pe_tup (pa_consK pe_str (pa_consK pe_non (pa_consK pe_int (pa_consK pe_int pa_nil))))) (pa_consT (pe_tup (pa_consK pe_str (pa_consK pe_non (pa_consT (pe_tup (pa_consK pe_int (pa_consK pe_int pa_nil))) (pa_consT (pe_tup (pa_consK pe_int (pa_consK pe_int pa_nil))) pa_nil))))) pa_nil))))))
      (pss_cons (ps_set (i := 1) sc_law_bad_leaves.nd rfl (Or.inl rfl) (pe_op op_cat (pv 1) (pe_lst (pa_consT (pe_tup (pa_consK pe_str (pa_consL (pe_lst (pa_consK pe_str (pa_consK pe_int (pa_consK pe_int pa_nil)))) pa_nil))) (pa_consT (pe_tup (pa_consK pe_str (pa_consL (pe_lst (pa_consK pe_str (pa_consK pe_bl pa_nil))) pa_nil))) (pa_consT (pe_tup (pa_consK pe_str (pa_consK pe_non (pa_consL (pe_lst (pa_consK pe_int (pa_consK pe_bl pa_nil))) (pa_consT (pe_tup (pa_consK pe_int (pa_consK pe_bl pa_nil))) pa_nil))))) pa_nil))))))
      (pss_cons (ps_set (i := 1) sc_law_bad_leaves.nd rfl (Or.inl rfl) (pe_op op_cat (pv 1) (pe_lst (pa_consT (pe_tup (pa_consK pe_str (pa_consK pe_non (pa_consT (pe_tup (pa_consK pe_bl (pa_consK pe_bl pa_nil))) (pa_consT (pe_tup (pa_consK pe_int (pa_consK pe_bl pa_nil))) pa_nil))))) (pa_consT (pe_tup (pa_consK pe_str (pa_consK pe_non (pa_consT (pe_tup (pa_consK pe_int (pa_consK pe_bl (pa_consK pe_bl (pa_consK pe_bl pa_nil))))) pa_nil)))) pa_nil)))))
      (pss_cons (ps_set (i := 1) sc_law_bad_leaves.nd rfl (Or.inl rfl) (pe_op op_cat (pv 1) (pe_lst (pa_consT (pe_tup (pa_consK pe_str (pa_consK pe_non (pa_consL (pe_lst (pa_consK pe_int (pa_consK pe_int (pa_consK pe_bl (pa_consK pe_bl pa_nil))))) (pa_consT (pe_tup (pa_consK pe_int (pa_consK pe_int (pa_consK pe_bl (pa_consK pe_bl pa_nil))))) pa_nil))))) (pa_consT (pe_tup (pa_consK pe_str (pa_consL (pe_lst (pa_consK pe_str pa_nil)) (pa_consN (pv 0) pa_nil)))) pa_nil)))))
      (pss_cons (ps_set (i := 1) sc_law_bad_leaves.nd rfl (Or.inl rfl) (pe_op op_cat (pv 1) (pe_lst (pa_consT (pe_tup (pa_consK pe_str (pa_consK pe_int pa_nil))) (pa_consT (pe_tup (pa_consK pe_str (pa_consK pe_str pa_nil))) (pa_consT (pe_tup (pa_consK pe_str (pa_consK pe_str pa_nil))) (pa_consT (pe_tup (pa_consK pe_str (pa_consK pe_str pa_nil))) (pa_consT (pe_tup (pa_consK pe_str (pa_consK pe_str pa_nil))) (pa_consT (pe_tup (pa_consK pe_str (pa_consK pe_int pa_nil))) pa_nil)))))))))
      (pss_one (ps_ret (pe_op op_cat (pv 1) (pe_lst (pa_consT (pe_tup (pa_consK pe_str pa_nil)) (pa_consT (pe_tup (pa_consK pe_str (pa_consK pe_int pa_nil))) (pa_consT (pe_tup (pa_consK pe_str (pa_consU (pe_un un_neg pe_int) pa_nil))) (pa_consT (pe_tup (pa_consK pe_str (pa_consK pe_bl pa_nil))) (pa_consT (pe_tup (pa_consK pe_str pa_nil)) (pa_consT (pe_tup (pa_consK pe_str (pa_consK pe_str pa_nil))) pa_nil))))))))))))))))))))))))))))), ?_⟩
    refine ⟨sl4, fun q1 hq1 => ?_⟩
    obtain ⟨s1, f1⟩ := mkST (us := [.int 2, .int 3, .bl false, .bl true]) hq1 fun s => (.cons (.int _) (.cons (.int _) (.cons (.bl _) (.cons (.bl _) .nil))))
    generalize upd _ q1 _ = G1 at s1 f1 ⊢
    refine gN0 ?_
    refine ⟨_, rfl, sl3, fun q2 hq2 => ?_⟩
    obtain ⟨s2, f2⟩ := mkST (us := [vS "number", .int (-1), .int 1]) hq2 fun s => (.cons (sL _) (.cons (.int _) (.cons (.int _) .nil)))
    generalize upd _ q2 _ = G2 at s2 f2 ⊢
    refine ⟨sl2, fun q3 hq3 => ?_⟩
    obtain ⟨s3, f3⟩ := mkST (us := [vS "value", .ref q2]) hq3 fun s => (.cons (sL _) (.cons (f2.same s) .nil))
    generalize upd _ q3 _ = G3 at s3 f3 ⊢
    refine ⟨sl3, fun q4 hq4 => ?_⟩
    obtain ⟨s4, f4⟩ := mkST (us := [vS "number", .int 1000000000, .int 1]) hq4 fun s => (.cons (sL _) (.cons (.int _) (.cons (.int _) .nil)))
    generalize upd _ q4 _ = G4 at s4 f4 ⊢
    refine ⟨sl2, fun q5 hq5 => ?_⟩
    obtain ⟨s5, f5⟩ := mkST (us := [vS "value", .ref q4]) hq5 fun s => (.cons (sL _) (.cons (f4.same s) .nil))
    generalize upd _ q5 _ = G5 at s5 f5 ⊢
    refine ⟨sl3, fun q6 hq6 => ?_⟩
    obtain ⟨s6, f6⟩ := mkST (us := [vS "number", .int 1, .int 2]) hq6 fun s => (.cons (sL _) (.cons (.int _) (.cons (.int _) .nil)))
    generalize upd _ q6 _ = G6 at s6 f6 ⊢
    refine ⟨sl2, fun q7 hq7 => ?_⟩
    obtain ⟨s7, f7⟩ := mkST (us := [vS "value", .ref q6]) hq7 fun s => (.cons (sL _) (.cons (f6.same s) .nil))
    generalize upd _ q7 _ = G7 at s7 f7 ⊢
    refine ⟨sl3, fun q8 hq8 => ?_⟩
    obtain ⟨s8, b8, h8, n8⟩ := mkSL (us := [.ref q3, .ref q5, .ref q7]) (N := 3) hq8 (BadF.consD ((((f3.same s4).same s5).same s6).same s7) (BadF.consD ((f5.same s6).same s7) (BadF.consD f7 BadF.nil))) rfl
    generalize upd _ q8 _ = G8 at s8 b8 h8 ⊢
    generalize ([.ref q3, .ref q5, .ref q7] : List V) = us8 at b8 h8 n8 ⊢
    replace f1 := (((((((f1.same s2).same s3).same s4).same s5).same s6).same s7).same s8)
    have S := (((((((s1.trans s2).trans s3).trans s4).trans s5).trans s6).trans s7).trans s8)
    clear s1 hq1 s2 hq2 f2 s3 hq3 f3 s4 hq4 f4 s5 hq5 f5 s6 hq6 f6 s7 hq7 f7 s8 hq8
    clear G1 G2 G3 G4 G5 G6 G7 q2 q3 q4 q5 q6 q7
    refine gN1 ?_
    refine ⟨_, rfl, ?_⟩
    refine evL (ρ := .tup [.int 2, .int 3, .bl false, .bl true]) (ds := [(.t [.s "value", (.t [.s "number", .b true, .i 1])]), (.t [.s "value", (.t [.s "number", .i 1])]), (.t [.s "value", (.t [.s "text", .s "A"])])]) (N := 3) ⟨_, rfl, f1⟩ (by decide +kernel) (by decide +kernel) rfl (by decide) fun q9 us9 G9 h9 n9 b9 s9 => ?_
    replace h8 := (s9 _ _ h8)
    replace b8 := (b8.same s9)
    replace f1 := (f1.same s9)
    replace S := S.trans s9
    clear s9
    clear G8
    refine ⟨q8, q9, _, _, rfl, rfl, h8, h9, sl_le (by omega), fun q10 hq10 => ?_⟩
    obtain ⟨s10, b10, h10, n10⟩ := mkSL (us := us8 ++ us9) (N := 6) hq10 (b8.app b9) (by rw [List.length_append]; omega)
    generalize upd _ q10 _ = G10 at s10 b10 h10 ⊢
    generalize us8 ++ us9 = us10 at b10 h10 n10 ⊢
    replace f1 := (f1.same s10)
    replace S := S.trans s10
    clear s10 hq10 h8 b8 n8 h9 b9 n9
    clear G9 us8 us9 q9
    refine gN1 ?_
    refine ⟨_, rfl, _, _, rfl, rfl, (by unfold MulOk; decide +kernel), sl2, fun q11 hq11 => ?_⟩
    obtain ⟨s11, f11⟩ := mkST (us := [vS "text", .str (Txt.mul (zS "a") 21)]) hq11 fun s => (.cons (sL _) (.cons (sT (by decide +kernel)) .nil))
    generalize upd _ q11 _ = G11 at s11 f11 ⊢
    refine ⟨sl2, fun q12 hq12 => ?_⟩
    obtain ⟨s12, f12⟩ := mkST (us := [vS "value", .ref q11]) hq12 fun s => (.cons (sL _) (.cons (f11.same s) .nil))
    generalize upd _ q12 _ = G12 at s12 f12 ⊢
    refine ⟨sl2, fun q13 hq13 => ?_⟩
    obtain ⟨s13, f13⟩ := mkST (us := [vS "text", .int 5]) hq13 fun s => (.cons (sL _) (.cons (.int _) .nil))
    generalize upd _ q13 _ = G13 at s13 f13 ⊢
    refine ⟨sl2, fun q14 hq14 => ?_⟩
    obtain ⟨s14, f14⟩ := mkST (us := [vS "value", .ref q13]) hq14 fun s => (.cons (sL _) (.cons (f13.same s) .nil))
    generalize upd _ q14 _ = G14 at s14 f14 ⊢
    refine ⟨sl2, fun q15 hq15 => ?_⟩
    obtain ⟨s15, f15⟩ := mkST (us := [vS "truth", .int 1]) hq15 fun s => (.cons (sL _) (.cons (.int _) .nil))
    generalize upd _ q15 _ = G15 at s15 f15 ⊢
    refine ⟨sl2, fun q16 hq16 => ?_⟩
    obtain ⟨s16, f16⟩ := mkST (us := [vS "value", .ref q15]) hq16 fun s => (.cons (sL _) (.cons (f15.same s) .nil))
    generalize upd _ q16 _ = G16 at s16 f16 ⊢
    refine ⟨sl1, fun q17 hq17 => ?_⟩
    obtain ⟨s17, f17⟩ := mkST (us := [vS "none"]) hq17 fun s => (.cons (sL _) .nil)
    generalize upd _ q17 _ = G17 at s17 f17 ⊢
    refine ⟨sl2, fun q18 hq18 => ?_⟩
    obtain ⟨s18, f18⟩ := mkST (us := [vS "value", .ref q17]) hq18 fun s => (.cons (sL _) (.cons (f17.same s) .nil))
    generalize upd _ q18 _ = G18 at s18 f18 ⊢
    refine ⟨sl4, fun q19 hq19 => ?_⟩
    obtain ⟨s19, b19, h19, n19⟩ := mkSL (us := [.ref q12, .ref q14, .ref q16, .ref q18]) (N := 4) hq19 (BadF.consD ((((((f12.same s13).same s14).same s15).same s16).same s17).same s18) (BadF.consD ((((f14.same s15).same s16).same s17).same s18) (BadF.consD ((f16.same s17).same s18) (BadF.consD f18 BadF.nil)))) rfl
    generalize upd _ q19 _ = G19 at s19 b19 h19 ⊢
    generalize ([.ref q12, .ref q14, .ref q16, .ref q18] : List V) = us19 at b19 h19 n19 ⊢
    replace h10 := (s19 _ _ (s18 _ _ (s17 _ _ (s16 _ _ (s15 _ _ (s14 _ _ (s13 _ _ (s12 _ _ (s11 _ _ h10)))))))))
    replace b10 := (((((((((b10.same s11).same s12).same s13).same s14).same s15).same s16).same s17).same s18).same s19)
    replace f1 := (((((((((f1.same s11).same s12).same s13).same s14).same s15).same s16).same s17).same s18).same s19)
    replace S := S.trans ((((((((s11.trans s12).trans s13).trans s14).trans s15).trans s16).trans s17).trans s18).trans s19)
    clear s11 hq11 f11 s12 hq12 f12 s13 hq13 f13 s14 hq14 f14 s15 hq15 f15 s16 hq16 f16 s17 hq17 f17 s18 hq18 f18 s19 hq19
    clear G10 G11 G12 G13 G14 G15 G16 G17 G18 q11 q12 q13 q14 q15 q16 q17 q18
    refine ⟨q10, q19, _, _, rfl, rfl, h10, h19, sl_le (by omega), fun q20 hq20 => ?_⟩
    obtain ⟨s20, b20, h20, n20⟩ := mkSL (us := us10 ++ us19) (N := 10) hq20 (b10.app b19) (by rw [List.length_append]; omega)
    generalize upd _ q20 _ = G20 at s20 b20 h20 ⊢
    generalize us10 ++ us19 = us20 at b20 h20 n20 ⊢
    replace f1 := (f1.same s20)
    replace S := S.trans s20
    clear s20 hq20 h10 b10 n10 h19 b19 n19
    clear G19 us10 us19 q19
    refine gN1 ?_
    refine ⟨_, rfl, ?_⟩
    refine evL (ρ := .tup [.int 2, .int 3, .bl false, .bl true]) (ds := [(.t [.s "value", (.t [.s "fault", .s "kind", (.t [.s "a", .i 1, .i 1])])]), (.t [.s "value"]), (.t [.s "value", (.t [.s "truth", .b true]), .i 0]), (.t [.s "value", .i 5])]) (N := 4) ⟨_, rfl, f1⟩ (by decide +kernel) (by decide +kernel) rfl (by decide) fun q21 us21 G21 h21 n21 b21 s21 => ?_
    replace h20 := (s21 _ _ h20)
    replace b20 := (b20.same s21)
    replace f1 := (f1.same s21)
    replace S := S.trans s21
    clear s21
    clear G20
    refine ⟨q20, q21, _, _, rfl, rfl, h20, h21, sl_le (by omega), fun q22 hq22 => ?_⟩
    obtain ⟨s22, b22, h22, n22⟩ := mkSL (us := us20 ++ us21) (N := 14) hq22 (b20.app b21) (by rw [List.length_append]; omega)
    generalize upd _ q22 _ = G22 at s22 b22 h22 ⊢
    generalize us20 ++ us21 = us22 at b22 h22 n22 ⊢
    replace f1 := (f1.same s22)
    replace S := S.trans s22
    clear s22 hq22 h20 b20 n20 h21 b21 n21
    clear G21 us20 us21 q21
    refine gN1 ?_
    refine ⟨_, rfl, ?_⟩
    refine evL (ρ := .tup [.int 2, .int 3, .bl false, .bl true]) (ds := [(.t [.s "cell", .s "Main", .v]), (.t [.s "cell", .s "abcdefg", .v]), (.t [.s "cell", .s "", .v]), (.t [.s "cell", .i 5, .v])]) (N := 4) ⟨_, rfl, f1⟩ (by decide +kernel) (by decide +kernel) rfl (by decide) fun q23 us23 G23 h23 n23 b23 s23 => ?_
    replace h22 := (s23 _ _ h22)
    replace b22 := (b22.same s23)
    replace f1 := (f1.same s23)
    replace S := S.trans s23
    clear s23
    clear G22
    refine ⟨q22, q23, _, _, rfl, rfl, h22, h23, sl_le (by omega), fun q24 hq24 => ?_⟩
    obtain ⟨s24, b24, h24, n24⟩ := mkSL (us := us22 ++ us23) (N := 18) hq24 (b22.app b23) (by rw [List.length_append]; omega)
    generalize upd _ q24 _ = G24 at s24 b24 h24 ⊢
    generalize us22 ++ us23 = us24 at b24 h24 n24 ⊢
    replace f1 := (f1.same s24)
    replace S := S.trans s24
    clear s24 hq24 h22 b22 n22 h23 b23 n23
    clear G23 us22 us23 q23
    refine gN1 ?_
    refine ⟨_, rfl, ?_⟩
    refine evL (ρ := .tup [.int 2, .int 3, .bl false, .bl true]) (ds := [(.t [.s "cell", .n, (.t [.i 0, .i 1, .b false, .b false])]), (.t [.s "cell", .n, (.t [.i 17, .i 1, .b false, .b false])]), (.t [.s "cell", .n])]) (N := 3) ⟨_, rfl, f1⟩ (by decide +kernel) (by decide +kernel) rfl (by decide) fun q25 us25 G25 h25 n25 b25 s25 => ?_
    replace h24 := (s25 _ _ h24)
    replace b24 := (b24.same s25)
    replace f1 := (f1.same s25)
    replace S := S.trans s25
    clear s25
    clear G24
    refine ⟨q24, q25, _, _, rfl, rfl, h24, h25, sl_le (by omega), fun q26 hq26 => ?_⟩
    obtain ⟨s26, b26, h26, n26⟩ := mkSL (us := us24 ++ us25) (N := 21) hq26 (b24.app b25) (by rw [List.length_append]; omega)
    generalize upd _ q26 _ = G26 at s26 b26 h26 ⊢
    generalize us24 ++ us25 = us26 at b26 h26 n26 ⊢
    replace f1 := (f1.same s26)
    replace S := S.trans s26
    clear s26 hq26 h24 b24 n24 h25 b25 n25
    clear G25 us24 us25 q25
    refine gN1 ?_
    refine ⟨_, rfl, ?_⟩
    refine evL (ρ := .tup [.int 2, .int 3, .bl false, .bl true]) (ds := [(.t [.s "cell", .n, (.t [.i 1, .i 9, .b false, .b false])]), (.t [.s "cell", .n, (.t [.i 1, .i 0, .b false, .b false])]), (.t [.s "cell", .v])]) (N := 3) ⟨_, rfl, f1⟩ (by decide +kernel) (by decide +kernel) rfl (by decide) fun q27 us27 G27 h27 n27 b27 s27 => ?_
    replace h26 := (s27 _ _ h26)
    replace b26 := (b26.same s27)
    replace f1 := (f1.same s27)
    replace S := S.trans s27
    clear s27
    clear G26
    refine ⟨q26, q27, _, _, rfl, rfl, h26, h27, sl_le (by omega), fun q28 hq28 => ?_⟩
    obtain ⟨s28, b28, h28, n28⟩ := mkSL (us := us26 ++ us27) (N := 24) hq28 (b26.app b27) (by rw [List.length_append]; omega)
    generalize upd _ q28 _ = G28 at s28 b28 h28 ⊢
    generalize us26 ++ us27 = us28 at b28 h28 n28 ⊢
    replace f1 := (f1.same s28)
    replace S := S.trans s28
    clear s28 hq28 h26 b26 n26 h27 b27 n27
    clear G27 us26 us27 q27
    refine gN1 ?_
    refine ⟨_, rfl, ?_⟩
    refine evL (ρ := .tup [.int 2, .int 3, .bl false, .bl true]) (ds := [(.t [.s "cell", .n, (.t [.b true, .i 1, .b false, .b false])]), (.t [.s "cell", .n, (.t [.i 1, .i 1, .i 0, .b false])]), (.t [.s "cell", .n, .v, .i 1])]) (N := 3) ⟨_, rfl, f1⟩ (by decide +kernel) (by decide +kernel) rfl (by decide) fun q29 us29 G29 h29 n29 b29 s29 => ?_
    replace h28 := (s29 _ _ h28)
    replace b28 := (b28.same s29)
    replace f1 := (f1.same s29)
    replace S := S.trans s29
    clear s29
    clear G28
    refine ⟨q28, q29, _, _, rfl, rfl, h28, h29, sl_le (by omega), fun q30 hq30 => ?_⟩
    obtain ⟨s30, b30, h30, n30⟩ := mkSL (us := us28 ++ us29) (N := 27) hq30 (b28.app b29) (by rw [List.length_append]; omega)
    generalize upd _ q30 _ = G30 at s30 b30 h30 ⊢
    generalize us28 ++ us29 = us30 at b30 h30 n30 ⊢
    replace f1 := (f1.same s30)
    replace S := S.trans s30
    clear s30 hq30 h28 b28 n28 h29 b29 n29
    clear G29 us28 us29 q29
    refine gN1 ?_
    refine ⟨_, rfl, ?_⟩
    refine evL (ρ := .tup [.int 2, .int 3, .bl false, .bl true]) (ds := [(.t [.s "cell", .n, (.t [.i 1, .i 1, .b false])]), (.t [.s "cell", .n, (.l [.i 1, .i 1, .b false, .b false])]), (.t [.s "cell", .n, .n])]) (N := 3) ⟨_, rfl, f1⟩ (by decide +kernel) (by decide +kernel) rfl (by decide) fun q31 us31 G31 h31 n31 b31 s31 => ?_
    replace h30 := (s31 _ _ h30)
    replace b30 := (b30.same s31)
    replace f1 := (f1.same s31)
    replace S := S.trans s31
    clear s31
    clear G30
    refine ⟨q30, q31, _, _, rfl, rfl, h30, h31, sl_le (by omega), fun q32 hq32 => ?_⟩
    obtain ⟨s32, b32, h32, n32⟩ := mkSL (us := us30 ++ us31) (N := 30) hq32 (b30.app b31) (by rw [List.length_append]; omega)
    generalize upd _ q32 _ = G32 at s32 b32 h32 ⊢
    generalize us30 ++ us31 = us32 at b32 h32 n32 ⊢
    replace f1 := (f1.same s32)
    replace S := S.trans s32
    clear s32 hq32 h30 b30 n30 h31 b31 n31
    clear G31 us30 us31 q31
    refine gN1 ?_
    refine ⟨_, rfl, ?_⟩
    refine evL (ρ := .tup [.int 2, .int 3, .bl false, .bl true]) (ds := [(.t [.s "range", .n, .v, (.t [.i 1, .i 3, .b false, .b false])]), (.t [.s "range", .n, .v, (.t [.i 2, .i 2, .b false, .b false])])]) (N := 2) ⟨_, rfl, f1⟩ (by decide +kernel) (by decide +kernel) rfl (by decide) fun q33 us33 G33 h33 n33 b33 s33 => ?_
    replace h32 := (s33 _ _ h32)
    replace b32 := (b32.same s33)
    replace f1 := (f1.same s33)
    replace S := S.trans s33
    clear s33
    clear G32
    refine ⟨q32, q33, _, _, rfl, rfl, h32, h33, sl_le (by omega), fun q34 hq34 => ?_⟩
    obtain ⟨s34, b34, h34, n34⟩ := mkSL (us := us32 ++ us33) (N := 32) hq34 (b32.app b33) (by rw [List.length_append]; omega)
    generalize upd _ q34 _ = G34 at s34 b34 h34 ⊢
    generalize us32 ++ us33 = us34 at b34 h34 n34 ⊢
    replace f1 := (f1.same s34)
    replace S := S.trans s34
    clear s34 hq34 h32 b32 n32 h33 b33 n33
    clear G33 us32 us33 q33
    refine gN1 ?_
    refine ⟨_, rfl, ?_⟩
    refine evL (ρ := .tup [.int 2, .int 3, .bl false, .bl true]) (ds := [(.t [.s "range", .n, .v]), (.t [.s "range", .n, .v, .v, .v]), (.t [.s "range", .v, .v])]) (N := 3) ⟨_, rfl, f1⟩ (by decide +kernel) (by decide +kernel) rfl (by decide) fun q35 us35 G35 h35 n35 b35 s35 => ?_
    replace h34 := (s35 _ _ h34)
    replace b34 := (b34.same s35)
    replace f1 := (f1.same s35)
    replace S := S.trans s35
    clear s35
    clear G34
    refine ⟨q34, q35, _, _, rfl, rfl, h34, h35, sl_le (by omega), fun q36 hq36 => ?_⟩
    obtain ⟨s36, b36, h36, n36⟩ := mkSL (us := us34 ++ us35) (N := 35) hq36 (b34.app b35) (by rw [List.length_append]; omega)
    generalize upd _ q36 _ = G36 at s36 b36 h36 ⊢
    generalize us34 ++ us35 = us36 at b36 h36 n36 ⊢
    replace f1 := (f1.same s36)
    replace S := S.trans s36
    clear s36 hq36 h34 b34 n34 h35 b35 n35
    clear G35 us34 us35 q35
    refine gN1 ?_
    refine ⟨_, rfl, ?_⟩
    refine evL (ρ := .tup [.int 2, .int 3, .bl false, .bl true]) (ds := [(.t [.s "columns", .n, (.t [.i 2, .b false]), (.t [.i 1, .b false])]), (.t [.s "columns", .n, (.t [.i 0, .b false]), (.t [.i 1, .b false])])]) (N := 2) ⟨_, rfl, f1⟩ (by decide +kernel) (by decide +kernel) rfl (by decide) fun q37 us37 G37 h37 n37 b37 s37 => ?_
    replace h36 := (s37 _ _ h36)
    replace b36 := (b36.same s37)
    replace f1 := (f1.same s37)
    replace S := S.trans s37
    clear s37
    clear G36
    refine ⟨q36, q37, _, _, rfl, rfl, h36, h37, sl_le (by omega), fun q38 hq38 => ?_⟩
    obtain ⟨s38, b38, h38, n38⟩ := mkSL (us := us36 ++ us37) (N := 37) hq38 (b36.app b37) (by rw [List.length_append]; omega)
    generalize upd _ q38 _ = G38 at s38 b38 h38 ⊢
    generalize us36 ++ us37 = us38 at b38 h38 n38 ⊢
    replace f1 := (f1.same s38)
    replace S := S.trans s38
    clear s38 hq38 h36 b36 n36 h37 b37 n37
    clear G37 us36 us37 q37
    refine gN1 ?_
    refine ⟨_, rfl, ?_⟩
    refine evL (ρ := .tup [.int 2, .int 3, .bl false, .bl true]) (ds := [(.t [.s "columns", .n, (.t [.i 2, .b false]), (.t [.i 9, .b true])]), (.t [.s "columns", .n, .i 2, .i 3]), (.t [.s "columns", .n, (.t [.i 2, .i 0]), (.t [.i 3, .i 1])])]) (N := 3) ⟨_, rfl, f1⟩ (by decide +kernel) (by decide +kernel) rfl (by decide) fun q39 us39 G39 h39 n39 b39 s39 => ?_
    replace h38 := (s39 _ _ h38)
    replace b38 := (b38.same s39)
    replace f1 := (f1.same s39)
    replace S := S.trans s39
    clear s39
    clear G38
    refine ⟨q38, q39, _, _, rfl, rfl, h38, h39, sl_le (by omega), fun q40 hq40 => ?_⟩
    obtain ⟨s40, b40, h40, n40⟩ := mkSL (us := us38 ++ us39) (N := 40) hq40 (b38.app b39) (by rw [List.length_append]; omega)
    generalize upd _ q40 _ = G40 at s40 b40 h40 ⊢
    generalize us38 ++ us39 = us40 at b40 h40 n40 ⊢
    replace f1 := (f1.same s40)
    replace S := S.trans s40
    clear s40 hq40 h38 b38 n38 h39 b39 n39
    clear G39 us38 us39 q39
    refine gN1 ?_
    refine ⟨_, rfl, ?_⟩
    refine evL (ρ := .tup [.int 2, .int 3, .bl false, .bl true]) (ds := [(.t [.s "value", (.l [.s "number", .i 1, .i 1])]), (.t [.s "value", (.l [.s "truth", .b true])]), (.t [.s "columns", .n, (.l [.i 2, .b false]), (.t [.i 3, .b true])])]) (N := 3) ⟨_, rfl, f1⟩ (by decide +kernel) (by decide +kernel) rfl (by decide) fun q41 us41 G41 h41 n41 b41 s41 => ?_
    replace h40 := (s41 _ _ h40)
    replace b40 := (b40.same s41)
    replace f1 := (f1.same s41)
    replace S := S.trans s41
    clear s41
    clear G40
    refine ⟨q40, q41, _, _, rfl, rfl, h40, h41, sl_le (by omega), fun q42 hq42 => ?_⟩
    obtain ⟨s42, b42, h42, n42⟩ := mkSL (us := us40 ++ us41) (N := 43) hq42 (b40.app b41) (by rw [List.length_append]; omega)
    generalize upd _ q42 _ = G42 at s42 b42 h42 ⊢
    generalize us40 ++ us41 = us42 at b42 h42 n42 ⊢
    replace f1 := (f1.same s42)
    replace S := S.trans s42
    clear s42 hq42 h40 b40 n40 h41 b41 n41
    clear G41 us40 us41 q41
    refine gN1 ?_
    refine ⟨_, rfl, ?_⟩
    refine evL (ρ := .tup [.int 2, .int 3, .bl false, .bl true]) (ds := [(.t [.s "columns", .n, (.t [.b true, .b false]), (.t [.i 3, .b true])]), (.t [.s "cell", .n, (.t [.i 1, .b true, .b false, .b false])])]) (N := 2) ⟨_, rfl, f1⟩ (by decide +kernel) (by decide +kernel) rfl (by decide) fun q43 us43 G43 h43 n43 b43 s43 => ?_
    replace h42 := (s43 _ _ h42)
    replace b42 := (b42.same s43)
    replace f1 := (f1.same s43)
    replace S := S.trans s43
    clear s43
    clear G42
    refine ⟨q42, q43, _, _, rfl, rfl, h42, h43, sl_le (by omega), fun q44 hq44 => ?_⟩
    obtain ⟨s44, b44, h44, n44⟩ := mkSL (us := us42 ++ us43) (N := 45) hq44 (b42.app b43) (by rw [List.length_append]; omega)
    generalize upd _ q44 _ = G44 at s44 b44 h44 ⊢
    generalize us42 ++ us43 = us44 at b44 h44 n44 ⊢
    replace f1 := (f1.same s44)
    replace S := S.trans s44
    clear s44 hq44 h42 b42 n42 h43 b43 n43
    clear G43 us42 us43 q43
    refine gN1 ?_
    refine ⟨_, rfl, ?_⟩
    refine evL (ρ := .tup [.int 2, .int 3, .bl false, .bl true]) (ds := [(.t [.s "range", .n, (.l [.i 1, .i 1, .b false, .b false]), (.t [.i 2, .i 2, .b false, .b false])]), (.t [.s "cell", (.l [.s "a"]), .v])]) (N := 2) ⟨_, rfl, f1⟩ (by decide +kernel) (by decide +kernel) rfl (by decide) fun q45 us45 G45 h45 n45 b45 s45 => ?_
    replace h44 := (s45 _ _ h44)
    replace b44 := (b44.same s45)
    replace f1 := (f1.same s45)
    replace S := S.trans s45
    clear s45
    clear G44
    refine ⟨q44, q45, _, _, rfl, rfl, h44, h45, sl_le (by omega), fun q46 hq46 => ?_⟩
    obtain ⟨s46, b46, h46, n46⟩ := mkSL (us := us44 ++ us45) (N := 47) hq46 (b44.app b45) (by rw [List.length_append]; omega)
    generalize upd _ q46 _ = G46 at s46 b46 h46 ⊢
    generalize us44 ++ us45 = us46 at b46 h46 n46 ⊢
    replace f1 := (f1.same s46)
    replace S := S.trans s46
    clear s46 hq46 h44 b44 n44 h45 b45 n45
    clear G45 us44 us45 q45
    refine gN1 ?_
    refine ⟨_, rfl, ?_⟩
    refine evL (ρ := .tup [.int 2, .int 3, .bl false, .bl true]) (ds := [(.t [.s "gone", .i 1]), (.t [.s "name", .s "yes"]), (.t [.s "name", .s "Abc"]), (.t [.s "name", .s ""]), (.t [.s "name", .s "abcdefg"]), (.t [.s "name", .i 5])]) (N := 6) ⟨_, rfl, f1⟩ (by decide +kernel) (by decide +kernel) rfl (by decide) fun q47 us47 G47 h47 n47 b47 s47 => ?_
    replace h46 := (s47 _ _ h46)
    replace b46 := (b46.same s47)
    replace f1 := (f1.same s47)
    replace S := S.trans s47
    clear s47
    clear G46
    refine ⟨q46, q47, _, _, rfl, rfl, h46, h47, sl_le (by omega), fun q48 hq48 => ?_⟩
    obtain ⟨s48, b48, h48, n48⟩ := mkSL (us := us46 ++ us47) (N := 53) hq48 (b46.app b47) (by rw [List.length_append]; omega)
    generalize upd _ q48 _ = G48 at s48 b48 h48 ⊢
    generalize us46 ++ us47 = us48 at b48 h48 n48 ⊢
    replace f1 := (f1.same s48)
    replace S := S.trans s48
    clear s48 hq48 h46 b46 n46 h47 b47 n47
    clear G47 us46 us47 q47
    refine gN1 ?_
    refine ⟨_, rfl, sl1, fun q49 hq49 => ?_⟩
    obtain ⟨s49, f49⟩ := mkST (us := [vS "name"]) hq49 fun s => (.cons (sL _) .nil)
    generalize upd _ q49 _ = G49 at s49 f49 ⊢
    refine ⟨sl2, fun q50 hq50 => ?_⟩
    obtain ⟨s50, f50⟩ := mkST (us := [vS "param", .int 3]) hq50 fun s => (.cons (sL _) (.cons (.int _) .nil))
    generalize upd _ q50 _ = G50 at s50 f50 ⊢
    refine ⟨_, rfl, sl2, fun q51 hq51 => ?_⟩
    obtain ⟨s51, f51⟩ := mkST (us := [vS "param", .int (-1)]) hq51 fun s => (.cons (sL _) (.cons (.int _) .nil))
    generalize upd _ q51 _ = G51 at s51 f51 ⊢
    refine ⟨sl2, fun q52 hq52 => ?_⟩
    obtain ⟨s52, f52⟩ := mkST (us := [vS "param", .bl true]) hq52 fun s => (.cons (sL _) (.cons (.bl _) .nil))
    generalize upd _ q52 _ = G52 at s52 f52 ⊢
    refine ⟨sl1, fun q53 hq53 => ?_⟩
    obtain ⟨s53, f53⟩ := mkST (us := [vS "param"]) hq53 fun s => (.cons (sL _) .nil)
    generalize upd _ q53 _ = G53 at s53 f53 ⊢
    refine ⟨sl2, fun q54 hq54 => ?_⟩
    obtain ⟨s54, f54⟩ := mkST (us := [vS "param", vS "0"]) hq54 fun s => (.cons (sL _) (.cons (sL _) .nil))
    generalize upd _ q54 _ = G54 at s54 f54 ⊢
    refine ⟨sl6, fun q55 hq55 => ?_⟩
    obtain ⟨s55, b55, h55, n55⟩ := mkSL (us := [.ref q49, .ref q50, .ref q51, .ref q52, .ref q53, .ref q54]) (N := 6) hq55 (BadF.consD (((((f49.same s50).same s51).same s52).same s53).same s54) (BadF.consD ((((f50.same s51).same s52).same s53).same s54) (BadF.consD (((f51.same s52).same s53).same s54) (BadF.consD ((f52.same s53).same s54) (BadF.consD (f53.same s54) (BadF.consD f54 BadF.nil)))))) rfl
    generalize upd _ q55 _ = G55 at s55 b55 h55 ⊢
    generalize ([.ref q49, .ref q50, .ref q51, .ref q52, .ref q53, .ref q54] : List V) = us55 at b55 h55 n55 ⊢
    replace h48 := (s55 _ _ (s54 _ _ (s53 _ _ (s52 _ _ (s51 _ _ (s50 _ _ (s49 _ _ h48)))))))
    replace b48 := (((((((b48.same s49).same s50).same s51).same s52).same s53).same s54).same s55)
    replace f1 := (((((((f1.same s49).same s50).same s51).same s52).same s53).same s54).same s55)
    replace S := S.trans ((((((s49.trans s50).trans s51).trans s52).trans s53).trans s54).trans s55)
    clear s49 hq49 f49 s50 hq50 f50 s51 hq51 f51 s52 hq52 f52 s53 hq53 f53 s54 hq54 f54 s55 hq55
    clear G48 G49 G50 G51 G52 G53 G54 q49 q50 q51 q52 q53 q54
    refine ⟨q48, q55, _, _, rfl, rfl, h48, h55, sl_le (by omega), fun q56 hq56 => ?_⟩
    obtain ⟨s56, b56, h56, n56⟩ := mkSL (us := us48 ++ us55) (N := 59) hq56 (b48.app b55) (by rw [List.length_append]; omega)
    generalize upd _ q56 _ = G56 at s56 b56 h56 ⊢
    generalize us48 ++ us55 = us56 at b56 h56 n56 ⊢
    replace f1 := (f1.same s56)
    replace S := S.trans s56
    clear s56 hq56 h48 b48 n48 h55 b55 n55
    clear G55 us48 us55 q55
    exact k q56 _ _ h56 (by omega) (by omega) b56 S
theorem sc_law_bad_frames : FnScope ["_law_a", "_law_some"] ["_law_a"] (defScope s__law_bad_frames) := ⟨rfl, rfl, rfl, by decide +kernel, rfl, by decide +kernel, by decide +kernel⟩
theorem ok__law_bad_frames (T : Txt w K mg t) : FnOk P w K mg base CX0 1 t.f__law_bad_frames t.d__law_bad_frames ["_law_a"] spBFr := by
  have D := T.c__law_bad_frames
  refine D.fn.ok sc_law_bad_frames (fun vs H Q E h => ?_) (fun cdv A outer s H vs Q E hr h => ?_)
  · obtain ⟨v, rfl, _⟩ := h
    rfl
  · obtain ⟨v, rfl, ha, k⟩ := h
    have hu := hr.units0
    have hu1 := hu_of hr
    refine ⟨_, ((pss_cons (ps_set (i := 1) sc_law_bad_frames.nd rfl (Or.inl rfl) (pe_lst (pa_consT (pe_tup (pa_consK pe_str (pa_consK pe_str (pa_consT (pe_tup pa_nil) pa_nil)))) (pa_consT (pe_tup (pa_consK pe_str (pa_consK pe_str (pa_consL (pe_lst (pa_consN (pv 0) pa_nil)) pa_nil)))) (pa_consT (pe_tup (pa_consK pe_str (pa_consK pe_str (pa_consT (pe_tup (pa_consN (pv 0) (pa_consN (pv 0) (pa_consN (pv 0) (pa_consN (pv 0) pa_nil))))) pa_nil)))) (pa_consT (pe_tup (pa_consK pe_str (pa_consK pe_str pa_nil))) (pa_consT (pe_tup (pa_consK pe_str (pa_consK pe_str (pa_consT (pe_tup (pa_consN (pv 0) pa_nil)) pa_nil)))) pa_nil)))))))
      (pss_cons (ps_set (i := 1) sc_law_bad_frames.nd rfl (Or.inl rfl) (pe_op op_cat (pv 1) (pe_lst (pa_consT (pe_tup (pa_consK pe_str (pa_consK pe_str (pa_consN (pv 0) (pa_consN (pv 0) pa_nil))))) (pa_consT (pe_tup (pa_consK pe_str (pa_consK pe_str (pa_consN (pv 0) pa_nil)))) (pa_consT (pe_tup (pa_consK pe_str (pa_consK pe_str (pa_consN (pv 0) (pa_consN (pv 0) (pa_consN (pv 0) pa_nil)))))) (pa_consT (pe_tup (pa_consK pe_str (pa_consN (pv 0) (pa_consN (pv 0) (pa_consN (pv 0) pa_nil))))) (pa_consT (pe_tup (pa_consK pe_str pa_nil)) (pa_consT (pe_tup (pa_consK pe_str (pa_consN (pv 0) (pa_consN (pv 0) pa_nil)))) pa_nil)))))))))
      (pss_cons (ps_set (i := 1) sc_law_bad_frames.nd rfl (Or.inl rfl) (pe_op op_cat (pv 1) (pe_lst (pa_consT (pe_tup (pa_consK pe_str (pa_consN (pv 0) (pa_consN (pv 0) pa_nil)))) (pa_consT (pe_tup (pa_consK pe_str (pa_consN (pv 0) (pa_consN (pv 0) (pa_consN (pv 0) (pa_consN (pv 0) pa_nil)))))) (pa_consT (pe_tup (pa_consK pe_str pa_nil)) (pa_consT (pe_tup (pa_consK pe_str (pa_consN (pv 0) (pa_consN (pv 0) pa_nil)))) (pa_consT (pe_tup (pa_consK pe_str (pa_consN (pv 0) (pa_consN (pv 0) pa_nil)))) (pa_consT (pe_tup (pa_consK pe_str (pa_consN (pv 0) pa_nil))) pa_nil)))))))))
      (pss_cons (ps_set (i := 1) sc_law_bad_frames.nd rfl (Or.inl rfl) (pe_op op_cat (pv 1) (pe_lst (pa_consT (pe_tup (pa_consK pe_str (pa_consN (pv 0) (pa_consK pe_str (pa_consN (pv 0) (pa_consN (pv 0) pa_nil)))))) (pa_consT (pe_tup (pa_consK pe_str (pa_consN (pv 0) (pa_consN (pv 0) (pa_consN (pv 0) pa_nil))))) (pa_consT (pe_tup (pa_consK pe_str (pa_consK pe_str (pa_consN (pv 0) (pa_consN (pv 0) (pa_consN (pv 0) pa_nil)))))) (pa_consT (pe_tup (pa_consK pe_str (pa_consK pe_int (pa_consK pe_int (pa_consN (pv 0) (pa_consN (pv 0) pa_nil)))))) pa_nil)))))))
      (pss_cons (ps_set (i := 1) sc_law_bad_frames.nd rfl (Or.inl rfl) (pe_op op_cat (pv 1) (pe_lst (pa_consT (pe_tup (pa_consK pe_str (pa_consK pe_int (pa_consK pe_int (pa_consN (pv 0) (pa_consN (pv 0) pa_nil)))))) (pa_consT (pe_tup (pa_consK pe_str (pa_consK pe_int (pa_consK pe_int (pa_consN (pv 0) (pa_consN (pv 0) pa_nil)))))) (pa_consT (pe_tup (pa_consK pe_str (pa_consK pe_bl (pa_consK pe_int (pa_consN (pv 0) (pa_consN (pv 0) pa_nil)))))) (pa_consT (pe_tup (pa_consK pe_str (pa_consK pe_int (pa_consK pe_int (pa_consN (pv 0) pa_nil))))) pa_nil)))))))
      (pss_cons (ps_set (i := 1) sc_law_bad_frames.nd rfl (Or.inl rfl) (pe_op op_cat (pv 1) (pe_lst (pa_consT (pe_tup (pa_consK pe_str (pa_consK pe_int pa_nil))) (pa_consT (pe_tup (pa_consK pe_str (pa_consK pe_str pa_nil))) (pa_consT (pe_tup (pa_consK pe_str (pa_consL (pe_lst (pa_consN (pv 0) pa_nil)) pa_nil))) (pa_consT (pe_tup (pa_consK pe_str (pa_consN (pv 0) pa_nil))) (pa_consT (pe_tup (pa_consK pe_str (pa_consK pe_str pa_nil))) (pa_consT (pe_tup (pa_consK pe_str (pa_consT (pe_tup pa_nil) pa_nil))) pa_nil)))))))))
      (pss_cons (ps_set (i := 1) sc_law_bad_frames.nd rfl (Or.inl rfl) (pe_op op_cat (pv 1) (pe_lst (pa_consT (pe_tup (pa_consK pe_str (pa_consT (pe_tup (pa_consK pe_int pa_nil)) pa_nil))) (pa_consT (pe_tup (pa_consK pe_str (pa_consK pe_non pa_nil))) (pa_consT (pe_tup (pa_consK pe_str (pa_consT (pe_tup (pa_consK pe_str pa_nil)) pa_nil))) (pa_consT (pe_tup (pa_consK pe_str (pa_consK pe_str (pa_consN (pv 0) (pa_consK pe_str pa_nil))))) pa_nil)))))))
      (pss_cons (ps_set (i := 1) sc_law_bad_frames.nd rfl (Or.inl rfl) (pe_op op_cat (pv 1) (pe_lst (pa_consT (pe_tup (pa_consK pe_str (pa_consK pe_int (pa_consK pe_bl (pa_consN (pv 0) (pa_consN (pv 0) pa_nil)))))) (pa_consT (pe_tup (pa_consK pe_str (pa_consL (pe_lst (pa_consK pe_str pa_nil)) (pa_consT (pe_tup pa_nil) pa_nil)))) (pa_consT (pe_tup (pa_consK pe_str (pa_consL (pe_lst (pa_consK pe_str pa_nil)) (pa_consN (pv 0) (pa_consN (pv 0) pa_nil))))) (pa_consT (pe_tup (pa_consK pe_str (pa_consN (pv 0) (pa_consL (pe_lst (pa_consK pe_str pa_nil)) (pa_consN (pv 0) (pa_consN (pv 0) pa_nil)))))) pa_nil)))))))
      (pss_one (ps_ret (pe_op op_cat (pv 1) (pe_lst (pa_consT (pe_tup (pa_consK pe_str (pa_consN (pv 0) pa_nil))) (pa_consT (pe_tup (pa_consK pe_str (pa_consN (pv 0) pa_nil))) (pa_consT (pe_tup (pa_consK pe_str pa_nil)) pa_nil)))))))))))))))), ?_⟩
    refine sqA ?_
    refine evL (σ := [some v, none]) (ρ := aTh) (ds := [(.t [.s "own", .s "sum", (.t [])]), (.t [.s "own", .s "f", (.l [.v])]), (.t [.s "own", .s "f", (.t [.v, .v, .v, .v])]), (.t [.s "own", .s "f"]), (.t [.s "own", .s "F", (.t [.v])])]) (N := 5) ⟨_, rfl, ha⟩ (by decide +kernel) (by decide +kernel) rfl (by decide) fun q1 us1 G1 h1 n1 b1 s1 => ?_
    replace ha := (ha.same s1)
    have S := s1
    clear s1
    refine gN1 ?_
    refine ⟨_, rfl, ?_⟩
    refine evL (ρ := aTh) (ds := [(.t [.s "op", .s "^", .v, .v]), (.t [.s "op", .s "+", .v]), (.t [.s "op", .s "+", .v, .v, .v]), (.t [.s "op", .v, .v, .v]), (.t [.s "neg"]), (.t [.s "neg", .v, .v])]) (N := 6) ⟨_, rfl, ha⟩ (by decide +kernel) (by decide +kernel) rfl (by decide) fun q2 us2 G2 h2 n2 b2 s2 => ?_
    replace h1 := (s2 _ _ h1)
    replace b1 := (b1.same s2)
    replace ha := (ha.same s2)
    replace S := S.trans s2
    clear s2
    clear G1
    refine ⟨q1, q2, _, _, rfl, rfl, h1, h2, sl_le (by omega), fun q3 hq3 => ?_⟩
    obtain ⟨s3, b3, h3, n3⟩ := mkSL (us := us1 ++ us2) (N := 11) hq3 (b1.app b2) (by rw [List.length_append]; omega)
    generalize upd _ q3 _ = G3 at s3 b3 h3 ⊢
    generalize us1 ++ us2 = us3 at b3 h3 n3 ⊢
    replace ha := (ha.same s3)
    replace S := S.trans s3
    clear s3 hq3 h1 b1 n1 h2 b2 n2
    clear G2 us1 us2 q2
    refine gN1 ?_
    refine ⟨_, rfl, ?_⟩
    refine evL (ρ := aTh) (ds := [(.t [.s "if", .v, .v]), (.t [.s "if", .v, .v, .v, .v]), (.t [.s "sum"]), (.t [.s "count", .v, .v]), (.t [.s "find", .v, .v]), (.t [.s "stack", .v])]) (N := 6) ⟨_, rfl, ha⟩ (by decide +kernel) (by decide +kernel) rfl (by decide) fun q4 us4 G4 h4 n4 b4 s4 => ?_
    replace h3 := (s4 _ _ h3)
    replace b3 := (b3.same s4)
    replace ha := (ha.same s4)
    replace S := S.trans s4
    clear s4
    clear G3
    refine ⟨q3, q4, _, _, rfl, rfl, h3, h4, sl_le (by omega), fun q5 hq5 => ?_⟩
    obtain ⟨s5, b5, h5, n5⟩ := mkSL (us := us3 ++ us4) (N := 17) hq5 (b3.app b4) (by rw [List.length_append]; omega)
    generalize upd _ q5 _ = G5 at s5 b5 h5 ⊢
    generalize us3 ++ us4 = us5 at b5 h5 n5 ⊢
    replace ha := (ha.same s5)
    replace S := S.trans s5
    clear s5 hq5 h3 b3 n3 h4 b4 n4
    clear G4 us3 us4 q4
    refine gN1 ?_
    refine ⟨_, rfl, ?_⟩
    refine evL (ρ := aTh) (ds := [(.t [.s "sumif", .v, .s "+", .v, .v]), (.t [.s "sumif", .v, .v, .v]), (.t [.s "sumif", .s "=", .v, .v, .v]), (.t [.s "grid", .i 0, .i 1, .v, .v])]) (N := 4) ⟨_, rfl, ha⟩ (by decide +kernel) (by decide +kernel) rfl (by decide) fun q6 us6 G6 h6 n6 b6 s6 => ?_
    replace h5 := (s6 _ _ h5)
    replace b5 := (b5.same s6)
    replace ha := (ha.same s6)
    replace S := S.trans s6
    clear s6
    clear G5
    refine ⟨q5, q6, _, _, rfl, rfl, h5, h6, sl_le (by omega), fun q7 hq7 => ?_⟩
    obtain ⟨s7, b7, h7, n7⟩ := mkSL (us := us5 ++ us6) (N := 21) hq7 (b5.app b6) (by rw [List.length_append]; omega)
    generalize upd _ q7 _ = G7 at s7 b7 h7 ⊢
    generalize us5 ++ us6 = us7 at b7 h7 n7 ⊢
    replace ha := (ha.same s7)
    replace S := S.trans s7
    clear s7 hq7 h5 b5 n5 h6 b6 n6
    clear G6 us5 us6 q6
    refine gN1 ?_
    refine ⟨_, rfl, ?_⟩
    refine evL (ρ := aTh) (ds := [(.t [.s "grid", .i 17, .i 1, .v, .v]), (.t [.s "grid", .i 1, .i 9, .v, .v]), (.t [.s "grid", .b true, .i 1, .v, .v]), (.t [.s "grid", .i 1, .i 1, .v])]) (N := 4) ⟨_, rfl, ha⟩ (by decide +kernel) (by decide +kernel) rfl (by decide) fun q8 us8 G8 h8 n8 b8 s8 => ?_
    replace h7 := (s8 _ _ h7)
    replace b7 := (b7.same s8)
    replace ha := (ha.same s8)
    replace S := S.trans s8
    clear s8
    clear G7
    refine ⟨q7, q8, _, _, rfl, rfl, h7, h8, sl_le (by omega), fun q9 hq9 => ?_⟩
    obtain ⟨s9, b9, h9, n9⟩ := mkSL (us := us7 ++ us8) (N := 25) hq9 (b7.app b8) (by rw [List.length_append]; omega)
    generalize upd _ q9 _ = G9 at s9 b9 h9 ⊢
    generalize us7 ++ us8 = us9 at b9 h9 n9 ⊢
    replace ha := (ha.same s9)
    replace S := S.trans s9
    clear s9 hq9 h7 b7 n7 h8 b8 n8
    clear G8 us7 us8 q8
    refine gN1 ?_
    refine ⟨_, rfl, ?_⟩
    refine evL (ρ := aTh) (ds := [(.t [.s "turn", .i 5]), (.t [.s "outer", .s "a"]), (.t [.s "neg", (.l [.v])]), (.t [.s "none", .v]), (.t [.s "fault", .s "kind"]), (.t [.s "neg", (.t [])])]) (N := 6) ⟨_, rfl, ha⟩ (by decide +kernel) (by decide +kernel) rfl (by decide) fun q10 us10 G10 h10 n10 b10 s10 => ?_
    replace h9 := (s10 _ _ h9)
    replace b9 := (b9.same s10)
    replace ha := (ha.same s10)
    replace S := S.trans s10
    clear s10
    clear G9
    refine ⟨q9, q10, _, _, rfl, rfl, h9, h10, sl_le (by omega), fun q11 hq11 => ?_⟩
    obtain ⟨s11, b11, h11, n11⟩ := mkSL (us := us9 ++ us10) (N := 31) hq11 (b9.app b10) (by rw [List.length_append]; omega)
    generalize upd _ q11 _ = G11 at s11 b11 h11 ⊢
    generalize us9 ++ us10 = us11 at b11 h11 n11 ⊢
    replace ha := (ha.same s11)
    replace S := S.trans s11
    clear s11 hq11 h9 b9 n9 h10 b10 n10
    clear G10 us9 us10 q10
    refine gN1 ?_
    refine ⟨_, rfl, ?_⟩
    refine evL (ρ := aTh) (ds := [(.t [.s "neg", (.t [.i 5])]), (.t [.s "sum", .n]), (.t [.s "turn", (.t [.s "value"])]), (.t [.s "op", .s "+", .v, .s "1"])]) (N := 4) ⟨_, rfl, ha⟩ (by decide +kernel) (by decide +kernel) rfl (by decide) fun q12 us12 G12 h12 n12 b12 s12 => ?_
    replace h11 := (s12 _ _ h11)
    replace b11 := (b11.same s12)
    replace ha := (ha.same s12)
    replace S := S.trans s12
    clear s12
    clear G11
    refine ⟨q11, q12, _, _, rfl, rfl, h11, h12, sl_le (by omega), fun q13 hq13 => ?_⟩
    obtain ⟨s13, b13, h13, n13⟩ := mkSL (us := us11 ++ us12) (N := 35) hq13 (b11.app b12) (by rw [List.length_append]; omega)
    generalize upd _ q13 _ = G13 at s13 b13 h13 ⊢
    generalize us11 ++ us12 = us13 at b13 h13 n13 ⊢
    replace ha := (ha.same s13)
    replace S := S.trans s13
    clear s13 hq13 h11 b11 n11 h12 b12 n12
    clear G12 us11 us12 q12
    refine gN1 ?_
    refine ⟨_, rfl, ?_⟩
    refine evL (ρ := aTh) (ds := [(.t [.s "grid", .i 1, .b true, .v, .v]), (.t [.s "own", (.l [.s "f"]), (.t [])]), (.t [.s "op", (.l [.s "+"]), .v, .v]), (.t [.s "sumif", .v, (.l [.s "="]), .v, .v])]) (N := 4) ⟨_, rfl, ha⟩ (by decide +kernel) (by decide +kernel) rfl (by decide) fun q14 us14 G14 h14 n14 b14 s14 => ?_
    replace h13 := (s14 _ _ h13)
    replace b13 := (b13.same s14)
    replace ha := (ha.same s14)
    replace S := S.trans s14
    clear s14
    clear G13
    refine ⟨q13, q14, _, _, rfl, rfl, h13, h14, sl_le (by omega), fun q15 hq15 => ?_⟩
    obtain ⟨s15, b15, h15, n15⟩ := mkSL (us := us13 ++ us14) (N := 39) hq15 (b13.app b14) (by rw [List.length_append]; omega)
    generalize upd _ q15 _ = G15 at s15 b15 h15 ⊢
    generalize us13 ++ us14 = us15 at b15 h15 n15 ⊢
    replace ha := (ha.same s15)
    replace S := S.trans s15
    clear s15 hq15 h13 b13 n13 h14 b14 n14
    clear G14 us13 us14 q14
    refine gN1 ?_
    refine ⟨_, rfl, ?_⟩
    refine evL (ρ := aTh) (ds := [(.t [.s "", .v]), (.t [.s "Sum", .v]), (.t [.s "yes"])]) (N := 3) ⟨_, rfl, ha⟩ (by decide +kernel) (by decide +kernel) rfl (by decide) fun q16 us16 G16 h16 n16 b16 s16 => ?_
    replace h15 := (s16 _ _ h15)
    replace b15 := (b15.same s16)
    replace ha := (ha.same s16)
    replace S := S.trans s16
    clear s16
    clear G15
    refine ⟨q15, q16, _, _, rfl, rfl, h15, h16, sl_le (by omega), fun q17 hq17 => ?_⟩
    obtain ⟨s17, b17, h17, n17⟩ := mkSL (us := us15 ++ us16) (N := 42) hq17 (b15.app b16) (by rw [List.length_append]; omega)
    generalize upd _ q17 _ = G17 at s17 b17 h17 ⊢
    generalize us15 ++ us16 = us17 at b17 h17 n17 ⊢
    replace ha := (ha.same s17)
    replace S := S.trans s17
    clear s17 hq17 h15 b15 n15 h16 b16 n16
    clear G16 us15 us16 q16
    exact k q17 _ _ h17 (by omega) (by omega) b17 S
theorem sc_law_bad : FnScope ["_law_pen_here", "_law_way", "_law_some", "_law_bad_here", "_law_small"] ["_law_pen_here"] (defScope s__law_bad) := ⟨rfl, rfl, rfl, by decide +kernel, rfl, by decide +kernel, by decide +kernel⟩
theorem ok__law_bad (T : Txt w K mg t) : FnOk P w K mg base CX0 3 t.f__law_bad t.d__law_bad ["_law_pen_here"] (spBad K) := by
  have D := T.c__law_bad
  refine D.fn.ok sc_law_bad (fun vs H Q E h => ?_) (fun cdv A outer s H vs Q E hr h => ?_)
  · obtain ⟨p, c, S, rfl, _⟩ := h
    rfl
  · obtain ⟨p, c, S, rfl, hpen, hc, k⟩ := h
    have hu := hr.units0
    have hu1 := hu_of hr
    refine ⟨_, ((pss_cons (ps_set (i := 1) sc_law_bad.nd rfl (Or.inl rfl) (pe_cl T.c__law_take (ok__law_take T) (hr.mono (by decide)) (pa_consN (pv 0) (pa_consK pe_int pa_nil))))
      (pss_cons (ps_set (i := 2) sc_law_bad.nd rfl (Or.inl rfl) (pe_cl0 T.c__law_bad_leaves (ok__law_bad_leaves T) (hr.mono (by decide))))
      (pss_cons (ps_if (pt_cmpR op_eq (pv 1) pe_int (nomark _)) (pss_one (ps_set (i := 2) sc_law_bad.nd rfl (Or.inl rfl) (pe_cl T.c__law_bad_frames (ok__law_bad_frames T) (hr.mono (by decide)) (pa_consT (pe_tup (pa_consK pe_str (pa_consT (pe_tup (pa_consK pe_str (pa_consK pe_bl pa_nil))) pa_nil))) pa_nil)))) pss_nil)
      (pss_cons (ps_set (i := 3) sc_law_bad.nd rfl (Or.inl rfl) (pe_ix ix_list (pv 2) (pe_cl T.c__law_take (ok__law_take T) (hr.mono (by decide)) (pa_consN (pv 0) (pa_consC (pe_callB call_len_seq (by rfl) T.len PySem.boot_len (pa_consN (pv 2) pa_nil)) pa_nil))) (fun _ _ => rfl)))
      (pss_cons (ps_set (i := 4) sc_law_bad.nd rfl (Or.inl rfl) (pe_tup (pa_consK pe_str pa_nil)))
      (pss_one (ps_ret (pe_ix ix_list (pe_lst (pa_consN (pv 3) (pa_consT (pe_tup (pa_consK pe_str (pa_consK pe_str (pa_consN (pv 4) (pa_consN (pv 3) pa_nil))))) (pa_consT (pe_tup (pa_consK pe_str (pa_consK pe_str (pa_consT (pe_tup (pa_consN (pv 4) (pa_consN (pv 3) pa_nil))) pa_nil)))) (pa_consT (pe_tup (pa_consK pe_str (pa_consN (pv 3) (pa_consN (pv 4) (pa_consN (pv 4) pa_nil))))) pa_nil))))) (pe_cl T.c__law_take (ok__law_take T) (hr.mono (by decide)) (pa_consN (pv 0) (pa_consK pe_int pa_nil))) (fun _ _ => rfl)))))))))), ?_⟩
    refine ⟨_, rfl, p, _, _, _, rfl, (by show (0 : Int) < _; decide), sz4000 (by decide) (by decide), hpen, (by omega), fun r1 H1 a1 b1 pen1 kp1 => ?_⟩
    refine ⟨rfl, fun l us HA hl n1 m1 bd sA => ?_⟩
    have penA := pen1.same sA
    have kpA := kp1.trans (Same.keep sA)
    refine ⟨_, rfl, rfl, _, rfl, ite2 (fun _ => ?_) (fun _ => ?_)⟩
    · refine ⟨two_le, fun q0 hq0 => ?_⟩
      have s0 := Same.new (o := .tup [vS "truth", .bl true]) hq0
      have f0 := mkT (us := [vS "truth", .bl true]) (ts := [.str (zS "truth"), .bl true]) hq0 (.cons (sL _) (.cons (.bl _) .nil))
      have penA0 := penA.same s0
      have kpA0 := kpA.trans (Same.keep s0)
      generalize upd HA q0 (.tup [vS "truth", .bl true]) = HB at *
      refine ⟨two_le, fun q9 hq9 => ?_⟩
      have s9 := Same.new (o := .tup [vS "value", .ref q0]) hq9
      have f9 := mkT (us := [vS "value", .ref q0]) (ts := [.str (zS "value"), .tup [.str (zS "truth"), .bl true]]) hq9 (.cons (sL _) (.cons (f0.same s9) .nil))
      have penA9 := penA0.same s9
      have kpA9 := kpA0.trans (Same.keep s9)
      generalize upd HB q9 (.tup [vS "value", .ref q0]) = HC at *
      clear hl n1 m1 bd
      refine ⟨_, rfl, f9, fun l us HD hl n1 m1 bd sD => ?_⟩
      have penB := penA9.same sD
      have kpB := kpA9.trans (Same.keep sD)
      refine ⟨_, rfl, _, rfl, _, rfl, l, us, rfl, .inl (SqL.of hl), p, _, _, _, rfl, (by omega), sz4000 (by omega) (by omega), penB, (by omega), fun r2 H2 a2 b2 pen2 kp2 => ?_⟩
      obtain ⟨j, rfl⟩ : ∃ j : Nat, r2 = (j : Int) := ⟨r2.toNat, by omega⟩
      have hj : j < us.length := by omega
      have npl : l ≠ p := fun z => by
        obtain ⟨kvs, e⟩ := penB.ob
        rw [← z, hl] at e; cases e
      have hl2 := kp2 _ _ npl hl
      have bd2 := bd.pen penB pen2 kp2
      obtain ⟨tb, hb, nb⟩ := bd2 us[j] (List.getElem_mem hj)
      refine ⟨l, _, _, us[j], rfl, rfl, SqL.of hl2, atI_nat (List.getElem?_eq_getElem hj), ?_⟩
      generalize us[j] = x at hb
      refine ⟨one_le, fun g hg => ?_⟩
      have s3 := Same.new (o := .tup [vS "gone"]) hg
      have fg := mkT (us := [vS "gone"]) (ts := [.str (zS "gone")]) hg (.cons (sL _) .nil)
      have hb3 := hb.same s3
      have pen3 := pen2.same s3
      have kp3 := (kpB.trans kp2).trans (Same.keep s3)
      generalize upd H2 g (.tup [vS "gone"]) = H3 at *
      refine ⟨_, rfl, _, rfl, _, rfl, (by show 4 ≤ sizeLine; decide), fun q1 hq1 => ?_⟩
      have s4 := Same.new (o := .tup [vS "op", vS "-", .ref g, x]) hq1
      have f1 := mkT (us := [vS "op", vS "-", .ref g, x]) (ts := [.str (zS "op"), .str (zS "-"), gTh, tb]) hq1 (.cons (sL _) (.cons (sL _) (.cons (fg.same s4) (.cons (hb3.same s4) .nil))))
      have pen4 := pen3.same s4
      have kp4 := kp3.trans (Same.keep s4)
      have hb4 := hb3.same s4
      have fg4 := fg.same s4
      generalize upd H3 q1 (.tup [vS "op", vS "-", .ref g, x]) = H4 at *
      refine ⟨_, rfl, _, rfl, two_le, fun q2 hq2 => ?_⟩
      have s5 := Same.new (o := .tup [.ref g, x]) hq2
      have f2 := mkT (us := [.ref g, x]) (ts := [gTh, tb]) hq2 (.cons (fg4.same s5) (.cons (hb4.same s5) .nil))
      have pen5 := pen4.same s5
      have kp5 := kp4.trans (Same.keep s5)
      have hb5 := hb4.same s5
      have fg5 := fg4.same s5
      have f15 := f1.same s5
      generalize upd H4 q2 (.tup [.ref g, x]) = H5 at *
      refine ⟨three_le, fun q3 hq3 => ?_⟩
      have s6 := Same.new (o := .tup [vS "own", vS "f", .ref q2]) hq3
      have f3 := mkT (us := [vS "own", vS "f", .ref q2]) (ts := [.str (zS "own"), .str (zS "f"), .tup [gTh, tb]]) hq3 (.cons (sL _) (.cons (sL _) (.cons (f2.same s6) .nil)))
      have pen6 := pen5.same s6
      have kp6 := kp5.trans (Same.keep s6)
      have hb6 := hb5.same s6
      have fg6 := fg5.same s6
      have f16 := f15.same s6
      generalize upd H5 q3 (.tup [vS "own", vS "f", .ref q2]) = H6 at *
      refine ⟨_, rfl, _, rfl, _, rfl, (by show 4 ≤ sizeLine; decide), fun q4 hq4 => ?_⟩
      have s7 := Same.new (o := .tup [vS "if", x, .ref g, .ref g]) hq4
      have f4 := mkT (us := [vS "if", x, .ref g, .ref g]) (ts := [.str (zS "if"), tb, gTh, gTh]) hq4 (.cons (sL _) (.cons (hb6.same s7) (.cons (fg6.same s7) (.cons (fg6.same s7) .nil))))
      have pen7 := pen6.same s7
      have kp7 := kp6.trans (Same.keep s7)
      have hb7 := hb6.same s7
      have f17 := f16.same s7
      have f37 := f3.same s7
      generalize upd H6 q4 (.tup [vS "if", x, .ref g, .ref g]) = H7 at *
      refine ⟨(by show 4 ≤ sizeLine; decide), fun m hm => ?_⟩
      have s8 := Same.new (o := .lst [x, .ref q1, .ref q3, .ref q4]) hm
      have bd8 : BadF (upd H7 m (.lst [x, .ref q1, .ref q3, .ref q4])) [x, .ref q1, .ref q3, .ref q4] := (BadF.cons hb7 nb (BadF.cons f17 (bad_op nb) (BadF.cons f37 (bad_own nb) (BadF.cons f4 (bad_if nb) BadF.nil)))).same s8
      have hm8 : upd H7 m (.lst [x, .ref q1, .ref q3, .ref q4]) m = some (.lst [x, .ref q1, .ref q3, .ref q4]) := upd_same
      have pen8 := pen7.same s8
      have kp8 := kp7.trans (Same.keep s8)
      generalize upd H7 m (.lst [x, .ref q1, .ref q3, .ref q4]) = H8 at *
      refine ⟨_, rfl, p, _, _, _, rfl, (by show (0 : Int) < _; decide), sz4000 (by decide) (by decide), pen8, (by omega), fun r9 H9 a9 b9 pen9 kp9 => ?_⟩
      have npm : m ≠ p := fun z => by
        obtain ⟨kvs, e⟩ := pen8.ob
        rw [← z, hm8] at e; cases e
      obtain ⟨j, rfl⟩ : ∃ j : Nat, r9 = (j : Int) := ⟨r9.toNat, by omega⟩
      have hj : j < [x, V.ref q1, V.ref q3, V.ref q4].length := by show j < 4; omega
      obtain ⟨tv, hv, nv⟩ := (bd8.pen pen8 pen9 kp9) _ (List.getElem_mem hj)
      refine ⟨m, _, _, _, rfl, rfl, SqL.of (kp9 _ _ npm hm8), atI_nat (List.getElem?_eq_getElem hj), ?_⟩
      exact k _ tv _ hv nv (pen9.mono (by omega)) (kp8.trans kp9)
    · have penB := penA
      have kpB := kpA
      refine ⟨_, rfl, _, rfl, _, rfl, l, us, rfl, .inl (SqL.of hl), p, _, _, _, rfl, (by omega), sz4000 (by omega) (by omega), penB, (by omega), fun r2 H2 a2 b2 pen2 kp2 => ?_⟩
      obtain ⟨j, rfl⟩ : ∃ j : Nat, r2 = (j : Int) := ⟨r2.toNat, by omega⟩
      have hj : j < us.length := by omega
      have npl : l ≠ p := fun z => by
        obtain ⟨kvs, e⟩ := penB.ob
        rw [← z, hl] at e; cases e
      have hl2 := kp2 _ _ npl hl
      have bd2 := bd.pen penB pen2 kp2
      obtain ⟨tb, hb, nb⟩ := bd2 us[j] (List.getElem_mem hj)
      refine ⟨l, _, _, us[j], rfl, rfl, SqL.of hl2, atI_nat (List.getElem?_eq_getElem hj), ?_⟩
      generalize us[j] = x at hb
      refine ⟨one_le, fun g hg => ?_⟩
      have s3 := Same.new (o := .tup [vS "gone"]) hg
      have fg := mkT (us := [vS "gone"]) (ts := [.str (zS "gone")]) hg (.cons (sL _) .nil)
      have hb3 := hb.same s3
      have pen3 := pen2.same s3
      have kp3 := (kpB.trans kp2).trans (Same.keep s3)
      generalize upd H2 g (.tup [vS "gone"]) = H3 at *
      refine ⟨_, rfl, _, rfl, _, rfl, (by show 4 ≤ sizeLine; decide), fun q1 hq1 => ?_⟩
      have s4 := Same.new (o := .tup [vS "op", vS "-", .ref g, x]) hq1
      have f1 := mkT (us := [vS "op", vS "-", .ref g, x]) (ts := [.str (zS "op"), .str (zS "-"), gTh, tb]) hq1 (.cons (sL _) (.cons (sL _) (.cons (fg.same s4) (.cons (hb3.same s4) .nil))))
      have pen4 := pen3.same s4
      have kp4 := kp3.trans (Same.keep s4)
      have hb4 := hb3.same s4
      have fg4 := fg.same s4
      generalize upd H3 q1 (.tup [vS "op", vS "-", .ref g, x]) = H4 at *
      refine ⟨_, rfl, _, rfl, two_le, fun q2 hq2 => ?_⟩
      have s5 := Same.new (o := .tup [.ref g, x]) hq2
      have f2 := mkT (us := [.ref g, x]) (ts := [gTh, tb]) hq2 (.cons (fg4.same s5) (.cons (hb4.same s5) .nil))
      have pen5 := pen4.same s5
      have kp5 := kp4.trans (Same.keep s5)
      have hb5 := hb4.same s5
      have fg5 := fg4.same s5
      have f15 := f1.same s5
      generalize upd H4 q2 (.tup [.ref g, x]) = H5 at *
      refine ⟨three_le, fun q3 hq3 => ?_⟩
      have s6 := Same.new (o := .tup [vS "own", vS "f", .ref q2]) hq3
      have f3 := mkT (us := [vS "own", vS "f", .ref q2]) (ts := [.str (zS "own"), .str (zS "f"), .tup [gTh, tb]]) hq3 (.cons (sL _) (.cons (sL _) (.cons (f2.same s6) .nil)))
      have pen6 := pen5.same s6
      have kp6 := kp5.trans (Same.keep s6)
      have hb6 := hb5.same s6
      have fg6 := fg5.same s6
      have f16 := f15.same s6
      generalize upd H5 q3 (.tup [vS "own", vS "f", .ref q2]) = H6 at *
      refine ⟨_, rfl, _, rfl, _, rfl, (by show 4 ≤ sizeLine; decide), fun q4 hq4 => ?_⟩
      have s7 := Same.new (o := .tup [vS "if", x, .ref g, .ref g]) hq4
      have f4 := mkT (us := [vS "if", x, .ref g, .ref g]) (ts := [.str (zS "if"), tb, gTh, gTh]) hq4 (.cons (sL _) (.cons (hb6.same s7) (.cons (fg6.same s7) (.cons (fg6.same s7) .nil))))
      have pen7 := pen6.same s7
      have kp7 := kp6.trans (Same.keep s7)
      have hb7 := hb6.same s7
      have f17 := f16.same s7
      have f37 := f3.same s7
      generalize upd H6 q4 (.tup [vS "if", x, .ref g, .ref g]) = H7 at *
      refine ⟨(by show 4 ≤ sizeLine; decide), fun m hm => ?_⟩
      have s8 := Same.new (o := .lst [x, .ref q1, .ref q3, .ref q4]) hm
      have bd8 : BadF (upd H7 m (.lst [x, .ref q1, .ref q3, .ref q4])) [x, .ref q1, .ref q3, .ref q4] := (BadF.cons hb7 nb (BadF.cons f17 (bad_op nb) (BadF.cons f37 (bad_own nb) (BadF.cons f4 (bad_if nb) BadF.nil)))).same s8
      have hm8 : upd H7 m (.lst [x, .ref q1, .ref q3, .ref q4]) m = some (.lst [x, .ref q1, .ref q3, .ref q4]) := upd_same
      have pen8 := pen7.same s8
      have kp8 := kp7.trans (Same.keep s8)
      generalize upd H7 m (.lst [x, .ref q1, .ref q3, .ref q4]) = H8 at *
      refine ⟨_, rfl, p, _, _, _, rfl, (by show (0 : Int) < _; decide), sz4000 (by decide) (by decide), pen8, (by omega), fun r9 H9 a9 b9 pen9 kp9 => ?_⟩
      have npm : m ≠ p := fun z => by
        obtain ⟨kvs, e⟩ := pen8.ob
        rw [← z, hm8] at e; cases e
      obtain ⟨j, rfl⟩ : ∃ j : Nat, r9 = (j : Int) := ⟨r9.toNat, by omega⟩
      have hj : j < [x, V.ref q1, V.ref q3, V.ref q4].length := by show j < 4; omega
      obtain ⟨tv, hv, nv⟩ := (bd8.pen pen8 pen9 kp9) _ (List.getElem_mem hj)
      refine ⟨m, _, _, _, rfl, rfl, SqL.of (kp9 _ _ npm hm8), atI_nat (List.getElem?_eq_getElem hj), ?_⟩
      exact k _ tv _ hv nv (pen9.mono (by omega)) (kp8.trans kp9)
theorem sc_law_sized : FnScope ["_law_many", "_law_half"] ["_law_many"] (defScope s__law_sized) := ⟨rfl, rfl, rfl, by decide +kernel, rfl, by decide +kernel, by decide +kernel⟩
theorem ok__law_sized (T : Txt w K mg t) : ∀ m : Nat, FnOk P w K mg base CX0 (m + 1) t.f__law_sized t.d__law_sized ["_law_many"] (spSzd m) := by
  have D := T.c__law_sized
  intro m
  induction m with
  | zero => exact ⟨fun _ _ _ _ h => (by obtain ⟨_, _, _, _, h1, h2, _⟩ := h; omega), fun _ _ _ _ _ _ _ _ _ _ _ _ _ h => (by obtain ⟨_, _, _, _, h1, h2, _⟩ := h; omega)⟩
  | succ m ih =>
    refine D.fn.ok sc_law_sized (fun vs H Q E h => ?_) (fun cdv A outer s H vs Q E hr h => ?_)
    · obtain ⟨i, n, rfl, _⟩ := h
      rfl
    · obtain ⟨i, n, rfl, rfl, h1, h2, k⟩ := h
      have hu := hr.units0
      have hu1 := hu_of hr
      refine ⟨_, ((pss_cons (ps_if (pt_cmpR op_eq (pv 0) pe_int (nomark _)) (pss_one (ps_ret (pe_tup (pa_consK pe_str pa_nil)))) pss_nil)
      (pss_cons (ps_if (pt_cmpR op_eq (pv 0) pe_int (nomark _)) (pss_one (ps_ret (pe_tup (pa_consK pe_str (pa_consT (pe_tup (pa_consK pe_str pa_nil)) pa_nil))))) pss_nil)
      (pss_cons (ps_set (i := 1) sc_law_sized.nd rfl (Or.inl rfl) (pe_op op_fdiv (pe_op op_sub (pv 0) pe_int) pe_int))
      (pss_one (ps_ret (pe_tup (pa_consK pe_str (pa_consK pe_str (pa_consC (pe_cl T.c__law_sized ih (hr.mono (by omega)) (pa_consN (pv 1) pa_nil)) (pa_consC (pe_cl T.c__law_sized ih (hr.mono (by omega)) (pa_consB (pe_op op_sub (pe_op op_sub (pv 0) pe_int) (pv 1)) pa_nil)) pa_nil))))))))))), ?_⟩
      refine ⟨_, rfl, rfl, _, rfl, ite2 (fun c1 => ?_) (fun c1 => ?_)⟩
      · have e : V.int (n : Int) = V.int 1 := of_decide_eq_true c1
        injection e with e
        obtain rfl : n = 1 := by omega
        refine ⟨one_le, fun q hq => ?_⟩
        exact k (.ref q) _ (by rw [szd_1]; exact mkT hq (.cons (sL _) .nil)) (Same.new hq)
      refine ⟨_, rfl, rfl, _, rfl, ite2 (fun c2 => ?_) (fun c2 => ?_)⟩
      · have e : V.int (n : Int) = V.int 2 := of_decide_eq_true c2
        injection e with e
        obtain rfl : n = 2 := by omega
        refine ⟨one_le, fun q hq => ⟨two_le, fun q2 hq2 => ?_⟩⟩
        have f1 := mkT (us := [vS "gone"]) (ts := [.str (zS "gone")]) hq (.cons (sL _) .nil)
        have s2 := Same.new (o := .tup [vS "neg", .ref q]) hq2
        exact k (.ref q2) _ (by rw [szd_2]; exact mkT hq2 (.cons (sL _) (.cons (f1.same s2) .nil))) ((Same.new hq).trans s2)
      have n1 : n ≠ 1 := fun z => c1 (decide_eq_true (by rw [z]; rfl))
      have n2 : n ≠ 2 := fun z => c2 (decide_eq_true (by rw [z]; rfl))
      refine ⟨_, rfl, _, _, rfl, rfl, _, _, rfl, rfl, ⟨by decide, by decide⟩, ?_⟩
      refine ⟨_, rfl, _, (n - 1) / 2, rfl, (by omega), (by omega), (by omega), fun v1 H1 f1 s1 => ?_⟩
      refine ⟨_, rfl, _, _, rfl, rfl, _, rfl, _, _, rfl, rfl, _, n - 1 - (n - 1) / 2, rfl, (by omega), (by omega), (by omega), fun v2 H2 f2 s2 => ?_⟩
      refine ⟨(by show 4 ≤ sizeLine; decide), fun q hq => ?_⟩
      have s3 := Same.new (o := .tup [vS "op", vS "+", v1, v2]) hq
      exact k (.ref q) _ (by rw [szd_3 n1 n2]; exact mkT hq (.cons (sL _) (.cons (sL _) (.cons ((f1.same s2).same s3) (.cons (f2.same s3) .nil))))) ((s1.trans s2).trans s3)
theorem sc_law_deep : FnScope ["_law_pen_here", "_law_many", "_law_formula_here", "_law_k"] ["_law_pen_here", "_law_many"] (defScope s__law_deep) := ⟨rfl, rfl, rfl, by decide +kernel, rfl, by decide +kernel, by decide +kernel⟩
theorem ok__law_deep (T : Txt w K mg t) : FnOk P w K mg base CX0 2 t.f__law_deep t.d__law_deep ["_law_pen_here", "_law_many"] (spDeepD K) := by
  have D := T.c__law_deep
  refine D.fn.ok sc_law_deep (fun vs H Q E h => ?_) (fun cdv A outer s H vs Q E hr h => ?_)
  · obtain ⟨p, m, n, c, S, rfl, _⟩ := h
    rfl
  · obtain ⟨p, m, n, c, S, rfl, rfl, hn1, hn2, hpen, hc, k⟩ := h
    have hu := hr.units0
    have hu1 := hu_of hr
    refine ⟨_, ((pss_cons (ps_set (i := 2) sc_law_deep.nd rfl (Or.inl rfl) (pe_tup (pa_consK pe_str (pa_consT (pe_tup (pa_consK pe_str (pa_consK pe_bl pa_nil))) pa_nil))))
      (pss_cons (ps_for PassesOwn.never rfl (pi_range1 rfl T.range (pa_consB (pe_op op_sub (pv 1) pe_int) pa_nil)) (pg_name (i := 3) sc_law_deep.nd rfl (Or.inl rfl))
      (pss_one (ps_set (i := 2) sc_law_deep.nd rfl (Or.inl rfl) (pe_ix ix_list (pe_lst (pa_consT (pe_tup (pa_consK pe_str (pa_consN (pv 2) pa_nil))) (pa_consT (pe_tup (pa_consK pe_str (pa_consN (pv 2) pa_nil))) (pa_consT (pe_tup (pa_consK pe_str (pa_consK pe_str (pa_consT (pe_tup (pa_consK pe_str pa_nil)) (pa_consN (pv 2) pa_nil))))) pa_nil)))) (pe_cl T.c__law_take (ok__law_take T) (hr.mono (by decide)) (pa_consN (pv 0) (pa_consK pe_int pa_nil))) (fun _ _ => rfl)))))
      (pss_one (ps_ret (pv 2)))))), ?_⟩
    refine ⟨two_le, fun q0 hq0 => ?_⟩
    have s0 := Same.new (o := .tup [vS "truth", .bl false]) hq0
    have f0 := mkT (us := [vS "truth", .bl false]) (ts := [.str (zS "truth"), .bl false]) hq0 (.cons (sL _) (.cons (.bl _) .nil))
    have pen0 := hpen.same s0
    generalize upd H q0 (.tup [vS "truth", .bl false]) = HA at *
    refine ⟨two_le, fun q1 hq1 => ?_⟩
    have s1 := Same.new (o := .tup [vS "value", .ref q0]) hq1
    have f1 := mkT (us := [vS "value", .ref q0]) (ts := [.str (zS "value"), .tup [.str (zS "truth"), .bl false]]) hq1 (.cons (sL _) (.cons (f0.same s1) .nil))
    have pen1 := pen0.same s1
    have kp1 : KeepX p H _ := (Same.keep s0).trans (Same.keep s1)
    generalize upd HA q1 (.tup [vS "value", .ref q0]) = HB at *
    refine ⟨_, rfl, _, _, rfl, rfl, _, rfl, (by omega), (by omega), ?_⟩
    refine for_range (n := ((n : Int) - 1).toNat) (fun i σ H3 => ∃ (x3 : Option V) (v : V) (th : Th), σ = [some (.ref p), some (.int (n : Int)), some v, x3] ∧ ThAt H3 v th ∧ Ch (i + 1) th ∧ PenD K S H3 p (c + i) ∧ KeepX p H H3)
      ⟨none, _, _, rfl, f1, ch_val, pen1, kp1⟩ ?_ ?_
    · rintro i σ H3 hi ⟨x3, v, th, rfl, hv, ch, pen3, kp3⟩
      refine ⟨_, rfl, two_le, fun q1 hq1 => ?_⟩
      have s1 := Same.new (o := .tup [vS "neg", v]) hq1
      have f1 := mkT (us := [vS "neg", v]) (ts := [.str (zS "neg"), th]) hq1 (.cons (sL _) (.cons (hv.same s1) .nil))
      have pen4 := pen3.same s1
      have kp4 := kp3.trans (Same.keep s1)
      have hv4 := hv.same s1
      generalize upd H3 q1 (.tup [vS "neg", v]) = H4 at *
      refine ⟨_, rfl, two_le, fun q2 hq2 => ?_⟩
      have s2 := Same.new (o := .tup [vS "sum", v]) hq2
      have f2 := mkT (us := [vS "sum", v]) (ts := [.str (zS "sum"), th]) hq2 (.cons (sL _) (.cons (hv4.same s2) .nil))
      have pen5 := pen4.same s2
      have kp5 := kp4.trans (Same.keep s2)
      have hv5 := hv4.same s2
      have f15 := f1.same s2
      generalize upd H4 q2 (.tup [vS "sum", v]) = H5 at *
      refine ⟨one_le, fun g hg => ?_⟩
      have s3 := Same.new (o := .tup [vS "gone"]) hg
      have fg := mkT (us := [vS "gone"]) (ts := [.str (zS "gone")]) hg (.cons (sL _) .nil)
      have pen6 := pen5.same s3
      have kp6 := kp5.trans (Same.keep s3)
      have hv6 := hv5.same s3
      have f16 := f15.same s3
      have f26 := f2.same s3
      generalize upd H5 g (.tup [vS "gone"]) = H6 at *
      refine ⟨_, rfl, (by show 4 ≤ sizeLine; decide), fun q3 hq3 => ?_⟩
      have s4 := Same.new (o := .tup [vS "op", vS "*", .ref g, v]) hq3
      have f3 := mkT (us := [vS "op", vS "*", .ref g, v]) (ts := [.str (zS "op"), .str (zS "*"), gTh, th]) hq3 (.cons (sL _) (.cons (sL _) (.cons (fg.same s4) (.cons (hv6.same s4) .nil))))
      have pen7 := pen6.same s4
      have kp7 := kp6.trans (Same.keep s4)
      have f17 := f16.same s4
      have f27 := f26.same s4
      generalize upd H6 q3 (.tup [vS "op", vS "*", .ref g, v]) = H7 at *
      refine ⟨three_le, fun l hl => ?_⟩
      have s5 := Same.new (o := .lst [.ref q1, .ref q2, .ref q3]) hl
      have hl8 : upd H7 l (.lst [.ref q1, .ref q2, .ref q3]) l = some (.lst [.ref q1, .ref q2, .ref q3]) := upd_same
      have pen8 := pen7.same s5
      have kp8 := kp7.trans (Same.keep s5)
      have f18 := f17.same s5
      have f28 := f27.same s5
      have f38 := f3.same s5
      have npl := pen7.ne hl
      generalize upd H7 l (.lst [.ref q1, .ref q2, .ref q3]) = H8 at *
      refine ⟨_, rfl, p, _, _, _, rfl, (by show (0 : Int) < _; decide), sz4000 (by decide) (by decide), pen8, (by omega), fun r9 H9 a9 b9 pen9 kp9 => ?_⟩
      have hl9 := kp9 _ _ npl hl8
      rcases pick3L a9 b9 (V.ref q1) (V.ref q2) (V.ref q3) with ⟨_, e⟩ | ⟨_, e⟩ | ⟨_, e⟩
      · exact ⟨l, _, _, _, rfl, rfl, SqL.of hl9, e, _, _, _, rfl, f18.pen pen8 pen9 kp9, ch_neg ch, pen9.mono (by omega), kp8.trans kp9⟩
      · exact ⟨l, _, _, _, rfl, rfl, SqL.of hl9, e, _, _, _, rfl, f28.pen pen8 pen9 kp9, ch_sum ch, pen9.mono (by omega), kp8.trans kp9⟩
      · exact ⟨l, _, _, _, rfl, rfl, SqL.of hl9, e, _, _, _, rfl, f38.pen pen8 pen9 kp9, ch_mul ch (by omega), pen9.mono (by omega), kp8.trans kp9⟩
    · rintro σ H3 ⟨x3, v, th, rfl, hv, ch, pen3, kp3⟩
      have e : ((n : Int) - 1).toNat + 1 = n := by omega
      rw [e] at ch
      exact ⟨_, rfl, k v th H3 hv ch (pen3.mono (by omega)) kp3⟩
theorem sc_law_most_param : FnScope ["_law_formula_here"] ["_law_formula_here"] (defScope s__law_most_param) := ⟨rfl, rfl, rfl, by decide +kernel, rfl, by decide +kernel, by decide +kernel⟩
theorem ok__law_most_param (T : Txt w K mg t) : ∀ n : Nat, FnOk P w K mg base CX0 (3 * n + 3) t.f__law_most_param t.d__law_most_param ["_law_formula_here"] (spMp n) := by
  have D := T.c__law_most_param
  intro n
  induction n with
  | zero => exact ⟨fun _ _ _ _ h => (by obtain ⟨_, _, _, _, _, fo, _⟩ := h; cases fo), fun _ _ _ _ _ _ _ _ _ _ _ _ _ h => (by obtain ⟨_, _, _, _, _, fo, _⟩ := h; cases fo)⟩
  | succ n ih =>
    refine D.fn.ok sc_law_most_param (fun vs H Q E h => ?_) (fun cdv A outer s H vs Q E hr h => ?_)
    · obtain ⟨v, f, pr, rfl, _⟩ := h
      rfl
    · obtain ⟨v, f, pr, rfl, hv, fo, h8, k_⟩ := h
      have hu := hr.units0
      have hu1 := hu_of hr
      refine ⟨_, ((pss_cons (ps_if (pt_cmpR op_eq (pe_ix ix_tup (pv 0) pe_int (fun _ _ => rfl)) pe_str (nomark _)) (pss_one (ps_ret (pe_op op_add (pe_ix ix_tup (pv 0) pe_int (fun _ _ => rfl)) pe_int))) pss_nil)
      (pss_one (ps_ret (pe_callB (call_maxL rfl) (by rfl) T.max boot_max (pa_consB (pe_op op_cat (pe_lst (pa_consK pe_int pa_nil)) (pe_comp (fv := []) (js := []) (cl := []) rfl (by with_unfolding_all rfl) ⟨rfl, by decide +kernel, by decide +kernel, rfl, by decide +kernel, by decide +kernel, (List.forall_mem_nil _), (List.forall_mem_nil _), .nil⟩ (pi_list (pe_cl T.c__law_parts (ok__law_parts T) (hr.mono (by omega)) (pa_consN (pv 0) pa_nil))) (fun _ _ _ _ _ => pf_nil) (fun _ _ _ _ _ => (pe_cl T.c__law_most_param ih (hr.mono (by omega)) (pa_consN (pv 0) pa_nil))))) pa_nil)))))), ?_⟩
      rcases hv.hdP fo with ⟨a, i, rfl, rfl, ha⟩ | ⟨a, w, r, rfl, ha, hw, em⟩
      · refine ⟨_, rfl, a, _, _, _, rfl, rfl, SqT.of ha, atI_hd, rfl, true, (by decide +kernel), iteT ?_⟩
        refine ⟨_, rfl, a, _, _, _, rfl, rfl, SqT.of ha, atI_1, _, _, rfl, rfl, rtv ?_ (k_ _ (Same.refl _))⟩
        rw [mpF]; rfl
      refine ⟨_, rfl, a, _, _, _, rfl, rfl, SqT.of ha, atI_hd, rfl, false, hw, iteF ?_⟩
      have hpf : ∀ g ∈ prtF f, FO pr n g := fun g hg => by
        cases fo with
        | lf _ => cases hg
        | nd _ hp => exact hp g hg
      refine ⟨one_le, fun z0 hz0 => ?_⟩
      have s0 := Same.new (o := .lst [.int 0]) hz0
      have hz1 : upd H z0 (.lst [.int 0]) z0 = some (.lst [.int 0]) := upd_same
      generalize upd H z0 (.lst [.int 0]) = H0 at *
      refine ⟨_, rfl, _, f, pr, n + 1, rfl, FmAt.kp hv (Kp.same s0), fo, fun lp us H1 _ hlp fm s1 => ?_⟩
      have hus : us.length = (prtF f).length := Paired.length fm
      have p3 : (prtF f).length ≤ 3 := by
        cases fo with
        | lf _ => exact Nat.zero_le _
        | nd ok _ => exact ok.le
      refine ⟨lp, rfl, ⟨_, SqL.of hlp⟩, fun D hD => ?_⟩
      refine ⟨fun i m H4 => m = us.length - i ∧ i ≤ us.length ∧ H4 D = some (.lst (((prtF f).take i).map fun g => V.int (mpF g))) ∧ Same H1 H4, ⟨us.length, rfl, Nat.zero_le _, upd_same, Same.new hD⟩, ?_⟩
      rintro i m H4 ⟨rfl, hi, hD4, s4⟩
      by_cases hlt : i < us.length
      · refine .inr ⟨⟨us, us[i], SqL.of (s4 _ _ hlp), List.getElem?_eq_getElem hlt⟩, fun x H' y => ?_⟩
        obtain ⟨e, y⟩ := y
        subst e
        have hx := y us (SqL.of (s4 _ _ hlp))
        obtain ⟨g, hg, xg⟩ := paired_at fm hx
        refine ⟨_, rfl, x, g, pr, rfl, FmAt.kp xg (Kp.same s4), hpf g (List.mem_of_getElem? hg), (by omega), fun H5 s5 => ?_⟩
        refine ⟨_, s5 _ _ hD4, sl_lt (by rw [List.length_map, List.length_take]; omega), us.length - (i + 1), (by omega), rfl, hlt, ?_, fun b o e => ?_⟩
        · rw [upd_same, List.take_add_one, hg, List.map_append]; rfl
        · rw [upd_ne (ne_of_none e hD)]; exact s5 _ _ (s4 _ _ e)
      have ei : i = us.length := by omega
      subst ei
      refine .inl ⟨⟨us, SqL.of (s4 _ _ hlp), Nat.le_refl _⟩, ?_⟩
      rw [hus, List.take_length, show ((prtF f).map fun g => V.int (mpF g)) = ((prtF f).map fun g => (mpF g : Int)).map V.int by rw [List.map_map]; rfl] at hD4
      refine ⟨z0, D, _, _, rfl, rfl, s4 _ _ (s1 _ _ hz1), hD4, sl_le (by simp; omega), fun q hq => ?_⟩
      have s5 := Same.new (o := .lst ([V.int 0] ++ ((prtF f).map fun g => (mpF g : Int)).map V.int)) hq
      refine ⟨q, 0 :: (prtF f).map fun g => (mpF g : Int), rfl, SqL.of upd_same, (by simp), fun m h1 h2 => ?_⟩
      rw [mp_max h1 h2, ← em]
      exact k_ _ (((s0.trans s1).trans s4).trans s5)
theorem sclaw : FnScope ["_law_script", "_law_pen_here", "_law_params", "_law_formula_here", "_law_need", "_law_k", "_law_many", "_law_heard", "_law_deep_here"] ["_law_script"] (defScope s_law) := ⟨rfl, rfl, rfl, by decide +kernel, rfl, by decide +kernel, by decide +kernel⟩
theorem ok_law (T : Txt w K mg t) : FnOk P w K mg base CX0 70 t.f_law t.d_law ["_law_script"] (spLaw K) := by
  have D := T.c_law
  refine D.fn.ok sclaw (fun vs H Q E h => ?_) (fun cdv A outer s H vs Q E hr h => ?_)
  · obtain ⟨a, ns, rfl, _⟩ := h
    rfl
  · obtain ⟨a, ns, rfl, hS, hlen, k⟩ := h
    have hu := hr.units0
    have hu1 := hu_of hr
    have hun := hun_of hr
    refine ⟨_, ((pss_cons (ps_set (i := 1) sclaw.nd rfl (Or.inl rfl) (pe_cl T.c__law_pen (ok__law_pen T) (hr.mono (by omega)) (pa_consN (pv 0) pa_nil)))
      (pss_cons (ps_set (i := 2) sclaw.nd rfl (Or.inl rfl) (pe_cl T.c__law_take (ok__law_take T) (hr.mono (by omega)) (pa_consN (pv 1) (pa_consK pe_int pa_nil))))
      (pss_cons (ps_set (i := 3) sclaw.nd rfl (Or.inl rfl) (pe_cl T.c__law_formula (ok__law_formula T) (hr.mono (by omega)) (pa_consN (pv 1) (pa_consN (pv 2) pa_nil))))
      (pss_cons (ps_if (pw_or (pt_cmpR op_isnotB (pe_cl T.c_is_formula (ok_is_formula T) (hr.mono (by omega)) (pa_consN (pv 3) (pa_consN (pv 2) pa_nil))) pe_bl (nomark _)) (pw_or1 (pt_cmpR op_isnotB (pe_cl T.c_is_formula (ok_is_formula T) (hr.mono (by omega)) (pa_consN (pv 3) (pa_consK pe_int pa_nil))) pe_bl (nomark _)))).pt (pss_one (ps_ret pe_bl)) pss_nil)
      (pss_cons (ps_set (i := 4) sclaw.nd rfl (Or.inl rfl) (pe_cl T.c__law_most_param (ok__law_most_param T 8) (hr.mono (by omega)) (pa_consN (pv 3) pa_nil)))
      (pss_cons (ps_if (pw_and (pt_cmpR op_gt (pv 4) pe_int (nomark _)) (pw_and1 (pt_cmpR op_isnotB (pe_cl T.c_is_formula (ok_is_formula T) (hr.mono (by omega)) (pa_consN (pv 3) (pa_consB (pe_op op_sub (pv 4) pe_int) pa_nil))) pe_bl (nomark _)))).pt (pss_one (ps_ret pe_bl)) pss_nil)
      (pss_cons (ps_for PassesOwn.never rfl (pi_range1 rfl T.range (pa_consK pe_int pa_nil)) (pg_name (i := 5) sclaw.nd rfl (Or.inl rfl))
      (pss_one (ps_if (pt_cmpR op_isnotB (pe_cl T.c_is_formula (ok_is_formula T) (hr.mono (by omega)) (pa_consC (pe_cl T.c__law_bad (ok__law_bad T) (hr.mono (by omega)) (pa_consN (pv 1) pa_nil)) (pa_consN (pv 2) pa_nil))) pe_bl (nomark _)) (pss_one (ps_ret pe_bl)) pss_nil)))
      (pss_cons (ps_set (i := 6) sclaw.nd rfl (Or.inl rfl) (pe_op op_add pe_int (pe_cl T.c__law_take (ok__law_take T) (hr.mono (by omega)) (pa_consN (pv 1) (pa_consK pe_int pa_nil)))))
      (pss_cons (ps_set (i := 7) sclaw.nd rfl (Or.inl rfl) (pe_lst (pa_consC (pe_cl T.c_is_formula (ok_is_formula T) (hr.mono (by omega)) (pa_consC (pe_cl T.c__law_sized (ok__law_sized T 28) (hr.mono (by omega)) (pa_consN (pv 6) pa_nil)) (pa_consK pe_int pa_nil))) pa_nil)))
      (pss_cons (ps_set (i := 8) sclaw.nd rfl (Or.inl rfl) (pe_ix ix_list (pe_lst (pa_consK pe_int (pa_consK pe_int (pa_consK pe_int (pa_consK pe_int (pa_consK pe_int (pa_consK pe_int pa_nil))))))) (pe_cl T.c__law_take (ok__law_take T) (hr.mono (by omega)) (pa_consN (pv 1) (pa_consK pe_int pa_nil))) (fun _ _ => rfl)))
      (pss_cons (ps_expr (pe_bm PySem.F.plainAttrs_list PySem.F.slot_list_append PySem.F.type_list_append mt_append (pv 7) (pa_consC (pe_cl T.c_is_formula (ok_is_formula T) (hr.mono (by omega)) (pa_consC (pe_cl T.c__law_deep (ok__law_deep T) (hr.mono (by omega)) (pa_consN (pv 1) (pa_consN (pv 8) pa_nil))) (pa_consK pe_int pa_nil))) pa_nil)))
      (pss_cons (ps_if (pt_cmpR op_in_seq pe_bl (pe_comp (fv := []) (js := []) (cl := []) rfl (by with_unfolding_all rfl) ⟨rfl, by decide +kernel, by decide +kernel, rfl, by decide +kernel, by decide +kernel, (List.forall_mem_nil _), (List.forall_mem_nil _), .nil⟩ (pi_list (pv 7)) (fun _ _ _ _ _ => pf_nil) (fun _ _ _ _ _ => (pe_callB (call_isinstC (K := K) rfl) (by rfl) T.isinstance boot_isinstance (pa_consN (pv 0) (pa_consN (pe_typ T.bool boot_bool) pa_nil))))) rfl) (pss_one (ps_ret pe_bl)) pss_nil)
      (pss_one (ps_ret (pe_cmpR (op_eqLt (k := 30) hun) (pv 7) (pe_lst (pa_consM (pe_cmpR op_lt (pv 6) pe_int (nomark _)) (pa_consM (pe_cmpR op_lt (pv 8) pe_int (nomark _)) pa_nil))) (nomark _))))))))))))))))), ?_⟩
    refine ⟨_, rfl, a, ns, rfl, hS, hlen, fun p H1 np pen1 s1 => ?_⟩
    refine ⟨_, rfl, p, _, _, _, rfl, (by show (0 : Int) < _; decide), sz4000 (by decide) (by decide), pen1, (by omega), fun r2 H2 a2 b2 pen2 kp2 => ?_⟩
    obtain ⟨pr, rfl⟩ : ∃ pr : Nat, r2 = (pr : Int) := ⟨r2.toNat, by omega⟩
    have hpr : pr ≤ 3 := by omega
    refine ⟨_, rfl, _, rfl, p, pr, _, _, rfl, hpr, pen2, (by omega), fun v f H3 hv fo sz pen3 kp3 => ?_⟩
    have th := FmAt.th fo hv
    refine ⟨_, rfl, _, rfl, v, _, _, rfl, th, fun H4 s4 => ?_⟩
    rw [fm_true fo sz (Int.le_refl _) hpr]
    refine ⟨_, _, rfl, rfl, false, rfl, iteF ?_⟩
    refine ⟨_, rfl, v, _, _, rfl, th.same s4, fun H5 s5 => ?_⟩
    rw [fm_true fo sz (by omega) hpr]
    refine ⟨_, _, rfl, rfl, false, rfl, iteF ?_⟩
    have s45 := s4.trans s5
    refine ⟨_, rfl, v, f, pr, rfl, FmAt.kp hv (Kp.same s45), fo, (by decide), fun H6 s6 => ?_⟩
    have s46 := s45.trans s6
    refine ⟨_, rfl, _, _, rfl, rfl, _, rfl, ?_⟩
    by_cases hn : 0 < mpF f
    · rw [decide_eq_true hn]
      refine iteT ⟨_, rfl, _, rfl, _, _, rfl, rfl, v, _, _, rfl, th.same s46, fun H7 s7 => ?_⟩
      rw [fm_false fo hn]
      refine ⟨_, _, rfl, rfl, false, rfl, iteF ?_⟩
      refine ⟨6, rfl, by decide, by decide, ?_⟩
      refine for_range (n := 6) (fun i σ Hx => ∃ x5 x6 x7 x8, σ = [some (.ref a), some (.ref p), some (.int (pr : Int)), some v, some (.int (mpF f)), x5, x6, x7, x8] ∧ PenD K (a, ns) Hx p (3000 + 3 * i)) ⟨none, none, none, none, rfl, ((pen3.same s46).same s7).mono (by omega)⟩ ?_ ?_
      · rintro i σ Hx hi ⟨x5, x6, x7, x8, rfl, penx⟩
        have hi6 : i < 6 := hi
        refine ⟨_, rfl, p, _, _, rfl, penx, (by omega), fun vb tb Hb hb nb penb kpb => ?_⟩
        refine ⟨_, rfl, vb, tb, _, rfl, hb, fun Hc sc => ?_⟩
        rw [fm_bad nb hpr]
        exact ⟨_, _, rfl, rfl, false, rfl, iteF ⟨_, _, _, _, rfl, (penb.same sc).mono (by omega)⟩⟩
      · rintro σ Hx ⟨x5, x6, x7, x8, rfl, penx⟩
        refine ⟨_, rfl, p, _, _, _, rfl, (by show (0 : Int) < _; decide), sz4000 (by decide) (by decide), penx, (by omega), fun r9 H9 a9 b9 pen9 kp9 => ⟨_, _, rfl, rfl, ?_⟩⟩
        obtain ⟨m, hm⟩ : ∃ m : Nat, 20 + r9 = (m : Int) := ⟨(20 + r9).toNat, by omega⟩
        rw [show (fun i j : Int => V.int (i + j)) 20 r9 = V.int (m : Int) from congrArg V.int hm]
        refine ⟨_, rfl, _, m, rfl, rfl, (by omega), (by omega), fun vs Hs fs ss => ?_⟩
        refine ⟨vs, _, _, rfl, fs, fun Ht st => ?_⟩
        rw [szd_fm (by omega) (by omega)]
        have penT := (pen9.same ss).same st
        refine ⟨one_le, fun l hl => ?_⟩
        have su := Same.new (o := .lst [.bl (decide ((m : Int) < 25))]) hl
        have hlu : upd Ht l (.lst [.bl (decide ((m : Int) < 25))]) l = some (.lst [.bl (decide ((m : Int) < 25))]) := upd_same
        have npl := penT.ne hl
        have penU := penT.same su
        generalize upd Ht l (.lst [.bl (decide ((m : Int) < 25))]) = Hu at *
        refine ⟨(by show 6 ≤ sizeLine; decide), fun l2 hl2 => ?_⟩
        have sv := Same.new (o := .lst [.int 6, .int 7, .int 8, .int 9, .int 10, .int 100]) hl2
        have hlv : upd Hu l2 (.lst [.int 6, .int 7, .int 8, .int 9, .int 10, .int 100]) l2 = some (.lst [.int 6, .int 7, .int 8, .int 9, .int 10, .int 100]) := upd_same
        have npl2 := penU.ne hl2
        have penV := penU.same sv
        have hluv := sv _ _ hlu
        generalize upd Hu l2 (.lst [.int 6, .int 7, .int 8, .int 9, .int 10, .int 100]) = Hv at *
        refine ⟨_, rfl, p, _, _, _, rfl, (by show (0 : Int) < _; decide), sz4000 (by decide) (by decide), penV, (by omega), fun r8 H8 a8 b8 pen8 kp8 => ?_⟩
        obtain ⟨dn, hdn, d1, d2⟩ := pick6 a8 b8
        refine ⟨l2, _, _, _, rfl, rfl, SqL.of (kp8 _ _ npl2 hlv), hdn, ?_⟩
        have hl8 := kp8 _ _ npl hluv
        refine ⟨_, rfl, .inl ⟨rfl, _, SqL.of hl8⟩, _, rfl, _, rfl, p, _, dn, _, _, rfl, rfl, d1, d2, pen8, (by omega), fun vd td Hd hd cd pend kpd => ?_⟩
        refine ⟨vd, td, _, rfl, hd, fun He se => ?_⟩
        rw [ch_fm cd]
        have hle := se _ _ (kpd _ _ npl hl8)
        refine ⟨l, _, _, rfl, rfl, hle, sl_lt (by show 1 ≤ 1000; decide), ?_⟩
        have hlf : upd He l (.lst ([.bl (decide ((m : Int) < 25))] ++ [.bl (decide ((dn : Int) < 9))])) l = some (.lst [.bl (decide ((m : Int) < 25)), .bl (decide ((dn : Int) < 9))]) := upd_same
        generalize upd He l (.lst ([.bl (decide ((m : Int) < 25))] ++ [.bl (decide ((dn : Int) < 9))])) = Hf at *
        refine ⟨_, rfl, l, rfl, ⟨_, SqL.of hlf⟩, fun D hD => ?_⟩
        have sD : ∀ ws, Same Hf (upd Hf D (.lst ws)) := fun ws => Same.new hD
        refine ⟨fun i mm H4 => mm = 2 - i ∧ i ≤ 2 ∧ H4 = upd Hf D (.lst (List.replicate i (.bl true))), ⟨2, rfl, by decide, rfl⟩, ?_⟩
        rintro i mm H4 ⟨rfl, hi, rfl⟩
        by_cases hlt : i < 2
        · obtain ⟨bb, hbb⟩ : ∃ bb : Bool, [V.bl (decide ((m : Int) < 25)), V.bl (decide ((dn : Int) < 9))][i]? = some (.bl bb) := by
            match i, hlt with
            | 0, _ => exact ⟨_, rfl⟩
            | 1, _ => exact ⟨_, rfl⟩
          refine .inr ⟨⟨_, _, SqL.of (sD _ _ _ hlf), hbb⟩, fun x H' y => ?_⟩
          obtain ⟨e, y⟩ := y
          subst e
          have hx := y _ (SqL.of (sD _ _ _ hlf))
          rw [hbb] at hx
          cases hx
          refine ⟨_, rfl, _, _, _, _, true, rfl, .bl _, rfl, (fun _ => .inr trivial), T.ki_bool_bool, _, upd_same, sl_lt (by rw [List.length_replicate]; omega), 2 - (i + 1), (by omega), rfl, hlt, ?_⟩
          rw [upd_upd, List.replicate_succ']
        have ei : i = 2 := by omega
        subst ei
        refine .inl ⟨⟨_, SqL.of (sD _ _ _ hlf), Nat.le_refl _⟩, ?_⟩
        refine ⟨D, _, rfl, .inl (SqL.of upd_same), rfl, rfl, false, rfl, iteF ?_⟩
        have hlg := sD (List.replicate 2 (.bl true)) _ _ hlf
        generalize upd Hf D (.lst (List.replicate 2 (.bl true))) = Hg at *
        refine ⟨_, rfl, _, rfl, _, _, rfl, rfl, _, rfl, _, _, rfl, rfl, two_le, fun l3 hl3 => ?_⟩
        have sh := Same.new (o := .lst [.bl (decide ((m : Int) < 25)), .bl (decide ((dn : Int) < 9))]) hl3
        refine ⟨l, l3, _, _, 0, rfl, rfl, SqL.of (sh _ _ hlg), SqL.of upd_same, rfl, (by decide), fun j u v' e1 e2 => ?_, k _⟩
        rw [e1] at e2
        cases e2
        match j, e1 with
        | 0, e1 => cases e1; exact .fl rfl
        | 1, e1 => cases e1; exact .fl rfl
        | j + 2, e1 => simp at e1
    · rw [decide_eq_false hn]
      refine iteF (iteF ?_)
      refine ⟨6, rfl, by decide, by decide, ?_⟩
      refine for_range (n := 6) (fun i σ Hx => ∃ x5 x6 x7 x8, σ = [some (.ref a), some (.ref p), some (.int (pr : Int)), some v, some (.int (mpF f)), x5, x6, x7, x8] ∧ PenD K (a, ns) Hx p (3000 + 3 * i)) ⟨none, none, none, none, rfl, (pen3.same s46).mono (by omega)⟩ ?_ ?_
      · rintro i σ Hx hi ⟨x5, x6, x7, x8, rfl, penx⟩
        have hi6 : i < 6 := hi
        refine ⟨_, rfl, p, _, _, rfl, penx, (by omega), fun vb tb Hb hb nb penb kpb => ?_⟩
        refine ⟨_, rfl, vb, tb, _, rfl, hb, fun Hc sc => ?_⟩
        rw [fm_bad nb hpr]
        exact ⟨_, _, rfl, rfl, false, rfl, iteF ⟨_, _, _, _, rfl, (penb.same sc).mono (by omega)⟩⟩
      · rintro σ Hx ⟨x5, x6, x7, x8, rfl, penx⟩
        refine ⟨_, rfl, p, _, _, _, rfl, (by show (0 : Int) < _; decide), sz4000 (by decide) (by decide), penx, (by omega), fun r9 H9 a9 b9 pen9 kp9 => ⟨_, _, rfl, rfl, ?_⟩⟩
        obtain ⟨m, hm⟩ : ∃ m : Nat, 20 + r9 = (m : Int) := ⟨(20 + r9).toNat, by omega⟩
        rw [show (fun i j : Int => V.int (i + j)) 20 r9 = V.int (m : Int) from congrArg V.int hm]
        refine ⟨_, rfl, _, m, rfl, rfl, (by omega), (by omega), fun vs Hs fs ss => ?_⟩
        refine ⟨vs, _, _, rfl, fs, fun Ht st => ?_⟩
        rw [szd_fm (by omega) (by omega)]
        have penT := (pen9.same ss).same st
        refine ⟨one_le, fun l hl => ?_⟩
        have su := Same.new (o := .lst [.bl (decide ((m : Int) < 25))]) hl
        have hlu : upd Ht l (.lst [.bl (decide ((m : Int) < 25))]) l = some (.lst [.bl (decide ((m : Int) < 25))]) := upd_same
        have npl := penT.ne hl
        have penU := penT.same su
        generalize upd Ht l (.lst [.bl (decide ((m : Int) < 25))]) = Hu at *
        refine ⟨(by show 6 ≤ sizeLine; decide), fun l2 hl2 => ?_⟩
        have sv := Same.new (o := .lst [.int 6, .int 7, .int 8, .int 9, .int 10, .int 100]) hl2
        have hlv : upd Hu l2 (.lst [.int 6, .int 7, .int 8, .int 9, .int 10, .int 100]) l2 = some (.lst [.int 6, .int 7, .int 8, .int 9, .int 10, .int 100]) := upd_same
        have npl2 := penU.ne hl2
        have penV := penU.same sv
        have hluv := sv _ _ hlu
        generalize upd Hu l2 (.lst [.int 6, .int 7, .int 8, .int 9, .int 10, .int 100]) = Hv at *
        refine ⟨_, rfl, p, _, _, _, rfl, (by show (0 : Int) < _; decide), sz4000 (by decide) (by decide), penV, (by omega), fun r8 H8 a8 b8 pen8 kp8 => ?_⟩
        obtain ⟨dn, hdn, d1, d2⟩ := pick6 a8 b8
        refine ⟨l2, _, _, _, rfl, rfl, SqL.of (kp8 _ _ npl2 hlv), hdn, ?_⟩
        have hl8 := kp8 _ _ npl hluv
        refine ⟨_, rfl, .inl ⟨rfl, _, SqL.of hl8⟩, _, rfl, _, rfl, p, _, dn, _, _, rfl, rfl, d1, d2, pen8, (by omega), fun vd td Hd hd cd pend kpd => ?_⟩
        refine ⟨vd, td, _, rfl, hd, fun He se => ?_⟩
        rw [ch_fm cd]
        have hle := se _ _ (kpd _ _ npl hl8)
        refine ⟨l, _, _, rfl, rfl, hle, sl_lt (by show 1 ≤ 1000; decide), ?_⟩
        have hlf : upd He l (.lst ([.bl (decide ((m : Int) < 25))] ++ [.bl (decide ((dn : Int) < 9))])) l = some (.lst [.bl (decide ((m : Int) < 25)), .bl (decide ((dn : Int) < 9))]) := upd_same
        generalize upd He l (.lst ([.bl (decide ((m : Int) < 25))] ++ [.bl (decide ((dn : Int) < 9))])) = Hf at *
        refine ⟨_, rfl, l, rfl, ⟨_, SqL.of hlf⟩, fun D hD => ?_⟩
        have sD : ∀ ws, Same Hf (upd Hf D (.lst ws)) := fun ws => Same.new hD
        refine ⟨fun i mm H4 => mm = 2 - i ∧ i ≤ 2 ∧ H4 = upd Hf D (.lst (List.replicate i (.bl true))), ⟨2, rfl, by decide, rfl⟩, ?_⟩
        rintro i mm H4 ⟨rfl, hi, rfl⟩
        by_cases hlt : i < 2
        · obtain ⟨bb, hbb⟩ : ∃ bb : Bool, [V.bl (decide ((m : Int) < 25)), V.bl (decide ((dn : Int) < 9))][i]? = some (.bl bb) := by
            match i, hlt with
            | 0, _ => exact ⟨_, rfl⟩
            | 1, _ => exact ⟨_, rfl⟩
          refine .inr ⟨⟨_, _, SqL.of (sD _ _ _ hlf), hbb⟩, fun x H' y => ?_⟩
          obtain ⟨e, y⟩ := y
          subst e
          have hx := y _ (SqL.of (sD _ _ _ hlf))
          rw [hbb] at hx
          cases hx
          refine ⟨_, rfl, _, _, _, _, true, rfl, .bl _, rfl, (fun _ => .inr trivial), T.ki_bool_bool, _, upd_same, sl_lt (by rw [List.length_replicate]; omega), 2 - (i + 1), (by omega), rfl, hlt, ?_⟩
          rw [upd_upd, List.replicate_succ']
        have ei : i = 2 := by omega
        subst ei
        refine .inl ⟨⟨_, SqL.of (sD _ _ _ hlf), Nat.le_refl _⟩, ?_⟩
        refine ⟨D, _, rfl, .inl (SqL.of upd_same), rfl, rfl, false, rfl, iteF ?_⟩
        have hlg := sD (List.replicate 2 (.bl true)) _ _ hlf
        generalize upd Hf D (.lst (List.replicate 2 (.bl true))) = Hg at *
        refine ⟨_, rfl, _, rfl, _, _, rfl, rfl, _, rfl, _, _, rfl, rfl, two_le, fun l3 hl3 => ?_⟩
        have sh := Same.new (o := .lst [.bl (decide ((m : Int) < 25)), .bl (decide ((dn : Int) < 9))]) hl3
        refine ⟨l, l3, _, _, 0, rfl, rfl, SqL.of (sh _ _ hlg), SqL.of upd_same, rfl, (by decide), fun j u v' e1 e2 => ?_, k _⟩
        rw [e1] at e2
        cases e2
        match j, e1 with
        | 0, e1 => cases e1; exact .fl rfl
        | 1, e1 => cases e1; exact .fl rfl
        | j + 2, e1 => simp at e1
end
theorem all_mk {l : PySem.W.OpenLaw} {w : World} {K : PySem.W.Frag} {h : Heap} {mg : Str → Option Value} {fa : Addr} (X : K.In h) (G : h.Ns mainGlobals mg) (hfa : mg "law" = some (.ref fa))
    {u_LETTERS : Value} {u_LONGEST_NAME : Value} {u_LAST_ROW : Value} {u_LAST_COLUMN : Value} {u_SIGNS : Value} {w_FAULTS : Addr} {o_FAULTS : Obj} {u_MOST_SIGNS : Value} {u_GREATEST_WHOLE : Value} {u_MOST_PARTS : Value} {u_MOST_DEEP : Value} {u_MOST_OWN_PARTS : Value} {u_MOST_PARAMS : Value} {u_GREATEST_WRITTEN : Value} {w_WORDS : Addr} {o_WORDS : Obj} {w_OP_SIGNS : Addr} {o_OP_SIGNS : Obj} {w_SUMIF_SIGNS : Addr} {o_SUMIF_SIGNS : Obj} {w_LENGTHS : Addr} {o_LENGTHS : Obj} {w_PART_PLACES : Addr} {o_PART_PLACES : Obj} {f0 f1 f2 f3 f4 f5 f6 f7 f8 f9 f10 f11 f12 f13 f14 f15 f16 f17 f18 f19 f20 f21 f22 f23 f24 f25 f26 f27 f28 f29 f30 f31 f32 f33 f34 f35 f36 f37 f38 f39 f40 f41 f42 f43 f44 f45 f46 f47 f48 f49 f50 f51 f52 : Addr} {od0 an0 od1 an1 od2 an2 od3 an3 od4 an4 od5 an5 od6 an6 od7 an7 od8 an8 od9 an9 od10 an10 od11 an11 od12 an12 od13 an13 od14 an14 od15 an15 od16 an16 od17 an17 od18 an18 od19 an19 od20 an20 od21 an21 od22 an22 od23 an23 od24 an24 od25 an25 od26 an26 od27 an27 od28 an28 od29 an29 od30 an30 od31 an31 od32 an32 od33 an33 od34 an34 od35 an35 od36 an36 od37 an37 od38 an38 od39 an39 od40 an40 od41 an41 od42 an42 od43 an43 od44 an44 od45 an45 od46 an46 od47 an47 od48 an48 od49 an49 od50 an50 od51 an51 od52 an52 : Option Addr} {sl0 sl1 sl2 sl3 sl4 sl5 sl6 sl7 sl8 sl9 sl10 sl11 sl12 sl13 sl14 sl15 sl16 sl17 sl18 sl19 sl20 sl21 sl22 sl23 sl24 sl25 sl26 sl27 sl28 sl29 sl30 sl31 sl32 sl33 sl34 sl35 sl36 sl37 sl38 sl39 sl40 sl41 sl42 sl43 sl44 sl45 sl46 sl47 sl48 sl49 sl50 sl51 sl52 : Array (Option Value)} {oc0 kV0 dc0 pm0 cd0 ct0 oc1 kV1 dc1 pm1 cd1 ct1 oc2 kV2 dc2 pm2 cd2 ct2 oc3 kV3 dc3 pm3 cd3 ct3 oc4 kV4 dc4 pm4 cd4 ct4 oc5 kV5 dc5 pm5 cd5 ct5 oc6 kV6 dc6 pm6 cd6 ct6 oc7 kV7 dc7 pm7 cd7 ct7 oc8 kV8 dc8 pm8 cd8 ct8 oc9 kV9 dc9 pm9 cd9 ct9 oc10 kV10 dc10 pm10 cd10 ct10 oc11 kV11 dc11 pm11 cd11 ct11 oc12 kV12 dc12 pm12 cd12 ct12 oc13 kV13 dc13 pm13 cd13 ct13 oc14 kV14 dc14 pm14 cd14 ct14 oc15 kV15 dc15 pm15 cd15 ct15 oc16 kV16 dc16 pm16 cd16 ct16 oc17 kV17 dc17 pm17 cd17 ct17 oc18 kV18 dc18 pm18 cd18 ct18 oc19 kV19 dc19 pm19 cd19 ct19 oc20 kV20 dc20 pm20 cd20 ct20 oc21 kV21 dc21 pm21 cd21 ct21 oc22 kV22 dc22 pm22 cd22 ct22 oc23 kV23 dc23 pm23 cd23 ct23 oc24 kV24 dc24 pm24 cd24 ct24 oc25 kV25 dc25 pm25 cd25 ct25 oc26 kV26 dc26 pm26 cd26 ct26 oc27 kV27 dc27 pm27 cd27 ct27 oc28 kV28 dc28 pm28 cd28 ct28 oc29 kV29 dc29 pm29 cd29 ct29 oc30 kV30 dc30 pm30 cd30 ct30 oc31 kV31 dc31 pm31 cd31 ct31 oc32 kV32 dc32 pm32 cd32 ct32 oc33 kV33 dc33 pm33 cd33 ct33 oc34 kV34 dc34 pm34 cd34 ct34 oc35 kV35 dc35 pm35 cd35 ct35 oc36 kV36 dc36 pm36 cd36 ct36 oc37 kV37 dc37 pm37 cd37 ct37 oc38 kV38 dc38 pm38 cd38 ct38 oc39 kV39 dc39 pm39 cd39 ct39 oc40 kV40 dc40 pm40 cd40 ct40 oc41 kV41 dc41 pm41 cd41 ct41 oc42 kV42 dc42 pm42 cd42 ct42 oc43 kV43 dc43 pm43 cd43 ct43 oc44 kV44 dc44 pm44 cd44 ct44 oc45 kV45 dc45 pm45 cd45 ct45 oc46 kV46 dc46 pm46 cd46 ct46 oc47 kV47 dc47 pm47 cd47 ct47 oc48 kV48 dc48 pm48 cd48 ct48 oc49 kV49 dc49 pm49 cd49 ct49 oc50 kV50 dc50 pm50 cd50 ct50 oc51 kV51 dc51 pm51 cd51 ct51 oc52 kV52 dc52 pm52 cd52 ct52 : Value}
    (a0 : PySem.W.nsIn K mainGlobals "is_whole" = some (some (.ref f0))) (l0 : K.lookup f0 = some ⟨oc0, od0, .func (PySem.W.fnOf "is_whole" "is_whole" (defArgs s_is_whole) (defBody s_is_whole) (defScope s_is_whole) .none kV0 dc0 pm0 an0 cd0 ct0), sl0⟩) (c0 : PySem.W.codeIn K cd0 "is_whole" = true) (k0 : PySem.W.keepIn K (.ref f0) = true)
    (a1 : PySem.W.nsIn K mainGlobals "greatest_divisor" = some (some (.ref f1))) (l1 : K.lookup f1 = some ⟨oc1, od1, .func (PySem.W.fnOf "greatest_divisor" "greatest_divisor" (defArgs s_greatest_divisor) (defBody s_greatest_divisor) (defScope s_greatest_divisor) .none kV1 dc1 pm1 an1 cd1 ct1), sl1⟩) (c1 : PySem.W.codeIn K cd1 "greatest_divisor" = true) (k1 : PySem.W.keepIn K (.ref f1) = true)
    (a2 : PySem.W.nsIn K mainGlobals "is_number" = some (some (.ref f2))) (l2 : K.lookup f2 = some ⟨oc2, od2, .func (PySem.W.fnOf "is_number" "is_number" (defArgs s_is_number) (defBody s_is_number) (defScope s_is_number) .none kV2 dc2 pm2 an2 cd2 ct2), sl2⟩) (c2 : PySem.W.codeIn K cd2 "is_number" = true) (k2 : PySem.W.keepIn K (.ref f2) = true)
    (a3 : PySem.W.nsIn K mainGlobals "is_sheet_name" = some (some (.ref f3))) (l3 : K.lookup f3 = some ⟨oc3, od3, .func (PySem.W.fnOf "is_sheet_name" "is_sheet_name" (defArgs s_is_sheet_name) (defBody s_is_sheet_name) (defScope s_is_sheet_name) .none kV3 dc3 pm3 an3 cd3 ct3), sl3⟩) (c3 : PySem.W.codeIn K cd3 "is_sheet_name" = true) (k3 : PySem.W.keepIn K (.ref f3) = true)
    (a4 : PySem.W.nsIn K mainGlobals "is_within" = some (some (.ref f4))) (l4 : K.lookup f4 = some ⟨oc4, od4, .func (PySem.W.fnOf "is_within" "is_within" (defArgs s_is_within) (defBody s_is_within) (defScope s_is_within) .none kV4 dc4 pm4 an4 cd4 ct4), sl4⟩) (c4 : PySem.W.codeIn K cd4 "is_within" = true) (k4 : PySem.W.keepIn K (.ref f4) = true)
    (a5 : PySem.W.nsIn K mainGlobals "is_cell" = some (some (.ref f5))) (l5 : K.lookup f5 = some ⟨oc5, od5, .func (PySem.W.fnOf "is_cell" "is_cell" (defArgs s_is_cell) (defBody s_is_cell) (defScope s_is_cell) .none kV5 dc5 pm5 an5 cd5 ct5), sl5⟩) (c5 : PySem.W.codeIn K cd5 "is_cell" = true) (k5 : PySem.W.keepIn K (.ref f5) = true)
    (a6 : PySem.W.nsIn K mainGlobals "has_few_figures" = some (some (.ref f6))) (l6 : K.lookup f6 = some ⟨oc6, od6, .func (PySem.W.fnOf "has_few_figures" "has_few_figures" (defArgs s_has_few_figures) (defBody s_has_few_figures) (defScope s_has_few_figures) .none kV6 dc6 pm6 an6 cd6 ct6), sl6⟩) (c6 : PySem.W.codeIn K cd6 "has_few_figures" = true) (k6 : PySem.W.keepIn K (.ref f6) = true)
    (a7 : PySem.W.nsIn K mainGlobals "is_short_number" = some (some (.ref f7))) (l7 : K.lookup f7 = some ⟨oc7, od7, .func (PySem.W.fnOf "is_short_number" "is_short_number" (defArgs s_is_short_number) (defBody s_is_short_number) (defScope s_is_short_number) .none kV7 dc7 pm7 an7 cd7 ct7), sl7⟩) (c7 : PySem.W.codeIn K cd7 "is_short_number" = true) (k7 : PySem.W.keepIn K (.ref f7) = true)
    (a8 : PySem.W.nsIn K mainGlobals "is_text" = some (some (.ref f8))) (l8 : K.lookup f8 = some ⟨oc8, od8, .func (PySem.W.fnOf "is_text" "is_text" (defArgs s_is_text) (defBody s_is_text) (defScope s_is_text) .none kV8 dc8 pm8 an8 cd8 ct8), sl8⟩) (c8 : PySem.W.codeIn K cd8 "is_text" = true) (k8 : PySem.W.keepIn K (.ref f8) = true)
    (a9 : PySem.W.nsIn K mainGlobals "is_fault_word" = some (some (.ref f9))) (l9 : K.lookup f9 = some ⟨oc9, od9, .func (PySem.W.fnOf "is_fault_word" "is_fault_word" (defArgs s_is_fault_word) (defBody s_is_fault_word) (defScope s_is_fault_word) .none kV9 dc9 pm9 an9 cd9 ct9), sl9⟩) (c9 : PySem.W.codeIn K cd9 "is_fault_word" = true) (k9 : PySem.W.keepIn K (.ref f9) = true)
    (a10 : PySem.W.nsIn K mainGlobals "is_value" = some (some (.ref f10))) (l10 : K.lookup f10 = some ⟨oc10, od10, .func (PySem.W.fnOf "is_value" "is_value" (defArgs s_is_value) (defBody s_is_value) (defScope s_is_value) .none kV10 dc10 pm10 an10 cd10 ct10), sl10⟩) (c10 : PySem.W.codeIn K cd10 "is_value" = true) (k10 : PySem.W.keepIn K (.ref f10) = true)
    (a11 : PySem.W.nsIn K mainGlobals "parts_of" = some (some (.ref f11))) (l11 : K.lookup f11 = some ⟨oc11, od11, .func (PySem.W.fnOf "parts_of" "parts_of" (defArgs s_parts_of) (defBody s_parts_of) (defScope s_parts_of) .none kV11 dc11 pm11 an11 cd11 ct11), sl11⟩) (c11 : PySem.W.codeIn K cd11 "parts_of" = true) (k11 : PySem.W.keepIn K (.ref f11) = true)
    (a12 : PySem.W.nsIn K mainGlobals "all_parts" = some (some (.ref f12))) (l12 : K.lookup f12 = some ⟨oc12, od12, .func (PySem.W.fnOf "all_parts" "all_parts" (defArgs s_all_parts) (defBody s_all_parts) (defScope s_all_parts) .none kV12 dc12 pm12 an12 cd12 ct12), sl12⟩) (c12 : PySem.W.codeIn K cd12 "all_parts" = true) (k12 : PySem.W.keepIn K (.ref f12) = true)
    (a13 : PySem.W.nsIn K mainGlobals "count_parts" = some (some (.ref f13))) (l13 : K.lookup f13 = some ⟨oc13, od13, .func (PySem.W.fnOf "count_parts" "count_parts" (defArgs s_count_parts) (defBody s_count_parts) (defScope s_count_parts) .none kV13 dc13 pm13 an13 cd13 ct13), sl13⟩) (c13 : PySem.W.codeIn K cd13 "count_parts" = true) (k13 : PySem.W.keepIn K (.ref f13) = true)
    (a14 : PySem.W.nsIn K mainGlobals "is_formula_name" = some (some (.ref f14))) (l14 : K.lookup f14 = some ⟨oc14, od14, .func (PySem.W.fnOf "is_formula_name" "is_formula_name" (defArgs s_is_formula_name) (defBody s_is_formula_name) (defScope s_is_formula_name) .none kV14 dc14 pm14 an14 cd14 ct14), sl14⟩) (c14 : PySem.W.codeIn K cd14 "is_formula_name" = true) (k14 : PySem.W.keepIn K (.ref f14) = true)
    (a15 : PySem.W.nsIn K mainGlobals "is_one_of" = some (some (.ref f15))) (l15 : K.lookup f15 = some ⟨oc15, od15, .func (PySem.W.fnOf "is_one_of" "is_one_of" (defArgs s_is_one_of) (defBody s_is_one_of) (defScope s_is_one_of) .none kV15 dc15 pm15 an15 cd15 ct15), sl15⟩) (c15 : PySem.W.codeIn K cd15 "is_one_of" = true) (k15 : PySem.W.keepIn K (.ref f15) = true)
    (a16 : PySem.W.nsIn K mainGlobals "is_written_value" = some (some (.ref f16))) (l16 : K.lookup f16 = some ⟨oc16, od16, .func (PySem.W.fnOf "is_written_value" "is_written_value" (defArgs s_is_written_value) (defBody s_is_written_value) (defScope s_is_written_value) .none kV16 dc16 pm16 an16 cd16 ct16), sl16⟩) (c16 : PySem.W.codeIn K cd16 "is_written_value" = true) (k16 : PySem.W.keepIn K (.ref f16) = true)
    (a17 : PySem.W.nsIn K mainGlobals "is_sheet_or_none" = some (some (.ref f17))) (l17 : K.lookup f17 = some ⟨oc17, od17, .func (PySem.W.fnOf "is_sheet_or_none" "is_sheet_or_none" (defArgs s_is_sheet_or_none) (defBody s_is_sheet_or_none) (defScope s_is_sheet_or_none) .none kV17 dc17 pm17 an17 cd17 ct17), sl17⟩) (c17 : PySem.W.codeIn K cd17 "is_sheet_or_none" = true) (k17 : PySem.W.keepIn K (.ref f17) = true)
    (a18 : PySem.W.nsIn K mainGlobals "is_corner" = some (some (.ref f18))) (l18 : K.lookup f18 = some ⟨oc18, od18, .func (PySem.W.fnOf "is_corner" "is_corner" (defArgs s_is_corner) (defBody s_is_corner) (defScope s_is_corner) .none kV18 dc18 pm18 an18 cd18 ct18), sl18⟩) (c18 : PySem.W.codeIn K cd18 "is_corner" = true) (k18 : PySem.W.keepIn K (.ref f18) = true)
    (a19 : PySem.W.nsIn K mainGlobals "is_column_end" = some (some (.ref f19))) (l19 : K.lookup f19 = some ⟨oc19, od19, .func (PySem.W.fnOf "is_column_end" "is_column_end" (defArgs s_is_column_end) (defBody s_is_column_end) (defScope s_is_column_end) .none kV19 dc19 pm19 an19 cd19 ct19), sl19⟩) (c19 : PySem.W.codeIn K cd19 "is_column_end" = true) (k19 : PySem.W.keepIn K (.ref f19) = true)
    (a20 : PySem.W.nsIn K mainGlobals "is_reference" = some (some (.ref f20))) (l20 : K.lookup f20 = some ⟨oc20, od20, .func (PySem.W.fnOf "is_reference" "is_reference" (defArgs s_is_reference) (defBody s_is_reference) (defScope s_is_reference) .none kV20 dc20 pm20 an20 cd20 ct20), sl20⟩) (c20 : PySem.W.codeIn K cd20 "is_reference" = true) (k20 : PySem.W.keepIn K (.ref f20) = true)
    (a21 : PySem.W.nsIn K mainGlobals "is_called" = some (some (.ref f21))) (l21 : K.lookup f21 = some ⟨oc21, od21, .func (PySem.W.fnOf "is_called" "is_called" (defArgs s_is_called) (defBody s_is_called) (defScope s_is_called) .none kV21 dc21 pm21 an21 cd21 ct21), sl21⟩) (c21 : PySem.W.codeIn K cd21 "is_called" = true) (k21 : PySem.W.keepIn K (.ref f21) = true)
    (a22 : PySem.W.nsIn K mainGlobals "is_param" = some (some (.ref f22))) (l22 : K.lookup f22 = some ⟨oc22, od22, .func (PySem.W.fnOf "is_param" "is_param" (defArgs s_is_param) (defBody s_is_param) (defScope s_is_param) .none kV22 dc22 pm22 an22 cd22 ct22), sl22⟩) (c22 : PySem.W.codeIn K cd22 "is_param" = true) (k22 : PySem.W.keepIn K (.ref f22) = true)
    (a23 : PySem.W.nsIn K mainGlobals "has_form" = some (some (.ref f23))) (l23 : K.lookup f23 = some ⟨oc23, od23, .func (PySem.W.fnOf "has_form" "has_form" (defArgs s_has_form) (defBody s_has_form) (defScope s_has_form) .none kV23 dc23 pm23 an23 cd23 ct23), sl23⟩) (c23 : PySem.W.codeIn K cd23 "has_form" = true) (k23 : PySem.W.keepIn K (.ref f23) = true)
    (a24 : PySem.W.nsIn K mainGlobals "is_tree" = some (some (.ref f24))) (l24 : K.lookup f24 = some ⟨oc24, od24, .func (PySem.W.fnOf "is_tree" "is_tree" (defArgs s_is_tree) (defBody s_is_tree) (defScope s_is_tree) .none kV24 dc24 pm24 an24 cd24 ct24), sl24⟩) (c24 : PySem.W.codeIn K cd24 "is_tree" = true) (k24 : PySem.W.keepIn K (.ref f24) = true)
    (a25 : PySem.W.nsIn K mainGlobals "is_formula" = some (some (.ref f25))) (l25 : K.lookup f25 = some ⟨oc25, od25, .func (PySem.W.fnOf "is_formula" "is_formula" (defArgs s_is_formula) (defBody s_is_formula) (defScope s_is_formula) .none kV25 dc25 pm25 an25 cd25 ct25), sl25⟩) (c25 : PySem.W.codeIn K cd25 "is_formula" = true) (k25 : PySem.W.keepIn K (.ref f25) = true)
    (a26 : PySem.W.nsIn K mainGlobals "_law_pen" = some (some (.ref f26))) (l26 : K.lookup f26 = some ⟨oc26, od26, .func (PySem.W.fnOf "_law_pen" "_law_pen" (defArgs s__law_pen) (defBody s__law_pen) (defScope s__law_pen) .none kV26 dc26 pm26 an26 cd26 ct26), sl26⟩) (c26 : PySem.W.codeIn K cd26 "_law_pen" = true) (k26 : PySem.W.keepIn K (.ref f26) = true)
    (a27 : PySem.W.nsIn K mainGlobals "_law_take" = some (some (.ref f27))) (l27 : K.lookup f27 = some ⟨oc27, od27, .func (PySem.W.fnOf "_law_take" "_law_take" (defArgs s__law_take) (defBody s__law_take) (defScope s__law_take) .none kV27 dc27 pm27 an27 cd27 ct27), sl27⟩) (c27 : PySem.W.codeIn K cd27 "_law_take" = true) (k27 : PySem.W.keepIn K (.ref f27) = true)
    (a28 : PySem.W.nsIn K mainGlobals "_law_letters" = some (some (.ref f28))) (l28 : K.lookup f28 = some ⟨oc28, od28, .func (PySem.W.fnOf "_law_letters" "_law_letters" (defArgs s__law_letters) (defBody s__law_letters) (defScope s__law_letters) .none kV28 dc28 pm28 an28 cd28 ct28), sl28⟩) (c28 : PySem.W.codeIn K cd28 "_law_letters" = true) (k28 : PySem.W.keepIn K (.ref f28) = true)
    (a29 : PySem.W.nsIn K mainGlobals "_law_sheet" = some (some (.ref f29))) (l29 : K.lookup f29 = some ⟨oc29, od29, .func (PySem.W.fnOf "_law_sheet" "_law_sheet" (defArgs s__law_sheet) (defBody s__law_sheet) (defScope s__law_sheet) .none kV29 dc29 pm29 an29 cd29 ct29), sl29⟩) (c29 : PySem.W.codeIn K cd29 "_law_sheet" = true) (k29 : PySem.W.keepIn K (.ref f29) = true)
    (a30 : PySem.W.nsIn K mainGlobals "_law_corner" = some (some (.ref f30))) (l30 : K.lookup f30 = some ⟨oc30, od30, .func (PySem.W.fnOf "_law_corner" "_law_corner" (defArgs s__law_corner) (defBody s__law_corner) (defScope s__law_corner) .none kV30 dc30 pm30 an30 cd30 ct30), sl30⟩) (c30 : PySem.W.codeIn K cd30 "_law_corner" = true) (k30 : PySem.W.keepIn K (.ref f30) = true)
    (a31 : PySem.W.nsIn K mainGlobals "_law_reference" = some (some (.ref f31))) (l31 : K.lookup f31 = some ⟨oc31, od31, .func (PySem.W.fnOf "_law_reference" "_law_reference" (defArgs s__law_reference) (defBody s__law_reference) (defScope s__law_reference) .none kV31 dc31 pm31 an31 cd31 ct31), sl31⟩) (c31 : PySem.W.codeIn K cd31 "_law_reference" = true) (k31 : PySem.W.keepIn K (.ref f31) = true)
    (a32 : PySem.W.nsIn K mainGlobals "_law_value" = some (some (.ref f32))) (l32 : K.lookup f32 = some ⟨oc32, od32, .func (PySem.W.fnOf "_law_value" "_law_value" (defArgs s__law_value) (defBody s__law_value) (defScope s__law_value) .none kV32 dc32 pm32 an32 cd32 ct32), sl32⟩) (c32 : PySem.W.codeIn K cd32 "_law_value" = true) (k32 : PySem.W.keepIn K (.ref f32) = true)
    (a33 : PySem.W.nsIn K mainGlobals "_law_leaf" = some (some (.ref f33))) (l33 : K.lookup f33 = some ⟨oc33, od33, .func (PySem.W.fnOf "_law_leaf" "_law_leaf" (defArgs s__law_leaf) (defBody s__law_leaf) (defScope s__law_leaf) .none kV33 dc33 pm33 an33 cd33 ct33), sl33⟩) (c33 : PySem.W.codeIn K cd33 "_law_leaf" = true) (k33 : PySem.W.keepIn K (.ref f33) = true)
    (a34 : PySem.W.nsIn K mainGlobals "_law_frame" = some (some (.ref f34))) (l34 : K.lookup f34 = some ⟨oc34, od34, .func (PySem.W.fnOf "_law_frame" "_law_frame" (defArgs s__law_frame) (defBody s__law_frame) (defScope s__law_frame) .none kV34 dc34 pm34 an34 cd34 ct34), sl34⟩) (c34 : PySem.W.codeIn K cd34 "_law_frame" = true) (k34 : PySem.W.keepIn K (.ref f34) = true)
    (a35 : PySem.W.nsIn K mainGlobals "_law_made" = some (some (.ref f35))) (l35 : K.lookup f35 = some ⟨oc35, od35, .func (PySem.W.fnOf "_law_made" "_law_made" (defArgs s__law_made) (defBody s__law_made) (defScope s__law_made) .none kV35 dc35 pm35 an35 cd35 ct35), sl35⟩) (c35 : PySem.W.codeIn K cd35 "_law_made" = true) (k35 : PySem.W.keepIn K (.ref f35) = true)
    (a36 : PySem.W.nsIn K mainGlobals "_law_grown" = some (some (.ref f36))) (l36 : K.lookup f36 = some ⟨oc36, od36, .func (PySem.W.fnOf "_law_grown" "_law_grown" (defArgs s__law_grown) (defBody s__law_grown) (defScope s__law_grown) .none kV36 dc36 pm36 an36 cd36 ct36), sl36⟩) (c36 : PySem.W.codeIn K cd36 "_law_grown" = true) (k36 : PySem.W.keepIn K (.ref f36) = true)
    (a37 : PySem.W.nsIn K mainGlobals "_law_column" = some (some (.ref f37))) (l37 : K.lookup f37 = some ⟨oc37, od37, .func (PySem.W.fnOf "_law_column" "_law_column" (defArgs s__law_column) (defBody s__law_column) (defScope s__law_column) .none kV37 dc37 pm37 an37 cd37 ct37), sl37⟩) (c37 : PySem.W.codeIn K cd37 "_law_column" = true) (k37 : PySem.W.keepIn K (.ref f37) = true)
    (a38 : PySem.W.nsIn K mainGlobals "_law_corner_text" = some (some (.ref f38))) (l38 : K.lookup f38 = some ⟨oc38, od38, .func (PySem.W.fnOf "_law_corner_text" "_law_corner_text" (defArgs s__law_corner_text) (defBody s__law_corner_text) (defScope s__law_corner_text) .none kV38 dc38 pm38 an38 cd38 ct38), sl38⟩) (c38 : PySem.W.codeIn K cd38 "_law_corner_text" = true) (k38 : PySem.W.keepIn K (.ref f38) = true)
    (a39 : PySem.W.nsIn K mainGlobals "_law_leaf_text" = some (some (.ref f39))) (l39 : K.lookup f39 = some ⟨oc39, od39, .func (PySem.W.fnOf "_law_leaf_text" "_law_leaf_text" (defArgs s__law_leaf_text) (defBody s__law_leaf_text) (defScope s__law_leaf_text) .none kV39 dc39 pm39 an39 cd39 ct39), sl39⟩) (c39 : PySem.W.codeIn K cd39 "_law_leaf_text" = true) (k39 : PySem.W.keepIn K (.ref f39) = true)
    (a40 : PySem.W.nsIn K mainGlobals "_law_parts" = some (some (.ref f40))) (l40 : K.lookup f40 = some ⟨oc40, od40, .func (PySem.W.fnOf "_law_parts" "_law_parts" (defArgs s__law_parts) (defBody s__law_parts) (defScope s__law_parts) .none kV40 dc40 pm40 an40 cd40 ct40), sl40⟩) (c40 : PySem.W.codeIn K cd40 "_law_parts" = true) (k40 : PySem.W.keepIn K (.ref f40) = true)
    (a41 : PySem.W.nsIn K mainGlobals "_law_tight" = some (some (.ref f41))) (l41 : K.lookup f41 = some ⟨oc41, od41, .func (PySem.W.fnOf "_law_tight" "_law_tight" (defArgs s__law_tight) (defBody s__law_tight) (defScope s__law_tight) .none kV41 dc41 pm41 an41 cd41 ct41), sl41⟩) (c41 : PySem.W.codeIn K cd41 "_law_tight" = true) (k41 : PySem.W.keepIn K (.ref f41) = true)
    (a42 : PySem.W.nsIn K mainGlobals "_law_placed" = some (some (.ref f42))) (l42 : K.lookup f42 = some ⟨oc42, od42, .func (PySem.W.fnOf "_law_placed" "_law_placed" (defArgs s__law_placed) (defBody s__law_placed) (defScope s__law_placed) .none kV42 dc42 pm42 an42 cd42 ct42), sl42⟩) (c42 : PySem.W.codeIn K cd42 "_law_placed" = true) (k42 : PySem.W.keepIn K (.ref f42) = true)
    (a43 : PySem.W.nsIn K mainGlobals "_law_bare" = some (some (.ref f43))) (l43 : K.lookup f43 = some ⟨oc43, od43, .func (PySem.W.fnOf "_law_bare" "_law_bare" (defArgs s__law_bare) (defBody s__law_bare) (defScope s__law_bare) .none kV43 dc43 pm43 an43 cd43 ct43), sl43⟩) (c43 : PySem.W.codeIn K cd43 "_law_bare" = true) (k43 : PySem.W.keepIn K (.ref f43) = true)
    (a44 : PySem.W.nsIn K mainGlobals "_law_written" = some (some (.ref f44))) (l44 : K.lookup f44 = some ⟨oc44, od44, .func (PySem.W.fnOf "_law_written" "_law_written" (defArgs s__law_written) (defBody s__law_written) (defScope s__law_written) .none kV44 dc44 pm44 an44 cd44 ct44), sl44⟩) (c44 : PySem.W.codeIn K cd44 "_law_written" = true) (k44 : PySem.W.keepIn K (.ref f44) = true)
    (a45 : PySem.W.nsIn K mainGlobals "_law_formula" = some (some (.ref f45))) (l45 : K.lookup f45 = some ⟨oc45, od45, .func (PySem.W.fnOf "_law_formula" "_law_formula" (defArgs s__law_formula) (defBody s__law_formula) (defScope s__law_formula) .none kV45 dc45 pm45 an45 cd45 ct45), sl45⟩) (c45 : PySem.W.codeIn K cd45 "_law_formula" = true) (k45 : PySem.W.keepIn K (.ref f45) = true)
    (a46 : PySem.W.nsIn K mainGlobals "_law_bad_leaves" = some (some (.ref f46))) (l46 : K.lookup f46 = some ⟨oc46, od46, .func (PySem.W.fnOf "_law_bad_leaves" "_law_bad_leaves" (defArgs s__law_bad_leaves) (defBody s__law_bad_leaves) (defScope s__law_bad_leaves) .none kV46 dc46 pm46 an46 cd46 ct46), sl46⟩) (c46 : PySem.W.codeIn K cd46 "_law_bad_leaves" = true) (k46 : PySem.W.keepIn K (.ref f46) = true)
    (a47 : PySem.W.nsIn K mainGlobals "_law_bad_frames" = some (some (.ref f47))) (l47 : K.lookup f47 = some ⟨oc47, od47, .func (PySem.W.fnOf "_law_bad_frames" "_law_bad_frames" (defArgs s__law_bad_frames) (defBody s__law_bad_frames) (defScope s__law_bad_frames) .none kV47 dc47 pm47 an47 cd47 ct47), sl47⟩) (c47 : PySem.W.codeIn K cd47 "_law_bad_frames" = true) (k47 : PySem.W.keepIn K (.ref f47) = true)
    (a48 : PySem.W.nsIn K mainGlobals "_law_bad" = some (some (.ref f48))) (l48 : K.lookup f48 = some ⟨oc48, od48, .func (PySem.W.fnOf "_law_bad" "_law_bad" (defArgs s__law_bad) (defBody s__law_bad) (defScope s__law_bad) .none kV48 dc48 pm48 an48 cd48 ct48), sl48⟩) (c48 : PySem.W.codeIn K cd48 "_law_bad" = true) (k48 : PySem.W.keepIn K (.ref f48) = true)
    (a49 : PySem.W.nsIn K mainGlobals "_law_sized" = some (some (.ref f49))) (l49 : K.lookup f49 = some ⟨oc49, od49, .func (PySem.W.fnOf "_law_sized" "_law_sized" (defArgs s__law_sized) (defBody s__law_sized) (defScope s__law_sized) .none kV49 dc49 pm49 an49 cd49 ct49), sl49⟩) (c49 : PySem.W.codeIn K cd49 "_law_sized" = true) (k49 : PySem.W.keepIn K (.ref f49) = true)
    (a50 : PySem.W.nsIn K mainGlobals "_law_deep" = some (some (.ref f50))) (l50 : K.lookup f50 = some ⟨oc50, od50, .func (PySem.W.fnOf "_law_deep" "_law_deep" (defArgs s__law_deep) (defBody s__law_deep) (defScope s__law_deep) .none kV50 dc50 pm50 an50 cd50 ct50), sl50⟩) (c50 : PySem.W.codeIn K cd50 "_law_deep" = true) (k50 : PySem.W.keepIn K (.ref f50) = true)
    (a51 : PySem.W.nsIn K mainGlobals "_law_most_param" = some (some (.ref f51))) (l51 : K.lookup f51 = some ⟨oc51, od51, .func (PySem.W.fnOf "_law_most_param" "_law_most_param" (defArgs s__law_most_param) (defBody s__law_most_param) (defScope s__law_most_param) .none kV51 dc51 pm51 an51 cd51 ct51), sl51⟩) (c51 : PySem.W.codeIn K cd51 "_law_most_param" = true) (k51 : PySem.W.keepIn K (.ref f51) = true)
    (a52 : PySem.W.nsIn K mainGlobals "law" = some (some (.ref f52))) (l52 : K.lookup f52 = some ⟨oc52, od52, .func (PySem.W.fnOf "law" "law" (defArgs s_law) (defBody s_law) (defScope s_law) .none kV52 dc52 pm52 an52 cd52 ct52), sl52⟩) (c52 : PySem.W.codeIn K cd52 "law" = true) (k52 : PySem.W.keepIn K (.ref f52) = true)
    (z_len : PySem.W.nsIn K mainGlobals "len" = some none)
    (z_range : PySem.W.nsIn K mainGlobals "range" = some none)
    (z_isinstance : PySem.W.nsIn K mainGlobals "isinstance" = some none)
    (z_int : PySem.W.nsIn K mainGlobals "int" = some none)
    (z_bool : PySem.W.nsIn K mainGlobals "bool" = some none)
    (z_tuple : PySem.W.nsIn K mainGlobals "tuple" = some none)
    (z_str : PySem.W.nsIn K mainGlobals "str" = some none)
    (z_list : PySem.W.nsIn K mainGlobals "list" = some none)
    (z_all : PySem.W.nsIn K mainGlobals "all" = some none)
    (z_abs : PySem.W.nsIn K mainGlobals "abs" = some none)
    (z_max : PySem.W.nsIn K mainGlobals "max" = some none)
    (z_min : PySem.W.nsIn K mainGlobals "min" = some none)
    (z_reversed : PySem.W.nsIn K mainGlobals "reversed" = some none)
    (g_LETTERS : PySem.W.nsIn K mainGlobals "LETTERS" = some (some u_LETTERS))
    (r_LETTERS : RelV (.str (Str.ofString "abcdefghijklmnopqrstuvwxyz")) u_LETTERS)
    (g_LONGEST_NAME : PySem.W.nsIn K mainGlobals "LONGEST_NAME" = some (some u_LONGEST_NAME))
    (r_LONGEST_NAME : RelV (.int 6) u_LONGEST_NAME)
    (g_LAST_ROW : PySem.W.nsIn K mainGlobals "LAST_ROW" = some (some u_LAST_ROW))
    (r_LAST_ROW : RelV (.int 16) u_LAST_ROW)
    (g_LAST_COLUMN : PySem.W.nsIn K mainGlobals "LAST_COLUMN" = some (some u_LAST_COLUMN))
    (r_LAST_COLUMN : RelV (.int 8) u_LAST_COLUMN)
    (g_SIGNS : PySem.W.nsIn K mainGlobals "SIGNS" = some (some u_SIGNS))
    (r_SIGNS : RelV (.str (Str.ofString "abcdefghijklmnopqrstuvwxyz0123456789 ")) u_SIGNS)
    (g_FAULTS : PySem.W.nsIn K mainGlobals "FAULTS" = some (some (.ref w_FAULTS)))
    (h_FAULTS : K.lookup w_FAULTS = some o_FAULTS)
    (r_FAULTS : o_FAULTS.cls = .type "tuple" ∧ ∃ its n, o_FAULTS.data = .seq its n ∧ its.size ≤ sizeLine ∧ Vals (faults.map V.str) its.toList)
    (g_MOST_SIGNS : PySem.W.nsIn K mainGlobals "MOST_SIGNS" = some (some u_MOST_SIGNS))
    (r_MOST_SIGNS : RelV (.int 20) u_MOST_SIGNS)
    (g_GREATEST_WHOLE : PySem.W.nsIn K mainGlobals "GREATEST_WHOLE" = some (some u_GREATEST_WHOLE))
    (r_GREATEST_WHOLE : RelV (.int 999999999999999999999999999999) u_GREATEST_WHOLE)
    (g_MOST_PARTS : PySem.W.nsIn K mainGlobals "MOST_PARTS" = some (some u_MOST_PARTS))
    (r_MOST_PARTS : RelV (.int 24) u_MOST_PARTS)
    (g_MOST_DEEP : PySem.W.nsIn K mainGlobals "MOST_DEEP" = some (some u_MOST_DEEP))
    (r_MOST_DEEP : RelV (.int 8) u_MOST_DEEP)
    (g_MOST_OWN_PARTS : PySem.W.nsIn K mainGlobals "MOST_OWN_PARTS" = some (some u_MOST_OWN_PARTS))
    (r_MOST_OWN_PARTS : RelV (.int 3) u_MOST_OWN_PARTS)
    (g_MOST_PARAMS : PySem.W.nsIn K mainGlobals "MOST_PARAMS" = some (some u_MOST_PARAMS))
    (r_MOST_PARAMS : RelV (.int 3) u_MOST_PARAMS)
    (g_GREATEST_WRITTEN : PySem.W.nsIn K mainGlobals "GREATEST_WRITTEN" = some (some u_GREATEST_WRITTEN))
    (r_GREATEST_WRITTEN : RelV (.int 999999999) u_GREATEST_WRITTEN)
    (g_WORDS : PySem.W.nsIn K mainGlobals "WORDS" = some (some (.ref w_WORDS)))
    (h_WORDS : K.lookup w_WORDS = some o_WORDS)
    (r_WORDS : o_WORDS.cls = .type "tuple" ∧ ∃ its n, o_WORDS.data = .seq its n ∧ its.size ≤ sizeLine ∧ Vals WDV its.toList)
    (g_OP_SIGNS : PySem.W.nsIn K mainGlobals "OP_SIGNS" = some (some (.ref w_OP_SIGNS)))
    (h_OP_SIGNS : K.lookup w_OP_SIGNS = some o_OP_SIGNS)
    (r_OP_SIGNS : o_OP_SIGNS.cls = .type "tuple" ∧ ∃ its n, o_OP_SIGNS.data = .seq its n ∧ its.size ≤ sizeLine ∧ Vals OPV its.toList)
    (g_SUMIF_SIGNS : PySem.W.nsIn K mainGlobals "SUMIF_SIGNS" = some (some (.ref w_SUMIF_SIGNS)))
    (h_SUMIF_SIGNS : K.lookup w_SUMIF_SIGNS = some o_SUMIF_SIGNS)
    (r_SUMIF_SIGNS : o_SUMIF_SIGNS.cls = .type "tuple" ∧ ∃ its n, o_SUMIF_SIGNS.data = .seq its n ∧ its.size ≤ sizeLine ∧ Vals SFV its.toList)
    (g_LENGTHS : PySem.W.nsIn K mainGlobals "LENGTHS" = some (some (.ref w_LENGTHS)))
    (h_LENGTHS : K.lookup w_LENGTHS = some o_LENGTHS)
    (r_LENGTHS : DicO w o_LENGTHS LENK)
    (n_LENGTHS : (w_LENGTHS == sysModules) = false)
    (g_PART_PLACES : PySem.W.nsIn K mainGlobals "PART_PLACES" = some (some (.ref w_PART_PLACES)))
    (h_PART_PLACES : K.lookup w_PART_PLACES = some o_PART_PLACES)
    (r_PART_PLACES : ∃ kvs, DicO w o_PART_PLACES kvs ∧ Paired (fun (kv : Key × V) (kt : Key × List V) => kv.1 = kt.1 ∧ ∃ a, kv.2 = .ref a ∧ ∀ H, SqT K H a kt.2) kvs PPK)
    (n_PART_PLACES : (w_PART_PLACES == sysModules) = false)
    (ki_NoneType_int : PySem.W.kitOne K (.type "NoneType") (.type "int") = some false)
    (ki_NoneType_bool : PySem.W.kitOne K (.type "NoneType") (.type "bool") = some false)
    (ki_NoneType_str : PySem.W.kitOne K (.type "NoneType") (.type "str") = some false)
    (ki_NoneType_tuple : PySem.W.kitOne K (.type "NoneType") (.type "tuple") = some false)
    (ki_bool_int : PySem.W.kitOne K (.type "bool") (.type "int") = some true)
    (ki_bool_bool : PySem.W.kitOne K (.type "bool") (.type "bool") = some true)
    (ki_bool_str : PySem.W.kitOne K (.type "bool") (.type "str") = some false)
    (ki_bool_tuple : PySem.W.kitOne K (.type "bool") (.type "tuple") = some false)
    (ki_int_int : PySem.W.kitOne K (.type "int") (.type "int") = some true)
    (ki_int_bool : PySem.W.kitOne K (.type "int") (.type "bool") = some false)
    (ki_int_str : PySem.W.kitOne K (.type "int") (.type "str") = some false)
    (ki_int_tuple : PySem.W.kitOne K (.type "int") (.type "tuple") = some false)
    (ki_str_int : PySem.W.kitOne K (.type "str") (.type "int") = some false)
    (ki_str_bool : PySem.W.kitOne K (.type "str") (.type "bool") = some false)
    (ki_str_str : PySem.W.kitOne K (.type "str") (.type "str") = some true)
    (ki_str_tuple : PySem.W.kitOne K (.type "str") (.type "tuple") = some false)
    (ki_list_int : PySem.W.kitOne K (.type "list") (.type "int") = some false)
    (ki_list_bool : PySem.W.kitOne K (.type "list") (.type "bool") = some false)
    (ki_list_str : PySem.W.kitOne K (.type "list") (.type "str") = some false)
    (ki_list_tuple : PySem.W.kitOne K (.type "list") (.type "tuple") = some false)
    (ki_dict_int : PySem.W.kitOne K (.type "dict") (.type "int") = some false)
    (ki_dict_bool : PySem.W.kitOne K (.type "dict") (.type "bool") = some false)
    (ki_dict_str : PySem.W.kitOne K (.type "dict") (.type "str") = some false)
    (ki_dict_tuple : PySem.W.kitOne K (.type "dict") (.type "tuple") = some false)
    (ki_tuple_int : PySem.W.kitOne K (.type "tuple") (.type "int") = some false)
    (ki_tuple_bool : PySem.W.kitOne K (.type "tuple") (.type "bool") = some false)
    (ki_tuple_str : PySem.W.kitOne K (.type "tuple") (.type "str") = some false)
    (ki_tuple_tuple : PySem.W.kitOne K (.type "tuple") (.type "tuple") = some true)
    (kist : PySem.W.kitOne K (.type "str") (.type "tuple") = some false)
    (kiit : PySem.W.kitOne K (.type "int") (.type "tuple") = some false)
    (kib : PySem.W.kitOne K (.type "int") (.type "bool") = some false)  :
    ∃ fd : FuncData, (∀ (s : Shared) (v : Value), BindsTo s fd ⟨[v], []⟩ [("_law_script", v)]) ∧ ∀ base : Heap, K.In base → base.Ns mainGlobals mg → FnOk l.prog w K mg base CX0 70 fa fd ["_law_script"] (spLaw K) := by
  have e := hfa.symm.trans (PySem.W.mg_of X G a52)
  cases e
  have F0 := fun_mk (st := s_is_whole) l0 c0 k0
  have b0 := F0.binds (ps := ["thing"]) fun _ _ _ _ _ _ us hl => by obtain ⟨_, rfl⟩ := len_1 hl; rfl
  have F1 := fun_mk (st := s_greatest_divisor) l1 c1 k1
  have b1 := F1.binds (ps := ["one", "other"]) fun _ _ _ _ _ _ us hl => by obtain ⟨_, _, rfl⟩ := len_2 hl; rfl
  have F2 := fun_mk (st := s_is_number) l2 c2 k2
  have b2 := F2.binds (ps := ["top", "bottom"]) fun _ _ _ _ _ _ us hl => by obtain ⟨_, _, rfl⟩ := len_2 hl; rfl
  have F3 := fun_mk (st := s_is_sheet_name) l3 c3 k3
  have b3 := F3.binds (ps := ["thing"]) fun _ _ _ _ _ _ us hl => by obtain ⟨_, rfl⟩ := len_1 hl; rfl
  have F4 := fun_mk (st := s_is_within) l4 c4 k4
  have b4 := F4.binds (ps := ["thing", "last"]) fun _ _ _ _ _ _ us hl => by obtain ⟨_, _, rfl⟩ := len_2 hl; rfl
  have F5 := fun_mk (st := s_is_cell) l5 c5 k5
  have b5 := F5.binds (ps := ["thing"]) fun _ _ _ _ _ _ us hl => by obtain ⟨_, rfl⟩ := len_1 hl; rfl
  have F6 := fun_mk (st := s_has_few_figures) l6 c6 k6
  have b6 := F6.binds (ps := ["thing"]) fun _ _ _ _ _ _ us hl => by obtain ⟨_, rfl⟩ := len_1 hl; rfl
  have F7 := fun_mk (st := s_is_short_number) l7 c7 k7
  have b7 := F7.binds (ps := ["top", "bottom"]) fun _ _ _ _ _ _ us hl => by obtain ⟨_, _, rfl⟩ := len_2 hl; rfl
  have F8 := fun_mk (st := s_is_text) l8 c8 k8
  have b8 := F8.binds (ps := ["thing"]) fun _ _ _ _ _ _ us hl => by obtain ⟨_, rfl⟩ := len_1 hl; rfl
  have F9 := fun_mk (st := s_is_fault_word) l9 c9 k9
  have b9 := F9.binds (ps := ["thing"]) fun _ _ _ _ _ _ us hl => by obtain ⟨_, rfl⟩ := len_1 hl; rfl
  have F10 := fun_mk (st := s_is_value) l10 c10 k10
  have b10 := F10.binds (ps := ["thing"]) fun _ _ _ _ _ _ us hl => by obtain ⟨_, rfl⟩ := len_1 hl; rfl
  have F11 := fun_mk (st := s_parts_of) l11 c11 k11
  have b11 := F11.binds (ps := ["formula"]) fun _ _ _ _ _ _ us hl => by obtain ⟨_, rfl⟩ := len_1 hl; rfl
  have F12 := fun_mk (st := s_all_parts) l12 c12 k12
  have b12 := F12.binds (ps := ["formula"]) fun _ _ _ _ _ _ us hl => by obtain ⟨_, rfl⟩ := len_1 hl; rfl
  have F13 := fun_mk (st := s_count_parts) l13 c13 k13
  have b13 := F13.binds (ps := ["formula"]) fun _ _ _ _ _ _ us hl => by obtain ⟨_, rfl⟩ := len_1 hl; rfl
  have F14 := fun_mk (st := s_is_formula_name) l14 c14 k14
  have b14 := F14.binds (ps := ["thing"]) fun _ _ _ _ _ _ us hl => by obtain ⟨_, rfl⟩ := len_1 hl; rfl
  have F15 := fun_mk (st := s_is_one_of) l15 c15 k15
  have b15 := F15.binds (ps := ["thing", "texts"]) fun _ _ _ _ _ _ us hl => by obtain ⟨_, _, rfl⟩ := len_2 hl; rfl
  have F16 := fun_mk (st := s_is_written_value) l16 c16 k16
  have b16 := F16.binds (ps := ["thing"]) fun _ _ _ _ _ _ us hl => by obtain ⟨_, rfl⟩ := len_1 hl; rfl
  have F17 := fun_mk (st := s_is_sheet_or_none) l17 c17 k17
  have b17 := F17.binds (ps := ["thing"]) fun _ _ _ _ _ _ us hl => by obtain ⟨_, rfl⟩ := len_1 hl; rfl
  have F18 := fun_mk (st := s_is_corner) l18 c18 k18
  have b18 := F18.binds (ps := ["thing"]) fun _ _ _ _ _ _ us hl => by obtain ⟨_, rfl⟩ := len_1 hl; rfl
  have F19 := fun_mk (st := s_is_column_end) l19 c19 k19
  have b19 := F19.binds (ps := ["thing"]) fun _ _ _ _ _ _ us hl => by obtain ⟨_, rfl⟩ := len_1 hl; rfl
  have F20 := fun_mk (st := s_is_reference) l20 c20 k20
  have b20 := F20.binds (ps := ["thing"]) fun _ _ _ _ _ _ us hl => by obtain ⟨_, rfl⟩ := len_1 hl; rfl
  have F21 := fun_mk (st := s_is_called) l21 c21 k21
  have b21 := F21.binds (ps := ["thing"]) fun _ _ _ _ _ _ us hl => by obtain ⟨_, rfl⟩ := len_1 hl; rfl
  have F22 := fun_mk (st := s_is_param) l22 c22 k22
  have b22 := F22.binds (ps := ["thing", "params"]) fun _ _ _ _ _ _ us hl => by obtain ⟨_, _, rfl⟩ := len_2 hl; rfl
  have F23 := fun_mk (st := s_has_form) l23 c23 k23
  have b23 := F23.binds (ps := ["thing", "params"]) fun _ _ _ _ _ _ us hl => by obtain ⟨_, _, rfl⟩ := len_2 hl; rfl
  have F24 := fun_mk (st := s_is_tree) l24 c24 k24
  have b24 := F24.binds (ps := ["thing", "params", "deep"]) fun _ _ _ _ _ _ us hl => by obtain ⟨_, _, _, rfl⟩ := len_3 hl; rfl
  have F25 := fun_mk (st := s_is_formula) l25 c25 k25
  have b25 := F25.binds (ps := ["thing", "params"]) fun _ _ _ _ _ _ us hl => by obtain ⟨_, _, rfl⟩ := len_2 hl; rfl
  have F26 := fun_mk (st := s__law_pen) l26 c26 k26
  have b26 := F26.binds (ps := ["_law_script"]) fun _ _ _ _ _ _ us hl => by obtain ⟨_, rfl⟩ := len_1 hl; rfl
  have F27 := fun_mk (st := s__law_take) l27 c27 k27
  have b27 := F27.binds (ps := ["_law_pen_here", "_law_amount"]) fun _ _ _ _ _ _ us hl => by obtain ⟨_, _, rfl⟩ := len_2 hl; rfl
  have F28 := fun_mk (st := s__law_letters) l28 c28 k28
  have b28 := F28.binds (ps := ["_law_pen_here", "_law_free"]) fun _ _ _ _ _ _ us hl => by obtain ⟨_, _, rfl⟩ := len_2 hl; rfl
  have F29 := fun_mk (st := s__law_sheet) l29 c29 k29
  have b29 := F29.binds (ps := ["_law_pen_here"]) fun _ _ _ _ _ _ us hl => by obtain ⟨_, rfl⟩ := len_1 hl; rfl
  have F30 := fun_mk (st := s__law_corner) l30 c30 k30
  have b30 := F30.binds (ps := ["_law_pen_here", "_law_row", "_law_column_here"]) fun _ _ _ _ _ _ us hl => by obtain ⟨_, _, _, rfl⟩ := len_3 hl; rfl
  have F31 := fun_mk (st := s__law_reference) l31 c31 k31
  have b31 := F31.binds (ps := ["_law_pen_here", "_law_way"]) fun _ _ _ _ _ _ us hl => by obtain ⟨_, _, rfl⟩ := len_2 hl; rfl
  have F32 := fun_mk (st := s__law_value) l32 c32 k32
  have b32 := F32.binds (ps := ["_law_pen_here", "_law_way"]) fun _ _ _ _ _ _ us hl => by obtain ⟨_, _, rfl⟩ := len_2 hl; rfl
  have F33 := fun_mk (st := s__law_leaf) l33 c33 k33
  have b33 := F33.binds (ps := ["_law_pen_here", "_law_params"]) fun _ _ _ _ _ _ us hl => by obtain ⟨_, _, rfl⟩ := len_2 hl; rfl
  have F34 := fun_mk (st := s__law_frame) l34 c34 k34
  have b34 := F34.binds (ps := ["_law_pen_here"]) fun _ _ _ _ _ _ us hl => by obtain ⟨_, rfl⟩ := len_1 hl; rfl
  have F35 := fun_mk (st := s__law_made) l35 c35 k35
  have b35 := F35.binds (ps := ["_law_frame_here", "_law_parts_here"]) fun _ _ _ _ _ _ us hl => by obtain ⟨_, _, rfl⟩ := len_2 hl; rfl
  have F36 := fun_mk (st := s__law_grown) l36 c36 k36
  have b36 := F36.binds (ps := ["_law_pen_here", "_law_room", "_law_deep_here", "_law_params"]) fun _ _ _ _ _ _ us hl => by obtain ⟨_, _, _, _, rfl⟩ := len_4 hl; rfl
  have F37 := fun_mk (st := s__law_column) l37 c37 k37
  have b37 := F37.binds (ps := ["_law_column_here", "_law_stands"]) fun _ _ _ _ _ _ us hl => by obtain ⟨_, _, rfl⟩ := len_2 hl; rfl
  have F38 := fun_mk (st := s__law_corner_text) l38 c38 k38
  have b38 := F38.binds (ps := ["_law_corner_here"]) fun _ _ _ _ _ _ us hl => by obtain ⟨_, rfl⟩ := len_1 hl; rfl
  have F39 := fun_mk (st := s__law_leaf_text) l39 c39 k39
  have b39 := F39.binds (ps := ["_law_formula_here"]) fun _ _ _ _ _ _ us hl => by obtain ⟨_, rfl⟩ := len_1 hl; rfl
  have F40 := fun_mk (st := s__law_parts) l40 c40 k40
  have b40 := F40.binds (ps := ["_law_formula_here"]) fun _ _ _ _ _ _ us hl => by obtain ⟨_, rfl⟩ := len_1 hl; rfl
  have F41 := fun_mk (st := s__law_tight) l41 c41 k41
  have b41 := F41.binds (ps := ["_law_formula_here"]) fun _ _ _ _ _ _ us hl => by obtain ⟨_, rfl⟩ := len_1 hl; rfl
  have F42 := fun_mk (st := s__law_placed) l42 c42 k42
  have b42 := F42.binds (ps := ["_law_formula_here", "_law_least", "_law_pen_here"]) fun _ _ _ _ _ _ us hl => by obtain ⟨_, _, _, rfl⟩ := len_3 hl; rfl
  have F43 := fun_mk (st := s__law_bare) l43 c43 k43
  have b43 := F43.binds (ps := ["_law_formula_here", "_law_pen_here"]) fun _ _ _ _ _ _ us hl => by obtain ⟨_, _, rfl⟩ := len_2 hl; rfl
  have F44 := fun_mk (st := s__law_written) l44 c44 k44
  have b44 := F44.binds (ps := ["_law_formula_here", "_law_pen_here"]) fun _ _ _ _ _ _ us hl => by obtain ⟨_, _, rfl⟩ := len_2 hl; rfl
  have F45 := fun_mk (st := s__law_formula) l45 c45 k45
  have b45 := F45.binds (ps := ["_law_pen_here", "_law_params"]) fun _ _ _ _ _ _ us hl => by obtain ⟨_, _, rfl⟩ := len_2 hl; rfl
  have F46 := fun_mk (st := s__law_bad_leaves) l46 c46 k46
  have b46 := F46.binds (ps := []) fun _ _ _ _ _ _ us hl => by obtain ⟨rfl⟩ := len_0 hl; rfl
  have F47 := fun_mk (st := s__law_bad_frames) l47 c47 k47
  have b47 := F47.binds (ps := ["_law_a"]) fun _ _ _ _ _ _ us hl => by obtain ⟨_, rfl⟩ := len_1 hl; rfl
  have F48 := fun_mk (st := s__law_bad) l48 c48 k48
  have b48 := F48.binds (ps := ["_law_pen_here"]) fun _ _ _ _ _ _ us hl => by obtain ⟨_, rfl⟩ := len_1 hl; rfl
  have F49 := fun_mk (st := s__law_sized) l49 c49 k49
  have b49 := F49.binds (ps := ["_law_many"]) fun _ _ _ _ _ _ us hl => by obtain ⟨_, rfl⟩ := len_1 hl; rfl
  have F50 := fun_mk (st := s__law_deep) l50 c50 k50
  have b50 := F50.binds (ps := ["_law_pen_here", "_law_many"]) fun _ _ _ _ _ _ us hl => by obtain ⟨_, _, rfl⟩ := len_2 hl; rfl
  have F51 := fun_mk (st := s__law_most_param) l51 c51 k51
  have b51 := F51.binds (ps := ["_law_formula_here"]) fun _ _ _ _ _ _ us hl => by obtain ⟨_, rfl⟩ := len_1 hl; rfl
  have F52 := fun_mk (st := s_law) l52 c52 k52
  have b52 := F52.binds (ps := ["_law_script"]) fun _ _ _ _ _ _ us hl => by obtain ⟨_, rfl⟩ := len_1 hl; rfl
  have T : Txt w K mg ⟨f0, _, f1, _, f2, _, f3, _, f4, _, f5, _, f6, _, f7, _, f8, _, f9, _, f10, _, f11, _, f12, _, f13, _, f14, _, f15, _, f16, _, f17, _, f18, _, f19, _, f20, _, f21, _, f22, _, f23, _, f24, _, f25, _, f26, _, f27, _, f28, _, f29, _, f30, _, f31, _, f32, _, f33, _, f34, _, f35, _, f36, _, f37, _, f38, _, f39, _, f40, _, f41, _, f42, _, f43, _, f44, _, f45, _, f46, _, f47, _, f48, _, f49, _, f50, _, f51, _, _, _⟩ := ⟨⟨F0, PySem.W.mg_of X G a0, b0⟩, ⟨F1, PySem.W.mg_of X G a1, b1⟩, ⟨F2, PySem.W.mg_of X G a2, b2⟩, ⟨F3, PySem.W.mg_of X G a3, b3⟩, ⟨F4, PySem.W.mg_of X G a4, b4⟩, ⟨F5, PySem.W.mg_of X G a5, b5⟩, ⟨F6, PySem.W.mg_of X G a6, b6⟩, ⟨F7, PySem.W.mg_of X G a7, b7⟩, ⟨F8, PySem.W.mg_of X G a8, b8⟩, ⟨F9, PySem.W.mg_of X G a9, b9⟩, ⟨F10, PySem.W.mg_of X G a10, b10⟩, ⟨F11, PySem.W.mg_of X G a11, b11⟩, ⟨F12, PySem.W.mg_of X G a12, b12⟩, ⟨F13, PySem.W.mg_of X G a13, b13⟩, ⟨F14, PySem.W.mg_of X G a14, b14⟩, ⟨F15, PySem.W.mg_of X G a15, b15⟩, ⟨F16, PySem.W.mg_of X G a16, b16⟩, ⟨F17, PySem.W.mg_of X G a17, b17⟩, ⟨F18, PySem.W.mg_of X G a18, b18⟩, ⟨F19, PySem.W.mg_of X G a19, b19⟩, ⟨F20, PySem.W.mg_of X G a20, b20⟩, ⟨F21, PySem.W.mg_of X G a21, b21⟩, ⟨F22, PySem.W.mg_of X G a22, b22⟩, ⟨F23, PySem.W.mg_of X G a23, b23⟩, ⟨F24, PySem.W.mg_of X G a24, b24⟩, ⟨F25, PySem.W.mg_of X G a25, b25⟩, ⟨F26, PySem.W.mg_of X G a26, b26⟩, ⟨F27, PySem.W.mg_of X G a27, b27⟩, ⟨F28, PySem.W.mg_of X G a28, b28⟩, ⟨F29, PySem.W.mg_of X G a29, b29⟩, ⟨F30, PySem.W.mg_of X G a30, b30⟩, ⟨F31, PySem.W.mg_of X G a31, b31⟩, ⟨F32, PySem.W.mg_of X G a32, b32⟩, ⟨F33, PySem.W.mg_of X G a33, b33⟩, ⟨F34, PySem.W.mg_of X G a34, b34⟩, ⟨F35, PySem.W.mg_of X G a35, b35⟩, ⟨F36, PySem.W.mg_of X G a36, b36⟩, ⟨F37, PySem.W.mg_of X G a37, b37⟩, ⟨F38, PySem.W.mg_of X G a38, b38⟩, ⟨F39, PySem.W.mg_of X G a39, b39⟩, ⟨F40, PySem.W.mg_of X G a40, b40⟩, ⟨F41, PySem.W.mg_of X G a41, b41⟩, ⟨F42, PySem.W.mg_of X G a42, b42⟩, ⟨F43, PySem.W.mg_of X G a43, b43⟩, ⟨F44, PySem.W.mg_of X G a44, b44⟩, ⟨F45, PySem.W.mg_of X G a45, b45⟩, ⟨F46, PySem.W.mg_of X G a46, b46⟩, ⟨F47, PySem.W.mg_of X G a47, b47⟩, ⟨F48, PySem.W.mg_of X G a48, b48⟩, ⟨F49, PySem.W.mg_of X G a49, b49⟩, ⟨F50, PySem.W.mg_of X G a50, b50⟩, ⟨F51, PySem.W.mg_of X G a51, b51⟩, ⟨F52, PySem.W.mg_of X G a52, b52⟩, PySem.W.mg_none_of X G z_len, PySem.W.mg_none_of X G z_range, PySem.W.mg_none_of X G z_isinstance, PySem.W.mg_none_of X G z_int, PySem.W.mg_none_of X G z_bool, PySem.W.mg_none_of X G z_tuple, PySem.W.mg_none_of X G z_str, PySem.W.mg_none_of X G z_list, PySem.W.mg_none_of X G z_all, PySem.W.mg_none_of X G z_abs, PySem.W.mg_none_of X G z_max, PySem.W.mg_none_of X G z_min, PySem.W.mg_none_of X G z_reversed, ⟨_, PySem.W.mg_of X G g_LETTERS, r_LETTERS⟩, ⟨_, PySem.W.mg_of X G g_LONGEST_NAME, r_LONGEST_NAME⟩, ⟨_, PySem.W.mg_of X G g_LAST_ROW, r_LAST_ROW⟩, ⟨_, PySem.W.mg_of X G g_LAST_COLUMN, r_LAST_COLUMN⟩, ⟨_, PySem.W.mg_of X G g_SIGNS, r_SIGNS⟩, ⟨_, _, PySem.W.mg_of X G g_FAULTS, h_FAULTS, r_FAULTS⟩, ⟨_, PySem.W.mg_of X G g_MOST_SIGNS, r_MOST_SIGNS⟩, ⟨_, PySem.W.mg_of X G g_GREATEST_WHOLE, r_GREATEST_WHOLE⟩, ⟨_, PySem.W.mg_of X G g_MOST_PARTS, r_MOST_PARTS⟩, ⟨_, PySem.W.mg_of X G g_MOST_DEEP, r_MOST_DEEP⟩, ⟨_, PySem.W.mg_of X G g_MOST_OWN_PARTS, r_MOST_OWN_PARTS⟩, ⟨_, PySem.W.mg_of X G g_MOST_PARAMS, r_MOST_PARAMS⟩, ⟨_, PySem.W.mg_of X G g_GREATEST_WRITTEN, r_GREATEST_WRITTEN⟩, ⟨_, _, PySem.W.mg_of X G g_WORDS, h_WORDS, r_WORDS⟩, ⟨_, _, PySem.W.mg_of X G g_OP_SIGNS, h_OP_SIGNS, r_OP_SIGNS⟩, ⟨_, _, PySem.W.mg_of X G g_SUMIF_SIGNS, h_SUMIF_SIGNS, r_SUMIF_SIGNS⟩, ⟨_, PySem.W.mg_of X G g_LENGTHS, _, h_LENGTHS, r_LENGTHS, n_LENGTHS⟩, (let ⟨k, d, p⟩ := r_PART_PLACES; ⟨k, ⟨_, PySem.W.mg_of X G g_PART_PLACES, _, h_PART_PLACES, d, n_PART_PLACES⟩, p⟩), ki_NoneType_int, ki_NoneType_bool, ki_NoneType_str, ki_NoneType_tuple, ki_bool_int, ki_bool_bool, ki_bool_str, ki_bool_tuple, ki_int_int, ki_int_bool, ki_int_str, ki_int_tuple, ki_str_int, ki_str_bool, ki_str_str, ki_str_tuple, ki_list_int, ki_list_bool, ki_list_str, ki_list_tuple, ki_dict_int, ki_dict_bool, ki_dict_str, ki_dict_tuple, ki_tuple_int, ki_tuple_bool, ki_tuple_str, ki_tuple_tuple, kist, kiit, kib⟩
  exact ⟨_, fun s v => .of_eq rfl, fun base _ _ => ok_law T⟩
theorem walk {l : PySem.W.OpenLaw} {q : Program} {loose : List Str} {XP : (Str → Option Value) → Heap → Prop} {YP : World → Heap → Prop} {d : DefRec} {K : Params → PySem.W.Frag} (hn : l.most = some 63) (hdf : d.params.defaults = [])
    (hY : ∀ (w : World) (h : Heap), YP w h → (K w.params).In h)
    (F : ∀ (w : World) (mg : Str → Option Value) (fa : Addr) (h : Heap), (K w.params).In h → h.Ns mainGlobals mg → mg d.name = some (.ref fa) →
      ∃ fd : FuncData, (∀ (s : Shared) (u : Value), BindsTo s fd ⟨[u], []⟩ [("_law_script", u)]) ∧ ∀ base : Heap, (K w.params).In base → base.Ns mainGlobals mg → FnOk l.prog w (K w.params) mg base CX0 70 fa fd ["_law_script"] (spLaw (K w.params))) :
    PySem.W.WalkO q loose XP YP l.row.toRowW d [] (fun f vs => PySem.call f vs) :=
  L2.walk_of (n := 63) (k := 70) (x := "_law_script") (CX := fun _ => CX0) (sp := fun w => spLaw (K w.params)) hn (by decide) hdf ⟨rfl, by decide, by decide⟩ hY F (fun _ _ a ns hl _ hS => ⟨a, ns, rfl, hS, hl, fun _ => rfl⟩) fun _ _ _ _ _ z => z
end Fs
open PySem PySem.W PyProof.Rows
set_option maxRecDepth 100000 in
set_option maxHeartbeats 0 in
theorem PySem.Challenge.cw_freshsheet_k13_what_is_a_formula_holds : PySem.Challenge.rw_freshsheet_k13_what_is_a_formula.Holds := by
  w_on; o_law
  refine holds_open (r := OpenLaw.row PySem.Challenge.rw_freshsheet_k13_what_is_a_formula) (q := Hw.qv) (loose := Hw.lo) (Xt := Hw.Xv) (XP := XL Hw.qv []) (Yf := Hook.obs (kHook Hw.pack.heap_1 Hw.hAs Hw.hAs_eq)) (Ya := Hook.val (kHook Hw.pack.heap_1 Hw.hAs Hw.hAs_eq)) (YP := Hook.says (kHook Hw.pack.heap_1 Hw.hAs Hw.hAs_eq)) (N := Hw.N0) Hw.left (Hook.of (kHook Hw.pack.heap_1 Hw.hAs Hw.hAs_eq)) (Hook.keeps (kHook Hw.pack.heap_1 Hw.hAs Hw.hAs_eq)) (fun s e => xl_of s (Bool.and_eq_true_iff.mp e).1) XL.keeps (by rfl) (by rfl) (by rfl) (fun s e => recFacts_of (Bool.and_eq_true_iff.mp e).2) (by rfl) (by first | assumption | decide +kernel) (by decide +kernel) ⟨rfl, rfl, rfl, rfl, rfl, by decide +kernel⟩ ?hw ?hc
  case hw => w_witness2
  k_fill
  refine Fs.walk (l := PySem.Challenge.rw_freshsheet_k13_what_is_a_formula) rfl rfl (fun w h Y => PySem.W.kIn_of Y) ?F
  case F =>
    intro w mg fa h KX G hmg
    refine' Fs.all_mk KX G hmg ?a0 ?l0 ?c0 ?k0 ?a1 ?l1 ?c1 ?k1 ?a2 ?l2 ?c2 ?k2 ?a3 ?l3 ?c3 ?k3 ?a4 ?l4 ?c4 ?k4 ?a5 ?l5 ?c5 ?k5 ?a6 ?l6 ?c6 ?k6 ?a7 ?l7 ?c7 ?k7 ?a8 ?l8 ?c8 ?k8 ?a9 ?l9 ?c9 ?k9 ?a10 ?l10 ?c10 ?k10 ?a11 ?l11 ?c11 ?k11 ?a12 ?l12 ?c12 ?k12 ?a13 ?l13 ?c13 ?k13 ?a14 ?l14 ?c14 ?k14 ?a15 ?l15 ?c15 ?k15 ?a16 ?l16 ?c16 ?k16 ?a17 ?l17 ?c17 ?k17 ?a18 ?l18 ?c18 ?k18 ?a19 ?l19 ?c19 ?k19 ?a20 ?l20 ?c20 ?k20 ?a21 ?l21 ?c21 ?k21 ?a22 ?l22 ?c22 ?k22 ?a23 ?l23 ?c23 ?k23 ?a24 ?l24 ?c24 ?k24 ?a25 ?l25 ?c25 ?k25 ?a26 ?l26 ?c26 ?k26 ?a27 ?l27 ?c27 ?k27 ?a28 ?l28 ?c28 ?k28 ?a29 ?l29 ?c29 ?k29 ?a30 ?l30 ?c30 ?k30 ?a31 ?l31 ?c31 ?k31 ?a32 ?l32 ?c32 ?k32 ?a33 ?l33 ?c33 ?k33 ?a34 ?l34 ?c34 ?k34 ?a35 ?l35 ?c35 ?k35 ?a36 ?l36 ?c36 ?k36 ?a37 ?l37 ?c37 ?k37 ?a38 ?l38 ?c38 ?k38 ?a39 ?l39 ?c39 ?k39 ?a40 ?l40 ?c40 ?k40 ?a41 ?l41 ?c41 ?k41 ?a42 ?l42 ?c42 ?k42 ?a43 ?l43 ?c43 ?k43 ?a44 ?l44 ?c44 ?k44 ?a45 ?l45 ?c45 ?k45 ?a46 ?l46 ?c46 ?k46 ?a47 ?l47 ?c47 ?k47 ?a48 ?l48 ?c48 ?k48 ?a49 ?l49 ?c49 ?k49 ?a50 ?l50 ?c50 ?k50 ?a51 ?l51 ?c51 ?k51 ?a52 ?l52 ?c52 ?k52 ?z_len ?z_range ?z_isinstance ?z_int ?z_bool ?z_tuple ?z_str ?z_list ?z_all ?z_abs ?z_max ?z_min ?z_reversed ?g_LETTERS ?r_LETTERS ?g_LONGEST_NAME ?r_LONGEST_NAME ?g_LAST_ROW ?r_LAST_ROW ?g_LAST_COLUMN ?r_LAST_COLUMN ?g_SIGNS ?r_SIGNS ?g_FAULTS ?h_FAULTS ?r_FAULTS ?g_MOST_SIGNS ?r_MOST_SIGNS ?g_GREATEST_WHOLE ?r_GREATEST_WHOLE ?g_MOST_PARTS ?r_MOST_PARTS ?g_MOST_DEEP ?r_MOST_DEEP ?g_MOST_OWN_PARTS ?r_MOST_OWN_PARTS ?g_MOST_PARAMS ?r_MOST_PARAMS ?g_GREATEST_WRITTEN ?r_GREATEST_WRITTEN ?g_WORDS ?h_WORDS ?r_WORDS ?g_OP_SIGNS ?h_OP_SIGNS ?r_OP_SIGNS ?g_SUMIF_SIGNS ?h_SUMIF_SIGNS ?r_SUMIF_SIGNS ?g_LENGTHS ?h_LENGTHS ?r_LENGTHS ?n_LENGTHS ?g_PART_PLACES ?h_PART_PLACES ?r_PART_PLACES ?n_PART_PLACES ?ki_NoneType_int ?ki_NoneType_bool ?ki_NoneType_str ?ki_NoneType_tuple ?ki_bool_int ?ki_bool_bool ?ki_bool_str ?ki_bool_tuple ?ki_int_int ?ki_int_bool ?ki_int_str ?ki_int_tuple ?ki_str_int ?ki_str_bool ?ki_str_str ?ki_str_tuple ?ki_list_int ?ki_list_bool ?ki_list_str ?ki_list_tuple ?ki_dict_int ?ki_dict_bool ?ki_dict_str ?ki_dict_tuple ?ki_tuple_int ?ki_tuple_bool ?ki_tuple_str ?ki_tuple_tuple ?kist ?kiit ?kib
    (case a0 => k_is)
    (case l0 => k_is)
    (case c0 => k_is)
    (case k0 => k_is)
    (case a1 => k_is)
    (case l1 => k_is)
    (case c1 => k_is)
    (case k1 => k_is)
    (case a2 => k_is)
    (case l2 => k_is)
    (case c2 => k_is)
    (case k2 => k_is)
    (case a3 => k_is)
    (case l3 => k_is)
    (case c3 => k_is)
    (case k3 => k_is)
    (case a4 => k_is)
    (case l4 => k_is)
    (case c4 => k_is)
    (case k4 => k_is)
    (case a5 => k_is)
    (case l5 => k_is)
    (case c5 => k_is)
    (case k5 => k_is)
    (case a6 => k_is)
    (case l6 => k_is)
    (case c6 => k_is)
    (case k6 => k_is)
    (case a7 => k_is)
    (case l7 => k_is)
    (case c7 => k_is)
    (case k7 => k_is)
    (case a8 => k_is)
    (case l8 => k_is)
    (case c8 => k_is)
    (case k8 => k_is)
    (case a9 => k_is)
    (case l9 => k_is)
    (case c9 => k_is)
    (case k9 => k_is)
    (case a10 => k_is)
    (case l10 => k_is)
    (case c10 => k_is)
    (case k10 => k_is)
    (case a11 => k_is)
    (case l11 => k_is)
    (case c11 => k_is)
    (case k11 => k_is)
    (case a12 => k_is)
    (case l12 => k_is)
    (case c12 => k_is)
    (case k12 => k_is)
    (case a13 => k_is)
    (case l13 => k_is)
    (case c13 => k_is)
    (case k13 => k_is)
    (case a14 => k_is)
    (case l14 => k_is)
    (case c14 => k_is)
    (case k14 => k_is)
    (case a15 => k_is)
    (case l15 => k_is)
    (case c15 => k_is)
    (case k15 => k_is)
    (case a16 => k_is)
    (case l16 => k_is)
    (case c16 => k_is)
    (case k16 => k_is)
    (case a17 => k_is)
    (case l17 => k_is)
    (case c17 => k_is)
    (case k17 => k_is)
    (case a18 => k_is)
    (case l18 => k_is)
    (case c18 => k_is)
    (case k18 => k_is)
    (case a19 => k_is)
    (case l19 => k_is)
    (case c19 => k_is)
    (case k19 => k_is)
    (case a20 => k_is)
    (case l20 => k_is)
    (case c20 => k_is)
    (case k20 => k_is)
    (case a21 => k_is)
    (case l21 => k_is)
    (case c21 => k_is)
    (case k21 => k_is)
    (case a22 => k_is)
    (case l22 => k_is)
    (case c22 => k_is)
    (case k22 => k_is)
    (case a23 => k_is)
    (case l23 => k_is)
    (case c23 => k_is)
    (case k23 => k_is)
    (case a24 => k_is)
    (case l24 => k_is)
    (case c24 => k_is)
    (case k24 => k_is)
    (case a25 => k_is)
    (case l25 => k_is)
    (case c25 => k_is)
    (case k25 => k_is)
    (case a26 => k_is)
    (case l26 => k_is)
    (case c26 => k_is)
    (case k26 => k_is)
    (case a27 => k_is)
    (case l27 => k_is)
    (case c27 => k_is)
    (case k27 => k_is)
    (case a28 => k_is)
    (case l28 => k_is)
    (case c28 => k_is)
    (case k28 => k_is)
    (case a29 => k_is)
    (case l29 => k_is)
    (case c29 => k_is)
    (case k29 => k_is)
    (case a30 => k_is)
    (case l30 => k_is)
    (case c30 => k_is)
    (case k30 => k_is)
    (case a31 => k_is)
    (case l31 => k_is)
    (case c31 => k_is)
    (case k31 => k_is)
    (case a32 => k_is)
    (case l32 => k_is)
    (case c32 => k_is)
    (case k32 => k_is)
    (case a33 => k_is)
    (case l33 => k_is)
    (case c33 => k_is)
    (case k33 => k_is)
    (case a34 => k_is)
    (case l34 => k_is)
    (case c34 => k_is)
    (case k34 => k_is)
    (case a35 => k_is)
    (case l35 => k_is)
    (case c35 => k_is)
    (case k35 => k_is)
    (case a36 => k_is)
    (case l36 => k_is)
    (case c36 => k_is)
    (case k36 => k_is)
    (case a37 => k_is)
    (case l37 => k_is)
    (case c37 => k_is)
    (case k37 => k_is)
    (case a38 => k_is)
    (case l38 => k_is)
    (case c38 => k_is)
    (case k38 => k_is)
    (case a39 => k_is)
    (case l39 => k_is)
    (case c39 => k_is)
    (case k39 => k_is)
    (case a40 => k_is)
    (case l40 => k_is)
    (case c40 => k_is)
    (case k40 => k_is)
    (case a41 => k_is)
    (case l41 => k_is)
    (case c41 => k_is)
    (case k41 => k_is)
    (case a42 => k_is)
    (case l42 => k_is)
    (case c42 => k_is)
    (case k42 => k_is)
    (case a43 => k_is)
    (case l43 => k_is)
    (case c43 => k_is)
    (case k43 => k_is)
    (case a44 => k_is)
    (case l44 => k_is)
    (case c44 => k_is)
    (case k44 => k_is)
    (case a45 => k_is)
    (case l45 => k_is)
    (case c45 => k_is)
    (case k45 => k_is)
    (case a46 => k_is)
    (case l46 => k_is)
    (case c46 => k_is)
    (case k46 => k_is)
    (case a47 => k_is)
    (case l47 => k_is)
    (case c47 => k_is)
    (case k47 => k_is)
    (case a48 => k_is)
    (case l48 => k_is)
    (case c48 => k_is)
    (case k48 => k_is)
    (case a49 => k_is)
    (case l49 => k_is)
    (case c49 => k_is)
    (case k49 => k_is)
    (case a50 => k_is)
    (case l50 => k_is)
    (case c50 => k_is)
    (case k50 => k_is)
    (case a51 => k_is)
    (case l51 => k_is)
    (case c51 => k_is)
    (case k51 => k_is)
    (case a52 => k_is)
    (case l52 => k_is)
    (case c52 => k_is)
    (case k52 => k_is)
    (case z_len => k_is)
    (case z_range => k_is)
    (case z_isinstance => k_is)
    (case z_int => k_is)
    (case z_bool => k_is)
    (case z_tuple => k_is)
    (case z_str => k_is)
    (case z_list => k_is)
    (case z_all => k_is)
    (case z_abs => k_is)
    (case z_max => k_is)
    (case z_min => k_is)
    (case z_reversed => k_is)
    (case g_LETTERS => k_is)
    (case r_LETTERS => first | exact ⟨_, rfl⟩ | exact ⟨_, by decide +kernel⟩)
    (case g_LONGEST_NAME => k_is)
    (case r_LONGEST_NAME => first | exact ⟨_, rfl⟩ | exact ⟨_, by decide +kernel⟩)
    (case g_LAST_ROW => k_is)
    (case r_LAST_ROW => first | exact ⟨_, rfl⟩ | exact ⟨_, by decide +kernel⟩)
    (case g_LAST_COLUMN => k_is)
    (case r_LAST_COLUMN => first | exact ⟨_, rfl⟩ | exact ⟨_, by decide +kernel⟩)
    (case g_SIGNS => k_is)
    (case r_SIGNS => first | exact ⟨_, rfl⟩ | exact ⟨_, by decide +kernel⟩)
    (case g_FAULTS => k_is)
    (case h_FAULTS => k_is)
    (case r_FAULTS => exact ⟨rfl, _, _, rfl, by decide, .cons ⟨_, rfl⟩ (.cons ⟨_, rfl⟩ (.cons ⟨_, rfl⟩ (.cons ⟨_, rfl⟩ (.cons ⟨_, rfl⟩ (.cons ⟨_, rfl⟩ (.cons ⟨_, rfl⟩ (.cons ⟨_, rfl⟩ (.cons ⟨_, rfl⟩ (.nil)))))))))⟩)
    (case g_MOST_SIGNS => k_is)
    (case r_MOST_SIGNS => first | exact ⟨_, rfl⟩ | exact ⟨_, by decide +kernel⟩)
    (case g_GREATEST_WHOLE => k_is)
    (case r_GREATEST_WHOLE => first | exact ⟨_, rfl⟩ | exact ⟨_, by decide +kernel⟩)
    (case g_MOST_PARTS => k_is)
    (case r_MOST_PARTS => first | exact ⟨_, rfl⟩ | exact ⟨_, by decide +kernel⟩)
    (case g_MOST_DEEP => k_is)
    (case r_MOST_DEEP => first | exact ⟨_, rfl⟩ | exact ⟨_, by decide +kernel⟩)
    (case g_MOST_OWN_PARTS => k_is)
    (case r_MOST_OWN_PARTS => first | exact ⟨_, rfl⟩ | exact ⟨_, by decide +kernel⟩)
    (case g_MOST_PARAMS => k_is)
    (case r_MOST_PARAMS => first | exact ⟨_, rfl⟩ | exact ⟨_, by decide +kernel⟩)
    (case g_GREATEST_WRITTEN => k_is)
    (case r_GREATEST_WRITTEN => first | exact ⟨_, rfl⟩ | exact ⟨_, by decide +kernel⟩)
    (case g_WORDS => k_is)
    (case h_WORDS => k_is)
    (case r_WORDS => exact ⟨rfl, _, _, rfl, by decide, .cons ⟨_, rfl⟩ (.cons ⟨_, rfl⟩ (.cons ⟨_, rfl⟩ (.cons ⟨_, rfl⟩ (.cons ⟨_, rfl⟩ (.cons ⟨_, rfl⟩ (.cons ⟨_, rfl⟩ (.cons ⟨_, rfl⟩ (.cons ⟨_, rfl⟩ (.cons ⟨_, rfl⟩ (.cons ⟨_, rfl⟩ (.cons ⟨_, rfl⟩ (.cons ⟨_, rfl⟩ (.nil)))))))))))))⟩)
    (case g_OP_SIGNS => k_is)
    (case h_OP_SIGNS => k_is)
    (case r_OP_SIGNS => exact ⟨rfl, _, _, rfl, by decide, .cons ⟨_, rfl⟩ (.cons ⟨_, rfl⟩ (.cons ⟨_, rfl⟩ (.cons ⟨_, rfl⟩ (.cons ⟨_, rfl⟩ (.cons ⟨_, rfl⟩ (.cons ⟨_, rfl⟩ (.nil)))))))⟩)
    (case g_SUMIF_SIGNS => k_is)
    (case h_SUMIF_SIGNS => k_is)
    (case r_SUMIF_SIGNS => exact ⟨rfl, _, _, rfl, by decide, .cons ⟨_, rfl⟩ (.cons ⟨_, rfl⟩ (.nil))⟩)
    (case g_LENGTHS => k_is)
    (case h_LENGTHS => k_is)
    (case r_LENGTHS => exact ⟨⟨rfl, rfl, rfl⟩, _, _, rfl, .cons ⟨rfl, rfl, ⟨_, rfl⟩⟩ (.cons ⟨rfl, rfl, ⟨_, rfl⟩⟩ (.cons ⟨rfl, rfl, ⟨_, rfl⟩⟩ (.cons ⟨rfl, rfl, ⟨_, rfl⟩⟩ (.cons ⟨rfl, rfl, ⟨_, rfl⟩⟩ (.cons ⟨rfl, rfl, ⟨_, rfl⟩⟩ (.cons ⟨rfl, rfl, ⟨_, rfl⟩⟩ (.cons ⟨rfl, rfl, ⟨_, rfl⟩⟩ (.cons ⟨rfl, rfl, ⟨_, rfl⟩⟩ (.cons ⟨rfl, rfl, ⟨_, rfl⟩⟩ (.cons ⟨rfl, rfl, ⟨_, rfl⟩⟩ (.cons ⟨rfl, rfl, ⟨_, rfl⟩⟩ (.cons ⟨rfl, rfl, ⟨_, rfl⟩⟩ (.cons ⟨rfl, rfl, ⟨_, rfl⟩⟩ (.cons ⟨rfl, rfl, ⟨_, rfl⟩⟩ (.cons ⟨rfl, rfl, ⟨_, rfl⟩⟩ (.cons ⟨rfl, rfl, ⟨_, rfl⟩⟩ (.cons ⟨rfl, rfl, ⟨_, rfl⟩⟩ (.cons ⟨rfl, rfl, ⟨_, rfl⟩⟩ (.cons ⟨rfl, rfl, ⟨_, rfl⟩⟩ (.cons ⟨rfl, rfl, ⟨_, rfl⟩⟩ (.nil))))))))))))))))))))), by decide⟩)
    (case n_LENGTHS => decide)
    (case g_PART_PLACES => k_is)
    (case h_PART_PLACES => k_is)
    (case r_PART_PLACES => exact ⟨[(Sum.inr (Str.ofString "op"), L2.V.ref _), (Sum.inr (Str.ofString "neg"), L2.V.ref _), (Sum.inr (Str.ofString "if"), L2.V.ref _), (Sum.inr (Str.ofString "sum"), L2.V.ref _), (Sum.inr (Str.ofString "count"), L2.V.ref _), (Sum.inr (Str.ofString "least"), L2.V.ref _), (Sum.inr (Str.ofString "most"), L2.V.ref _), (Sum.inr (Str.ofString "sumif"), L2.V.ref _), (Sum.inr (Str.ofString "find"), L2.V.ref _), (Sum.inr (Str.ofString "turn"), L2.V.ref _), (Sum.inr (Str.ofString "stack"), L2.V.ref _), (Sum.inr (Str.ofString "grid"), L2.V.ref _), (Sum.inr (Str.ofString "outer"), L2.V.ref _)], ⟨⟨rfl, rfl, rfl⟩, _, _, rfl, .cons ⟨rfl, rfl, rfl⟩ (.cons ⟨rfl, rfl, rfl⟩ (.cons ⟨rfl, rfl, rfl⟩ (.cons ⟨rfl, rfl, rfl⟩ (.cons ⟨rfl, rfl, rfl⟩ (.cons ⟨rfl, rfl, rfl⟩ (.cons ⟨rfl, rfl, rfl⟩ (.cons ⟨rfl, rfl, rfl⟩ (.cons ⟨rfl, rfl, rfl⟩ (.cons ⟨rfl, rfl, rfl⟩ (.cons ⟨rfl, rfl, rfl⟩ (.cons ⟨rfl, rfl, rfl⟩ (.cons ⟨rfl, rfl, rfl⟩ (.nil))))))))))))), by decide⟩, .cons ⟨rfl, _, rfl, fun _ => .inr ⟨_, _, _, (by k_is), rfl, rfl, by decide, .cons ⟨_, rfl⟩ (.cons ⟨_, rfl⟩ (.nil))⟩⟩ (.cons ⟨rfl, _, rfl, fun _ => .inr ⟨_, _, _, (by k_is), rfl, rfl, by decide, .cons ⟨_, rfl⟩ (.nil)⟩⟩ (.cons ⟨rfl, _, rfl, fun _ => .inr ⟨_, _, _, (by k_is), rfl, rfl, by decide, .cons ⟨_, rfl⟩ (.cons ⟨_, rfl⟩ (.cons ⟨_, rfl⟩ (.nil)))⟩⟩ (.cons ⟨rfl, _, rfl, fun _ => .inr ⟨_, _, _, (by k_is), rfl, rfl, by decide, .cons ⟨_, rfl⟩ (.nil)⟩⟩ (.cons ⟨rfl, _, rfl, fun _ => .inr ⟨_, _, _, (by k_is), rfl, rfl, by decide, .cons ⟨_, rfl⟩ (.nil)⟩⟩ (.cons ⟨rfl, _, rfl, fun _ => .inr ⟨_, _, _, (by k_is), rfl, rfl, by decide, .cons ⟨_, rfl⟩ (.nil)⟩⟩ (.cons ⟨rfl, _, rfl, fun _ => .inr ⟨_, _, _, (by k_is), rfl, rfl, by decide, .cons ⟨_, rfl⟩ (.nil)⟩⟩ (.cons ⟨rfl, _, rfl, fun _ => .inr ⟨_, _, _, (by k_is), rfl, rfl, by decide, .cons ⟨_, rfl⟩ (.cons ⟨_, rfl⟩ (.cons ⟨_, rfl⟩ (.nil)))⟩⟩ (.cons ⟨rfl, _, rfl, fun _ => .inr ⟨_, _, _, (by k_is), rfl, rfl, by decide, .cons ⟨_, rfl⟩ (.cons ⟨_, rfl⟩ (.cons ⟨_, rfl⟩ (.nil)))⟩⟩ (.cons ⟨rfl, _, rfl, fun _ => .inr ⟨_, _, _, (by k_is), rfl, rfl, by decide, .cons ⟨_, rfl⟩ (.nil)⟩⟩ (.cons ⟨rfl, _, rfl, fun _ => .inr ⟨_, _, _, (by k_is), rfl, rfl, by decide, .cons ⟨_, rfl⟩ (.cons ⟨_, rfl⟩ (.nil))⟩⟩ (.cons ⟨rfl, _, rfl, fun _ => .inr ⟨_, _, _, (by k_is), rfl, rfl, by decide, .cons ⟨_, rfl⟩ (.cons ⟨_, rfl⟩ (.nil))⟩⟩ (.cons ⟨rfl, _, rfl, fun _ => .inr ⟨_, _, _, (by k_is), rfl, rfl, by decide, .cons ⟨_, rfl⟩ (.nil)⟩⟩ (.nil)))))))))))))⟩)
    (case n_PART_PLACES => decide)
    (case ki_NoneType_int => kit_is)
    (case ki_NoneType_bool => kit_is)
    (case ki_NoneType_str => kit_is)
    (case ki_NoneType_tuple => kit_is)
    (case ki_bool_int => kit_is)
    (case ki_bool_bool => kit_is)
    (case ki_bool_str => kit_is)
    (case ki_bool_tuple => kit_is)
    (case ki_int_int => kit_is)
    (case ki_int_bool => kit_is)
    (case ki_int_str => kit_is)
    (case ki_int_tuple => kit_is)
    (case ki_str_int => kit_is)
    (case ki_str_bool => kit_is)
    (case ki_str_str => kit_is)
    (case ki_str_tuple => kit_is)
    (case ki_list_int => kit_is)
    (case ki_list_bool => kit_is)
    (case ki_list_str => kit_is)
    (case ki_list_tuple => kit_is)
    (case ki_dict_int => kit_is)
    (case ki_dict_bool => kit_is)
    (case ki_dict_str => kit_is)
    (case ki_dict_tuple => kit_is)
    (case ki_tuple_int => kit_is)
    (case ki_tuple_bool => kit_is)
    (case ki_tuple_str => kit_is)
    (case ki_tuple_tuple => kit_is)
    (case kist => kit_is)
    (case kiit => kit_is)
    (case kib => kit_is)
