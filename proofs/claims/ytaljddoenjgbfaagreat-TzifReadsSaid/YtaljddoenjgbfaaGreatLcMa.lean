/-
  Plain facts on whole numbers of 64 bits: what fits, and the tests by which sums, products and quotients are told. Nothing of the program stands here.
-/
import Derived.WalkKit
import Derived.ProofKit
import Derived.OpenShut
import Derived.IntWalk
import Derived.Test.YtaljddoenjgbfaaGreatRows
import Derived.WalkLawsBesides
import Derived.Outline
import Derived.Lib.Hide
import Derived.Deep.QuietTactic
import Derived.BigQuiet
import Derived.Lib.SmallJoins
import Derived.Below
import Derived.ChangeSame
import Derived.WideShapes
import Derived.Maps.AppendAt
import Derived.Deep.AppendLies
import Derived.OwnWalk
import Derived.Lib.BytesEntry
import Derived.Lib.SlBytesRow
import Derived.Laws.BytesArg
import Derived.Lib.Strings
import Derived.Lib.Walk
import Derived.Lib.SlBytesConst
namespace Lc
open Go Go.RowKit

/-- 'x' fits 64 bits. -/
def fitB (x : Int) : Bool := decide (-9223372036854775808 ≤ x ∧ x ≤ 9223372036854775807)
/-- 'x', or 0 where it does not fit. -/
def fitV (x : Int) : Int := if fitB x then x else 0

set_option maxRecDepth 100000 in
theorem fitB_true {x : Int} : fitB x = true ↔ (-9223372036854775808 ≤ x ∧ x ≤ 9223372036854775807) := by simp [fitB]
set_option maxRecDepth 100000 in
theorem fitB_false {x : Int} : fitB x = false ↔ ¬ (-9223372036854775808 ≤ x ∧ x ≤ 9223372036854775807) := by simp [fitB]
set_option maxRecDepth 100000 in
theorem fitV_true {x : Int} (h : fitB x = true) : fitV x = x := by simp [fitV, h]
set_option maxRecDepth 100000 in
theorem fitV_false {x : Int} (h : fitB x = false) : fitV x = 0 := by simp [fitV, h]
set_option maxRecDepth 100000 in
theorem fit_wf {x : Int} (h : (Lit.int .i64 x).wf = true) : fitB x = true := by
  exact fitB_true.2 (bounds_i64 h)
set_option maxRecDepth 100000 in
theorem wrap_fit {x : Int} (h : fitB x = true) : wrap64 x = x := by
  have := fitB_true.1 h
  unfold wrap64; omega
set_option maxRecDepth 100000 in
theorem wf_fit {x : Int} (h : fitB x = true) : (Lit.int .i64 x).wf = true := by
  rw [← wrap_fit h]; exact wrap64_wf _

set_option maxRecDepth 100000 in
theorem add_no {a b : Int} (ha : fitB a = true) (hb : fitB b = true) (h : (!decide (a ≤ wrap64 (a + b)) == decide (0 ≤ b)) = true) : fitB (a + b) = false := by
  have h1 := fitB_true.1 ha; have h2 := fitB_true.1 hb
  rw [fitB_false]
  unfold wrap64 at h
  rcases Decidable.em (0 ≤ b) with c | c <;> simp [c] at h <;> omega
set_option maxRecDepth 100000 in
theorem add_yes {a b : Int} (ha : fitB a = true) (hb : fitB b = true) (h : (!decide (a ≤ wrap64 (a + b)) == decide (0 ≤ b)) = false) : fitB (a + b) = true := by
  have h1 := fitB_true.1 ha; have h2 := fitB_true.1 hb
  rw [fitB_true]
  unfold wrap64 at h
  rcases Decidable.em (0 ≤ b) with c | c <;> simp [c] at h <;> omega

set_option maxRecDepth 100000 in
theorem tdiv_tmod (p b : Int) : b * p.tdiv b + p.tmod b = p := Int.mul_tdiv_add_tmod p b
set_option maxRecDepth 100000 in
theorem tmod_lt (p b : Int) (hb : b ≠ 0) : -(b.natAbs : Int) < p.tmod b ∧ p.tmod b < b.natAbs := by
  have h := Int.natAbs_tmod p b
  have h2 : p.natAbs % b.natAbs < b.natAbs := Nat.mod_lt _ (by omega)
  omega
set_option maxRecDepth 100000 in
theorem tdiv_abs (p b : Int) : (p.tdiv b).natAbs ≤ p.natAbs := by
  rw [Int.natAbs_tdiv]; exact Nat.div_le_self _ _

set_option maxRecDepth 100000 in
theorem mul_back {a b : Int} (ha : fitB a = true) (h0 : b ≠ 0) (hf : fitB (a * b) = true) : wrap64 ((wrap64 (a * b)).tdiv b) = a := by
  rw [wrap_fit hf, Int.mul_tdiv_cancel a h0, wrap_fit ha]
set_option maxRecDepth 100000 in
theorem mul_fits {a b : Int} (ha : fitB a = true) (hb : fitB b = true) (h0 : b ≠ 0) (hm : ¬ (a = -9223372036854775808 ∧ b = -1)) (h : wrap64 ((wrap64 (a * b)).tdiv b) = a) : fitB (a * b) = true := by
  have h1 := fitB_true.1 ha; have h2 := fitB_true.1 hb
  have e := tdiv_tmod (wrap64 (a * b)) b
  have l := tmod_lt (wrap64 (a * b)) b h0
  have t := tdiv_abs (wrap64 (a * b)) b
  have r : -9223372036854775808 ≤ wrap64 (a * b) ∧ wrap64 (a * b) ≤ 9223372036854775807 := by unfold wrap64; omega
  generalize hp : wrap64 (a * b) = p at *
  generalize hq : p.tdiv b = q at *
  have hq9 : q ≤ 9223372036854775808 ∧ -9223372036854775808 ≤ q := by omega
  by_cases c : q = 9223372036854775808
  · -- then a is the least, so is p, and b is -1
    have ea : a = -9223372036854775808 := by rw [← h, c]; unfold wrap64; omega
    have ep : p = -9223372036854775808 := by omega
    have eb : b = -1 := by
      subst c
      rw [ep] at e l
      omega
    exact absurd ⟨ea, eb⟩ hm
  · have eq : wrap64 q = q := wrap_fit (fitB_true.2 (by omega))
    rw [eq] at h
    subst h
    rw [Int.mul_comm b q] at e
    generalize q * b = P at *
    rw [fitB_true]
    unfold wrap64 at hp
    omega

set_option maxRecDepth 100000 in
/-- A product's size against a bound, by division. -/
theorem size_le (m n M : Nat) (hn : 0 < n) : m ≤ M / n ↔ m * n ≤ M := Nat.le_div_iff_mul_le hn

set_option maxRecDepth 100000 in
theorem mul_abs (a b : Int) : (a * b).natAbs = a.natAbs * b.natAbs := Int.natAbs_mul a b
set_option maxRecDepth 100000 in
theorem mul_sign_pos {a b : Int} (h : (a < 0 ↔ b < 0)) : 0 ≤ a * b := by
  by_cases c : a < 0
  · have := h.1 c; exact Int.mul_nonneg_of_nonpos_of_nonpos (by omega) (by omega)
  · have : ¬ b < 0 := fun x => c (h.2 x); exact Int.mul_nonneg (by omega) (by omega)
set_option maxRecDepth 100000 in
theorem mul_sign_neg {a b : Int} (h : ¬ (a < 0 ↔ b < 0)) : a * b ≤ 0 := by
  by_cases c : a < 0
  · have : ¬ b < 0 := fun x => h ⟨fun _ => x, fun _ => c⟩
    exact Int.mul_nonpos_of_nonpos_of_nonneg (by omega) (by omega)
  · have : b < 0 := Decidable.byContradiction fun x => h ⟨fun y => absurd y c, fun y => absurd y x⟩
    exact Int.mul_nonpos_of_nonneg_of_nonpos (by omega) (by omega)

set_option maxRecDepth 100000 in
/-- The document's test of a product, over sizes. -/
theorem ref_mul {a b : Int} (hb : b ≠ 0) (most : Nat) (hm : most = if (a < 0 ↔ b < 0) then 9223372036854775807 else 9223372036854775808) :
    fitB (a * b) = decide (a.natAbs ≤ most / b.natAbs) := by
  rw [Bool.eq_iff_iff, fitB_true, decide_eq_true_eq, size_le _ _ _ (by omega), ← mul_abs]
  split at hm
  · have := mul_sign_pos ‹_›; omega
  · have := mul_sign_neg ‹_›; omega

set_option maxRecDepth 100000 in
/-- Division rounded down, by a number from 1 on. -/
theorem div_down {a b : Int} (hb : 1 ≤ b) (h : a.tmod b < 0) : a.tdiv b - 1 = a / b ∧ a.tmod b + b = a % b := by
  have e := tdiv_tmod a b
  have l := tmod_lt a b (by omega)
  have e2 := Int.mul_ediv_add_emod a b
  have l2 := Int.emod_nonneg a (show b ≠ 0 by omega)
  have l3 := Int.emod_lt_of_pos a (show 0 < b by omega)
  have key : a.tmod b + b = a % b := by
    have : b * (a / b - a.tdiv b) = a.tmod b - a % b := by rw [Int.mul_sub]; omega
    have h1 : a / b - a.tdiv b = -1 := by
      have hlt : b * (a / b - a.tdiv b) < 0 := by omega
      have hgt : b * (-2) < b * (a / b - a.tdiv b) := by omega
      have x1 := Int.lt_of_mul_lt_mul_left hgt (by omega : 0 ≤ b)
      have x2 : a / b - a.tdiv b < 0 := Int.lt_of_mul_lt_mul_left (a := b) (by simpa using hlt) (by omega)
      omega
    rw [h1] at this; omega
  refine ⟨?_, key⟩
  have : b * (a.tdiv b - 1) = b * (a / b) := by rw [Int.mul_sub]; omega
  exact Int.eq_of_mul_eq_mul_left (by omega) this
set_option maxRecDepth 100000 in
theorem div_same {a b : Int} (hb : 1 ≤ b) (h : 0 ≤ a.tmod b) : a.tdiv b = a / b ∧ a.tmod b = a % b := by
  have e := tdiv_tmod a b
  have l := tmod_lt a b (by omega)
  have hq : a / b = a.tdiv b := by
    rw [Int.ediv_eq_iff_of_pos (by omega)]
    constructor
    · rw [Int.mul_comm]; omega
    · rw [Int.mul_comm]; omega
  have hr := Int.mul_ediv_add_emod a b
  rw [hq] at hr
  exact ⟨hq.symm, by omega⟩

set_option maxRecDepth 100000 in
theorem div_bound {a b : Int} (ha : fitB a = true) (hb : 1 ≤ b) (hc : fitB b = true) : fitB (a / b) = true ∧ fitB (a % b) = true := by
  have h1 := fitB_true.1 ha; have h2 := fitB_true.1 hc
  have l2 := Int.emod_nonneg a (show b ≠ 0 by omega)
  have l3 := Int.emod_lt_of_pos a (show 0 < b by omega)
  have q := Int.natAbs_ediv_le_natAbs a b
  have q2 : a < 0 → a / b < 0 := fun h => Int.ediv_neg_of_neg_of_pos h (by omega)
  exact ⟨fitB_true.2 (by omega), fitB_true.2 (by omega)⟩

set_option maxRecDepth 100000 in
theorem fit_zero : fitB 0 = true := by decide
set_option maxRecDepth 100000 in
theorem mul_zero_fit (a : Int) : fitV (a * 0) = 0 ∧ fitB (a * 0) = true := by rw [Int.mul_zero]; exact ⟨by decide, by decide⟩
set_option maxRecDepth 100000 in
theorem mul_least : fitV (-9223372036854775808 * -1) = 0 ∧ fitB (-9223372036854775808 * -1) = false := by constructor <;> decide
set_option maxRecDepth 100000 in
theorem bne_true {x y : Int} (h : (x != y) = true) : x ≠ y := by simpa using h
set_option maxRecDepth 100000 in
theorem bne_false {x y : Int} (h : (x != y) = false) : x = y := by simpa using h
set_option maxRecDepth 100000 in
theorem beq_true {x y : Int} (h : (x == y) = true) : x = y := by simpa using h
set_option maxRecDepth 100000 in
theorem beq_false {x y : Int} (h : (x == y) = false) : x ≠ y := by simpa using h
set_option maxRecDepth 100000 in
theorem mul_no {a b : Int} (ha : fitB a = true) (h0 : (b == 0) = false) (h : (wrap64 ((wrap64 (a * b)).tdiv b) != a) = true) : fitB (a * b) = false := by
  cases c : fitB (a * b) with
  | false => rfl
  | true => exact absurd (mul_back ha (beq_false h0) c) (bne_true h)
set_option maxRecDepth 100000 in
theorem mul_yes {a b : Int} (ha : fitB a = true) (hb : fitB b = true) (h0 : (b == 0) = false) (hm : ¬ (a = -9223372036854775808 ∧ b = -1)) (h : (wrap64 ((wrap64 (a * b)).tdiv b) != a) = false) : fitB (a * b) = true :=
  mul_fits ha hb (beq_false h0) hm (bne_false h)

set_option maxRecDepth 100000 in
theorem div_q1 {a b : Int} (hb : 1 ≤ b) (D : fitB (a / b) = true ∧ fitB (a % b) = true) (h : a.tmod b < 0) : wrap64 (wrap64 (a.tdiv b) - 1) = a / b ∧ wrap64 (a.tmod b + b) = a % b := by
  have e := div_down hb h
  have d := fitB_true.1 D.1
  rw [e.2, ← e.1] at *
  exact ⟨by unfold wrap64; omega, wrap_fit D.2⟩
set_option maxRecDepth 100000 in
theorem div_q2 {a b : Int} (hb : 1 ≤ b) (D : fitB (a / b) = true ∧ fitB (a % b) = true) (h : 0 ≤ a.tmod b) : wrap64 (a.tdiv b) = a / b ∧ a.tmod b = a % b := by
  have e := div_same hb h
  rw [e.1, e.2]
  exact ⟨wrap_fit D.1, rfl⟩
set_option maxRecDepth 100000 in
theorem wrap64_def (x : Int) : wrap64 x = (x + 9223372036854775808) % 18446744073709551616 - 9223372036854775808 := by unfold wrap64; rfl
set_option maxRecDepth 100000 in
theorem size_neg {a : Int} (ha : fitB a = true) (h : a < 0) : IntKind.u64.wrap (IntKind.u64.wrap (wrap64 (-wrap64 (a + 1))) + 1) = a.natAbs := by
  have h1 := fitB_true.1 ha
  have e1 : wrap64 (a + 1) = a + 1 := wrap_fit (fitB_true.2 (by omega))
  have e2 : wrap64 (-(a + 1)) = -(a + 1) := wrap_fit (fitB_true.2 (by omega))
  rw [e1, e2, IntWalk.u64_in (-(a + 1)) (by omega), IntWalk.u64_in _ (by omega)]
  omega
set_option maxRecDepth 100000 in
theorem size_pos {a : Int} (ha : fitB a = true) (h : 0 ≤ a) : IntKind.u64.wrap a = a.natAbs := by
  have h1 := fitB_true.1 ha
  rw [IntWalk.u64_in _ (by omega)]; omega
set_option maxRecDepth 100000 in
theorem sign_beq {a b : Int} (h : (!decide (a < 0) == decide (b < 0)) = false) : (a < 0 ↔ b < 0) := by
  by_cases c : a < 0 <;> by_cases d : b < 0 <;> simp [c, d] at h ⊢
set_option maxRecDepth 100000 in
theorem sign_bne {a b : Int} (h : (!decide (a < 0) == decide (b < 0)) = true) : ¬ (a < 0 ↔ b < 0) := by
  by_cases c : a < 0 <;> by_cases d : b < 0 <;> simp [c, d] at h ⊢
set_option maxRecDepth 100000 in
theorem refMul_1 {a b : Int} (h : (!decide (a < 0) == decide (b < 0)) = true) (hb : ¬ b = 0) (g : (9223372036854775808 : Int) / (b.natAbs : Int) < (a.natAbs : Int)) : fitB (a * b) = false := by
  have e : ((9223372036854775808 / b.natAbs : Nat) : Int) = (9223372036854775808 : Int) / (b.natAbs : Int) := by simp
  rw [ref_mul hb 9223372036854775808 (by rw [if_neg (sign_bne h)])]
  rw [← e] at g
  simp only [decide_eq_false_iff_not]; omega
set_option maxRecDepth 100000 in
theorem refMul_2 {a b : Int} (h : (!decide (a < 0) == decide (b < 0)) = true) (hb : ¬ b = 0) (g : (a.natAbs : Int) ≤ (9223372036854775808 : Int) / (b.natAbs : Int)) : fitB (a * b) = true := by
  have e : ((9223372036854775808 / b.natAbs : Nat) : Int) = (9223372036854775808 : Int) / (b.natAbs : Int) := by simp
  rw [ref_mul hb 9223372036854775808 (by rw [if_neg (sign_bne h)])]
  rw [← e] at g
  simp only [decide_eq_true_eq]; omega
set_option maxRecDepth 100000 in
theorem refMul_3 {a b : Int} (h : (!decide (a < 0) == decide (b < 0)) = false) (hb : ¬ b = 0) (g : (9223372036854775807 : Int) / (b.natAbs : Int) < (a.natAbs : Int)) : fitB (a * b) = false := by
  have e : ((9223372036854775807 / b.natAbs : Nat) : Int) = (9223372036854775807 : Int) / (b.natAbs : Int) := by simp
  rw [ref_mul hb 9223372036854775807 (by rw [if_pos (sign_beq h)])]
  rw [← e] at g
  simp only [decide_eq_false_iff_not]; omega
set_option maxRecDepth 100000 in
theorem refMul_4 {a b : Int} (h : (!decide (a < 0) == decide (b < 0)) = false) (hb : ¬ b = 0) (g : (a.natAbs : Int) ≤ (9223372036854775807 : Int) / (b.natAbs : Int)) : fitB (a * b) = true := by
  have e : ((9223372036854775807 / b.natAbs : Nat) : Int) = (9223372036854775807 : Int) / (b.natAbs : Int) := by simp
  rw [ref_mul hb 9223372036854775807 (by rw [if_pos (sign_beq h)])]
  rw [← e] at g
  simp only [decide_eq_true_eq]; omega
set_option maxRecDepth 100000 in
theorem zero_mul_fit (b : Int) : fitV (0 * b) = 0 ∧ fitB (0 * b) = true := by rw [Int.zero_mul]; exact ⟨by decide, by decide⟩
set_option maxRecDepth 100000 in
theorem ret_ib {a b : Int} {c d : Bool} (h : a = b) (g : c = d) : Ending.returned (.tuple #[.int .i64 a, .bool c]) = .returned (.tuple #[.int .i64 b, .bool d]) := by rw [h, g]
set_option maxRecDepth 100000 in
theorem ret_iib {a b x y : Int} {c d : Bool} (h : a = b) (e : x = y) (g : c = d) : Ending.returned (.tuple #[.int .i64 a, .int .i64 x, .bool c]) = .returned (.tuple #[.int .i64 b, .int .i64 y, .bool d]) := by rw [h, e, g]
set_option maxRecDepth 100000 in
theorem ret_ii {a b x y : Int} (h : a = b) (e : x = y) : Ending.returned (.tuple #[.int .i64 a, .int .i64 x]) = .returned (.tuple #[.int .i64 b, .int .i64 y]) := by rw [h, e]
set_option maxRecDepth 100000 in
theorem ret_i {k : IntKind} {a b : Int} (h : a = b) : Ending.returned (.int k a) = .returned (.int k b) := by rw [h]
set_option maxRecDepth 100000 in
theorem ret_b {a b : Bool} (h : a = b) : Ending.returned (.bool a) = .returned (.bool b) := by rw [h]
end Lc
/-
  The world after some draws.
-/
namespace Go.Proofs.YtaljddoenjgbfaaGreat
open Go.ChangeShapes Go.WideShapes Go.ChangeAt Go.RowKit Lc

/-- The world after some draws. -/
def Dr (w w' : World) : Prop := ∃ n, w' = w.drewN n
set_option maxRecDepth 100000 in
theorem Dr.refl (w : World) : Dr w w := ⟨0, rfl⟩
set_option maxRecDepth 100000 in
theorem Dr.trans {a b c : World} (h : Dr a b) (g : Dr b c) : Dr a c := by
  obtain ⟨n, rfl⟩ := h; obtain ⟨m, rfl⟩ := g; exact ⟨n + m, by simp⟩
set_option maxRecDepth 100000 in
theorem Dr.drewN (w : World) (n : Nat) : Dr w (w.drewN n) := ⟨n, rfl⟩
set_option maxRecDepth 100000 in
theorem Dr.grown {w w' : World} (h : Dr w w') : Grown w w' := by
  obtain ⟨n, rfl⟩ := h; exact (Grown.refl w : Grown w w)

set_option maxRecDepth 100000 in
theorem results_tmp4 {fn : Func} {t u v x : Tmp} (h : fn.results = #[.tmp t, .tmp u, .tmp v, .tmp x]) (tmps : Array Value) (P : Program) (w : World) :
    (results fn tmps).run P w = .ok (.tuple #[tmps.getD t undef, tmps.getD u undef, tmps.getD v undef, tmps.getD x undef]) w := by
  simp [results, h]
set_option maxRecDepth 100000 in
theorem ret_iiii {a b c d a' b' c' d' : Int} (h1 : a = a') (h2 : b = b') (h3 : c = c') (h4 : d = d') : Ending.returned (.tuple #[.int .i64 a, .int .i64 b, .int .i64 c, .int .i64 d]) = .returned (.tuple #[.int .i64 a', .int .i64 b', .int .i64 c', .int .i64 d']) := by rw [h1, h2, h3, h4]
end Go.Proofs.YtaljddoenjgbfaaGreat
/-
  The world behind a call that makes memory: what was there is as it was. The row's last step in such a world.
-/
namespace Go.Proofs.YtaljddoenjgbfaaGreat
open Go.ChangeShapes Go.WideShapes Go.ChangeAt Go.RowKit Lc

/-- What was there is as it was; the rest is new. -/
def Up (w w' : World) : Prop := Below w.heap.size w w'
set_option maxRecDepth 100000 in
theorem Up.refl (w : World) : Up w w := Below.refl _ _
set_option maxRecDepth 100000 in
theorem Up.trans {a b c : World} (h : Up a b) (g : Up b c) : Up a c := Below.trans h (Below.mono g (Below.size h))
set_option maxRecDepth 100000 in
theorem Up.drewN (w : World) (n : Nat) : Up w (w.drewN n) := Joins.below_draws _ _ _
set_option maxRecDepth 100000 in
theorem Up.of_dr {w w' : World} (h : Dr w w') : Up w w' := by obtain ⟨n, rfl⟩ := h; exact Up.drewN w n
set_option maxRecDepth 100000 in
theorem Up.alloc (w : World) (o : Obj) : Up w (w.alloc o) := Joins.below_alloc1 w o
set_option maxRecDepth 100000 in
theorem Up.alloc' {w w' : World} (h : Up w w') (o : Obj) : Up w (w'.alloc o) := h.trans (Up.alloc _ _)
set_option maxRecDepth 100000 in
theorem Up.drewN' {w w' : World} (h : Up w w') (n : Nat) : Up w (w'.drewN n) := h.trans (Up.drewN _ _)
set_option maxRecDepth 100000 in
theorem Up.setCell' {w w' : World} (h : Up w w') {p : Addr} (hp : w.heap.size ≤ p.block) (u : Value) : Up w (w'.setCell p u) := Below.setCell h hp u
set_option maxRecDepth 100000 in
theorem Up.size {w w' : World} (h : Up w w') : w.heap.size ≤ w'.heap.size := Below.size h
set_option maxRecDepth 100000 in
theorem cell_lt {w : World} {b o : Nat} {v : Value} (h : w.cell? ⟨b, o, none⟩ = some v) : b < w.heap.size := by
  rcases Nat.lt_or_ge b w.heap.size with k | k
  · exact k
  · simp [World.cell?, Array.getElem?_eq_none k] at h
set_option maxRecDepth 100000 in
theorem Up.cell {w w' : World} (u : Up w w') {b o : Nat} {v : Value} (h : w.cell? ⟨b, o, none⟩ = some v) : w'.cell? ⟨b, o, none⟩ = some v := by
  rw [Below.cell u (p := ⟨b, o, none⟩) (cell_lt h)]; exact h

/-- Block b may be written. -/
def Free (w : World) (b : Nat) : Prop := b < w.heap.size ∧ ∀ j, w.frozen? ⟨b, j, none⟩ = false
set_option maxRecDepth 100000 in
theorem Free.up {w w' : World} {b : Nat} (x : Free w b) (u : Up w w') : Free w' b :=
  ⟨Nat.lt_of_lt_of_le x.1 u.size, fun j => by rw [Below.frozen u (p := ⟨b, j, none⟩) x.1]; exact x.2 j⟩
set_option maxRecDepth 100000 in
theorem Free.new (w : World) (c : Array Value) (t : TypeId) : Free (w.alloc (.cells c t)) w.heap.size :=
  ⟨by rw [World.size_alloc]; omega, fun j => World.frozen?_alloc_new w c t j⟩

section
variable {H : Type} {enc : TypeId × Value → H} {w : World} {base : Nat} {spare : Nat → Bool} {held : Bool}
set_option maxRecDepth 100000 in
/-- Nothing but new memory was made, and no memory came in: the row's last step. -/
theorem post_flat {P : Program} {f : Func} {s : ChangeSpec} {apart fresh handsOn again : Bool} {W W' : World} {args : Array Value} {v : Value} {ds gs : List (DataW H)}
    (hW : DataW.Whole enc P f.params.toList s.vars apart W args.toList ds gs [])
    (hres : ∀ (b : Nat) (sp : Nat → Bool) (hd : Bool), DataW.TrodAll enc P W' b sp hd f.resultTypes.toList (v.resultList f.resultTypes.size) (s.fn H (ds ++ gs)).results [])
    (hargs : ∀ sp : Nat → Bool, DataW.TrodAll enc P W' 0 sp true f.params.toList args.toList (s.fn H (ds ++ gs)).args [])
    (hvars : ∀ sp : Nat → Bool, DataW.TrodVars enc P W' sp s.vars (s.fn H (ds ++ gs)).vars [])
    (hb : Up W W')
    (hok : ∀ (j : Nat) (t : TypeId) (r : Value), f.resultTypes[j]? = some t → (v.resultList f.resultTypes.size)[j]? = some r → Value.okWide P W' .any 0 t r) :
    s.post enc P f apart fresh handsOn again W args v W' := by
  refine ⟨ds, gs, [], [], [], [], hW, hres _ _ _, hargs _, hvars _, Below.frame hb _, fun _ => ⟨hok, _, _, [], ⟨[], [], trodAll_append (hargs _) (hres _ _ _), hvars _, rfl, ?_, ?_⟩, ?_⟩⟩
  · intro b off hp; cases hp
  · intro _; exact List.nodup_nil
  · intro p hp; cases hp
end
end Go.Proofs.YtaljddoenjgbfaaGreat
/-
  Numbers as bytes, the highest first: plain. Nothing of the program stands here.
-/
namespace Lc
open Go Go.RowKit

/-- The number that these bytes tell. -/
def beN (l : List UInt8) : Nat := l.foldl (fun n x => n * 256 + x.toNat) 0
/-- The lowest m bytes of n, the highest first. -/
def beB (m n : Nat) : List UInt8 := (List.range m).map fun j => UInt8.ofNat (n / 256 ^ (m - 1 - j))

set_option maxRecDepth 100000 in
theorem beN_nil : beN [] = 0 := rfl
set_option maxRecDepth 100000 in
theorem beN_snoc (l : List UInt8) (x : UInt8) : beN (l ++ [x]) = beN l * 256 + x.toNat := by simp [beN]
set_option maxRecDepth 100000 in
theorem beN_from (l : List UInt8) (n : Nat) : l.foldl (fun n x => n * 256 + x.toNat) n = n * 256 ^ l.length + beN l := by
  induction l generalizing n with
  | nil => simp [beN]
  | cons x l ih =>
    have e : beN (x :: l) = x.toNat * 256 ^ l.length + beN l := by
      show List.foldl _ (0 * 256 + x.toNat) l = _
      rw [ih]; simp
    rw [List.foldl_cons, ih, e, List.length_cons, Nat.pow_succ, Nat.add_mul, Nat.mul_assoc, Nat.mul_comm 256, Nat.add_assoc]
set_option maxRecDepth 100000 in
theorem beN_append (l m : List UInt8) : beN (l ++ m) = beN l * 256 ^ m.length + beN m := by
  unfold beN; rw [List.foldl_append]; exact beN_from m _
set_option maxRecDepth 100000 in
theorem beN_lt (l : List UInt8) : beN l < 256 ^ l.length := by
  induction l with
  | nil => simp [beN]
  | cons x l ih =>
    have h := beN_append [x] l
    have hx : beN [x] = x.toNat := by simp [beN]
    have := x.toNat_lt
    rw [hx] at h
    show beN ([x] ++ l) < _
    rw [h, List.length_cons, Nat.pow_succ]
    have : x.toNat * 256 ^ l.length ≤ 255 * 256 ^ l.length := Nat.mul_le_mul_right _ (by omega)
    omega
set_option maxRecDepth 100000 in
theorem beN_snoc_take (l : List UInt8) (j : Nat) (h : j < l.length) : beN (l.take (j + 1)) = beN (l.take j) * 256 + (l.getD j 0).toNat := by
  rw [List.take_succ_eq_append_getElem h, beN_snoc]; simp [List.getD, h]
set_option maxRecDepth 100000 in
theorem beN_take_lt (l : List UInt8) (j k : Nat) (h : j ≤ k) : beN (l.take j) < 256 ^ k := by
  have h1 := beN_lt (l.take j)
  have h2 : (l.take j).length ≤ k := by rw [List.length_take]; omega
  have h3 : 256 ^ (l.take j).length ≤ 256 ^ k := Nat.pow_le_pow_right (by omega) h2
  omega

set_option maxRecDepth 100000 in
theorem beB_len (m n : Nat) : (beB m n).length = m := by simp [beB]
set_option maxRecDepth 100000 in
theorem beB_take (m n i : Nat) (h : i < m) : (beB m n).take (i + 1) = (beB m n).take i ++ [UInt8.ofNat (n / 256 ^ (m - 1 - i))] := by
  rw [List.take_succ_eq_append_getElem (by rw [beB_len]; exact h)]; simp [beB]
set_option maxRecDepth 100000 in
theorem beN_beB_take (m n i : Nat) (h : i ≤ m) : beN ((beB m n).take i) = (n / 256 ^ (m - i)) % 256 ^ i := by
  induction i with
  | zero => simp [beN, Nat.mod_one]
  | succ i ih =>
    rw [beB_take m n i (by omega), beN_snoc, ih (by omega)]
    have e : m - i = (m - (i + 1)) + 1 := by omega
    have e' : m - 1 - i = m - (i + 1) := by omega
    rw [e, e', Nat.pow_succ, ← Nat.div_div_eq_div_mul]
    generalize n / 256 ^ (m - (i + 1)) = q
    rw [Nat.pow_succ, Nat.mul_comm (256 ^ i) 256, Nat.mod_mul]
    simp
    omega
set_option maxRecDepth 100000 in
theorem beN_beB (m n : Nat) : beN (beB m n) = n % 256 ^ m := by
  have h := beN_beB_take m n m (Nat.le_refl _)
  rw [List.take_of_length_le (by rw [beB_len]; exact Nat.le_refl _)] at h
  simpa using h
set_option maxRecDepth 100000 in
/-- The first bytes of a number, and the last ones. -/
theorem beN_parts (m n i : Nat) : beN ((beB m n).take i) * 256 ^ (m - i) + beN ((beB m n).drop i) = n % 256 ^ m := by
  rw [← beN_beB]
  have hl : ((beB m n).drop i).length = m - i := by rw [List.length_drop, beB_len]
  have := beN_append ((beB m n).take i) ((beB m n).drop i)
  rw [List.take_append_drop, hl] at this
  omega

/-- The number n of m bytes, with a sign: as the highest bits of a word, shifted back. -/
def sgI (m : Nat) (n : Int) : Int := ((n * 2 ^ (64 - 8 * m) + 9223372036854775808) % 18446744073709551616 - 9223372036854775808) / 2 ^ (64 - 8 * m)
set_option maxRecDepth 100000 in
theorem m8 {m : Nat} (h1 : 1 ≤ m) (h8 : m ≤ 8) : m = 1 ∨ m = 2 ∨ m = 3 ∨ m = 4 ∨ m = 5 ∨ m = 6 ∨ m = 7 ∨ m = 8 := by omega
set_option maxRecDepth 100000 in
/-- It is less by 2 to the power of its bits, if its highest bit is 1. -/
theorem sgI_is {m : Nat} {n : Int} (h1 : 1 ≤ m) (h8 : m ≤ 8) (n0 : 0 ≤ n) (hn : n < 256 ^ m) : sgI m n = if n < 2 ^ (8 * m - 1) then n else n - 2 ^ (8 * m) := by
  unfold sgI
  rcases m8 h1 h8 with rfl | rfl | rfl | rfl | rfl | rfl | rfl | rfl <;> simp at hn ⊢ <;> split <;> omega
set_option maxRecDepth 100000 in
/-- Only what fits matters. -/
theorem sgI_mod {m : Nat} {n k : Int} (h1 : 1 ≤ m) (h8 : m ≤ 8) (h : n % 256 ^ m = k % 256 ^ m) : sgI m n = sgI m k := by
  unfold sgI
  rcases m8 h1 h8 with rfl | rfl | rfl | rfl | rfl | rfl | rfl | rfl <;> simp at h ⊢ <;> omega
end Lc
/-
  A slice that reads as bytes; rows of bytes that a call makes.
-/
namespace Go.Proofs.YtaljddoenjgbfaaGreat
open Go.ChangeShapes Go.WideShapes Go.ChangeAt Go.RowKit Lc

/-- Bytes, as cells. -/
def bc (l : List UInt8) : List Value := l.map fun x => Value.int .u8 x.toNat
set_option maxRecDepth 100000 in
theorem bc_len (l : List UInt8) : (bc l).length = l.length := by simp [bc]
set_option maxRecDepth 100000 in
theorem bc_append (l m : List UInt8) : bc (l ++ m) = bc l ++ bc m := by simp [bc]
set_option maxRecDepth 100000 in
theorem bc_get {l : List UInt8} {i : Nat} (h : i < l.length) : (bc l)[i]? = some (.int .u8 (l.getD i 0).toNat) := by simp [bc, h]
set_option maxRecDepth 100000 in
theorem bc_one {l : List UInt8} : ∀ u ∈ bc l, u.oneCell' = true := by
  intro u hu; obtain ⟨x, _, rfl⟩ := List.mem_map.1 hu; rfl
set_option maxRecDepth 100000 in
theorem bc_inj {l m : List UInt8} (h : bc l = bc m) : l = m := by
  apply List.ext_getElem?
  intro i
  have := congrArg (fun (x : List Value) => x[i]?) h
  simp only [bc, List.getElem?_map] at this
  rcases hl : l[i]? with _ | x <;> rcases hm : m[i]? with _ | y <;> rw [hl, hm] at this <;> simp at this
  have : x = y := UInt8.toNat_inj.1 (by omega)
  rw [this]

/-- From this address on the bytes l lie in memory. -/
def Rd (w : World) (A : Option Addr) (l : List UInt8) : Prop :=
  0 < l.length → ∃ b o, A = some ⟨b, o, none⟩ ∧ ∀ i, i < l.length → w.cell? ⟨b, o + i, none⟩ = some (.int .u8 (l.getD i 0).toNat)

set_option maxRecDepth 100000 in
theorem Rd.nil (w : World) (A : Option Addr) : Rd w A [] := fun h => absurd h (by simp)
set_option maxRecDepth 100000 in
theorem Rd.up {w w' : World} {A : Option Addr} {l : List UInt8} (h : Rd w A l) (u : Up w w') : Rd w' A l := fun h0 => by
  obtain ⟨b, o, e, hc⟩ := h h0
  exact ⟨b, o, e, fun i hi => u.cell (hc i hi)⟩
set_option maxRecDepth 100000 in
theorem Rd.take {w : World} {A : Option Addr} {l : List UInt8} (h : Rd w A l) (k : Nat) : Rd w A (l.take k) := fun h0 => by
  have hl : (l.take k).length ≤ l.length := by rw [List.length_take]; omega
  obtain ⟨b, o, e, hc⟩ := h (by omega)
  refine ⟨b, o, e, fun i hi => ?_⟩
  rw [hc i (by omega)]
  rw [List.length_take] at hi
  simp [List.getD, List.getElem?_take_of_lt (show i < k by omega)]
set_option maxRecDepth 100000 in
theorem Rd.drop {w : World} {b o : Nat} {l : List UInt8} (h : Rd w (some ⟨b, o, none⟩) l) (k : Nat) : Rd w (some ⟨b, o + k, none⟩) (l.drop k) := fun h0 => by
  rw [List.length_drop] at h0
  obtain ⟨b', o', e, hc⟩ := h (by omega)
  simp only [Option.some.injEq, Addr.mk.injEq, and_true] at e
  obtain ⟨rfl, rfl⟩ := e
  refine ⟨b, o + k, rfl, fun i hi => ?_⟩
  rw [List.length_drop] at hi
  rw [Nat.add_assoc, hc (k + i) (by omega)]
  simp [List.getD]
set_option maxRecDepth 100000 in
theorem Rd.add {w : World} {A : Option Addr} {l : List UInt8} (h : Rd w A l) : ∀ p, A = some p → ∀ j u, (bc l)[j]? = some u → w.cell? (p.add j) = some u := by
  rintro p rfl j u hj
  have hjl : j < l.length := by have := (List.getElem?_eq_some_iff.1 hj).1; rwa [bc_len] at this
  obtain ⟨b, o, e, hc⟩ := h (by omega)
  simp only [Option.some.injEq] at e
  subst e
  have ea : (⟨b, o, none⟩ : Addr).add j = ⟨b, o + j, none⟩ := by unfold Addr.add; split <;> simp_all
  rw [ea, hc j hjl, ← hj, bc_get hjl]
set_option maxRecDepth 100000 in
theorem Rd.own {w : World} {base : Nat} {e : TypeId} {A : Option Addr} {n c : Nat} {l : List UInt8} (h : w.ownsRow base e 1 (.slice A n c) n (bc l)) : Rd w A l := fun h0 => by
  have hn : n = l.length := by have := h.1; rw [bc_len] at this; omega
  subst hn
  obtain ⟨g, cap, hv, _, _⟩ := h.form h0
  have hA : A = some ⟨g, 0, none⟩ := by injection hv
  subst hA
  refine ⟨g, 0, rfl, fun i hi => ?_⟩
  have := h.cells (g := g) rfl i _ (bc_get hi)
  have ea : (⟨g, 0, none⟩ : Addr).add i = ⟨g, 0 + i, none⟩ := by unfold Addr.add; split <;> simp_all
  rw [ea] at this; exact this
set_option maxRecDepth 100000 in
theorem Rd.new (w : World) (l : List UInt8) (cs : Array Value) (t : TypeId) (h : cs.toList = bc l) : Rd (w.alloc (.cells cs t)) (some ⟨w.heap.size, 0, none⟩) l := fun h0 => by
  refine ⟨w.heap.size, 0, rfl, fun i hi => ?_⟩
  have e : cs[i]? = some (.int .u8 (l.getD i 0).toNat) := by rw [← bc_get hi, ← h]; simp
  simp [e]

/-- The value v is a row of the bytes l that the call made. -/
def Ow (w : World) (base : Nat) (v : Value) (l : List UInt8) : Prop := w.ownsRow base 5 1 v l.length (bc l)
set_option maxRecDepth 100000 in
theorem Ow.form {w : World} {base : Nat} {v : Value} {l : List UInt8} (h : Ow w base v l) : ∃ A c, v = .slice A l.length c ∧ l.length ≤ c ∧ c ≤ maxLen ∧ Rd w A l ∧ (A = none → l = [] ∧ c = 0) := by
  rcases h.2 with ⟨rfl, h0⟩ | ⟨g, cap, cur, rfl, _, _, h1, h2, _⟩
  · have e : l = [] := List.eq_nil_of_length_eq_zero h0
    subst e
    exact ⟨none, 0, rfl, Nat.le_refl _, Nat.zero_le _, Rd.nil _ _, fun _ => ⟨rfl, rfl⟩⟩
  · exact ⟨_, _, rfl, h1, h2, Rd.own h, fun h => by cases h⟩
set_option maxRecDepth 100000 in
theorem Ow.up {w w' : World} {base : Nat} {v : Value} {l : List UInt8} (h : Ow w base v l) (u : Up w w') : Ow w' base v l :=
  World.ownsRow.kept (row := none) h ⟨u.os, u.tape, u.output, u.size, fun k hk _ => u.block k hk⟩ (by
    rcases hb : v.ownBlock with _ | k
    · exact .inl rfl
    · exact .inr (by simp))
set_option maxRecDepth 100000 in
theorem Ow.nil (w : World) (base : Nat) : Ow w base (.slice none 0 0) [] := World.ownsRow_nil _ _ _ _
set_option maxRecDepth 100000 in
theorem Ow.empty (w : World) (base : Nat) (h : base ≤ w.heap.size) : Ow (w.alloc (.cells #[] 5)) base (.slice (some ⟨w.heap.size, 0, none⟩) 0 0) [] := World.ownsRow_made w #[] 0 h (Nat.zero_le _) rfl
set_option maxRecDepth 100000 in
theorem Ow.base {w : World} {base base' : Nat} {v : Value} {l : List UInt8} (h : Ow w base v l) (hb : base' ≤ base) : Ow w base' v l := by
  refine ⟨h.1, ?_⟩
  rcases h.2 with h | ⟨g, cap, cur, h1, h2, h3⟩
  · exact .inl h
  · exact .inr ⟨g, cap, cur, h1, by omega, h3⟩
set_option maxRecDepth 100000 in
theorem Ow.block {w : World} {base : Nat} {v : Value} {l : List UInt8} (h : Ow w base v l) : ∀ k, v.ownBlock = some k → base ≤ k := fun k hk => (World.ownsRow.lt h k hk).1
set_option maxRecDepth 100000 in
/-- Behind an append: what was there is as it was, but for the row itself. -/
theorem Up.grown {w0 w w' : World} (u : Up w0 w) {v : Value} (h : w.grownBy w' v.ownBlock) (hb : ∀ k, v.ownBlock = some k → w0.heap.size ≤ k) : Up w0 w' :=
  Below.grown u h u.size hb

set_option maxRecDepth 100000 in
theorem byteInfo : (Tryz.prog.info? 5).map (fun i => (i.zero, i.size, i.bytes)) = some (some (.int .u8 0), 1, 1) := by kernel_rfl
set_option maxRecDepth 100000 in
/-- 'append(v, x...)', the source nil, empty or not. -/
theorem run_append_bytes (w : World) (ty : TypeId) (base : Nat) (v : Value) (l : List UInt8) (h : Ow w base v l) (A : Option Addr) (m : List UInt8) (c : Nat) (hr : Rd w A m)
    (hs : l.length + m.length ≤ 140737488355328) (hb : base ≤ w.heap.size) :
    ∃ v' w', (Builtin.append_ #[32, 32] ty #[v, .slice A m.length c]).run Tryz.prog w = .ok v' w' ∧ Ow w' base v' (l ++ m) ∧ w.grownBy w' v.ownBlock ∧ (v'.ownBlock = v.ownBlock ∨ v'.ownBlock = some w.heap.size) := by
  obtain ⟨i0, hi, hz0, hz1, hz2⟩ := info_parts byteInfo
  rcases A with _ | p
  · have hm : m = [] := by
      rcases Nat.eq_zero_or_pos m.length with h0 | h0
      · exact List.eq_nil_of_length_eq_zero h0
      · obtain ⟨b, o, e, _⟩ := hr h0; cases e
    subst hm
    refine ⟨v, w, ?_, by simpa using h, World.grownBy.refl w _, .inl rfl⟩
    rcases h.2 with ⟨rfl, h0⟩ | ⟨g, cap, cur, rfl, _, _, hnc, _⟩
    · simp [Builtin.append_, run_underlying Tryz.underlying32, sizeOf, typeInfo, hi, Builtin.lenOf, Builtin.firstCells]
    · simp [Builtin.append_, run_underlying Tryz.underlying32, sizeOf, typeInfo, hi, Builtin.lenOf, Builtin.firstCells, hnc, storeCells]
  · obtain ⟨v', w', hrun, h2, h3, _, h5⟩ := run_append_own_at (P := Tryz.prog) w base 32 ty 5 i0 (.int .u8 0) 1 1 Tryz.underlying32 hi hz0 hz1 hz2 rfl (by decide) v l.length (bc l) h p m.length c (bc m) (by rw [bc_len, Nat.mul_one]) (hr.add p rfl) bc_one (by unfold maxLen; omega) (by omega) hb
    exact ⟨v', w', hrun, by unfold Ow; rw [bc_append, List.length_append]; exact h2, h3, h5⟩
set_option maxRecDepth 100000 in
theorem wp_append_bytes (w : World) {o : Oper} {a : Act} {K : Act → World → Prop} {Q : Exit → Act → World → Prop} (s x : Operand)
    (ho : o.op = .call { callee := .builtin .append, args := #[s, x], argTypes := #[32, 32] })
    (base : Nat) (v : Value) (l : List UInt8) (hs : a.eval s = v) (h : Ow w base v l) (A : Option Addr) (m : List UInt8) (n c : Nat) (hx : a.eval x = .slice A n c) (hn : m.length = n) (hr : Rd w A m)
    (hsz : l.length + m.length ≤ 140737488355328) (hb : base ≤ w.heap.size)
    (k : ∀ v' w', Ow w' base v' (l ++ m) → w.grownBy w' v.ownBlock → (v'.ownBlock = v.ownBlock ∨ v'.ownBlock = some w.heap.size) → K (a.put o.dst v') w') : o.wp Tryz.prog a w K Q := by
  subst hn
  obtain ⟨v', w', hrun, h2, h3, h4⟩ := run_append_bytes w o.type base v l h A m c hr hsz hb
  unfold Oper.wp execOp
  simp only [ho, resolve, invoke, builtin, Sem.run_bind, Sem.run_pure, Result.andThen_ok, List.map_toArray, List.map_cons, List.map_nil, hs, hx, hrun]
  exact k v' w' h2 h3 h4
set_option maxRecDepth 100000 in
theorem wpList_append_bytes (w : World) {ops : Array Oper} {rest : List Oper} {o : Oper} {a : Act} {Q : Exit → Act → World → Prop} (hgd : o.guard = none) (s x : Operand)
    (ho : o.op = .call { callee := .builtin .append, args := #[s, x], argTypes := #[32, 32] })
    (base : Nat) (v : Value) (l : List UInt8) (hs : a.eval s = v) (h : Ow w base v l) (A : Option Addr) (m : List UInt8) (n c : Nat) (hx : a.eval x = .slice A n c) (hn : m.length = n) (hr : Rd w A m)
    (hsz : l.length + m.length ≤ 140737488355328) (hb : base ≤ w.heap.size)
    (k : ∀ v' w', Ow w' base v' (l ++ m) → w.grownBy w' v.ownBlock → (v'.ownBlock = v.ownBlock ∨ v'.ownBlock = some w.heap.size) → wpList Tryz.prog ops Q rest (a.put o.dst v') w') : wpList Tryz.prog ops Q (o :: rest) a w :=
  wpList_plain hgd fun _ hK => wp_append_bytes w s x ho base v l hs h A m n c hx hn hr hsz hb fun v' w' h2 h3 h4 => hK _ _ (k v' w' h2 h3 h4)
set_option maxRecDepth 100000 in
theorem step_append_bytes (w : World) {ops : Array Oper} {o : Oper} {a : Act} {K : Act → World → Prop} {Q : Exit → Act → World → Prop} {E : Prop} (hgd : o.guard = none) (s x : Operand)
    (ho : o.op = .call { callee := .builtin .append, args := #[s, x], argTypes := #[32, 32] })
    (base : Nat) (v : Value) (l : List UInt8) (hs : a.eval s = v) (h : Ow w base v l) (A : Option Addr) (m : List UInt8) (n c : Nat) (hx : a.eval x = .slice A n c) (hn : m.length = n) (hr : Rd w A m)
    (hsz : l.length + m.length ≤ 140737488355328) (hb : base ≤ w.heap.size)
    (k : ∀ v' w', Ow w' base v' (l ++ m) → w.grownBy w' v.ownBlock → (v'.ownBlock = v.ownBlock ∨ v'.ownBlock = some w.heap.size) → K (a.put o.dst v') w') :
    if Region.wanted o (yielded ops a.tmps) = true then Oper.wp Tryz.prog o a w K Q else E := by
  have hw : Region.wanted o (yielded ops a.tmps) = true := by simp [Region.wanted, hgd]
  rw [if_pos hw]
  exact wp_append_bytes w s x ho base v l hs h A m n c hx hn hr hsz hb k
end Go.Proofs.YtaljddoenjgbfaaGreat
/-
  Bytes as a text, and back; bytes that stand in the program's text.
-/
namespace Go.Proofs.YtaljddoenjgbfaaGreat
open Go.ChangeShapes Go.WideShapes Go.ChangeAt Go.RowKit Lc

/-- Bytes, as numbers. -/
def nums (l : List UInt8) : List Int := l.map fun x => (x.toNat : Int)
set_option maxRecDepth 100000 in
theorem nums_len (l : List UInt8) : (nums l).length = l.length := by simp [nums]
set_option maxRecDepth 100000 in
theorem nums_bytes (l : List UInt8) : Lib.bytesOf (nums l) = l := by
  unfold Lib.bytesOf nums
  rw [List.map_map]
  conv => rhs; rw [← List.map_id l]
  apply List.map_congr_left
  intro x _
  simp
set_option maxRecDepth 100000 in
theorem nums_bc (l : List UInt8) : (nums l).map (Value.int .u8) = bc l := by simp [nums, bc]
set_option maxRecDepth 100000 in
theorem nums_get (l : List UInt8) (i : Nat) : (nums l).getD i 0 = ((l.getD i 0).toNat : Int) := by
  rcases Nat.lt_or_ge i l.length with h | h
  · simp [nums, List.getD, h]
  · simp [nums, List.getD, h]
/-- Bytes, as a text. -/
def str (l : List UInt8) : ByteArray := ⟨l.toArray⟩
set_option maxRecDepth 100000 in
theorem str_list (l : List UInt8) : (str l).data.toList = l := rfl
set_option maxRecDepth 100000 in
theorem str_nums (l : List UInt8) : strOfNums (nums l) = str l := by
  apply ByteArray.ext
  apply Array.toList_inj.1
  rw [strOfNums_data]
  exact nums_bytes l

set_option maxRecDepth 100000 in
theorem convert_at (w : World) (b o n c : Nat) (l : List UInt8) (hl : l.length = n) (h : Rd w (some ⟨b, o, none⟩) l) : (convert 32 9 (.slice (some ⟨b, o, none⟩) n c)).run Tryz.prog w = .ok (.string (str l)) w := by
  rw [← str_nums]
  refine run_convert_bytes_arg w _ _ Tryz.underlying32 Tryz.underlying5 b o n c (nums l) (by rw [nums_len, hl]) (fun i hi => ?_) _ Tryz.underlying9
  obtain ⟨b', o', e, hc⟩ := h (by omega)
  simp only [Option.some.injEq, Addr.mk.injEq, and_true] at e
  obtain ⟨rfl, rfl⟩ := e
  rw [hc i (by omega), nums_get]

set_option maxRecDepth 100000 in
/-- string(b), the slice nil, empty or not. -/
theorem convert_rd (w : World) (A : Option Addr) (n c : Nat) (l : List UInt8) (hl : l.length = n) (h : Rd w A l) : (convert 32 9 (.slice A n c)).run Tryz.prog w = .ok (.string (str l)) w := by
  subst hl
  rcases Nat.eq_zero_or_pos l.length with h0 | h0
  · have e : l = [] := List.eq_nil_of_length_eq_zero h0
    subst e
    rcases A with _ | a
    · exact run_convert_bytes_nil w _ _ Tryz.underlying32 Tryz.underlying5 _ _ _ Tryz.underlying9
    · have hl : (loadCells a 0).run Tryz.prog w = .ok (([] : List Int).map (Value.int .u8)).toArray w := run_loadCells_list (P := Tryz.prog) w a [] (fun j v hj => by simp at hj)
      rw [List.length_nil, run_convert_bytes_string w _ _ _ _ 0 c Tryz.underlying32 Tryz.underlying5 Tryz.underlying9, run_bytesToString w _ 0 c [] hl]
      rfl
  · obtain ⟨b, o, rfl, _⟩ := h h0
    exact convert_at w b o _ c l rfl h

set_option maxRecDepth 100000 in
theorem Rd.mark (w : World) (l : List UInt8) (cs : Array Value) (t : TypeId) (fr : Nat × Nat) (h : cs.toList = bc l) : Rd (w.alloc (.cells cs t fr)) (some ⟨w.heap.size, 0, none⟩) l := fun h0 => by
  refine ⟨w.heap.size, 0, rfl, fun i hi => ?_⟩
  have e : cs[i]? = some (.int .u8 (l.getD i 0).toNat) := by rw [← bc_get hi, ← h]; simp
  rw [Nat.zero_add, World.cell?_alloc_mark, e]
set_option maxRecDepth 100000 in
theorem convert_const (w : World) (C : Array Value) (n c : Nat) : (convert 32 32 (.slice (some ⟨w.heap.size, 0, none⟩) n c)).run Tryz.prog (w.alloc (.cells C 5)) = .ok (.slice (some ⟨w.heap.size, 0, none⟩) n c) (w.alloc (.cells C 5 (C.size, C.size + 1))) :=
  Lib.run_convert_bytes_const w _ _ C n c Tryz.underlying32 Tryz.underlying5

set_option maxRecDepth 100000 in
theorem le_max {n : Nat} (h : n ≤ 4096) : n ≤ maxLen := by unfold maxLen; omega
end Go.Proofs.YtaljddoenjgbfaaGreat
