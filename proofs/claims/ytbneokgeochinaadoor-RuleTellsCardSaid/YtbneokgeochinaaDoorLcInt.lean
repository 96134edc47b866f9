/-
  Plain facts on whole numbers of 64 bits: what fits, and the tests by which sums, products and quotients are told. Nothing of the program stands here.
-/
import Derived.WalkKit
import Derived.ProofKit
import Derived.OpenShut
import Derived.IntWalk
namespace Lc
open Go Go.RowKit

/-- 'x' fits 64 bits. -/
def fitB (x : Int) : Bool := decide (-9223372036854775808 ≤ x ∧ x ≤ 9223372036854775807)
/-- 'x', or 0 where it does not fit. -/
def fitV (x : Int) : Int := if fitB x then x else 0

theorem fitB_true {x : Int} : fitB x = true ↔ (-9223372036854775808 ≤ x ∧ x ≤ 9223372036854775807) := by simp [fitB]
theorem fitB_false {x : Int} : fitB x = false ↔ ¬ (-9223372036854775808 ≤ x ∧ x ≤ 9223372036854775807) := by simp [fitB]
theorem fitV_true {x : Int} (h : fitB x = true) : fitV x = x := by simp [fitV, h]
theorem fitV_false {x : Int} (h : fitB x = false) : fitV x = 0 := by simp [fitV, h]
theorem fit_wf {x : Int} (h : (Lit.int .i64 x).wf = true) : fitB x = true := by
  exact fitB_true.2 (bounds_i64 h)
theorem wrap_fit {x : Int} (h : fitB x = true) : wrap64 x = x := by
  have := fitB_true.1 h
  unfold wrap64; omega
theorem wf_fit {x : Int} (h : fitB x = true) : (Lit.int .i64 x).wf = true := by
  rw [← wrap_fit h]; exact wrap64_wf _

theorem add_no {a b : Int} (ha : fitB a = true) (hb : fitB b = true) (h : (!decide (a ≤ wrap64 (a + b)) == decide (0 ≤ b)) = true) : fitB (a + b) = false := by
  have h1 := fitB_true.1 ha; have h2 := fitB_true.1 hb
  rw [fitB_false]
  unfold wrap64 at h
  rcases Decidable.em (0 ≤ b) with c | c <;> simp [c] at h <;> omega
theorem add_yes {a b : Int} (ha : fitB a = true) (hb : fitB b = true) (h : (!decide (a ≤ wrap64 (a + b)) == decide (0 ≤ b)) = false) : fitB (a + b) = true := by
  have h1 := fitB_true.1 ha; have h2 := fitB_true.1 hb
  rw [fitB_true]
  unfold wrap64 at h
  rcases Decidable.em (0 ≤ b) with c | c <;> simp [c] at h <;> omega

theorem tdiv_tmod (p b : Int) : b * p.tdiv b + p.tmod b = p := Int.mul_tdiv_add_tmod p b
theorem tmod_lt (p b : Int) (hb : b ≠ 0) : -(b.natAbs : Int) < p.tmod b ∧ p.tmod b < b.natAbs := by
  have h := Int.natAbs_tmod p b
  have h2 : p.natAbs % b.natAbs < b.natAbs := Nat.mod_lt _ (by omega)
  omega
theorem tdiv_abs (p b : Int) : (p.tdiv b).natAbs ≤ p.natAbs := by
  rw [Int.natAbs_tdiv]; exact Nat.div_le_self _ _

theorem mul_back {a b : Int} (ha : fitB a = true) (h0 : b ≠ 0) (hf : fitB (a * b) = true) : wrap64 ((wrap64 (a * b)).tdiv b) = a := by
  rw [wrap_fit hf, Int.mul_tdiv_cancel a h0, wrap_fit ha]
theorem mul_fits {a b : Int} (ha : fitB a = true) (hb : fitB b = true) (h0 : b ≠ 0) (hm : ¬ (a = -9223372036854775808 ∧ b = -1)) (h : wrap64 ((wrap64 (a * b)).tdiv b) = a) : fitB (a * b) = true := by
  have h1 := fitB_true.1 ha; have h2 := fitB_true.1 hb
  have e := tdiv_tmod (wrap64 (a * b)) b
  have l := tmod_lt (wrap64 (a * b)) b h0
  have t := tdiv_abs (wrap64 (a * b)) b
  have r : -9223372036854775808 ≤ wrap64 (a * b) ∧ wrap64 (a * b) ≤ 9223372036854775807 := by unfold wrap64; omega
  generalize hp : wrap64 (a * b) = p at *
  generalize hq : p.tdiv b = q at *
  have hq9 : q ≤ 9223372036854775808 ∧ -9223372036854775808 ≤ q := by omega
  by_cases c : q = 9223372036854775808
  · -- then a is the least, so is p, and b is -1
    have ea : a = -9223372036854775808 := by rw [← h, c]; unfold wrap64; omega
    have ep : p = -9223372036854775808 := by omega
    have eb : b = -1 := by
      subst c
      rw [ep] at e l
      omega
    exact absurd ⟨ea, eb⟩ hm
  · have eq : wrap64 q = q := wrap_fit (fitB_true.2 (by omega))
    rw [eq] at h
    subst h
    rw [Int.mul_comm b q] at e
    generalize q * b = P at *
    rw [fitB_true]
    unfold wrap64 at hp
    omega

/-- A product's size against a bound, by division. -/
theorem size_le (m n M : Nat) (hn : 0 < n) : m ≤ M / n ↔ m * n ≤ M := Nat.le_div_iff_mul_le hn

theorem mul_abs (a b : Int) : (a * b).natAbs = a.natAbs * b.natAbs := Int.natAbs_mul a b
theorem mul_sign_pos {a b : Int} (h : (a < 0 ↔ b < 0)) : 0 ≤ a * b := by
  by_cases c : a < 0
  · have := h.1 c; exact Int.mul_nonneg_of_nonpos_of_nonpos (by omega) (by omega)
  · have : ¬ b < 0 := fun x => c (h.2 x); exact Int.mul_nonneg (by omega) (by omega)
theorem mul_sign_neg {a b : Int} (h : ¬ (a < 0 ↔ b < 0)) : a * b ≤ 0 := by
  by_cases c : a < 0
  · have : ¬ b < 0 := fun x => h ⟨fun _ => x, fun _ => c⟩
    exact Int.mul_nonpos_of_nonpos_of_nonneg (by omega) (by omega)
  · have : b < 0 := Decidable.byContradiction fun x => h ⟨fun y => absurd y c, fun y => absurd y x⟩
    exact Int.mul_nonpos_of_nonneg_of_nonpos (by omega) (by omega)

/-- The document's test of a product, over sizes. -/
theorem ref_mul {a b : Int} (hb : b ≠ 0) (most : Nat) (hm : most = if (a < 0 ↔ b < 0) then 9223372036854775807 else 9223372036854775808) :
    fitB (a * b) = decide (a.natAbs ≤ most / b.natAbs) := by
  rw [Bool.eq_iff_iff, fitB_true, decide_eq_true_eq, size_le _ _ _ (by omega), ← mul_abs]
  split at hm
  · have := mul_sign_pos ‹_›; omega
  · have := mul_sign_neg ‹_›; omega

/-- Division rounded down, by a number from 1 on. -/
theorem div_down {a b : Int} (hb : 1 ≤ b) (h : a.tmod b < 0) : a.tdiv b - 1 = a / b ∧ a.tmod b + b = a % b := by
  have e := tdiv_tmod a b
  have l := tmod_lt a b (by omega)
  have e2 := Int.mul_ediv_add_emod a b
  have l2 := Int.emod_nonneg a (show b ≠ 0 by omega)
  have l3 := Int.emod_lt_of_pos a (show 0 < b by omega)
  have key : a.tmod b + b = a % b := by
    have : b * (a / b - a.tdiv b) = a.tmod b - a % b := by rw [Int.mul_sub]; omega
    have h1 : a / b - a.tdiv b = -1 := by
      have hlt : b * (a / b - a.tdiv b) < 0 := by omega
      have hgt : b * (-2) < b * (a / b - a.tdiv b) := by omega
      have x1 := Int.lt_of_mul_lt_mul_left hgt (by omega : 0 ≤ b)
      have x2 : a / b - a.tdiv b < 0 := Int.lt_of_mul_lt_mul_left (a := b) (by simpa using hlt) (by omega)
      omega
    rw [h1] at this; omega
  refine ⟨?_, key⟩
  have : b * (a.tdiv b - 1) = b * (a / b) := by rw [Int.mul_sub]; omega
  exact Int.eq_of_mul_eq_mul_left (by omega) this
theorem div_same {a b : Int} (hb : 1 ≤ b) (h : 0 ≤ a.tmod b) : a.tdiv b = a / b ∧ a.tmod b = a % b := by
  have e := tdiv_tmod a b
  have l := tmod_lt a b (by omega)
  have hq : a / b = a.tdiv b := by
    rw [Int.ediv_eq_iff_of_pos (by omega)]
    constructor
    · rw [Int.mul_comm]; omega
    · rw [Int.mul_comm]; omega
  have hr := Int.mul_ediv_add_emod a b
  rw [hq] at hr
  exact ⟨hq.symm, by omega⟩

theorem div_bound {a b : Int} (ha : fitB a = true) (hb : 1 ≤ b) (hc : fitB b = true) : fitB (a / b) = true ∧ fitB (a % b) = true := by
  have h1 := fitB_true.1 ha; have h2 := fitB_true.1 hc
  have l2 := Int.emod_nonneg a (show b ≠ 0 by omega)
  have l3 := Int.emod_lt_of_pos a (show 0 < b by omega)
  have q := Int.natAbs_ediv_le_natAbs a b
  have q2 : a < 0 → a / b < 0 := fun h => Int.ediv_neg_of_neg_of_pos h (by omega)
  exact ⟨fitB_true.2 (by omega), fitB_true.2 (by omega)⟩

theorem fit_zero : fitB 0 = true := by decide
theorem mul_zero_fit (a : Int) : fitV (a * 0) = 0 ∧ fitB (a * 0) = true := by rw [Int.mul_zero]; exact ⟨by decide, by decide⟩
theorem mul_least : fitV (-9223372036854775808 * -1) = 0 ∧ fitB (-9223372036854775808 * -1) = false := by constructor <;> decide
theorem bne_true {x y : Int} (h : (x != y) = true) : x ≠ y := by simpa using h
theorem bne_false {x y : Int} (h : (x != y) = false) : x = y := by simpa using h
theorem beq_true {x y : Int} (h : (x == y) = true) : x = y := by simpa using h
theorem beq_false {x y : Int} (h : (x == y) = false) : x ≠ y := by simpa using h
theorem mul_no {a b : Int} (ha : fitB a = true) (h0 : (b == 0) = false) (h : (wrap64 ((wrap64 (a * b)).tdiv b) != a) = true) : fitB (a * b) = false := by
  cases c : fitB (a * b) with
  | false => rfl
  | true => exact absurd (mul_back ha (beq_false h0) c) (bne_true h)
theorem mul_yes {a b : Int} (ha : fitB a = true) (hb : fitB b = true) (h0 : (b == 0) = false) (hm : ¬ (a = -9223372036854775808 ∧ b = -1)) (h : (wrap64 ((wrap64 (a * b)).tdiv b) != a) = false) : fitB (a * b) = true :=
  mul_fits ha hb (beq_false h0) hm (bne_false h)

theorem div_q1 {a b : Int} (hb : 1 ≤ b) (D : fitB (a / b) = true ∧ fitB (a % b) = true) (h : a.tmod b < 0) : wrap64 (wrap64 (a.tdiv b) - 1) = a / b ∧ wrap64 (a.tmod b + b) = a % b := by
  have e := div_down hb h
  have d := fitB_true.1 D.1
  rw [e.2, ← e.1] at *
  exact ⟨by unfold wrap64; omega, wrap_fit D.2⟩
theorem div_q2 {a b : Int} (hb : 1 ≤ b) (D : fitB (a / b) = true ∧ fitB (a % b) = true) (h : 0 ≤ a.tmod b) : wrap64 (a.tdiv b) = a / b ∧ a.tmod b = a % b := by
  have e := div_same hb h
  rw [e.1, e.2]
  exact ⟨wrap_fit D.1, rfl⟩
theorem wrap64_def (x : Int) : wrap64 x = (x + 9223372036854775808) % 18446744073709551616 - 9223372036854775808 := by unfold wrap64; rfl
theorem size_neg {a : Int} (ha : fitB a = true) (h : a < 0) : IntKind.u64.wrap (IntKind.u64.wrap (wrap64 (-wrap64 (a + 1))) + 1) = a.natAbs := by
  have h1 := fitB_true.1 ha
  have e1 : wrap64 (a + 1) = a + 1 := wrap_fit (fitB_true.2 (by omega))
  have e2 : wrap64 (-(a + 1)) = -(a + 1) := wrap_fit (fitB_true.2 (by omega))
  rw [e1, e2, IntWalk.u64_in (-(a + 1)) (by omega), IntWalk.u64_in _ (by omega)]
  omega
theorem size_pos {a : Int} (ha : fitB a = true) (h : 0 ≤ a) : IntKind.u64.wrap a = a.natAbs := by
  have h1 := fitB_true.1 ha
  rw [IntWalk.u64_in _ (by omega)]; omega
theorem sign_beq {a b : Int} (h : (!decide (a < 0) == decide (b < 0)) = false) : (a < 0 ↔ b < 0) := by
  by_cases c : a < 0 <;> by_cases d : b < 0 <;> simp [c, d] at h ⊢
theorem sign_bne {a b : Int} (h : (!decide (a < 0) == decide (b < 0)) = true) : ¬ (a < 0 ↔ b < 0) := by
  by_cases c : a < 0 <;> by_cases d : b < 0 <;> simp [c, d] at h ⊢
theorem refMul_1 {a b : Int} (h : (!decide (a < 0) == decide (b < 0)) = true) (hb : ¬ b = 0) (g : (9223372036854775808 : Int) / (b.natAbs : Int) < (a.natAbs : Int)) : fitB (a * b) = false := by
  have e : ((9223372036854775808 / b.natAbs : Nat) : Int) = (9223372036854775808 : Int) / (b.natAbs : Int) := by simp
  rw [ref_mul hb 9223372036854775808 (by rw [if_neg (sign_bne h)])]
  rw [← e] at g
  simp only [decide_eq_false_iff_not]; omega
theorem refMul_2 {a b : Int} (h : (!decide (a < 0) == decide (b < 0)) = true) (hb : ¬ b = 0) (g : (a.natAbs : Int) ≤ (9223372036854775808 : Int) / (b.natAbs : Int)) : fitB (a * b) = true := by
  have e : ((9223372036854775808 / b.natAbs : Nat) : Int) = (9223372036854775808 : Int) / (b.natAbs : Int) := by simp
  rw [ref_mul hb 9223372036854775808 (by rw [if_neg (sign_bne h)])]
  rw [← e] at g
  simp only [decide_eq_true_eq]; omega
theorem refMul_3 {a b : Int} (h : (!decide (a < 0) == decide (b < 0)) = false) (hb : ¬ b = 0) (g : (9223372036854775807 : Int) / (b.natAbs : Int) < (a.natAbs : Int)) : fitB (a * b) = false := by
  have e : ((9223372036854775807 / b.natAbs : Nat) : Int) = (9223372036854775807 : Int) / (b.natAbs : Int) := by simp
  rw [ref_mul hb 9223372036854775807 (by rw [if_pos (sign_beq h)])]
  rw [← e] at g
  simp only [decide_eq_false_iff_not]; omega
theorem refMul_4 {a b : Int} (h : (!decide (a < 0) == decide (b < 0)) = false) (hb : ¬ b = 0) (g : (a.natAbs : Int) ≤ (9223372036854775807 : Int) / (b.natAbs : Int)) : fitB (a * b) = true := by
  have e : ((9223372036854775807 / b.natAbs : Nat) : Int) = (9223372036854775807 : Int) / (b.natAbs : Int) := by simp
  rw [ref_mul hb 9223372036854775807 (by rw [if_pos (sign_beq h)])]
  rw [← e] at g
  simp only [decide_eq_true_eq]; omega
theorem zero_mul_fit (b : Int) : fitV (0 * b) = 0 ∧ fitB (0 * b) = true := by rw [Int.zero_mul]; exact ⟨by decide, by decide⟩
theorem ret_ib {a b : Int} {c d : Bool} (h : a = b) (g : c = d) : Ending.returned (.tuple #[.int .i64 a, .bool c]) = .returned (.tuple #[.int .i64 b, .bool d]) := by rw [h, g]
theorem ret_iib {a b x y : Int} {c d : Bool} (h : a = b) (e : x = y) (g : c = d) : Ending.returned (.tuple #[.int .i64 a, .int .i64 x, .bool c]) = .returned (.tuple #[.int .i64 b, .int .i64 y, .bool d]) := by rw [h, e, g]
theorem ret_ii {a b x y : Int} (h : a = b) (e : x = y) : Ending.returned (.tuple #[.int .i64 a, .int .i64 x]) = .returned (.tuple #[.int .i64 b, .int .i64 y]) := by rw [h, e]
theorem ret_i {k : IntKind} {a b : Int} (h : a = b) : Ending.returned (.int k a) = .returned (.int k b) := by rw [h]
theorem ret_b {a b : Bool} (h : a = b) : Ending.returned (.bool a) = .returned (.bool b) := by rw [h]
end Lc
