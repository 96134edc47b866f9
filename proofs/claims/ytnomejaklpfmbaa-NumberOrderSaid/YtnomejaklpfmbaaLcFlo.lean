/-
  Plain facts on floats of 64 bits, as the model's words have them: each finite word's value by 2^1074 is a whole number; comparisons, rounding down, whole numbers as floats. Nothing of the program stands here.
-/
import Derived.WalkKit
import Derived.ProofKit
import Derived.OpenShut
import Derived.WalkLawsBesides
import Derived.Laws.BitsAll
import Derived.Test.YtnomejaklpfmbaaLcInt
namespace Lc
open Go Go.RowKit Ieee

/-- The word's sign, and what lies below it. -/
def ng (x : Nat) : Bool := x / 9223372036854775808 % 2 == 1
def rung (x : Nat) : Nat := x % 9223372036854775808
/-- A rung's size, by 2^1074. -/
def mg (r : Nat) : Nat := if r < 4503599627370496 then r else (4503599627370496 + r % 4503599627370496) * 2 ^ (r / 4503599627370496 - 1)
/-- A sign put to a size. -/
def sgn (s : Bool) (m : Nat) : Int := if s then -(m : Int) else m
def sv (x : Nat) : Int := sgn (ng x) (mg (rung x))
def nanB (x : Nat) : Bool := decide (9218868437227405312 < rung x)
def infB (x : Nat) : Bool := decide (rung x = 9218868437227405312)
def finB (x : Nat) : Bool := decide (rung x < 9218868437227405312)
/-- One, by 2^1074. -/
def E : Nat := 1074
def K : Nat := 2 ^ E

theorem E_is : E = 1074 := rfl
theorem K_pos : 0 < K := Nat.two_pow_pos E
theorem dSign : double.signWeight = 9223372036854775808 := by decide
theorem dBin : double.binade = 4503599627370496 := by decide
theorem dInf : double.infRung = 9218868437227405312 := by decide
theorem dLeast : double.leastPlace = -1074 := by decide
theorem dFrac : double.fractionBits = 52 := rfl

/-- A float's place, and its digits, against its size. -/
def At (d : Datum) (s : Bool) (M : Nat) : Prop := ∃ m p, d = .number s m p ∧ -1074 ≤ p ∧ m * 2 ^ (p + 1074).toNat = M ∧ m < 9007199254740992

theorem read_fin {x : Nat} (h : rung x < 9218868437227405312) : At (double.read x) (ng x) (mg (rung x)) := by
  unfold Format.read
  simp only [dSign, dBin, dInf, dLeast]
  by_cases c : x % 9223372036854775808 < 4503599627370496
  · rw [if_pos c]
    exact ⟨_, _, rfl, by omega, by simp [mg, rung, c], by omega⟩
  · rw [if_neg c, if_pos (show x % 9223372036854775808 < 9218868437227405312 from h)]
    refine ⟨_, _, rfl, by omega, ?_, by omega⟩
    rw [show ((-1074 : Int) + ((x % 9223372036854775808 / 4503599627370496 - 1 : Nat) : Int) + 1074).toNat = x % 9223372036854775808 / 4503599627370496 - 1 by omega]
    simp [mg, rung, c]
theorem read_inf {x : Nat} (h : rung x = 9218868437227405312) : double.read x = .infinity (ng x) := by
  unfold rung at h
  unfold Format.read
  simp only [dSign, dBin, dInf, dLeast, h]
  simp [ng]
theorem read_nan {x : Nat} (h : 9218868437227405312 < rung x) : ∃ f, double.read x = .nan (ng x) f := by
  unfold rung at h
  refine ⟨x % 9223372036854775808 - 9218868437227405312, ?_⟩
  unfold Format.read
  simp only [dSign, dBin, dInf, dLeast]
  rw [if_neg (by omega), if_neg (by omega), if_neg (by omega)]; rfl

theorem mg_lt {a b : Nat} (h : a < b) : mg a < mg b := by
  unfold mg
  have ha := Nat.div_add_mod a 4503599627370496
  have hb := Nat.div_add_mod b 4503599627370496
  have la := Nat.mod_lt a (show 0 < 4503599627370496 by decide)
  have lb := Nat.mod_lt b (show 0 < 4503599627370496 by decide)
  by_cases c : a < 4503599627370496
  · rw [if_pos c]
    by_cases d : b < 4503599627370496
    · rw [if_pos d]; exact h
    · rw [if_neg d]
      have : 1 ≤ 2 ^ (b / 4503599627370496 - 1) := Nat.two_pow_pos _
      have := Nat.mul_le_mul_left (4503599627370496 + b % 4503599627370496) this
      omega
  · have d : ¬ b < 4503599627370496 := by omega
    rw [if_neg c, if_neg d]
    generalize a / 4503599627370496 = ea at *
    generalize b / 4503599627370496 = eb at *
    generalize a % 4503599627370496 = ma at *
    generalize b % 4503599627370496 = mb at *
    by_cases e : ea = eb
    · subst e
      exact Nat.mul_lt_mul_of_pos_right (by omega) (Nat.two_pow_pos _)
    · have hlt : ea < eb := by omega
      have s1 : (4503599627370496 + ma) * 2 ^ (ea - 1) < (2 * 4503599627370496) * 2 ^ (ea - 1) := Nat.mul_lt_mul_of_pos_right (by omega) (Nat.two_pow_pos _)
      have s2 : (2 * 4503599627370496) * 2 ^ (ea - 1) = 4503599627370496 * 2 ^ ea := by
        obtain ⟨k, rfl⟩ : ∃ k, ea = k + 1 := ⟨ea - 1, by omega⟩
        rw [Nat.pow_succ, Nat.add_sub_cancel]; omega
      have s3 : 4503599627370496 * 2 ^ ea ≤ 4503599627370496 * 2 ^ (eb - 1) := Nat.mul_le_mul_left _ (Nat.pow_le_pow_right (by decide) (by omega))
      have s4 : 4503599627370496 * 2 ^ (eb - 1) ≤ (4503599627370496 + mb) * 2 ^ (eb - 1) := Nat.mul_le_mul_right _ (by omega)
      omega
theorem mg_zero : mg 0 = 0 := by decide
theorem mg_inj {a b : Nat} (h : mg a = mg b) : a = b := by
  rcases Nat.lt_trichotomy a b with c | c | c
  · have := mg_lt c; omega
  · exact c
  · have := mg_lt c; omega
theorem mg_lt_iff {a b : Nat} : mg a < mg b ↔ a < b := by
  constructor
  · intro h
    rcases Nat.lt_trichotomy a b with c | c | c
    · exact c
    · subst c; omega
    · have := mg_lt c; omega
  · exact mg_lt

theorem signed_eq (s : Bool) (m u : Nat) : signed s m u = sgn s (m * 2 ^ u) := by unfold signed sgn; rw [Nat.shiftLeft_eq]
theorem sgn_mul (s : Bool) (m k : Nat) : sgn s (m * k) = sgn s m * k := by cases s <;> simp [sgn, Int.neg_mul]

theorem compare_mul (a b : Int) (c : Nat) (hc : 0 < c) : compare (a * c) (b * c) = compare a b := by
  have hc' : (0 : Int) < c := by omega
  have h1 : a * (c : Int) < b * c ↔ a < b := ⟨fun h => Int.lt_of_mul_lt_mul_right h (by omega), fun h => Int.mul_lt_mul_of_pos_right h hc'⟩
  have h2 : a * (c : Int) = b * c ↔ a = b := ⟨fun h => Int.eq_of_mul_eq_mul_right (by omega) h, fun h => by rw [h]⟩
  show compareOfLessAndEq _ _ = compareOfLessAndEq _ _
  unfold compareOfLessAndEq
  simp only [h1, h2]

theorem order_num {d e : Datum} {s t : Bool} {M N : Nat} (hd : At d s M) (he : At e t N) : d.order e = some (compare (sgn s M) (sgn t N)) := by
  obtain ⟨m, p, rfl, hp, rfl, -⟩ := hd
  obtain ⟨n, q, rfl, hq, rfl, -⟩ := he
  simp only [Datum.order, signed_eq]
  congr 1
  have e1 : (p + 1074).toNat = (p - min p q).toNat + (min p q + 1074).toNat := by omega
  have e2 : (q + 1074).toNat = (q - min p q).toNat + (min p q + 1074).toNat := by omega
  rw [e1, e2, Nat.pow_add, Nat.pow_add, ← Nat.mul_assoc, ← Nat.mul_assoc, sgn_mul s (m * _), sgn_mul t (n * _), compare_mul _ _ _ (Nat.two_pow_pos _)]

theorem cmp_lt {a b : Int} (h : a < b) : compare a b = .lt := by show compareOfLessAndEq _ _ = _; simp [compareOfLessAndEq, h]
theorem cmp_gt {a b : Int} (h : b < a) : compare a b = .gt := by show compareOfLessAndEq _ _ = _; simp [compareOfLessAndEq, show ¬ a < b by omega, show ¬ a = b by omega]
theorem cmp_eq (a : Int) : compare a a = .eq := by show compareOfLessAndEq _ _ = _; simp [compareOfLessAndEq]

/-- Comparison of two words, whatever they are. -/
theorem order_eq (x y : Nat) : double.order x y = if nanB x || nanB y then none else some (compare (sv x) (sv y)) := by
  unfold Format.order
  rcases Nat.lt_trichotomy (rung x) 9218868437227405312 with hx | hx | hx
  · have nx : nanB x = false := by simp [nanB]; omega
    rcases Nat.lt_trichotomy (rung y) 9218868437227405312 with hy | hy | hy
    · have ny : nanB y = false := by simp [nanB]; omega
      rw [order_num (read_fin hx) (read_fin hy), nx, ny]; rfl
    · have ny : nanB y = false := by simp [nanB]; omega
      obtain ⟨m, p, e, -⟩ := read_fin hx
      rw [e, read_inf hy, nx, ny]
      have := mg_lt (show rung x < rung y by omega)
      simp only [Datum.order, sv, Bool.or_self, Bool.false_eq_true, if_false, Option.some.injEq]
      cases c : ng y <;> cases d : ng x <;> simp only [sgn, if_true, if_false, Bool.false_eq_true] <;> first | (rw [cmp_lt (by omega)]) | (rw [cmp_gt (by omega)])
    · have ny : nanB y = true := by simp [nanB]; omega
      obtain ⟨m, p, e, -⟩ := read_fin hx
      obtain ⟨f, g⟩ := read_nan hy
      rw [e, g, nx, ny]; simp [Datum.order]
  · have nx : nanB x = false := by simp [nanB]; omega
    rcases Nat.lt_trichotomy (rung y) 9218868437227405312 with hy | hy | hy
    · have ny : nanB y = false := by simp [nanB]; omega
      obtain ⟨m, p, e, -⟩ := read_fin hy
      rw [e, read_inf hx, nx, ny]
      have := mg_lt (show rung y < rung x by omega)
      simp only [Datum.order, sv, Bool.or_self, Bool.false_eq_true, if_false, Option.some.injEq]
      cases c : ng y <;> cases d : ng x <;> simp only [sgn, if_true, if_false, Bool.false_eq_true] <;> first | (rw [cmp_lt (by omega)]) | (rw [cmp_gt (by omega)])
    · have ny : nanB y = false := by simp [nanB]; omega
      rw [read_inf hx, read_inf hy, nx, ny]
      have hm : 0 < mg 9218868437227405312 := by have := mg_lt (show 0 < 9218868437227405312 by decide); omega
      simp only [Datum.order, sv, hx, hy, Bool.or_self, Bool.false_eq_true, if_false, Option.some.injEq]
      generalize mg 9218868437227405312 = I at hm
      cases c : ng y <;> cases d : ng x <;> simp only [sgn, if_true, if_false, Bool.false_eq_true] <;> first | (rw [cmp_lt (by omega)]; rfl) | (rw [cmp_gt (by omega)]; rfl) | (rw [cmp_eq]; rfl)
    · have ny : nanB y = true := by simp [nanB]; omega
      obtain ⟨f, g⟩ := read_nan hy
      rw [read_inf hx, g, nx, ny]; simp [Datum.order]
  · have nx : nanB x = true := by simp [nanB]; omega
    obtain ⟨f, g⟩ := read_nan hx
    rw [g, nx]; simp [Datum.order]


/-! ### What is cut off -/

theorem gap_big {n drop : Nat} (h : n.log2 + 2 < drop) : n < 2 ^ (n.log2 + 2) ∧ n < 2 ^ drop := by
  have h1 : n < 2 ^ (n.log2 + 1) := Nat.lt_log2_self
  have h2 : 2 ^ (n.log2 + 1) ≤ 2 ^ (n.log2 + 2) := Nat.pow_le_pow_right (by decide) (by omega)
  have h3 : 2 ^ (n.log2 + 1) ≤ 2 ^ drop := Nat.pow_le_pow_right (by decide) (by omega)
  omega
/-- The quotient and the rest, without the bound on what is dropped. -/
theorem gap_eq (n drop : Nat) : n / (1 <<< min drop (n.log2 + 2)) = n / 2 ^ drop ∧ n % (1 <<< min drop (n.log2 + 2)) = n % 2 ^ drop := by
  rw [Nat.shiftLeft_eq, Nat.one_mul]
  by_cases h : drop ≤ n.log2 + 2
  · rw [Nat.min_eq_left h]; exact ⟨rfl, rfl⟩
  · rw [Nat.min_eq_right (by omega)]
    have := gap_big (show n.log2 + 2 < drop by omega)
    rw [Nat.div_eq_of_lt this.1, Nat.div_eq_of_lt this.2, Nat.mod_eq_of_lt this.1, Nat.mod_eq_of_lt this.2]
    exact ⟨rfl, rfl⟩
theorem cut_zero (s : Bool) (n drop : Nat) : Toward.zero.cut s n drop = n / 2 ^ drop := by
  unfold Toward.cut; simp [(gap_eq n drop).1]
theorem cut_down (s : Bool) (n drop : Nat) : Toward.down.cut s n drop = n / 2 ^ drop + (s && n % 2 ^ drop != 0).toNat := by
  unfold Toward.cut; simp [(gap_eq n drop).1, (gap_eq n drop).2]
theorem cut_even_exact (s : Bool) (n drop : Nat) (h : n % 2 ^ drop = 0) : Toward.even.cut s n drop = n / 2 ^ drop := by
  unfold Toward.cut
  simp [(gap_eq n drop).1, (gap_eq n drop).2, h]
theorem cut_even_le (s : Bool) (n drop : Nat) : n / 2 ^ drop ≤ Toward.even.cut s n drop ∧ Toward.even.cut s n drop ≤ n / 2 ^ drop + 1 := by
  unfold Toward.cut
  simp only [(gap_eq n drop).1]
  refine ⟨Nat.le_add_right _ _, Nat.add_le_add_left (Bool.toNat_le _) _⟩

/-- Towards nought: the whole number of a finite word. -/
theorem toInt_zero {d : Datum} {s : Bool} {M : Nat} (h : At d s M) : d.toInt .zero = some (sgn s (M / K)) := by
  obtain ⟨m, p, rfl, hp, rfl, -⟩ := h
  simp only [Datum.toInt, Datum.integral, cut_zero, signed_eq, Nat.shiftLeft_eq, Nat.pow_zero, Nat.mul_one]
  congr 2
  unfold K
  have hE := E_is
  by_cases c : 0 ≤ p
  · rw [show (p + 1074).toNat = p.toNat + E by omega, show (-p).toNat = 0 by omega, Nat.pow_add, ← Nat.mul_assoc, Nat.mul_div_cancel _ (Nat.two_pow_pos E), Nat.pow_zero, Nat.div_one]
  · rw [show p.toNat = 0 by omega, show E = (-p).toNat + (p + 1074).toNat by omega, Nat.pow_add, Nat.pow_zero, Nat.mul_one, Nat.mul_div_mul_right _ _ (Nat.two_pow_pos _)]

/-- Downwards, by size. -/
def downM (s : Bool) (M : Nat) : Nat := M / K + (s && M % K != 0).toNat
theorem integral_down {d : Datum} {s : Bool} {M : Nat} (h : At d s M) : d.integral .down = .number s (downM s M) 0 := by
  obtain ⟨m, p, rfl, hp, rfl, -⟩ := h
  simp only [Datum.integral, cut_down, Nat.shiftLeft_eq]
  congr 1
  unfold downM K
  have hE := E_is
  by_cases c : 0 ≤ p
  · rw [show (p + 1074).toNat = p.toNat + E by omega, show (-p).toNat = 0 by omega, Nat.pow_add, ← Nat.mul_assoc, Nat.mul_div_cancel _ (Nat.two_pow_pos E), Nat.mul_mod_left, Nat.pow_zero, Nat.div_one, Nat.mod_one]
  · rw [show p.toNat = 0 by omega, show E = (-p).toNat + (p + 1074).toNat by omega, Nat.pow_add, Nat.pow_zero, Nat.mul_one, Nat.mul_div_mul_right _ _ (Nat.two_pow_pos _), Nat.mul_mod_mul_right]
    have : 0 < 2 ^ (p + 1074).toNat := Nat.two_pow_pos _
    congr 3
    rw [Bool.eq_iff_iff]; simp only [bne_iff_ne, ne_eq, Nat.mul_eq_zero]; omega
/-- It is the floor. -/
theorem downM_floor (s : Bool) (M : Nat) : sgn s (downM s M) = sgn s M / (K : Int) := by
  have hK := K_pos
  unfold downM
  cases s
  · simp [sgn]
  · simp only [sgn, if_true, Bool.true_and]
    have e := Nat.div_add_mod M K
    have l := Nat.mod_lt M hK
    by_cases c : M % K = 0
    · simp only [c, bne_self_eq_false, Bool.toNat_false, Nat.add_zero] at *
      rw [← e]
      rw [Nat.mul_div_cancel_left _ hK]
      simp only [Int.natCast_mul]
      rw [← Int.mul_neg, Int.mul_ediv_cancel_left _ (by omega)]
    · have : (M % K != 0) = true := by simpa using c
      rw [this]
      simp only [Bool.toNat_true]
      symm
      rw [Int.ediv_eq_iff_of_pos (by omega)]
      generalize M / K = q at *
      generalize M % K = r at *
      subst e
      simp only [Int.natCast_add, Int.natCast_mul, Int.neg_mul, Int.add_mul, Int.natCast_one, Int.one_mul]
      have : (K : Int) * q = q * K := Int.mul_comm _ _
      omega

/-! ### The nearest word -/

theorem log2_mul_pow (m k : Nat) (h : m ≠ 0) : (m * 2 ^ k).log2 = m.log2 + k := by
  rw [Nat.log2_eq_iff (by have := Nat.two_pow_pos k; exact Nat.mul_ne_zero h (by omega))]
  have h1 := Nat.log2_self_le h
  have h2 : m < 2 ^ (m.log2 + 1) := Nat.lt_log2_self
  constructor
  · rw [Nat.pow_add]; exact Nat.mul_le_mul_right _ h1
  · rw [show m.log2 + k + 1 = m.log2 + 1 + k by omega, Nat.pow_add]; exact Nat.mul_lt_mul_of_pos_right h2 (Nat.two_pow_pos _)

/-- The digits that are dropped, from the size. -/
def dropped (M : Nat) : Nat := M.log2 - 52

theorem nearest_exact {s : Bool} {m : Nat} {p : Int} (hm : m ≠ 0) (hp : -1074 ≤ p) (hd : (m * 2 ^ (p + 1074).toNat) % 2 ^ dropped (m * 2 ^ (p + 1074).toNat) = 0) :
    double.nearest s m p = double.word s (min (dropped (m * 2 ^ (p + 1074).toNat) * 4503599627370496 + m * 2 ^ (p + 1074).toNat / 2 ^ dropped (m * 2 ^ (p + 1074).toNat)) 9218868437227405312) := by
  unfold Format.nearest
  rw [if_neg hm]
  simp only [dFrac, dLeast, dBin, dInf]
  have hL : dropped (m * 2 ^ (p + 1074).toNat) = m.log2 + (p + 1074).toNat - 52 := by rw [dropped, log2_mul_pow _ _ hm]
  rw [hL] at hd ⊢
  have e0 : (max (p + (m.log2 : Int) - (52 : Nat)) (-1074) - -1074).toNat = m.log2 + (p + 1074).toNat - 52 := by omega
  rw [e0]
  by_cases c : 52 ≤ m.log2
  · -- digits are dropped
    have e1 : (p - max (p + (m.log2 : Int) - (52 : Nat)) (-1074)).toNat = 0 := by omega
    have e2 : (max (p + (m.log2 : Int) - (52 : Nat)) (-1074) - p).toNat = m.log2 - 52 := by omega
    rw [e1, e2]
    have e3 : m.log2 + (p + 1074).toNat - 52 = (m.log2 - 52) + (p + 1074).toNat := by omega
    rw [e3, Nat.pow_add] at hd ⊢
    rw [Nat.mul_mod_mul_right] at hd
    have : 0 < 2 ^ (p + 1074).toNat := Nat.two_pow_pos _
    have hd' : m % 2 ^ (m.log2 - 52) = 0 := by
      rcases Nat.mul_eq_zero.1 hd with h | h <;> omega
    rw [Nat.shiftLeft_eq, Nat.pow_zero, Nat.mul_one, cut_even_exact _ _ _ hd', Nat.mul_div_mul_right _ _ (Nat.two_pow_pos _)]
  · have e2 : (max (p + (m.log2 : Int) - (52 : Nat)) (-1074) - p).toNat = 0 := by omega
    rw [e2, cut_even_exact _ _ _ (by rw [Nat.pow_zero, Nat.mod_one]), Nat.pow_zero, Nat.div_one, Nat.shiftLeft_eq]
    have e3 : (p + 1074).toNat = (p - max (p + (m.log2 : Int) - (52 : Nat)) (-1074)).toNat + (m.log2 + (p + 1074).toNat - 52) := by omega
    congr 2
    congr 1
    rw [show m * 2 ^ (p + 1074).toNat = m * 2 ^ (p - max (p + (m.log2 : Int) - (52 : Nat)) (-1074)).toNat * 2 ^ (m.log2 + (p + 1074).toNat - 52) by rw [Nat.mul_assoc, ← Nat.pow_add, ← e3], Nat.mul_div_cancel _ (Nat.two_pow_pos _)]

/-- The rung of a rounded size. -/
theorem mg_of {L k : Nat} (h : k ≤ 9007199254740992) (hL : L = 0 ∨ 4503599627370496 ≤ k) : mg (L * 4503599627370496 + k) = k * 2 ^ L := by
  unfold mg
  by_cases c : L * 4503599627370496 + k < 4503599627370496
  · rw [if_pos c]
    obtain rfl : L = 0 := by omega
    simp
  · rw [if_neg c]
    by_cases d : k = 9007199254740992
    · subst d
      have e : 2 ^ (L + 1) = 2 ^ L * 2 := Nat.pow_succ 2 L
      rw [show (L * 4503599627370496 + 9007199254740992) % 4503599627370496 = 0 by omega, show (L * 4503599627370496 + 9007199254740992) / 4503599627370496 - 1 = L + 1 by omega, e]
      generalize 2 ^ L = q
      omega
    · have hk : 4503599627370496 ≤ k := by omega
      rw [show (L * 4503599627370496 + k) % 4503599627370496 = k - 4503599627370496 by omega, show (L * 4503599627370496 + k) / 4503599627370496 - 1 = L by omega, show 4503599627370496 + (k - 4503599627370496) = k by omega]

/-- A size that a word has is written as that word. -/
theorem mg_dropped (r : Nat) : mg r % 2 ^ dropped (mg r) = 0 ∧ dropped (mg r) * 4503599627370496 + mg r / 2 ^ dropped (mg r) = r := by
  by_cases c : r < 4503599627370496
  · have e : mg r = r := by simp [mg, c]
    have : dropped r = 0 := by
      unfold dropped
      by_cases z : r = 0
      · subst z; decide
      · have : r.log2 < 52 := (Nat.log2_lt z).2 c
        omega
    rw [e, this]; simp [Nat.mod_one]
  · have e : mg r = (4503599627370496 + r % 4503599627370496) * 2 ^ (r / 4503599627370496 - 1) := by simp [mg, c]
    have hl : (4503599627370496 + r % 4503599627370496).log2 = 52 := by
      rw [Nat.log2_eq_iff (by omega)]; constructor <;> omega
    have hd : dropped (mg r) = r / 4503599627370496 - 1 := by
      rw [e, dropped, log2_mul_pow _ _ (by omega), hl]; omega
    rw [hd, e, Nat.mul_mod_left, Nat.mul_div_cancel _ (Nat.two_pow_pos _)]
    exact ⟨rfl, by omega⟩
theorem nearest_rep {s : Bool} {m : Nat} {p : Int} {r : Nat} (hp : -1074 ≤ p) (hr : r < 9218868437227405312) (h : m * 2 ^ (p + 1074).toNat = mg r) : double.nearest s m p = double.word s r := by
  by_cases hm : m = 0
  · subst hm
    rw [Nat.zero_mul, ← mg_zero] at h
    rw [← mg_inj h]; simp [Format.nearest]
  · have := mg_dropped r
    rw [nearest_exact hm hp (by rw [h]; exact this.1), h, this.2, Nat.min_eq_left (by omega)]

theorem word_rung (s : Bool) {r : Nat} (h : r < 9223372036854775808) : rung (double.word s r) = r ∧ ng (double.word s r) = s ∧ double.word s r < 18446744073709551616 := by
  unfold Format.word rung ng
  rw [dSign]
  cases s
  · simp; omega
  · simp; omega
theorem word_sv (s : Bool) {r : Nat} (h : r < 9223372036854775808) : sv (double.word s r) = sgn s (mg r) := by
  have := word_rung s h
  rw [sv, this.1, this.2.1]

/-- Sizes that a word has. -/
def Rep (M : Nat) : Prop := ∃ r, r < 9218868437227405312 ∧ mg r = M
theorem rep_of {k j : Nat} (hk : k < 9007199254740992) (hj : j ≤ 1900) : Rep (k * 2 ^ j) := by
  by_cases hz : k = 0
  · subst hz; exact ⟨0, by decide, by rw [mg_zero, Nat.zero_mul]⟩
  have hl := log2_mul_pow k j hz
  have hk2 : k.log2 ≤ 52 := by
    have : k.log2 < 53 := (Nat.log2_lt hz).2 hk
    omega
  have h1 := Nat.log2_self_le hz
  have h2 : k < 2 ^ (k.log2 + 1) := Nat.lt_log2_self
  by_cases c : k.log2 + j ≤ 52
  · -- no digits below
    have hb : k * 2 ^ j < 9007199254740992 := by
      have : k * 2 ^ j < 2 ^ (k.log2 + 1) * 2 ^ j := Nat.mul_lt_mul_of_pos_right h2 (Nat.two_pow_pos _)
      rw [← Nat.pow_add] at this
      have h3 : 2 ^ (k.log2 + 1 + j) ≤ 2 ^ 53 := Nat.pow_le_pow_right (by decide) (by omega)
      omega
    exact ⟨0 * 4503599627370496 + k * 2 ^ j, by omega, by rw [mg_of (by omega) (.inl rfl)]; simp⟩
  · -- as many as lead to 53 digits
    refine ⟨(k.log2 + j - 52) * 4503599627370496 + k * 2 ^ (52 - k.log2), ?_, ?_⟩
    · have : k * 2 ^ (52 - k.log2) < 2 ^ (k.log2 + 1) * 2 ^ (52 - k.log2) := Nat.mul_lt_mul_of_pos_right h2 (Nat.two_pow_pos _)
      rw [← Nat.pow_add, show k.log2 + 1 + (52 - k.log2) = 53 by omega] at this
      omega
    · have h3 : k * 2 ^ (52 - k.log2) < 2 ^ (k.log2 + 1) * 2 ^ (52 - k.log2) := Nat.mul_lt_mul_of_pos_right h2 (Nat.two_pow_pos _)
      rw [← Nat.pow_add, show k.log2 + 1 + (52 - k.log2) = 53 by omega] at h3
      have h4 : 2 ^ k.log2 * 2 ^ (52 - k.log2) ≤ k * 2 ^ (52 - k.log2) := Nat.mul_le_mul_right _ h1
      rw [← Nat.pow_add, show k.log2 + (52 - k.log2) = 52 by omega] at h4
      rw [mg_of (by omega) (.inr (by omega)), Nat.mul_assoc, ← Nat.pow_add]
      congr 2; omega


/-! ### Whole numbers as floats -/

theorem K_mul (n : Nat) : n * 2 ^ ((0 : Int) + 1074).toNat = n * K := by rw [show ((0 : Int) + 1074).toNat = E from rfl, K]
theorem natAbs_sgn (n : Int) : sgn (n < 0) n.natAbs = n := by
  unfold sgn
  by_cases c : n < 0
  · simp only [c, decide_true, if_true]; omega
  · simp only [c, decide_false, Bool.false_eq_true, if_false]; omega
theorem sgn_natAbs (s : Bool) (m : Nat) : (sgn s m).natAbs = m := by cases s <;> simp [sgn]

/-- What 'float64(n)' is. -/
def fi (n : Int) : Nat := double.nearest (n < 0) n.natAbs 0
theorem floatOfInt_fi (n : Int) : floatOfInt .f64 n = fi n := rfl

theorem fi_rep {n : Int} (h : Rep (n.natAbs * K)) : finB (fi n) = true ∧ fi n < 18446744073709551616 ∧ sv (fi n) = n * K := by
  obtain ⟨r, hr, e⟩ := h
  have hn : fi n = double.word (n < 0) r := nearest_rep (by decide) hr (by rw [K_mul, e])
  have hw := word_rung (n < 0) (show r < 9223372036854775808 by omega)
  rw [hn]
  refine ⟨by simp only [finB, hw.1, decide_eq_true_eq]; exact hr, hw.2.2, ?_⟩
  rw [word_sv _ (by omega), e, sgn_mul, natAbs_sgn]

theorem fi_small {n : Int} (h : n.natAbs < 9007199254740992) : finB (fi n) = true ∧ fi n < 18446744073709551616 ∧ sv (fi n) = n * K := fi_rep (rep_of h (by decide))

/-- A number of 63 bits as a float: a whole number again. -/
theorem fi_whole {n : Int} (h : n.natAbs ≤ 9223372036854775808) : finB (fi n) = true ∧ fi n < 18446744073709551616 ∧ ∃ k : Nat, k ≤ 9223372036854775808 ∧ sv (fi n) = sgn (n < 0) k * K := by
  by_cases c : n.natAbs < 9007199254740992
  · have := fi_small c
    exact ⟨this.1, this.2.1, n.natAbs, h, by rw [this.2.2, natAbs_sgn]⟩
  by_cases d : n.natAbs = 9223372036854775808
  · have := fi_rep (n := n) (by
      rw [d, show 9223372036854775808 = 1 * 2 ^ 63 by decide, K, Nat.mul_assoc, ← Nat.pow_add]
      exact rep_of (by decide) (by decide))
    exact ⟨this.1, this.2.1, n.natAbs, h, by rw [this.2.2, natAbs_sgn]⟩
  have hz : n.natAbs ≠ 0 := by omega
  unfold fi
  generalize (decide (n < 0)) = s
  generalize n.natAbs = a at *
  have l1 : 53 ≤ a.log2 := (Nat.le_log2 hz).2 (by omega)
  have l2 : a.log2 < 63 := (Nat.log2_lt hz).2 (by omega)
  have g := cut_even_le s a (a.log2 - 52)
  have b1 := Nat.log2_self_le hz
  have b2 : a < 2 ^ (a.log2 + 1) := Nat.lt_log2_self
  have e : double.nearest s a 0 = double.word s (min ((a.log2 + 1022) * 4503599627370496 + Toward.even.cut s a (a.log2 - 52)) 9218868437227405312) := by
    unfold Format.nearest
    rw [if_neg hz]
    simp only [dFrac, dLeast, dBin, dInf]
    rw [show (max ((0 : Int) + (a.log2 : Int) - (52 : Nat)) (-1074) - -1074).toNat = a.log2 + 1022 by omega, show ((0 : Int) - max ((0 : Int) + (a.log2 : Int) - (52 : Nat)) (-1074)).toNat = 0 by omega, show (max ((0 : Int) + (a.log2 : Int) - (52 : Nat)) (-1074) - 0).toNat = a.log2 - 52 by omega, Nat.shiftLeft_eq, Nat.pow_zero, Nat.mul_one]
  have q1 : 4503599627370496 ≤ a / 2 ^ (a.log2 - 52) := by
    rw [Nat.le_div_iff_mul_le (Nat.two_pow_pos _), show 4503599627370496 = 2 ^ 52 by decide, ← Nat.pow_add, show 52 + (a.log2 - 52) = a.log2 by omega]; exact b1
  have q2 : a / 2 ^ (a.log2 - 52) < 9007199254740992 := by
    rw [Nat.div_lt_iff_lt_mul (Nat.two_pow_pos _), show 9007199254740992 = 2 ^ 53 by decide, ← Nat.pow_add, show 53 + (a.log2 - 52) = a.log2 + 1 by omega]; exact b2
  generalize Toward.even.cut s a (a.log2 - 52) = k at *
  rw [e, Nat.min_eq_left (by omega)]
  have hr : (a.log2 + 1022) * 4503599627370496 + k < 9218868437227405312 := by omega
  have hw := word_rung s (show (a.log2 + 1022) * 4503599627370496 + k < 9223372036854775808 by omega)
  refine ⟨by simp only [finB, hw.1, decide_eq_true_eq]; exact hr, hw.2.2, k * 2 ^ (a.log2 - 52), ?_, ?_⟩
  · have : k * 2 ^ (a.log2 - 52) ≤ 2 ^ 53 * 2 ^ 10 := Nat.mul_le_mul (by omega) (Nat.pow_le_pow_right (by decide) (by omega))
    omega
  · have e5 : k * 2 ^ (a.log2 - 52) * K = k * 2 ^ (a.log2 + 1022) := by
      rw [K, Nat.mul_assoc, ← Nat.pow_add, E_is, show a.log2 - 52 + 1074 = a.log2 + 1022 by omega]
    rw [word_sv _ (by omega), mg_of (by omega) (.inr (by omega)), ← sgn_mul, e5]

/-! ### Rounded down, cut off -/

theorem at_down_rep {d : Datum} {s : Bool} {M : Nat} (h : At d s M) (hM : Rep M) (t : Bool) : Rep (downM t M * K) ∧ Rep (M / K * K) := by
  obtain ⟨m, p, rfl, hp, e, hm⟩ := h
  have hE := E_is
  by_cases c : 0 ≤ p
  · have hk : M % K = 0 := by
      rw [← e, show (p + 1074).toNat = p.toNat + E by omega, Nat.pow_add, ← Nat.mul_assoc]; exact Nat.mul_mod_left _ _
    have := Nat.div_add_mod M K
    rw [hk, Nat.add_zero, Nat.mul_comm] at this
    have hd : downM t M = M / K := by unfold downM; simp [hk]
    rw [hd, this]; exact ⟨hM, hM⟩
  · have hq : M / K < 4503599627370496 := by
      rw [← e, K, show E = (-p - 1).toNat + 1 + (p + 1074).toNat by omega, Nat.pow_add, Nat.mul_div_mul_right _ _ (Nat.two_pow_pos _), Nat.pow_succ]
      have h1 : 1 ≤ 2 ^ (-p - 1).toNat := Nat.two_pow_pos _
      rw [Nat.div_lt_iff_lt_mul (by omega)]
      have := Nat.mul_le_mul_left 9007199254740992 h1
      omega
    have hd : downM t M ≤ M / K + 1 := by unfold downM; exact Nat.add_le_add_left (Bool.toNat_le _) _
    exact ⟨rep_of (by omega) (by decide), rep_of (by omega) (by decide)⟩

/-- The float that a finite float is, rounded down. -/
def flW (x : Nat) : Nat := double.nearest (ng x) (downM (ng x) (mg (rung x))) 0
theorem fin_iff {x : Nat} : finB x = true ↔ rung x < 9218868437227405312 := by simp [finB]
theorem floor_bits {x : Nat} (h : finB x = true) : double.write ((double.read x).integral .down) = flW x := by
  rw [integral_down (read_fin (fin_iff.1 h))]; rfl
theorem flW_sv {x : Nat} (h : finB x = true) : finB (flW x) = true ∧ flW x < 18446744073709551616 ∧ sv (flW x) = sv x / K * K := by
  have hx := fin_iff.1 h
  obtain ⟨r, hr, e⟩ := (at_down_rep (read_fin hx) ⟨_, hx, rfl⟩ (ng x)).1
  have hn : flW x = double.word (ng x) r := nearest_rep (by decide) hr (by rw [K_mul, e])
  have hw := word_rung (ng x) (show r < 9223372036854775808 by omega)
  rw [hn]
  refine ⟨by simp only [finB, hw.1, decide_eq_true_eq]; exact hr, hw.2.2, ?_⟩
  rw [word_sv _ (by omega), e, sgn_mul, downM_floor]; rfl

theorem sgn_tdiv (s : Bool) (M : Nat) : sgn s (M / K) = (sgn s M).tdiv K := by
  cases s
  · simp [sgn, Int.tdiv_eq_ediv_of_nonneg]
  · simp [sgn, Int.neg_tdiv, Int.tdiv_eq_ediv_of_nonneg]
theorem trunc_sv {x : Nat} (h : finB x = true) : (double.read x).toInt .zero = some ((sv x).tdiv K) := by
  rw [toInt_zero (read_fin (fin_iff.1 h)), sgn_tdiv]; rfl
theorem trunc_rep {x : Nat} (h : finB x = true) : Rep (((sv x).tdiv K).natAbs * K) := by
  have hx := fin_iff.1 h
  have := (at_down_rep (read_fin hx) ⟨_, hx, rfl⟩ (ng x)).2
  rw [sv, ← sgn_tdiv, sgn_natAbs]; exact this

/-! ### Sums -/

theorem At.opp {d : Datum} {s : Bool} {M : Nat} (h : At d s M) : At d.opposite (!s) M := by
  obtain ⟨m, p, rfl, a, b, c⟩ := h
  exact ⟨m, p, rfl, a, b, c⟩
theorem sgn_zero (s : Bool) : sgn s 0 = 0 := by cases s <;> rfl
theorem sum_at {d e : Datum} {s t : Bool} {M N : Nat} (hd : At d s M) (he : At e t N) :
    ∃ u m p, d.sum e = some (.number u m p) ∧ -1074 ≤ p ∧ sgn u (m * 2 ^ (p + 1074).toNat) = sgn s M + sgn t N := by
  obtain ⟨m, p, rfl, hp, rfl, -⟩ := hd
  obtain ⟨n, q, rfl, hq, rfl, -⟩ := he
  refine ⟨_, _, _, rfl, by omega, ?_⟩
  have e1 : (p + 1074).toNat = (p - min p q).toNat + (min p q + 1074).toNat := by omega
  have e2 : (q + 1074).toNat = (q - min p q).toNat + (min p q + 1074).toNat := by omega
  rw [e1, e2, Nat.pow_add, Nat.pow_add, ← Nat.mul_assoc, ← Nat.mul_assoc, sgn_mul s (m * _), sgn_mul t (n * _), sgn_mul, ← signed_eq, ← signed_eq, ← Int.add_mul]
  congr 1
  by_cases c : signed s m (p - min p q).toNat + signed t n (q - min p q).toNat = 0
  · rw [if_pos c, c]; exact sgn_zero _
  · rw [if_neg c]; exact natAbs_sgn _

theorem write_num {u : Bool} {m : Nat} {p : Int} {T : Int} (hp : -1074 ≤ p) (h : sgn u (m * 2 ^ (p + 1074).toNat) = T) (hR : Rep T.natAbs) :
    finB (double.write (.number u m p)) = true ∧ double.write (.number u m p) < 18446744073709551616 ∧ sv (double.write (.number u m p)) = T := by
  obtain ⟨r, hr, e⟩ := hR
  have hm : m * 2 ^ (p + 1074).toNat = mg r := by rw [e, ← h, sgn_natAbs]
  have hn : double.write (.number u m p) = double.word u r := nearest_rep hp hr hm
  have hw := word_rung u (show r < 9223372036854775808 by omega)
  rw [hn]
  refine ⟨by simp only [finB, hw.1, decide_eq_true_eq]; exact hr, hw.2.2, ?_⟩
  rw [word_sv _ (by omega), ← hm, h]

theorem add_rep {x y : Nat} (hx : finB x = true) (hy : finB y = true) (hR : Rep (sv x + sv y).natAbs) :
    ∃ z, double.add x y = some z ∧ finB z = true ∧ z < 18446744073709551616 ∧ sv z = sv x + sv y := by
  obtain ⟨u, m, p, e, hp, h⟩ := sum_at (read_fin (fin_iff.1 hx)) (read_fin (fin_iff.1 hy))
  exact ⟨_, by rw [Format.add, e]; rfl, write_num hp h hR⟩
theorem sgn_not (s : Bool) (M : Nat) : sgn (!s) M = - sgn s M := by cases s <;> simp [sgn]
theorem sub_rep {x y : Nat} (hx : finB x = true) (hy : finB y = true) (hR : Rep (sv x - sv y).natAbs) :
    ∃ z, double.sub x y = some z ∧ finB z = true ∧ z < 18446744073709551616 ∧ sv z = sv x - sv y := by
  obtain ⟨u, m, p, e, hp, h⟩ := sum_at (read_fin (fin_iff.1 hx)) (read_fin (fin_iff.1 hy)).opp
  rw [sgn_not] at h
  exact ⟨_, by rw [Format.sub, e]; rfl, write_num hp (by rw [h]; rfl) hR⟩
theorem sub_self {x : Nat} (hx : finB x = true) : ∃ z, double.sub x x = some z ∧ finB z = true ∧ z < 18446744073709551616 ∧ sv z = 0 := by
  have := sub_rep hx hx (by rw [Int.sub_self]; exact ⟨0, by decide, mg_zero⟩)
  simpa using this
theorem sub_none {x : Nat} (hx : finB x = false) : double.sub x x = none := by
  have h : ¬ rung x < 9218868437227405312 := by simpa [finB] using hx
  rcases Nat.lt_trichotomy (rung x) 9218868437227405312 with c | c | c
  · exact absurd c h
  · rw [Format.sub, read_inf c]; simp [Datum.opposite, Datum.sum]
  · obtain ⟨f, e⟩ := read_nan c
    rw [Format.sub, e]; simp [Datum.sum]

/-! ### Words that stand in the program -/

theorem sv_zero : sv 0 = 0 := by decide
theorem sv_mzero : sv 9223372036854775808 = 0 := by decide
theorem sv_hi : sv 4890909195324358656 = 9223372036854775808 * K := by decide +kernel
theorem sv_lo : sv 14114281232179134464 = -9223372036854775808 * K := by decide +kernel
theorem sv_one : sv 4607182418800017408 = K := by decide +kernel
theorem sv_half : 2 * sv 4602678819172646912 = K := by decide +kernel

/-! ### As the walk spells it -/

theorem abs_bits {x : Nat} (h : x < 18446744073709551616) : (bits .andNot .u64 (x : Int) 9223372036854775808).toNat = rung x := by
  rw [u64_andNot (x : Int) 9223372036854775808 (by omega) (by omega) (by omega) (by omega)]
  simp only [Int.toNat_natCast, Int.reduceToNat]
  rw [show (18446744073709551615 - 9223372036854775808 : Nat) = 2 ^ 63 - 1 by decide, Nat.and_two_pow_sub_one_eq_mod]
  rfl
theorem sign_bits {x : Nat} (_h : x < 18446744073709551616) : decide (wrap64 (x : Int) < 0) = ng x := by
  rw [Bool.eq_iff_iff]
  simp only [decide_eq_true_eq, ng, beq_iff_eq, RowKit.wrap64]
  omega
theorem nan_order (x : Nat) : (FloatKind.f64.format.order x x != some Ordering.eq) = nanB x := by
  show (double.order x x != some .eq) = _
  rw [order_eq]
  cases h : nanB x
  · simp
  · simp
theorem rung_rung (x : Nat) : rung (rung x) = rung x := by unfold rung; omega
theorem ng_rung (x : Nat) : ng (rung x) = false := by
  unfold ng rung; rw [beq_eq_false_iff_ne]; omega
/-- 'math.IsInf' of a float that is a number: its size is above the greatest. -/
theorem inf_order {x : Nat} : (FloatKind.f64.format.order (rung x) 9218868437227405311 == some Ordering.gt) = infB x := by
  show (double.order (rung x) 9218868437227405311 == some .gt) = _
  rw [order_eq]
  have n2 : nanB 9218868437227405311 = false := by decide
  have s2 : sv 9218868437227405311 = mg 9218868437227405311 := by
    have a : ng 9218868437227405311 = false := by decide
    have b : rung 9218868437227405311 = 9218868437227405311 := by decide
    rw [sv, a, b]; rfl
  have s1 : sv (rung x) = mg (rung x) := by rw [sv, ng_rung, rung_rung]; rfl
  rw [n2, s1, s2]
  rcases Nat.lt_trichotomy (rung x) 9218868437227405312 with c | c | c
  · have n1 : nanB (rung x) = false := by simp only [nanB, rung_rung, decide_eq_false_iff_not]; omega
    have i1 : infB x = false := by simp only [infB, decide_eq_false_iff_not]; omega
    rw [n1, i1]
    by_cases d : rung x = 9218868437227405311
    · rw [d]; simp
    · have := mg_lt (show rung x < 9218868437227405311 by omega)
      simp [cmp_lt (show (mg (rung x) : Int) < mg 9218868437227405311 by omega)]
  · have n1 : nanB (rung x) = false := by simp only [nanB, rung_rung, decide_eq_false_iff_not]; omega
    have i1 : infB x = true := by simp only [infB, decide_eq_true_eq]; omega
    have := mg_lt (show 9218868437227405311 < rung x by omega)
    rw [n1, i1]
    simp [cmp_gt (show (mg 9218868437227405311 : Int) < mg (rung x) by omega)]
  · have n1 : nanB (rung x) = true := by simp only [nanB, rung_rung, decide_eq_true_eq]; omega
    have i1 : infB x = false := by simp only [infB, decide_eq_false_iff_not]; omega
    rw [n1, i1]; simp
theorem kinds_of (x : Nat) : finB x = (!nanB x && !infB x) := by
  rw [Bool.eq_iff_iff]; simp [finB, nanB, infB]; omega

/-! ### Comparisons of numbers -/

theorem fin_nan {x : Nat} (h : finB x = true) : nanB x = false := by rw [kinds_of] at h; cases c : nanB x <;> simp_all
theorem fin_inf {x : Nat} (h : finB x = true) : infB x = false := by rw [kinds_of] at h; cases c : infB x <;> simp_all
theorem order_fin {x y : Nat} (hx : nanB x = false) (hy : nanB y = false) : FloatKind.f64.format.order x y = some (compare (sv x) (sv y)) := by
  show double.order x y = _
  rw [order_eq, hx, hy]; rfl
theorem lt_order {x y : Nat} (hx : nanB x = false) (hy : nanB y = false) : (FloatKind.f64.format.order x y == some Ordering.lt) = decide (sv x < sv y) := by
  rw [order_fin hx hy]
  rcases Int.lt_trichotomy (sv x) (sv y) with c | c | c
  · rw [cmp_lt c]; simp [c]
  · rw [c, cmp_eq]; simp
  · rw [cmp_gt c]; simp; omega
theorem gt_order {x y : Nat} (hx : nanB x = false) (hy : nanB y = false) : (FloatKind.f64.format.order x y == some Ordering.gt) = decide (sv y < sv x) := by
  rw [order_fin hx hy]
  rcases Int.lt_trichotomy (sv x) (sv y) with c | c | c
  · rw [cmp_lt c]; simp; omega
  · rw [c, cmp_eq]; simp
  · rw [cmp_gt c]; simp [c]
theorem eqo_order {x y : Nat} (hx : nanB x = false) (hy : nanB y = false) : (FloatKind.f64.format.order x y == some Ordering.eq) = decide (sv x = sv y) := by
  rw [order_fin hx hy]
  rcases Int.lt_trichotomy (sv x) (sv y) with c | c | c
  · rw [cmp_lt c]; simp; omega
  · rw [c, cmp_eq]; simp
  · rw [cmp_gt c]; simp; omega
theorem ne_order {x y : Nat} (hx : nanB x = false) (hy : nanB y = false) : (FloatKind.f64.format.order x y != some Ordering.eq) = decide (sv x ≠ sv y) := by
  unfold bne; rw [eqo_order hx hy]; simp
theorem le_order {x y : Nat} (hx : nanB x = false) (hy : nanB y = false) : (FloatKind.f64.format.order x y == some Ordering.lt || FloatKind.f64.format.order x y == some Ordering.eq) = decide (sv x ≤ sv y) := by
  rw [lt_order hx hy, eqo_order hx hy, Bool.eq_iff_iff]; simp; omega
theorem ge_order {x y : Nat} (hx : nanB x = false) (hy : nanB y = false) : (FloatKind.f64.format.order x y == some Ordering.gt || FloatKind.f64.format.order x y == some Ordering.eq) = decide (sv y ≤ sv x) := by
  rw [gt_order hx hy, eqo_order hx hy, Bool.eq_iff_iff]; simp; omega
theorem nan_left {x y : Nat} (hx : nanB x = true) : FloatKind.f64.format.order x y = none := by
  show double.order x y = _
  rw [order_eq, hx]; rfl
theorem nan_right {x y : Nat} (hy : nanB y = true) : FloatKind.f64.format.order x y = none := by
  show double.order x y = _
  rw [order_eq, hy]; simp

/-! ### Seconds -/

/-- What a float is, rounded down. -/
def secV (x : Nat) : Int := if finB x && fitB (sv x / K) then sv x / K else 0
def secE (x : Nat) : Int := if finB x then if fitB (sv x / K) then 0 else 2 else 3
theorem sec_not {x : Nat} (h : finB x = false) : secV x = 0 ∧ secE x = 3 := by simp [secV, secE, h]
theorem sec_far {x : Nat} (h : finB x = true) (g : fitB (sv x / K) = false) : secV x = 0 ∧ secE x = 2 := by simp [secV, secE, h, g]
theorem sec_yes {x : Nat} (h : finB x = true) (g : fitB (sv x / K) = true) : secV x = sv x / K ∧ secE x = 0 := by simp [secV, secE, h, g]

theorem nan_lo : nanB 14114281232179134464 = false := by decide
theorem nan_hi : nanB 4890909195324358656 = false := by decide
theorem nan_0 : nanB 0 = false := by decide
theorem fin_0 : finB 0 = true := by decide
theorem mulK_lt (a b : Int) : a * K < b * K ↔ a < b := by
  have := K_pos
  exact ⟨fun h => Int.lt_of_mul_lt_mul_right h (by omega), fun h => Int.mul_lt_mul_of_pos_right h (by omega)⟩
theorem mulK_le (a b : Int) : a * K ≤ b * K ↔ a ≤ b := by
  have := K_pos
  exact ⟨fun h => Int.le_of_mul_le_mul_right h (by omega), fun h => Int.mul_le_mul_of_nonneg_right h (by omega)⟩
theorem mulK_inj (a b : Int) : a * K = b * K ↔ a = b := by
  have := K_pos
  exact ⟨fun h => Int.eq_of_mul_eq_mul_right (by omega) h, fun h => by rw [h]⟩
theorem tdivK (a : Int) : (a * K).tdiv K = a := Int.mul_tdiv_cancel a (by have := K_pos; omega)
theorem edivK (a : Int) : a * K / K = a := Int.mul_ediv_cancel a (by have := K_pos; omega)

/-- The tests on the float that was rounded down. -/
theorem floor_lo {x : Nat} (h : finB x = true) : (FloatKind.f64.format.order (flW x) 14114281232179134464 == some Ordering.lt) = decide (sv x / K < -9223372036854775808) := by
  have f := flW_sv h
  rw [lt_order (fin_nan f.1) nan_lo, f.2.2, sv_lo]
  simp only [mulK_lt]
theorem floor_hi {x : Nat} (h : finB x = true) : (FloatKind.f64.format.order (flW x) 4890909195324358656 == some Ordering.gt || FloatKind.f64.format.order (flW x) 4890909195324358656 == some Ordering.eq) = decide (9223372036854775808 ≤ sv x / K) := by
  have f := flW_sv h
  rw [ge_order (fin_nan f.1) nan_hi, f.2.2, sv_hi]
  simp only [mulK_le]
theorem whole_int {y : Nat} {n : Int} (h : finB y = true) (hs : (sv y).tdiv K = n) (hf : fitB n = true) : floatToIntVal .f64 y .i64 = some n := by
  have b := fitB_true.1 hf
  unfold floatToIntVal
  show (match (double.read y).toInt .zero with | some n => _ | none => _) = _
  rw [trunc_sv h, hs]
  have e1 : IntKind.i64.min = -9223372036854775808 := by decide
  have e2 : IntKind.i64.max = 9223372036854775807 := by decide
  simp only [e1, e2]
  rw [if_pos ⟨by omega, by omega⟩]

/-! ### The order of all floats -/

/-- A word's place in the order; all that is no number stands at one place. -/
def key (x : Nat) : Int := if nanB x then 18446744073709551616 else if ng x then -(rung x : Int) - 1 else rung x
def cmp3 (a b : Int) : Int := if a < b then -1 else if b < a then 1 else 0
theorem cmp3_lt {a b : Int} (h : a < b) : cmp3 a b = -1 := by simp [cmp3, h]
theorem cmp3_gt {a b : Int} (h : b < a) : cmp3 a b = 1 := by simp [cmp3, h, show ¬ a < b by omega]
theorem cmp3_eq {a b : Int} (h : a = b) : cmp3 a b = 0 := by simp [cmp3, h]
theorem key_nan {x : Nat} (h : nanB x = true) : key x = 18446744073709551616 := by simp [key, h]
theorem key_num {x : Nat} (h : nanB x = false) : key x < 18446744073709551616 := by
  have : rung x < 9223372036854775808 := Nat.mod_lt _ (by decide)
  unfold key; rw [h]; simp only [Bool.false_eq_true, if_false]; split <;> omega
theorem mg_pos {r : Nat} (h : 0 < r) : 0 < mg r := by have := mg_lt h; omega
theorem key_lt {x y : Nat} (hx : nanB x = false) (hy : nanB y = false) (h : sv x < sv y) : key x < key y := by
  unfold key; rw [hx, hy]
  unfold sv sgn at h
  simp only [Bool.false_eq_true, if_false]
  cases c : ng x <;> cases d : ng y <;> simp only [c, d, if_true, Bool.false_eq_true, if_false] at h ⊢
  · have := mg_lt_iff.1 (show mg (rung x) < mg (rung y) by omega); omega
  · omega
  · omega
  · have := mg_lt_iff.1 (show mg (rung y) < mg (rung x) by omega); omega
theorem sv_zero_rung {x : Nat} (h : sv x = 0) : rung x = 0 := by
  have : mg (rung x) = mg 0 := by rw [mg_zero]; unfold sv sgn at h; split at h <;> omega
  exact mg_inj this
theorem key_eq {x y : Nat} (hx : nanB x = false) (hy : nanB y = false) (h : sv x = sv y) (hz : sv x ≠ 0) : key x = key y := by
  unfold key; rw [hx, hy]
  have h0 := hz
  unfold sv sgn at h hz
  simp only [Bool.false_eq_true, if_false]
  cases c : ng x <;> cases d : ng y <;> simp only [c, d, if_true, Bool.false_eq_true, if_false] at h hz ⊢
  · have := mg_inj (show mg (rung x) = mg (rung y) by omega); omega
  · omega
  · omega
  · have := mg_inj (show mg (rung x) = mg (rung y) by omega); omega
theorem zero_words {x : Nat} (hx : x < 18446744073709551616) (h : sv x = 0) : x = 0 ∨ x = 9223372036854775808 := by
  have := sv_zero_rung h
  unfold rung at this; omega
theorem key_zero {x : Nat} (hx : nanB x = false) (h : sv x = 0) : key x = if ng x then -1 else 0 := by
  unfold key; rw [hx, sv_zero_rung h]; simp
/-- What a nought tells. -/
def placeV (s : Bool) : Int := if s then 0 else 1
theorem place_cmp {x y : Nat} (hx : nanB x = false) (hy : nanB y = false) (h : sv x = 0) (g : sv y = 0) : placeV (ng x) - placeV (ng y) = cmp3 (key x) (key y) := by
  rw [key_zero hx h, key_zero hy g]
  cases ng x <;> cases ng y <;> decide

/-! ### What is no number, as it comes of an operation -/

theorem nan_cut (x y t : Nat) : nanB (Question.cut (.nanBits .f64 x y) t) = true ∧ Question.cut (.nanBits .f64 x y) t < 18446744073709551616 := by
  have h1 : (t / 2) % (2 ^ 52 - 1) < 2 ^ 52 - 1 := Nat.mod_lt _ (by decide)
  have h2 : t % 2 < 2 := Nat.mod_lt _ (by decide)
  have e : Question.cut (.nanBits .f64 x y) t = (t % 2) * 9223372036854775808 + 9218868437227405312 + 1 + (t / 2) % (2 ^ 52 - 1) := rfl
  rw [e]
  generalize (t / 2) % (2 ^ 52 - 1) = a at *
  generalize t % 2 = b at *
  refine ⟨?_, by omega⟩
  unfold nanB rung
  rw [decide_eq_true_eq]
  omega
theorem nan_run {P : Program} (op : BinOp) (t : TypeId) (x y : Nat) (w : World) (hop : op = .add ∨ op = .sub ∨ op = .mul ∨ op = .quo) (h : floatBits op .f64 x y = none) :
    ∃ z, nanB z = true ∧ z < 18446744073709551616 ∧ (binOp op t (.float .f64 x) (.float .f64 y)).run P w = .ok (.float .f64 z) w.drew := by
  refine ⟨Question.cut (.nanBits .f64 x y) (w.tape w.drawn (.nanBits .f64 x y)), (nan_cut _ _ _).1, (nan_cut _ _ _).2, ?_⟩
  have f : (Question.nanBits .f64 x y).forced = false := rfl
  rcases hop with rfl | rfl | rfl | rfl <;> simp only [floatBits] at h <;> simp [binOp, Op.floatArith, h, f] <;> rfl

theorem place_wrap (s t : Bool) : wrap64 (placeV s - placeV t) = placeV s - placeV t := wrap_fit (by cases s <;> cases t <;> decide)
theorem floor_lt (v c : Int) : v < c * K ↔ v / K < c := by
  have := K_pos
  rw [Int.ediv_lt_iff_lt_mul (by omega)]
theorem floor_le (v c : Int) : c * K ≤ v ↔ c ≤ v / K := by
  have := K_pos
  rw [Int.le_ediv_iff_mul_le (by omega)]
theorem trunc_floor (v : Int) : (v.tdiv K = v / K ∧ ¬ v < v.tdiv K * K) ∨ (v.tdiv K = v / K + 1 ∧ v < v.tdiv K * K) := by
  have hK := K_pos
  by_cases h : v.tmod K < 0
  · have := div_down (show (1 : Int) ≤ K by omega) h
    right
    rw [floor_lt]
    omega
  · have := div_same (show (1 : Int) ≤ K by omega) (by omega : 0 ≤ v.tmod K)
    left
    rw [floor_lt]
    omega
theorem ref_lo {x : Nat} (h : finB x = true) : (FloatKind.f64.format.order x 14114281232179134464 == some Ordering.lt) = decide (sv x / K < -9223372036854775808) := by
  rw [lt_order (fin_nan h) nan_lo, sv_lo]
  simp only [floor_lt]
theorem ref_hi {x : Nat} (h : finB x = true) : (FloatKind.f64.format.order x 4890909195324358656 == some Ordering.gt || FloatKind.f64.format.order x 4890909195324358656 == some Ordering.eq) = decide (9223372036854775808 ≤ sv x / K) := by
  rw [ge_order (fin_nan h) nan_hi, sv_hi]
  simp only [floor_le]

/-! ### Whether a number is just a float -/

def justB (n : Int) : Bool := secE (fi n) == 0 && secV (fi n) == n
theorem fi_lt {n : Int} (h : fitB n = true) : fi n < 18446744073709551616 := (fi_whole (by have := fitB_true.1 h; omega)).2.1
theorem fi_fin {n : Int} (h : fitB n = true) : finB (fi n) = true := (fi_whole (by have := fitB_true.1 h; omega)).1
/-- The whole number that the nearest float is. -/
theorem fi_is {n : Int} (h : fitB n = true) : ∃ m : Int, sv (fi n) = m * K ∧ -9223372036854775808 ≤ m ∧ m ≤ 9223372036854775808 := by
  obtain ⟨-, -, k, hk, e⟩ := fi_whole (n := n) (by have := fitB_true.1 h; omega)
  refine ⟨_, e, ?_⟩
  unfold sgn; split <;> omega
theorem just_far {n : Int} (h : fitB n = true) {m : Int} (e : sv (fi n) = m * K) (hm : 9223372036854775808 ≤ m) : justB n = false := by
  have := (sec_far (fi_fin h) (by rw [e, edivK]; exact fitB_false.2 (by omega))).2
  rw [justB, this]; rfl
theorem just_near {n : Int} (h : fitB n = true) {m : Int} (e : sv (fi n) = m * K) (hm : fitB m = true) : justB n = (m == n) := by
  have := sec_yes (fi_fin h) (by rw [e, edivK]; exact hm)
  rw [justB, this.1, this.2, e, edivK]; rfl

/-! ### Minus and nought -/

theorem div_one_0 : floatBits .quo .f64 4607182418800017408 0 = some 9218868437227405312 := by decide +kernel
theorem div_one_m0 : floatBits .quo .f64 4607182418800017408 9223372036854775808 = some 18442240474082181120 := by decide +kernel
theorem lt_inf_0 : (FloatKind.f64.format.order 9218868437227405312 0 == some Ordering.lt) = false := by decide +kernel
theorem lt_minf_0 : (FloatKind.f64.format.order 18442240474082181120 0 == some Ordering.lt) = true := by decide +kernel

/-! ### Halves, sums by one, great floats -/

def E1 : Nat := 1073
def H : Nat := 2 ^ E1
theorem K_H : K = 2 * H := by rw [K, H, show E = E1 + 1 from rfl, Nat.pow_succ]; omega
theorem sv_half1 : sv 4602678819172646912 = H := by decide +kernel
theorem fin_half : finB 4602678819172646912 = true := by decide
theorem fin_one : finB 4607182418800017408 = true := by decide
theorem rep_K {a : Nat} (h : a ≤ 9007199254740992) : Rep (a * K) := by
  by_cases c : a < 9007199254740992
  · exact rep_of c (by decide)
  · rw [show a = 1 * 2 ^ 53 by omega, K, Nat.mul_assoc, ← Nat.pow_add]
    exact rep_of (by decide) (by decide)
theorem half_up {n : Int} (h : n.natAbs ≤ 4503599627370495) : ∃ z, floatBits .add .f64 (fi n) 4602678819172646912 = some z ∧ z < 18446744073709551616 ∧ secV z = n ∧ secE z = 0 := by
  have f := fi_small (n := n) (by omega)
  have hK := K_H
  have e : sv (fi n) + sv 4602678819172646912 = (2 * n + 1) * H := by
    rw [f.2.2, sv_half1, hK, Int.natCast_mul, Int.add_mul, Int.one_mul, ← Int.mul_assoc, Int.mul_comm n]; rfl
  obtain ⟨z, z1, z2, z3, z4⟩ := add_rep f.1 fin_half (by rw [e, Int.natAbs_mul, Int.natAbs_natCast]; exact rep_of (by omega) (by decide))
  have q : sv z / K = n := by
    rw [z4, e, hK, Int.ediv_eq_iff_of_pos (by have := K_pos; omega)]
    have : 0 < H := Nat.two_pow_pos _
    have a : n * ((2 * H : Nat) : Int) = 2 * n * H := by rw [Int.natCast_mul, ← Int.mul_assoc, Int.mul_comm n]; rfl
    have b : (2 * n + 1) * (H : Int) = 2 * n * H + H := by rw [Int.add_mul, Int.one_mul]
    rw [a, b]
    generalize 2 * n * (H : Int) = t
    omega
  have s := sec_yes z2 (by rw [q]; exact fitB_true.2 (by omega))
  exact ⟨z, z1, z3, by rw [s.1, q], s.2⟩
theorem half_down {n : Int} (h : n.natAbs ≤ 4503599627370495) : ∃ z, floatBits .sub .f64 (fi n) 4602678819172646912 = some z ∧ z < 18446744073709551616 ∧ secV z = n - 1 ∧ secE z = 0 := by
  have f := fi_small (n := n) (by omega)
  have hK := K_H
  have e : sv (fi n) - sv 4602678819172646912 = (2 * n - 1) * H := by
    rw [f.2.2, sv_half1, hK, Int.natCast_mul, Int.sub_mul, Int.one_mul, ← Int.mul_assoc, Int.mul_comm n]; rfl
  obtain ⟨z, z1, z2, z3, z4⟩ := sub_rep f.1 fin_half (by rw [e, Int.natAbs_mul, Int.natAbs_natCast]; exact rep_of (by omega) (by decide))
  have q : sv z / K = n - 1 := by
    rw [z4, e, hK, Int.ediv_eq_iff_of_pos (by have := K_pos; omega)]
    have : 0 < H := Nat.two_pow_pos _
    have a : (n - 1) * ((2 * H : Nat) : Int) = 2 * n * H - 2 * H := by rw [Int.natCast_mul, Int.sub_mul, Int.one_mul, ← Int.mul_assoc, Int.mul_comm n]; rfl
    have b : (2 * n - 1) * (H : Int) = 2 * n * H - H := by rw [Int.sub_mul, Int.one_mul]
    rw [a, b]
    generalize 2 * n * (H : Int) = t
    omega
  have s := sec_yes z2 (by rw [q]; exact fitB_true.2 (by omega))
  exact ⟨z, z1, z3, by rw [s.1, q], s.2⟩
theorem add_one {n : Int} {x : Nat} (hx : finB x = true) (e : sv x = n * K) (h : (n + 1).natAbs ≤ 9007199254740992) : ∃ z, floatBits .add .f64 x 4607182418800017408 = some z ∧ finB z = true ∧ z < 18446744073709551616 ∧ sv z = (n + 1) * K := by
  have e2 : sv x + sv 4607182418800017408 = (n + 1) * K := by rw [e, sv_one, Int.add_mul, Int.one_mul]
  obtain ⟨z, z1, z2, z3, z4⟩ := add_rep hx fin_one (by rw [e2, Int.natAbs_mul, Int.natAbs_natCast]; exact rep_K h)
  exact ⟨z, z1, z2, z3, by rw [z4, e2]⟩
theorem floor_rep {x : Nat} (h : finB x = true) : Rep ((sv x / K).natAbs * K) := by
  have hx := fin_iff.1 h
  have := (at_down_rep (read_fin hx) ⟨_, hx, rfl⟩ (ng x)).1
  rw [sv, ← downM_floor, sgn_natAbs]; exact this
/-- A float of that size is whole. -/
theorem whole_big {x : Nat} (h : finB x = true) (hb : 9007199254740991 * K < mg (rung x)) : sv x / K * K = sv x := by
  obtain ⟨m, p, -, hp, e, hm⟩ := read_fin (fin_iff.1 h)
  have hE := E_is
  have hk : mg (rung x) % K = 0 := by
    by_cases c : 0 ≤ p
    · rw [← e, show (p + 1074).toNat = p.toNat + E by omega, Nat.pow_add, ← Nat.mul_assoc]; exact Nat.mul_mod_left _ _
    · exfalso
      have h1 : 2 ^ (p + 1074).toNat ≤ K := Nat.pow_le_pow_right (by decide) (by omega)
      have h2 := Nat.mul_le_mul (show m ≤ 9007199254740991 by omega) h1
      omega
  have e2 := Nat.div_add_mod (mg (rung x)) K
  rw [hk, Nat.add_zero, Nat.mul_comm] at e2
  have e3 : downM (ng x) (mg (rung x)) = mg (rung x) / K := by unfold downM; simp [hk]
  rw [sv, ← downM_floor, ← sgn_mul, e3, e2]
theorem sv_natAbs (x : Nat) : (sv x).natAbs = mg (rung x) := sgn_natAbs _ _

/-! ### By nought -/

theorem mul_nought {x : Nat} (h : finB x = true) : floatBits .mul .f64 x 0 = some (if ng x then 9223372036854775808 else 0) := by
  obtain ⟨m, p, e, -⟩ := read_fin (fin_iff.1 h)
  show double.mul x 0 = _
  have r0 : double.read 0 = .number false 0 (-1074) := by decide
  rw [Format.mul, e, r0]
  simp only [Datum.product, Bool.bne_false, Nat.mul_zero, Option.map_some, Option.some.injEq]
  simp only [Format.write, Format.nearest, if_true, Format.word, dSign, Nat.add_zero]
theorem mul_none {x : Nat} (h : finB x = false) : floatBits .mul .f64 x 0 = none := by
  have h' : ¬ rung x < 9218868437227405312 := by simpa [finB] using h
  show double.mul x 0 = _
  have r0 : double.read 0 = .number false 0 (-1074) := by decide
  rcases Nat.lt_trichotomy (rung x) 9218868437227405312 with c | c | c
  · exact absurd c h'
  · rw [Format.mul, read_inf c, r0]; simp [Datum.product]
  · obtain ⟨f, e⟩ := read_nan c
    rw [Format.mul, e]; simp [Datum.product]

end Lc
