/-
  What the document's own digits and Text do (longcaseref03), in the same plain words.
-/
import Derived.Test.YtdmobmblkbmkhaaDoorLcRefC
import Derived.Laws.BytesArg
namespace Go.Proofs.YtdmobmblkbmkhaaDoor
open Go.ChangeShapes Go.WideShapes Go.ChangeAt Go.RowKit Go.Sort Lc

/-- The last digit, as a byte. -/
def dg1 (n : Nat) : UInt8 := UInt8.ofNat (48 + n % 10)
theorem dgt_step {n k : Nat} {l : List UInt8} {A : List UInt8} (h : 0 < n ∨ 0 < k) (e : A = digR n k ++ l) : A = digR (n / 10) (k - 1) ++ (dg1 n :: l) := by
  rw [e, digR_step h, List.append_assoc]; rfl

theorem conv_one (w : World) (p : Nat) : (convert 63 9 (.slice (some ⟨w.heap.size, 0, none⟩) 1 1)).run Tryd.prog (w.alloc (.cells #[.int .u8 (48 + (p : Int) % 10)] 5)) = .ok (.string ⟨#[dg1 p]⟩) (w.alloc (.cells #[.int .u8 (48 + (p : Int) % 10)] 5)) := by
  have h := run_convert_bytes_arg (P := Tryd.prog) (w.alloc (.cells #[.int .u8 (48 + (p : Int) % 10)] 5)) 63 5 Tryd.underlying63 Tryd.underlying5 w.heap.size 0 1 1 [48 + (p : Int) % 10] rfl (fun i hi => by
    obtain rfl : i = 0 := by omega
    simp) 9 Tryd.underlying9
  rw [h]
  have e : strOfNums [48 + (p : Int) % 10] = ⟨#[dg1 p]⟩ := by
    show (⟨#[UInt8.ofNat (48 + (p : Int) % 10).toNat]⟩ : ByteArray) = _
    rw [show (48 + (p : Int) % 10).toNat = 48 + p % 10 by omega]; rfl
  rw [e]
theorem cons_app (x : UInt8) (l : List UInt8) : (⟨#[x]⟩ : ByteArray) ++ ⟨l.toArray⟩ = ⟨(x :: l).toArray⟩ := ByteArray.mk_append_mk [x] l

set_option maxHeartbeats 1000000 in
set_option maxRecDepth 100000 in
theorem refDigits_any (n k : Nat) (w : World) (hn : n < 10000000000) (h0 : 0 < k) (hk : k ≤ 4) : Calls Tryd.prog 28 #[.int .i64 (n : Int), .int .i64 (k : Int)] w fun e w' => e = .returned (.string (dgU n k)) ∧ Up w w' := by
  have DL := dig_len n k
  have dl := dec_len hn
  have EE := Lib.hid (show dgU n k = ⟨(dig n k).toArray⟩ from rfl)
  have D := Lib.hid (digR_is (n := n) h0)
  have LL : Hid ((dig n k).length ≤ 10) := by unfold Hid; omega
  clear DL dl
  generalize dgU n k = z at *
  generalize dig n k = zs at *
  go_enter Tryd.func28, Tryd.ntmps28
  go_wp2_with fail
  go_loopw [0, 1, 5] (fun a b c wr => ∃ (p : Nat) (q : Int) (l : List UInt8), p < 10000000000 ∧ a = .int .i64 (p : Int) ∧ b = .int .i64 q ∧ c = .string ⟨l.toArray⟩ ∧ Hid (q + l.length = k) ∧ Hid (zs = digR p q.toNat ++ l) ∧ Hid (Up w wr)) (fun a b _ _ => ((intOf a).toNat + (intOf b).toNat))
  case atStart => exact ⟨n, k, [], by omega, rfl, rfl, rfl, by simp [Hid], by unfold Hid; rw [List.append_nil]; exact D.out.symm, Up.refl _⟩
  case round =>
    obtain ⟨p, q, l, p1, rfl, rfl, rfl, Q, Z, U⟩ := hrel
    have ll : l.length ≤ 10 := by have := congrArg List.length Z.out; rw [List.length_append] at this; have := LL.out; omega
    have q1 : -10 ≤ q := by have := Q.out; omega
    have q2 : q ≤ 4 := by have := Q.out; omega
    have CV := conv_one wr p
    have sz : ¬ 9223372036854775807 < 1 + l.length := by omega
    by_cases c : 0 < p
    · go_wp2_with fail
      go_roundw
      case rel => exact ⟨p / 10, q - 1, _, by omega, by go_num, rfl, by rw [cons_app], by have := Q.out; unfold Hid; simp; omega, by unfold Hid; rw [show (q - 1).toNat = q.toNat - 1 by omega]; exact dgt_step (.inl c) Z.out, U.out.alloc' _⟩
      case measure => simp [intOf]; omega
    · obtain rfl : p = 0 := by omega
      replace CV : (convert 63 9 (.slice (some ⟨wr.heap.size, 0, none⟩) 1 1)).run Tryd.prog (wr.alloc (.cells #[.int .u8 48] 5)) = .ok (.string ⟨#[dg1 0]⟩) (wr.alloc (.cells #[.int .u8 48] 5)) := CV
      by_cases c2 : 0 < q
      · go_wp2_with fail
        go_roundw
        case rel => exact ⟨0, q - 1, _, by omega, rfl, rfl, by rw [cons_app], by have := Q.out; unfold Hid; simp; omega, by unfold Hid; rw [show (q - 1).toNat = q.toNat - 1 by omega]; exact dgt_step (n := 0) (.inr (by omega)) Z.out, U.out.alloc' _⟩
        case measure => simp [intOf]; omega
      · have c3 := decf c2
        go_wp2_with fail
        go_ret
        exact ⟨ret_s (by rw [EE.out, Z.out, show q.toNat = 0 by omega]; rfl), U.out⟩

theorem refDg4 (n : Nat) (w : World) (x : Int) (e : (n : Int) = x) (hn : x < 10000000000) : Calls Tryd.prog 28 #[.int .i64 x, .int .i64 4] w fun e w' => e = .returned (.string (dgU n 4)) ∧ Up w w' := by
  subst e; exact refDigits_any n 4 w (by omega) (by omega) (by omega)
theorem refDg2 (n : Nat) (w : World) (x : Int) (e : (n : Int) = x) (hn : x < 10000000000) : Calls Tryd.prog 28 #[.int .i64 x, .int .i64 2] w fun e w' => e = .returned (.string (dgU n 2)) ∧ Up w w' := by
  subst e; exact refDigits_any n 2 w (by omega) (by omega) (by omega)

set_option maxHeartbeats 2000000 in
set_option maxRecDepth 100000 in
theorem refText_yes (y m d h i s : Int) (w : World) (r : rightC y m d h i s = true) : Calls Tryd.prog 16 #[.agg #[.int .i64 y, .int .i64 m, .int .i64 d, .int .i64 h, .int .i64 i, .int .i64 s]] w fun e w' => e = .returned (.string (textB y m d h i s)) ∧ Up w w' := by
  obtain ⟨rb, h1, h2, i1, i2, s1, s2⟩ := rightC_true.1 r
  obtain ⟨y1, y2, d1, d2⟩ := right_true.1 rb
  obtain ⟨m1, m2⟩ := right_month rb
  have ld := (len_bd y m).2
  have D1 := fun w => refDg2 m.toNat w m (by omega) (by omega)
  have D2 := fun w => refDg2 d.toNat w d (by omega) (by omega)
  have D3 := fun w => refDg2 h.toNat w h (by omega) (by omega)
  have D4 := fun w => refDg2 i.toNat w i (by omega) (by omega)
  have D5 := fun w => refDg2 s.toNat w s (by omega) (by omega)
  rw [← dgB_pos (by omega)] at D1 D2 D3 D4 D5
  have z0 : (dgU y.natAbs 4).size ≤ 10 := by rw [dgU_size]; have := dec_len (n := y.natAbs) (by omega); omega
  have z1 := dgB_2 (n := m) (by omega) (by omega)
  have z2 := dgB_2 (n := d) (by omega) (by omega)
  have z3 := dgB_2 (n := h) (by omega) (by omega)
  have z4 := dgB_2 (n := i) (by omega) (by omega)
  have z5 := dgB_2 (n := s) (by omega) (by omega)
  have E := Lib.hid (show textB y m d h i s = sgB y ++ dgU y.natAbs 4 ++ ⟨#[45]⟩ ++ dgB m 2 ++ ⟨#[45]⟩ ++ dgB d 2 ++ ⟨#[32]⟩ ++ dgB h 2 ++ ⟨#[58]⟩ ++ dgB i 2 ++ ⟨#[58]⟩ ++ dgB s 2 from rfl)
  clear r rb d2 ld
  generalize dgB m 2 = x1 at *
  generalize dgB d 2 = x2 at *
  generalize dgB h 2 = x3 at *
  generalize dgB i 2 = x4 at *
  generalize dgB s 2 = x5 at *
  by_cases c : y < 0
  · have D0 := fun w => refDg4 y.natAbs w (-y) (by omega) (by omega)
    rw [sgB_neg c] at E
    generalize dgU y.natAbs 4 = x0 at *
    have f : ¬ 9223372036854775807 < 1 + x0.size := by omega
    have f0 : ¬ 9223372036854775807 < 1 + x0.size + 1 := by omega
    have g0 : ¬ 9223372036854775807 < 1 + x0.size + 1 := by omega
    have f1 : ¬ 9223372036854775807 < 1 + x0.size + 1 + 2 := by omega
    have g1 : ¬ 9223372036854775807 < 1 + x0.size + 3 := by omega
    have f2 : ¬ 9223372036854775807 < 1 + x0.size + 1 + 2 + 1 := by omega
    have g2 : ¬ 9223372036854775807 < 1 + x0.size + 4 := by omega
    have f3 : ¬ 9223372036854775807 < 1 + x0.size + 1 + 2 + 1 + 2 := by omega
    have g3 : ¬ 9223372036854775807 < 1 + x0.size + 6 := by omega
    have f4 : ¬ 9223372036854775807 < 1 + x0.size + 1 + 2 + 1 + 2 + 1 := by omega
    have g4 : ¬ 9223372036854775807 < 1 + x0.size + 7 := by omega
    have f5 : ¬ 9223372036854775807 < 1 + x0.size + 1 + 2 + 1 + 2 + 1 + 2 := by omega
    have g5 : ¬ 9223372036854775807 < 1 + x0.size + 9 := by omega
    have f6 : ¬ 9223372036854775807 < 1 + x0.size + 1 + 2 + 1 + 2 + 1 + 2 + 1 := by omega
    have g6 : ¬ 9223372036854775807 < 1 + x0.size + 10 := by omega
    have f7 : ¬ 9223372036854775807 < 1 + x0.size + 1 + 2 + 1 + 2 + 1 + 2 + 1 + 2 := by omega
    have g7 : ¬ 9223372036854775807 < 1 + x0.size + 12 := by omega
    have f8 : ¬ 9223372036854775807 < 1 + x0.size + 1 + 2 + 1 + 2 + 1 + 2 + 1 + 2 + 1 := by omega
    have g8 : ¬ 9223372036854775807 < 1 + x0.size + 13 := by omega
    have f9 : ¬ 9223372036854775807 < 1 + x0.size + 1 + 2 + 1 + 2 + 1 + 2 + 1 + 2 + 1 + 2 := by omega
    have g9 : ¬ 9223372036854775807 < 1 + x0.size + 15 := by omega
    go_enter Tryd.func16, Tryd.ntmps16
    go_wp2_with fail
    obtain ⟨W, hW⟩ : ∃ W, W = w.alloc (.cells #[.int .i64 y, .int .i64 m, .int .i64 d, .int .i64 h, .int .i64 i, .int .i64 s] 23) := ⟨_, rfl⟩
    rw [← hW]
    have X : Box W w.heap.size y m d h i s := by rw [hW]; exact Box.new w y m d h i s _
    have U : Hid (Up w W) := by rw [hW]; exact Up.alloc _ _
    clear hW
    obtain ⟨c0, c1, c2, c3, c4, c5⟩ := X
    have k1 := cell_regrown c1; have k2 := cell_regrown c2; have k3 := cell_regrown c3; have k4 := cell_regrown c4; have k5 := cell_regrown c5
    have Q0 := quiet_up (w := W) (fun V _ => D0 V)
    have Q1 := quiet_up (w := W) (fun V _ => D1 V)
    have Q2 := quiet_up (w := W) (fun V _ => D2 V)
    have Q3 := quiet_up (w := W) (fun V _ => D3 V)
    have Q4 := quiet_up (w := W) (fun V _ => D4 V)
    have Q5 := quiet_up (w := W) (fun V _ => D5 V)
    clear D0 D1 D2 D3 D4 D5 c0 c1 c2 c3 c4 c5
    refine wp_region_quiet_below (by kernel_rfl) (by kernel_rfl) ?_
    repeat (quiet_step (first | (with_reducible exact Q0 _ _) | (with_reducible exact Q1 _ _) | (with_reducible exact Q2 _ _) | (with_reducible exact Q3 _ _) | (with_reducible exact Q4 _ _) | (with_reducible exact Q5 _ _)))
    refine wpQuiet_nil ?_
    intro _ hw'
    obtain ⟨⟨dq, osq⟩, hw''⟩ := hw'
    subst hw''
    clear k1 k2 k3 k4 k5 Q0 Q1 Q2 Q3 Q4 Q5
    go_wp2_with fail
    go_ret
    exact ⟨ret_s E.out.symm, U.out.trans (below_regrown W dq osq)⟩
  · have c' : 0 ≤ y := by omega
    have D0 := fun w => refDg4 y.natAbs w y (by omega) (by omega)
    rw [sgB_pos c'] at E
    generalize dgU y.natAbs 4 = x0 at *
    clear c
    have f : ¬ 9223372036854775807 < x0.size := by omega
    have f0 : ¬ 9223372036854775807 < x0.size + 1 := by omega
    have g0 : ¬ 9223372036854775807 < x0.size + 1 := by omega
    have f1 : ¬ 9223372036854775807 < x0.size + 1 + 2 := by omega
    have g1 : ¬ 9223372036854775807 < x0.size + 3 := by omega
    have f2 : ¬ 9223372036854775807 < x0.size + 1 + 2 + 1 := by omega
    have g2 : ¬ 9223372036854775807 < x0.size + 4 := by omega
    have f3 : ¬ 9223372036854775807 < x0.size + 1 + 2 + 1 + 2 := by omega
    have g3 : ¬ 9223372036854775807 < x0.size + 6 := by omega
    have f4 : ¬ 9223372036854775807 < x0.size + 1 + 2 + 1 + 2 + 1 := by omega
    have g4 : ¬ 9223372036854775807 < x0.size + 7 := by omega
    have f5 : ¬ 9223372036854775807 < x0.size + 1 + 2 + 1 + 2 + 1 + 2 := by omega
    have g5 : ¬ 9223372036854775807 < x0.size + 9 := by omega
    have f6 : ¬ 9223372036854775807 < x0.size + 1 + 2 + 1 + 2 + 1 + 2 + 1 := by omega
    have g6 : ¬ 9223372036854775807 < x0.size + 10 := by omega
    have f7 : ¬ 9223372036854775807 < x0.size + 1 + 2 + 1 + 2 + 1 + 2 + 1 + 2 := by omega
    have g7 : ¬ 9223372036854775807 < x0.size + 12 := by omega
    have f8 : ¬ 9223372036854775807 < x0.size + 1 + 2 + 1 + 2 + 1 + 2 + 1 + 2 + 1 := by omega
    have g8 : ¬ 9223372036854775807 < x0.size + 13 := by omega
    have f9 : ¬ 9223372036854775807 < x0.size + 1 + 2 + 1 + 2 + 1 + 2 + 1 + 2 + 1 + 2 := by omega
    have g9 : ¬ 9223372036854775807 < x0.size + 15 := by omega
    go_enter Tryd.func16, Tryd.ntmps16
    go_wp2_with fail
    obtain ⟨W, hW⟩ : ∃ W, W = w.alloc (.cells #[.int .i64 y, .int .i64 m, .int .i64 d, .int .i64 h, .int .i64 i, .int .i64 s] 23) := ⟨_, rfl⟩
    rw [← hW]
    have X : Box W w.heap.size y m d h i s := by rw [hW]; exact Box.new w y m d h i s _
    have U : Hid (Up w W) := by rw [hW]; exact Up.alloc _ _
    clear hW
    obtain ⟨c0, c1, c2, c3, c4, c5⟩ := X
    have k1 := cell_regrown c1; have k2 := cell_regrown c2; have k3 := cell_regrown c3; have k4 := cell_regrown c4; have k5 := cell_regrown c5
    have Q0 := quiet_up (w := W) (fun V _ => D0 V)
    have Q1 := quiet_up (w := W) (fun V _ => D1 V)
    have Q2 := quiet_up (w := W) (fun V _ => D2 V)
    have Q3 := quiet_up (w := W) (fun V _ => D3 V)
    have Q4 := quiet_up (w := W) (fun V _ => D4 V)
    have Q5 := quiet_up (w := W) (fun V _ => D5 V)
    clear D0 D1 D2 D3 D4 D5 c0 c1 c2 c3 c4 c5
    refine wp_region_quiet_below (by kernel_rfl) (by kernel_rfl) ?_
    repeat (quiet_step (first | (with_reducible exact Q0 _ _) | (with_reducible exact Q1 _ _) | (with_reducible exact Q2 _ _) | (with_reducible exact Q3 _ _) | (with_reducible exact Q4 _ _) | (with_reducible exact Q5 _ _)))
    refine wpQuiet_nil ?_
    intro _ hw'
    obtain ⟨⟨dq, osq⟩, hw''⟩ := hw'
    subst hw''
    clear k1 k2 k3 k4 k5 Q0 Q1 Q2 Q3 Q4 Q5
    go_wp2_with fail
    go_ret
    exact ⟨ret_s (by rw [E.out]), U.out.trans (below_regrown W dq osq)⟩
end Go.Proofs.YtdmobmblkbmkhaaDoor
