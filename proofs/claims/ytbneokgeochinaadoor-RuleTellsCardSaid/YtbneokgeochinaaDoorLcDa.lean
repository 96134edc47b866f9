/-
  The document's own answer of layer 8: letters, names, changes, what is right.
-/
import Derived.Test.YtbneokgeochinaaDoorLcRj0
import Derived.Test.YtbneokgeochinaaDoorLcPx4
namespace Go.Proofs.YtbneokgeochinaaDoor
open Go.ChangeShapes Go.WideShapes Go.ChangeAt Go.RowKit Lc

set_option maxRecDepth 100000 in
theorem ddigit_any (c : UInt8) (w : World) : Calls Tryd.prog 59 #[.int .u8 c.toNat] w fun e w' => e = .returned (.bool (isDg c)) ∧ w = w' := by
  rw [isD_i]
  generalize (c.toNat : Int) = n
  go_enter Tryd.func59, Tryd.ntmps59
  go_wp2_with fail
  all_goals go_ret
  all_goals exact ⟨ret_b (by first | rfl | (rw [Bool.eq_iff_iff]; simp; try omega)), rfl⟩
set_option maxRecDepth 100000 in
theorem dletter_any (c : UInt8) (w : World) : Calls Tryd.prog 58 #[.int .u8 c.toNat] w fun e w' => e = .returned (.bool (isL c)) ∧ w = w' := by
  rw [isL_i]
  generalize (c.toNat : Int) = n
  go_enter Tryd.func58, Tryd.ntmps58
  go_wp2_with fail
  all_goals go_ret
  all_goals exact ⟨ret_b (by first | rfl | (rw [Bool.eq_iff_iff]; simp; try omega)), rfl⟩
set_option maxRecDepth 100000 in
theorem doff_any (n : Int) (w : World) : Calls Tryd.prog 41 #[.int .i64 n] w fun e w' => e = .returned (.bool (inB n (-89999) 89999)) ∧ w = w' := by
  unfold inB
  go_enter Tryd.func41, Tryd.ntmps41
  go_wp2_with fail
  all_goals go_ret
  all_goals exact ⟨ret_b (by first | rfl | (rw [Bool.eq_iff_iff]; simp; try omega)), rfl⟩
set_option maxRecDepth 100000 in
set_option maxHeartbeats 2000000 in
theorem dname_any (l : List UInt8) (w : World) (hl : l.length ≤ maxLen) : Calls Tryd.prog 40 #[.string (tx l)] w fun e w' => e = .returned (.bool (nameB l)) ∧ w = w' := by
  have hsz := tx_size l
  unfold maxLen at hl
  by_cases c1 : l.length < 3
  · have E : nameB l = false := by
      unfold nameB; rw [show decide (3 ≤ l.length) = false by simp; omega]; rfl
    rw [E]
    generalize tx l = s at *
    clear E
    go_enter Tryd.func40, Tryd.ntmps40
    go_wp2_with fail
    go_ret
    exact ⟨rfl, rfl⟩
  by_cases c2 : 20 < l.length
  · have E : nameB l = false := by
      unfold nameB; rw [show decide (l.length ≤ 20) = false by simp; omega]; simp
    rw [E]
    generalize tx l = s at *
    clear E
    go_enter Tryd.func40, Tryd.ntmps40
    go_wp2_with fail
    go_ret
    exact ⟨rfl, rfl⟩
  have E : nameB l = l.all okS := by
    unfold nameB; rw [show decide (l.length ≤ 20) = true by simp; omega, show decide (3 ≤ l.length) = true by simp; omega]; rfl
  rw [E]
  have hg := Lib.hid (tx_get l)
  have hno := Lib.hid (fun k => @all_no okS l k)
  have hyes := Lib.hid (@all_yes okS l)
  generalize tx l = s at *
  clear E
  have okD := Lib.hid okS_i
  go_enter Tryd.func40, Tryd.ntmps40
  go_wp2_with fail
  go_loop [3] (fun i => ∃ k : Nat, k ≤ l.length ∧ i = .int .i64 k ∧ ∀ j, j < k → okS (l.getD j 0) = true) (fun i => l.length - (intOf i).toNat)
  case atStart => exact ⟨0, Nat.zero_le _, rfl, fun j hj => absurd hj (Nat.not_lt_zero j)⟩
  case round =>
    obtain ⟨k, hk, rfl, hall⟩ := hrel
    have HA := Lib.hid hall
    clear hall
    go_wp2_with (first | (go_at_call 58; refine (dletter_any _ _).mono ?_; rintro e w' ⟨rfl, rfl⟩) | (go_at_call 59; refine (ddigit_any _ _).mono ?_; rintro e w' ⟨rfl, rfl⟩))
    all_goals first
      | (have hlt : k < l.length := by assumption
         have h1 : okS (s[k]'(by omega)) = true := by rw [okD.out]; simp_all
         rw [hg.out] at h1
         go_round
         case rel => exact ⟨k + 1, by omega, by go_num, fun j hj => by
           rcases Nat.lt_or_ge j k with h | h
           · exact HA.out j h
           · have : j = k := by omega
             subst this; exact h1⟩
         case measure => simp [intOf]; omega)
      | (have hlt : k < l.length := by assumption
         have h1 : okS (s[k]'(by omega)) = false := by rw [okD.out]; simp_all
         rw [hg.out] at h1
         rw [hno.out k hlt h1]
         go_ret
         exact ⟨rfl, rfl⟩)
      | (have e : k = l.length := by omega
         subst e
         rw [hyes.out HA.out]
         go_ret
         exact ⟨rfl, rfl⟩)
set_option maxHeartbeats 1000000 in
theorem kd_eql (r s : Kd) (w : World) : (binOp .eql 23 (.agg (kA r)) (.agg (kA s))).run Tryd.prog w = .ok (.bool (decide (r = s))) w := by
  by_cases h : r = s
  · subst h
    rw [decide_eq_true rfl]
    unfold kA
    go_simp
  · rw [decide_eq_false h]
    unfold kA
    go_simp
    rw [tx_toList, tx_toList]
    intro a1 a2 a3
    exact h (kd_ext a1 a2 a3)
set_option maxHeartbeats 1000000 in
theorem ch_eql (r s : Ch) (w : World) : (binOp .eql 25 (.agg (cA r)) (.agg (cA s))).run Tryd.prog w = .ok (.bool (decide (r = s))) w := by
  by_cases h : r = s
  · subst h
    rw [decide_eq_true rfl]
    unfold cA
    go_simp
  · rw [decide_eq_false h]
    unfold cA
    go_simp
    intro a1 a2 a3 a4 a5
    exact h (ch_ext a1 a2 a3 a4 a5)
set_option maxRecDepth 100000 in
set_option maxHeartbeats 2000000 in
theorem dchange_any (c : Ch) (wide : Bool) (w : World) : Calls Tryd.prog 20 #[.agg (cA c), .bool wide] w fun e w' => e = .returned (.bool (changeB c wide)) ∧ Up w w' := by
  unfold changeB dayB timeB inB
  obtain ⟨h, n, k, d, t⟩ := c
  unfold cA
  simp only
  cases wide
  all_goals
    by_cases h1 : h = 1
    · subst h1
      go_enter Tryd.func20, Tryd.ntmps20
      go_wp2_with fail
      all_goals go_ret
      all_goals exact ⟨ret_b (by first | rfl | (rw [Bool.eq_iff_iff]; simp; try omega)), Up.alloc _ _⟩
    by_cases h2 : h = 2
    · subst h2
      clear h1
      go_enter Tryd.func20, Tryd.ntmps20
      go_wp2_with fail
      all_goals go_ret
      all_goals exact ⟨ret_b (by first | rfl | (rw [Bool.eq_iff_iff]; simp; try omega)), Up.alloc _ _⟩
    by_cases h3 : h = 3
    · subst h3
      clear h1 h2
      go_enter Tryd.func20, Tryd.ntmps20
      go_wp2_with fail
      all_goals go_ret
      all_goals exact ⟨ret_b (by first | rfl | (rw [Bool.eq_iff_iff]; simp; try omega)), Up.alloc _ _⟩
    go_enter Tryd.func20, Tryd.ntmps20
    go_wp2_with fail
    all_goals go_ret
    all_goals exact ⟨ret_b (by first | rfl | (simp [h1, h2, h3])), Up.alloc _ _⟩
end Go.Proofs.YtbneokgeochinaaDoor
