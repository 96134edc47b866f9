/-
  What is right, in the program: letters, digits, names.
-/
import Derived.Test.YtbneokgeochinaaDoorLcRi
import Derived.RegionTactic
namespace Go.Proofs.YtbneokgeochinaaDoor
open Go.ChangeShapes Go.WideShapes Go.ChangeAt Go.RowKit Lc

set_option maxRecDepth 100000 in
theorem isD_any (c : UInt8) (w : World) : Calls Tryd.prog 66 #[.int .u8 c.toNat] w fun e w' => e = .returned (.bool (isDg c)) ∧ w = w' := by
  rw [isD_i]
  generalize (c.toNat : Int) = n
  go_enter Tryd.func66, Tryd.ntmps66
  go_wp2_with fail
  all_goals go_ret
  all_goals exact ⟨ret_b (by first | rfl | (rw [Bool.eq_iff_iff]; simp; try omega)), rfl⟩
set_option maxRecDepth 100000 in
theorem isL_any (c : UInt8) (w : World) : Calls Tryd.prog 65 #[.int .u8 c.toNat] w fun e w' => e = .returned (.bool (isL c)) ∧ w = w' := by
  rw [isL_i]
  generalize (c.toNat : Int) = n
  go_enter Tryd.func65, Tryd.ntmps65
  go_wp2_with fail
  all_goals go_ret
  all_goals exact ⟨ret_b (by first | rfl | (rw [Bool.eq_iff_iff]; simp; try omega)), rfl⟩
set_option maxRecDepth 100000 in
theorem within_any (n a b : Int) (w : World) : Calls Tryd.prog 62 #[.int .i64 n, .int .i64 a, .int .i64 b] w fun e w' => e = .returned (.bool (inB n a b)) ∧ w = w' := by
  unfold inB
  go_enter Tryd.func62, Tryd.ntmps62
  go_wp2_with fail
  all_goals go_ret
  all_goals exact ⟨ret_b (by first | rfl | (rw [Bool.eq_iff_iff]; simp; try omega)), rfl⟩
set_option maxRecDepth 100000 in
set_option maxHeartbeats 2000000 in
theorem rightName_any (l : List UInt8) (w : World) (hl : l.length ≤ maxLen) : Calls Tryd.prog 61 #[.string (tx l)] w fun e w' => e = .returned (.bool (nameB l)) ∧ w = w' := by
  have hsz := tx_size l
  have hg := Lib.hid (tx_get l)
  have hno := Lib.hid (fun k => @all_no okS l k)
  have hyes := Lib.hid (@all_yes okS l)
  have hn : Hid (nameB l = (inB (l.length : Int) 3 20 && l.all okS)) := Lib.hid (by
    unfold nameB inB
    rw [show decide ((3 : Int) ≤ (l.length : Int)) = decide (3 ≤ l.length) by rw [decide_eq_decide]; omega, show decide ((l.length : Int) ≤ 20) = decide (l.length ≤ 20) by rw [decide_eq_decide]; omega])
  unfold maxLen at hl
  have W : ∀ w, _ := fun w => within_any (l.length : Int) 3 20 w
  cases hb : inB (l.length : Int) 3 20
  · have E : nameB l = false := by rw [hn.out, hb]; rfl
    rw [E]
    rw [hb] at W
    clear hn hb hno hyes hg
    generalize tx l = s at *
    go_enter Tryd.func61, Tryd.ntmps61
    go_wp2_with (go_at_call 62; refine (W _).mono ?_; rintro e w' ⟨rfl, rfl⟩)
    go_ret
    exact ⟨rfl, rfl⟩
  · have E : nameB l = l.all okS := by rw [hn.out, hb]; rfl
    rw [E]
    rw [hb] at W
    clear hn hb E
    generalize tx l = s at *
    have okD := Lib.hid okS_i
    go_enter Tryd.func61, Tryd.ntmps61
    go_wp2_with (go_at_call 62; refine (W _).mono ?_; rintro e w' ⟨rfl, rfl⟩)
    go_loop [10] (fun i => ∃ k : Nat, k ≤ l.length ∧ i = .int .i64 k ∧ ∀ j, j < k → okS (l.getD j 0) = true) (fun i => l.length - (intOf i).toNat)
    case atStart => exact ⟨0, Nat.zero_le _, rfl, fun j hj => absurd hj (Nat.not_lt_zero j)⟩
    case round =>
      obtain ⟨k, hk, rfl, hall⟩ := hrel
      have HA := Lib.hid hall
      clear hall W
      go_wp2_with (first | (go_at_call 65; refine (isL_any _ _).mono ?_; rintro e w' ⟨rfl, rfl⟩) | (go_at_call 66; refine (isD_any _ _).mono ?_; rintro e w' ⟨rfl, rfl⟩))
      all_goals first
        | (have hlt : k < l.length := by assumption
           have h1 : okS (s[k]'(by omega)) = true := by rw [okD.out]; simp_all
           rw [hg.out] at h1
           go_round
           case rel => exact ⟨k + 1, by omega, by go_num, fun j hj => by
             rcases Nat.lt_or_ge j k with h | h
             · exact HA.out j h
             · have : j = k := by omega
               subst this; exact h1⟩
           case measure => simp [intOf]; omega)
        | (have hlt : k < l.length := by assumption
           have h1 : okS (s[k]'(by omega)) = false := by rw [okD.out]; simp_all
           rw [hg.out] at h1
           rw [hno.out k hlt h1]
           go_ret
           exact ⟨rfl, rfl⟩)
        | (have e : k = l.length := by omega
           subst e
           rw [hyes.out HA.out]
           go_ret
           exact ⟨rfl, rfl⟩)
end Go.Proofs.YtbneokgeochinaaDoor
