/-
  The program's block: rightJumps.
-/
import Derived.Test.YtoijaananjlfpaaLcBkS
namespace Go.Proofs.Ytoijaananjlfpaa
open Go.ChangeShapes Go.WideShapes Go.ChangeAt Go.RowKit Lc

theorem snoc_all {p : Nat → Bool} {k : Nat} (h : ∀ j, j < k → p j = true) (hk : p k = true) : ∀ j, j < k + 1 → p j = true := fun j hj => by
  rcases Nat.lt_or_ge j k with h1 | h1
  · exact h j h1
  · have : j = k := by omega
    subst this; exact hk
set_option maxHeartbeats 2000000 in
theorem rjumps_any (A : Option Addr) (js : List Jmp) (c n : Nat) (z : Int) (w : World) (hn : 1 ≤ n) (hn2 : n ≤ 1000) (ra : Rc w A (jc js)) :
    Calls Try.prog 35 #[.slice A js.length c, .int .i64 n, .int .i64 z] w fun e w' => e = .returned (.bool (rjB js n z)) ∧ Up w w' := by
  have RA := Lib.hid ra
  clear ra
  obtain ⟨q, hq⟩ : ∃ q, js.length = q := ⟨_, rfl⟩
  have E := Lib.hid (show rjB js n z = (decide (js.length ≤ 5000) && allB js.length (rjOne js n z)) from rfl)
  generalize rjB js n z = r at *
  simp only [hq]
  have HQ := Lib.hid hq
  clear hq
  by_cases h5 : q ≤ 5000
  · have E : Hid (r = allB q (rjOne js n z)) := Lib.hid (by rw [E.out, HQ.out]; simp [h5])
    go_enter Try.func35, Try.ntmps35
    go_wp2
    go_loopw [14] (fun i wr => ∃ k : Nat, k ≤ q ∧ i = .int .i64 k ∧ Up w wr ∧ ∀ j, j < k → rjOne js n z j = true) (fun i _ => q - (intOf i).toNat)
    case atStart => exact ⟨0, Nat.zero_le _, rfl, Up.refl _, fun j hj => absurd hj (Nat.not_lt_zero j)⟩
    case round =>
      obtain ⟨k, hk, rfl, hu, hall⟩ := hrel
      have HA := Lib.hid hall
      have HU := Lib.hid hu
      clear hall hu
      by_cases hlt : k < q
      · obtain ⟨b, o, rfl, hcell⟩ := (RA.out.up HU.out).jmp (i := k) (by rw [HQ.out]; exact hlt)
        have HC := Lib.hid hcell
        clear hcell
        by_cases h0 : k = 0
        · obtain ⟨c1, c2⟩ := HC.out k (by rw [HQ.out]; exact hlt)
          obtain ⟨jt, e1⟩ : ∃ x, Hid ((js.getD k j0).t = x) := ⟨_, rfl⟩
          obtain ⟨jk, e2⟩ : ∃ x, Hid ((js.getD k j0).k = x) := ⟨_, rfl⟩
          rw [e1.out] at c1
          rw [e2.out] at c2
          have hd : decide ((0 : Int) < (k : Int)) = false := by simp [h0]
          have hd2 : decide (0 < k) = false := by simp [h0]
          have HK := Lib.hid h0
          clear h0
          go_wp2
          go_quiet (fail)
          have HU' : Hid (Up w ((wr.alloc (Obj.cells #[Value.int IntKind.i64 jt, Value.int IntKind.i64 jk] 54)).drewN nq)) := Lib.hid ((HU.out.alloc' _).drewN' _)
          cases hz : fitZ jt z
          · have hf : Hid (r = false) := Lib.hid (by
              rw [E.out]
              refine allB_no (k := k) hlt ?_
              unfold rjOne; rw [e1.out, hz]; simp)
            have FZ := fun w => bfits_any jt z w
            rw [hz] at FZ
            clear hz HC HA
            go_wp2_with (go_at_call 50; refine (FZ _).mono ?_; rintro e w' ⟨rfl, rfl⟩)
            go_ret
            exact ⟨ret_b hf.out.symm, HU'.out⟩
          · have FZ := fun w => bfits_any jt z w
            rw [hz] at FZ
            cases hr : (decide (0 ≤ jk) && decide (jk ≤ (n : Int) - 1))
            · have hf : Hid (r = false) := Lib.hid (by
                rw [E.out]
                refine allB_no (k := k) hlt ?_
                unfold rjOne; rw [e2.out, Bool.and_assoc, show decide (jk < (n : Int)) = decide (jk ≤ (n : Int) - 1) by rw [Bool.eq_iff_iff]; simp; omega, hr, Bool.and_false])
              have BW := fun w => bwithin_any jk 0 ((n : Int) - 1) w
              rw [hr] at BW
              clear hz hr HC HA
              go_wp2_with (first | (go_at_call 50; refine (FZ _).mono ?_; rintro e w' ⟨rfl, rfl⟩) | (go_at_call 26; refine (BW _).mono ?_; rintro e w' ⟨rfl, rfl⟩))
              go_ret
              exact ⟨ret_b hf.out.symm, HU'.out⟩
            · have HA' : Hid (∀ j, j < k + 1 → rjOne js n z j = true) := Lib.hid (snoc_all HA.out (by
                unfold rjOne; rw [e1.out, e2.out, hz, Bool.and_assoc, show decide (jk < (n : Int)) = decide (jk ≤ (n : Int) - 1) by rw [Bool.eq_iff_iff]; simp; omega, hr, Bool.and_true, Bool.and_true]
                simp [HK.out]))
              have BW := fun w => bwithin_any jk 0 ((n : Int) - 1) w
              rw [hr] at BW
              clear hz hr HC HA
              go_wp2_with (first | (go_at_call 50; refine (FZ _).mono ?_; rintro e w' ⟨rfl, rfl⟩) | (go_at_call 26; refine (BW _).mono ?_; rintro e w' ⟨rfl, rfl⟩))
              go_roundw
              case rel => exact ⟨k + 1, by omega, by go_num, HU'.out, HA'.out⟩
              case measure => simp [intOf]; omega
        · obtain ⟨m, rfl⟩ : ∃ m, k = m + 1 := ⟨k - 1, by omega⟩
          obtain ⟨c1, c2⟩ := HC.out (m + 1) (by rw [HQ.out]; exact hlt)
          obtain ⟨c0, _⟩ := HC.out m (by rw [HQ.out]; omega)
          obtain ⟨jt, e1⟩ : ∃ x, Hid ((js.getD (m + 1) j0).t = x) := ⟨_, rfl⟩
          obtain ⟨jk, e2⟩ : ∃ x, Hid ((js.getD (m + 1) j0).k = x) := ⟨_, rfl⟩
          obtain ⟨jp, e0⟩ : ∃ x, Hid ((js.getD m j0).t = x) := ⟨_, rfl⟩
          rw [e1.out] at c1
          rw [e2.out] at c2
          rw [e0.out] at c0
          clear h0
          have hd : decide ((0 : Int) < (m : Int) + 1) = true := by simp
          have HU' : ∀ nq, Hid (Up w ((wr.alloc (Obj.cells #[Value.int IntKind.i64 jt, Value.int IntKind.i64 jk] 54)).drewN nq)) := fun nq => Lib.hid ((HU.out.alloc' _).drewN' nq)
          go_wp2
          have x0 := cell_lt c0
          have x1 : (0 : Int) ≤ (m : Int) := by omega
          have x2 : (m : Int) < (q : Int) := by omega
          have x3 : IntKind.i64.wrap (m : Int) = (m : Int) := IntWalk.i64_in _ (by omega)
          go_quiet (fail)
          clear x0 x1 x2 x3 c0
          have HU' := HU' nq
          cases ho : decide (jp < jt)
          · have hle : jt ≤ jp := by simpa using ho
            have hf : Hid (r = false) := Lib.hid (by
              rw [E.out]
              refine allB_no (k := m + 1) hlt ?_
              rw [rjOne_succ, e0.out, e1.out, ho]; simp)
            clear HC HA ho
            go_wp2
            go_ret
            exact ⟨ret_b hf.out.symm, HU'.out⟩
          · have hlt2 : jp < jt := by simpa using ho
            cases hz : fitZ jt z
            · have hf : Hid (r = false) := Lib.hid (by
                rw [E.out]
                refine allB_no (k := m + 1) hlt ?_
                rw [rjOne_succ, e1.out, hz]; simp)
              have FZ := fun w => bfits_any jt z w
              rw [hz] at FZ
              clear hz HC HA ho
              go_wp2_with (go_at_call 50; refine (FZ _).mono ?_; rintro e w' ⟨rfl, rfl⟩)
              go_ret
              exact ⟨ret_b hf.out.symm, HU'.out⟩
            · have FZ := fun w => bfits_any jt z w
              rw [hz] at FZ
              cases hr : (decide (0 ≤ jk) && decide (jk ≤ (n : Int) - 1))
              · have hf : Hid (r = false) := Lib.hid (by
                  rw [E.out]
                  refine allB_no (k := m + 1) hlt ?_
                  rw [rjOne_succ, e2.out, Bool.and_assoc, show decide (jk < (n : Int)) = decide (jk ≤ (n : Int) - 1) by rw [Bool.eq_iff_iff]; simp; omega, hr, Bool.and_false])
                have BW := fun w => bwithin_any jk 0 ((n : Int) - 1) w
                rw [hr] at BW
                clear hz hr HC HA ho
                go_wp2_with (first | (go_at_call 50; refine (FZ _).mono ?_; rintro e w' ⟨rfl, rfl⟩) | (go_at_call 26; refine (BW _).mono ?_; rintro e w' ⟨rfl, rfl⟩))
                go_ret
                exact ⟨ret_b hf.out.symm, HU'.out⟩
              · have HA' : Hid (∀ j, j < m + 1 + 1 → rjOne js n z j = true) := Lib.hid (snoc_all HA.out (by
                  rw [rjOne_succ, e0.out, e1.out, e2.out, hz, Bool.and_assoc, show decide (jk < (n : Int)) = decide (jk ≤ (n : Int) - 1) by rw [Bool.eq_iff_iff]; simp; omega, hr, Bool.and_true, Bool.and_true]
                  exact ho))
                have BW := fun w => bwithin_any jk 0 ((n : Int) - 1) w
                rw [hr] at BW
                clear hz hr HC HA ho
                go_wp2_with (first | (go_at_call 50; refine (FZ _).mono ?_; rintro e w' ⟨rfl, rfl⟩) | (go_at_call 26; refine (BW _).mono ?_; rintro e w' ⟨rfl, rfl⟩))
                go_roundw
                case rel => exact ⟨m + 1 + 1, by omega, by go_num, HU'.out, HA'.out⟩
                case measure => simp [intOf]; omega
      · have hf : Hid (r = true) := Lib.hid (by
          rw [E.out, allB_true]
          intro j hj; exact HA.out j (by omega))
        go_wp2
        go_ret
        exact ⟨ret_b hf.out.symm, HU.out⟩
  · have E2 : Hid (r = false) := Lib.hid (by rw [E.out, HQ.out]; simp; omega)
    clear E
    go_enter Try.func35, Try.ntmps35
    go_wp2
    go_ret
    exact ⟨ret_b E2.out.symm, Up.refl _⟩
end Go.Proofs.Ytoijaananjlfpaa
