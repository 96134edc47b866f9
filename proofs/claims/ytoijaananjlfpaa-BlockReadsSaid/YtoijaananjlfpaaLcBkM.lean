/-
  The program's block: rightMarks.
-/
import Derived.Test.YtoijaananjlfpaaLcBkS
namespace Go.Proofs.Ytoijaananjlfpaa
open Go.ChangeShapes Go.WideShapes Go.ChangeAt Go.RowKit Lc

theorem rmB_yes {sd ut : List Bool} {n : Nat} (h1 : sd.length = 0 ∨ sd.length = n) (h2 : ut.length = 0 ∨ ut.length = n) : rmB sd ut n = allB ut.length (fun i => !ut.getD i false || sd.getD i false) := by
  unfold rmB
  have g1 : (decide (sd.length = 0) || decide (sd.length = n)) = true := by simpa using h1
  have g2 : (decide (ut.length = 0) || decide (ut.length = n)) = true := by simpa using h2
  rw [g1, g2]; rfl
theorem rmB_no {sd ut : List Bool} {n : Nat} (h : ¬ (sd.length = 0 ∨ sd.length = n) ∨ ¬ (ut.length = 0 ∨ ut.length = n)) : rmB sd ut n = false := by
  unfold rmB
  rcases h with h | h
  · have g1 : (decide (sd.length = 0) || decide (sd.length = n)) = false := by simpa using h
    rw [g1]; rfl
  · have g1 : (decide (ut.length = 0) || decide (ut.length = n)) = false := by simpa using h
    rw [g1]; simp

set_option maxHeartbeats 2000000 in
theorem rmarks_any (A B : Option Addr) (sd ut : List Bool) (c d n : Nat) (w : World) (hc : sd.length ≤ c) (hcm : c ≤ maxLen) (hd : ut.length ≤ d) (hdm : d ≤ maxLen) (ra : Rc w A (oc sd)) (rb : Rc w B (oc ut)) :
    Calls Try.prog 34 #[.slice A sd.length c, .slice B ut.length d, .int .i64 n] w fun e w' => e = .returned (.bool (rmB sd ut n)) ∧ w = w' := by
  unfold maxLen at hcm hdm
  have RA := Lib.hid ra
  have RB := Lib.hid rb
  clear ra rb
  obtain ⟨p, hp⟩ : ∃ p, sd.length = p := ⟨_, rfl⟩
  obtain ⟨q, hq⟩ : ∃ q, ut.length = q := ⟨_, rfl⟩
  by_cases hh : (sd.length = 0 ∨ sd.length = n) ∧ (ut.length = 0 ∨ ut.length = n)
  · have E := Lib.hid (rmB_yes hh.1 hh.2)
    have H := Lib.hid hh
    clear hh
    generalize rmB sd ut n = r at *
    simp only [hp, hq] at hc hd ⊢
    have HP := Lib.hid hp
    have HQ := Lib.hid hq
    clear hp hq
    have a1 : ((p : Int) != 0) = true ∧ ((p : Int) != (n : Int)) = false ∨ ((p : Int) != 0) = false := by
      have := H.out; rw [HP.out] at this; simp; omega
    have a2 : ((q : Int) != 0) = true ∧ ((q : Int) != (n : Int)) = false ∨ ((q : Int) != 0) = false := by
      have := H.out; rw [HQ.out] at this; simp; omega
    rcases a1 with ⟨a1, b1⟩ | a1
    all_goals rcases a2 with ⟨a2, b2⟩ | a2
    all_goals
      go_enter Try.func34, Try.ntmps34
      go_wp2
      go_loop [31] (fun i => ∃ k : Nat, k ≤ q ∧ i = .int .i64 k ∧ ∀ j, j < k → (!ut.getD j false || sd.getD j false) = true) (fun i => q - (intOf i).toNat)
      case atStart => exact ⟨0, Nat.zero_le _, rfl, fun j hj => absurd hj (Nat.not_lt_zero j)⟩
      case round =>
        obtain ⟨k, hk, rfl, hall⟩ := hrel
        have HA := Lib.hid hall
        clear hall
        by_cases hlt : k < q
        · obtain ⟨b, o, rfl, hcell⟩ := RB.out.bol (i := k) (by rw [HQ.out]; exact hlt)
          cases hu : ut.getD k false
          · have HA' : Hid (∀ j, j < k + 1 → (!ut.getD j false || sd.getD j false) = true) := Lib.hid fun j hj => by
              rcases Nat.lt_or_ge j k with h | h
              · exact HA.out j h
              · have : j = k := by omega
                subst this; rw [hu]; rfl
            rw [hu] at hcell
            clear HA hu
            go_wp2
            go_round
            case rel => exact ⟨k + 1, by omega, by go_num, HA'.out⟩
            case measure => simp [intOf]; omega
          · rw [hu] at hcell
            by_cases hp0 : p = 0
            · have hf : Hid (r = false) := Lib.hid (by
                rw [E.out]
                refine allB_no (k := k) (by rw [HQ.out]; exact hlt) ?_
                rw [hu, getD_out (by have := HP.out; omega)]; rfl)
              clear HA hu
              go_wp2
              go_ret
              exact ⟨ret_b hf.out.symm, rfl⟩
            · have hkp : k < p := by
                have h1 := H.out; have h2 := HP.out; have h3 := HQ.out; omega
              obtain ⟨b', o', rfl, hcell'⟩ := RA.out.bol (i := k) (by rw [HP.out]; exact hkp)
              cases hs : sd.getD k false
              · have hf : Hid (r = false) := Lib.hid (by
                  rw [E.out]
                  refine allB_no (k := k) (by rw [HQ.out]; exact hlt) ?_
                  rw [hu, hs]; rfl)
                rw [hs] at hcell'
                clear HA hu hs
                go_wp2
                go_ret
                exact ⟨ret_b hf.out.symm, rfl⟩
              · have HA' : Hid (∀ j, j < k + 1 → (!ut.getD j false || sd.getD j false) = true) := Lib.hid fun j hj => by
                  rcases Nat.lt_or_ge j k with h | h
                  · exact HA.out j h
                  · have : j = k := by omega
                    subst this; rw [hu, hs]; rfl
                rw [hs] at hcell'
                clear HA hu hs
                go_wp2
                all_goals
                  go_round
                  case rel => exact ⟨k + 1, by omega, by go_num, HA'.out⟩
                  case measure => simp [intOf]; omega
        · have hf : Hid (r = true) := Lib.hid (by
            rw [E.out, allB_true]
            intro j hj; exact HA.out j (by have := HQ.out; omega))
          go_wp2
          go_ret
          exact ⟨ret_b hf.out.symm, rfl⟩
  · have E2 := Lib.hid (rmB_no (sd := sd) (ut := ut) (n := n) (by omega))
    generalize rmB sd ut n = r at *
    simp only [hp, hq] at hh hc hd ⊢
    clear hp hq
    by_cases h1 : p = 0 ∨ p = n
    · have h2 : ¬ (q = 0 ∨ q = n) := by omega
      have a1 : ((q : Int) != 0) = true := by simp; omega
      have a2 : ((q : Int) != (n : Int)) = true := by simp; omega
      have a3 : ((p : Int) != 0) = true ∧ ((p : Int) != (n : Int)) = false ∨ ((p : Int) != 0) = false := by simp; omega
      clear h1 h2 hh
      rcases a3 with ⟨a3, a4⟩ | a3
      all_goals
        go_enter Try.func34, Try.ntmps34
        go_wp2
        go_ret
        exact ⟨ret_b E2.out.symm, rfl⟩
    · have a1 : ((p : Int) != 0) = true := by simp; omega
      have a2 : ((p : Int) != (n : Int)) = true := by simp; omega
      clear h1 hh
      go_enter Try.func34, Try.ntmps34
      go_wp2
      go_ret
      exact ⟨ret_b E2.out.symm, rfl⟩
end Go.Proofs.Ytoijaananjlfpaa
