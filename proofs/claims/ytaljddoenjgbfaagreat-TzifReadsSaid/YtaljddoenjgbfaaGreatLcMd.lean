/-
  The program's block: rightJumps.
-/
import Derived.Test.YtaljddoenjgbfaaGreatLcMc
namespace Go.Proofs.YtaljddoenjgbfaaGreat
open Go.ChangeShapes Go.WideShapes Go.ChangeAt Go.RowKit Lc

set_option maxRecDepth 100000 in
theorem snoc_all {p : Nat → Bool} {k : Nat} (h : ∀ j, j < k → p j = true) (hk : p k = true) : ∀ j, j < k + 1 → p j = true := fun j hj => by
  rcases Nat.lt_or_ge j k with h1 | h1
  · exact h j h1
  · have : j = k := by omega
    subst this; exact hk
set_option maxRecDepth 100000 in
set_option maxHeartbeats 2000000 in
theorem rjumps_any (A : Option Addr) (js : List Jmp) (c n : Nat) (z : Int) (w : World) (hn : 1 ≤ n) (hn2 : n ≤ 1000) (ra : Rc w A (jc js)) :
    Calls Tryz.prog 32 #[.slice A js.length c, .int .i64 n, .int .i64 z] w fun e w' => e = .returned (.bool (rjB js n z)) ∧ Up w w' := by
  have RA := Lib.hid ra
  clear ra
  obtain ⟨q, hq⟩ : ∃ q, js.length = q := ⟨_, rfl⟩
  have E := Lib.hid (show rjB js n z = (decide (js.length ≤ 5000) && allB js.length (rjOne js n z)) from rfl)
  generalize rjB js n z = r at *
  simp only [hq]
  have HQ := Lib.hid hq
  clear hq
  by_cases h5 : q ≤ 5000
  · have E : Hid (r = allB q (rjOne js n z)) := Lib.hid (by rw [E.out, HQ.out]; simp [h5])
    go_enter Tryz.func32, Tryz.ntmps32
    go_wp2
    go_loopw [14] (fun i wr => ∃ k : Nat, k ≤ q ∧ i = .int .i64 k ∧ Up w wr ∧ ∀ j, j < k → rjOne js n z j = true) (fun i _ => q - (intOf i).toNat)
    case atStart => exact ⟨0, Nat.zero_le _, rfl, Up.refl _, fun j hj => absurd hj (Nat.not_lt_zero j)⟩
    case round =>
      obtain ⟨k, hk, rfl, hu, hall⟩ := hrel
      have HA := Lib.hid hall
      have HU := Lib.hid hu
      clear hall hu
      by_cases hlt : k < q
      · obtain ⟨b, o, rfl, hcell⟩ := (RA.out.up HU.out).jmp (i := k) (by rw [HQ.out]; exact hlt)
        have HC := Lib.hid hcell
        clear hcell
        by_cases h0 : k = 0
        · obtain ⟨c1, c2⟩ := HC.out k (by rw [HQ.out]; exact hlt)
          obtain ⟨jt, e1⟩ : ∃ x, Hid ((js.getD k j0).t = x) := ⟨_, rfl⟩
          obtain ⟨jk, e2⟩ : ∃ x, Hid ((js.getD k j0).k = x) := ⟨_, rfl⟩
          rw [e1.out] at c1
          rw [e2.out] at c2
          have hd : decide ((0 : Int) < (k : Int)) = false := by simp [h0]
          have hd2 : decide (0 < k) = false := by simp [h0]
          have HK := Lib.hid h0
          clear h0
          go_wp2
          go_quiet (fail)
          have HU' : Hid (Up w ((wr.alloc (Obj.cells #[Value.int IntKind.i64 jt, Value.int IntKind.i64 jk] 70)).drewN nq)) := Lib.hid ((HU.out.alloc' _).drewN' _)
          cases hz : fitZ jt z
          · have hf : Hid (r = false) := Lib.hid (by
              rw [E.out]
              refine allB_no (k := k) hlt ?_
              unfold rjOne; rw [e1.out, hz]; simp)
            have FZ := fun w => bfits_any jt z w
            rw [hz] at FZ
            clear hz HC HA
            go_wp2_with (go_at_call 47; refine (FZ _).mono ?_; rintro e w' ⟨rfl, rfl⟩)
            go_ret
            exact ⟨ret_b hf.out.symm, HU'.out⟩
          · have FZ := fun w => bfits_any jt z w
            rw [hz] at FZ
            cases hr : (decide (0 ≤ jk) && decide (jk ≤ (n : Int) - 1))
            · have hf : Hid (r = false) := Lib.hid (by
                rw [E.out]
                refine allB_no (k := k) hlt ?_
                unfold rjOne; rw [e2.out, Bool.and_assoc, show decide (jk < (n : Int)) = decide (jk ≤ (n : Int) - 1) by rw [Bool.eq_iff_iff]; simp; omega, hr, Bool.and_false])
              have BW := fun w => bwithin_any jk 0 ((n : Int) - 1) w
              rw [hr] at BW
              clear hz hr HC HA
              go_wp2_with (first | (go_at_call 47; refine (FZ _).mono ?_; rintro e w' ⟨rfl, rfl⟩) | (go_at_call 45; refine (BW _).mono ?_; rintro e w' ⟨rfl, rfl⟩))
              go_ret
              exact ⟨ret_b hf.out.symm, HU'.out⟩
            · have HA' : Hid (∀ j, j < k + 1 → rjOne js n z j = true) := Lib.hid (snoc_all HA.out (by
                unfold rjOne; rw [e1.out, e2.out, hz, Bool.and_assoc, show decide (jk < (n : Int)) = decide (jk ≤ (n : Int) - 1) by rw [Bool.eq_iff_iff]; simp; omega, hr, Bool.and_true, Bool.and_true]
                simp [HK.out]))
              have BW := fun w => bwithin_any jk 0 ((n : Int) - 1) w
              rw [hr] at BW
              clear hz hr HC HA
              go_wp2_with (first | (go_at_call 47; refine (FZ _).mono ?_; rintro e w' ⟨rfl, rfl⟩) | (go_at_call 45; refine (BW _).mono ?_; rintro e w' ⟨rfl, rfl⟩))
              go_roundw
              case rel => exact ⟨k + 1, by omega, by go_num, HU'.out, HA'.out⟩
              case measure => simp [intOf]; omega
        · obtain ⟨m, rfl⟩ : ∃ m, k = m + 1 := ⟨k - 1, by omega⟩
          obtain ⟨c1, c2⟩ := HC.out (m + 1) (by rw [HQ.out]; exact hlt)
          obtain ⟨c0, _⟩ := HC.out m (by rw [HQ.out]; omega)
          obtain ⟨jt, e1⟩ : ∃ x, Hid ((js.getD (m + 1) j0).t = x) := ⟨_, rfl⟩
          obtain ⟨jk, e2⟩ : ∃ x, Hid ((js.getD (m + 1) j0).k = x) := ⟨_, rfl⟩
          obtain ⟨jp, e0⟩ : ∃ x, Hid ((js.getD m j0).t = x) := ⟨_, rfl⟩
          rw [e1.out] at c1
          rw [e2.out] at c2
          rw [e0.out] at c0
          clear h0
          have hd : decide ((0 : Int) < (m : Int) + 1) = true := by simp
          have HU' : ∀ nq, Hid (Up w ((wr.alloc (Obj.cells #[Value.int IntKind.i64 jt, Value.int IntKind.i64 jk] 70)).drewN nq)) := fun nq => Lib.hid ((HU.out.alloc' _).drewN' nq)
          go_wp2
          have x0 := cell_lt c0
          have x1 : (0 : Int) ≤ (m : Int) := by omega
          have x2 : (m : Int) < (q : Int) := by omega
          have x3 : IntKind.i64.wrap (m : Int) = (m : Int) := IntWalk.i64_in _ (by omega)
          go_quiet (fail)
          clear x0 x1 x2 x3 c0
          have HU' := HU' nq
          cases ho : decide (jp < jt)
          · have hle : jt ≤ jp := by simpa using ho
            have hf : Hid (r = false) := Lib.hid (by
              rw [E.out]
              refine allB_no (k := m + 1) hlt ?_
              rw [rjOne_succ, e0.out, e1.out, ho]; simp)
            clear HC HA ho
            go_wp2
            go_ret
            exact ⟨ret_b hf.out.symm, HU'.out⟩
          · have hlt2 : jp < jt := by simpa using ho
            cases hz : fitZ jt z
            · have hf : Hid (r = false) := Lib.hid (by
                rw [E.out]
                refine allB_no (k := m + 1) hlt ?_
                rw [rjOne_succ, e1.out, hz]; simp)
              have FZ := fun w => bfits_any jt z w
              rw [hz] at FZ
              clear hz HC HA ho
              go_wp2_with (go_at_call 47; refine (FZ _).mono ?_; rintro e w' ⟨rfl, rfl⟩)
              go_ret
              exact ⟨ret_b hf.out.symm, HU'.out⟩
            · have FZ := fun w => bfits_any jt z w
              rw [hz] at FZ
              cases hr : (decide (0 ≤ jk) && decide (jk ≤ (n : Int) - 1))
              · have hf : Hid (r = false) := Lib.hid (by
                  rw [E.out]
                  refine allB_no (k := m + 1) hlt ?_
                  rw [rjOne_succ, e2.out, Bool.and_assoc, show decide (jk < (n : Int)) = decide (jk ≤ (n : Int) - 1) by rw [Bool.eq_iff_iff]; simp; omega, hr, Bool.and_false])
                have BW := fun w => bwithin_any jk 0 ((n : Int) - 1) w
                rw [hr] at BW
                clear hz hr HC HA ho
                go_wp2_with (first | (go_at_call 47; refine (FZ _).mono ?_; rintro e w' ⟨rfl, rfl⟩) | (go_at_call 45; refine (BW _).mono ?_; rintro e w' ⟨rfl, rfl⟩))
                go_ret
                exact ⟨ret_b hf.out.symm, HU'.out⟩
              · have HA' : Hid (∀ j, j < m + 1 + 1 → rjOne js n z j = true) := Lib.hid (snoc_all HA.out (by
                  rw [rjOne_succ, e0.out, e1.out, e2.out, hz, Bool.and_assoc, show decide (jk < (n : Int)) = decide (jk ≤ (n : Int) - 1) by rw [Bool.eq_iff_iff]; simp; omega, hr, Bool.and_true, Bool.and_true]
                  exact ho))
                have BW := fun w => bwithin_any jk 0 ((n : Int) - 1) w
                rw [hr] at BW
                clear hz hr HC HA ho
                go_wp2_with (first | (go_at_call 47; refine (FZ _).mono ?_; rintro e w' ⟨rfl, rfl⟩) | (go_at_call 45; refine (BW _).mono ?_; rintro e w' ⟨rfl, rfl⟩))
                go_roundw
                case rel => exact ⟨m + 1 + 1, by omega, by go_num, HU'.out, HA'.out⟩
                case measure => simp [intOf]; omega
      · have hf : Hid (r = true) := Lib.hid (by
          rw [E.out, allB_true]
          intro j hj; exact HA.out j (by omega))
        go_wp2
        go_ret
        exact ⟨ret_b hf.out.symm, HU.out⟩
  · have E2 : Hid (r = false) := Lib.hid (by rw [E.out, HQ.out]; simp; omega)
    clear E
    go_enter Tryz.func32, Tryz.ntmps32
    go_wp2
    go_ret
    exact ⟨ret_b E2.out.symm, Up.refl _⟩
end Go.Proofs.YtaljddoenjgbfaaGreat
/-
  The program's block: rightMarks.
-/
namespace Go.Proofs.YtaljddoenjgbfaaGreat
open Go.ChangeShapes Go.WideShapes Go.ChangeAt Go.RowKit Lc

set_option maxRecDepth 100000 in
theorem rmB_yes {sd ut : List Bool} {n : Nat} (h1 : sd.length = 0 ∨ sd.length = n) (h2 : ut.length = 0 ∨ ut.length = n) : rmB sd ut n = allB ut.length (fun i => !ut.getD i false || sd.getD i false) := by
  unfold rmB
  have g1 : (decide (sd.length = 0) || decide (sd.length = n)) = true := by simpa using h1
  have g2 : (decide (ut.length = 0) || decide (ut.length = n)) = true := by simpa using h2
  rw [g1, g2]; rfl
set_option maxRecDepth 100000 in
theorem rmB_no {sd ut : List Bool} {n : Nat} (h : ¬ (sd.length = 0 ∨ sd.length = n) ∨ ¬ (ut.length = 0 ∨ ut.length = n)) : rmB sd ut n = false := by
  unfold rmB
  rcases h with h | h
  · have g1 : (decide (sd.length = 0) || decide (sd.length = n)) = false := by simpa using h
    rw [g1]; rfl
  · have g1 : (decide (ut.length = 0) || decide (ut.length = n)) = false := by simpa using h
    rw [g1]; simp

set_option maxRecDepth 100000 in
set_option maxHeartbeats 2000000 in
theorem rmarks_any (A B : Option Addr) (sd ut : List Bool) (c d n : Nat) (w : World) (hc : sd.length ≤ c) (hcm : c ≤ maxLen) (hd : ut.length ≤ d) (hdm : d ≤ maxLen) (ra : Rc w A (oc sd)) (rb : Rc w B (oc ut)) :
    Calls Tryz.prog 31 #[.slice A sd.length c, .slice B ut.length d, .int .i64 n] w fun e w' => e = .returned (.bool (rmB sd ut n)) ∧ w = w' := by
  unfold maxLen at hcm hdm
  have RA := Lib.hid ra
  have RB := Lib.hid rb
  clear ra rb
  obtain ⟨p, hp⟩ : ∃ p, sd.length = p := ⟨_, rfl⟩
  obtain ⟨q, hq⟩ : ∃ q, ut.length = q := ⟨_, rfl⟩
  by_cases hh : (sd.length = 0 ∨ sd.length = n) ∧ (ut.length = 0 ∨ ut.length = n)
  · have E := Lib.hid (rmB_yes hh.1 hh.2)
    have H := Lib.hid hh
    clear hh
    generalize rmB sd ut n = r at *
    simp only [hp, hq] at hc hd ⊢
    have HP := Lib.hid hp
    have HQ := Lib.hid hq
    clear hp hq
    have a1 : ((p : Int) != 0) = true ∧ ((p : Int) != (n : Int)) = false ∨ ((p : Int) != 0) = false := by
      have := H.out; rw [HP.out] at this; simp; omega
    have a2 : ((q : Int) != 0) = true ∧ ((q : Int) != (n : Int)) = false ∨ ((q : Int) != 0) = false := by
      have := H.out; rw [HQ.out] at this; simp; omega
    rcases a1 with ⟨a1, b1⟩ | a1
    all_goals rcases a2 with ⟨a2, b2⟩ | a2
    all_goals
      go_enter Tryz.func31, Tryz.ntmps31
      go_wp2
      go_loop [31] (fun i => ∃ k : Nat, k ≤ q ∧ i = .int .i64 k ∧ ∀ j, j < k → (!ut.getD j false || sd.getD j false) = true) (fun i => q - (intOf i).toNat)
      case atStart => exact ⟨0, Nat.zero_le _, rfl, fun j hj => absurd hj (Nat.not_lt_zero j)⟩
      case round =>
        obtain ⟨k, hk, rfl, hall⟩ := hrel
        have HA := Lib.hid hall
        clear hall
        by_cases hlt : k < q
        · obtain ⟨b, o, rfl, hcell⟩ := RB.out.bol (i := k) (by rw [HQ.out]; exact hlt)
          cases hu : ut.getD k false
          · have HA' : Hid (∀ j, j < k + 1 → (!ut.getD j false || sd.getD j false) = true) := Lib.hid fun j hj => by
              rcases Nat.lt_or_ge j k with h | h
              · exact HA.out j h
              · have : j = k := by omega
                subst this; rw [hu]; rfl
            rw [hu] at hcell
            clear HA hu
            go_wp2
            go_round
            case rel => exact ⟨k + 1, by omega, by go_num, HA'.out⟩
            case measure => simp [intOf]; omega
          · rw [hu] at hcell
            by_cases hp0 : p = 0
            · have hf : Hid (r = false) := Lib.hid (by
                rw [E.out]
                refine allB_no (k := k) (by rw [HQ.out]; exact hlt) ?_
                rw [hu, getD_out (by have := HP.out; omega)]; rfl)
              clear HA hu
              go_wp2
              go_ret
              exact ⟨ret_b hf.out.symm, rfl⟩
            · have hkp : k < p := by
                have h1 := H.out; have h2 := HP.out; have h3 := HQ.out; omega
              obtain ⟨b', o', rfl, hcell'⟩ := RA.out.bol (i := k) (by rw [HP.out]; exact hkp)
              cases hs : sd.getD k false
              · have hf : Hid (r = false) := Lib.hid (by
                  rw [E.out]
                  refine allB_no (k := k) (by rw [HQ.out]; exact hlt) ?_
                  rw [hu, hs]; rfl)
                rw [hs] at hcell'
                clear HA hu hs
                go_wp2
                go_ret
                exact ⟨ret_b hf.out.symm, rfl⟩
              · have HA' : Hid (∀ j, j < k + 1 → (!ut.getD j false || sd.getD j false) = true) := Lib.hid fun j hj => by
                  rcases Nat.lt_or_ge j k with h | h
                  · exact HA.out j h
                  · have : j = k := by omega
                    subst this; rw [hu, hs]; rfl
                rw [hs] at hcell'
                clear HA hu hs
                go_wp2
                all_goals
                  go_round
                  case rel => exact ⟨k + 1, by omega, by go_num, HA'.out⟩
                  case measure => simp [intOf]; omega
        · have hf : Hid (r = true) := Lib.hid (by
            rw [E.out, allB_true]
            intro j hj; exact HA.out j (by have := HQ.out; omega))
          go_wp2
          go_ret
          exact ⟨ret_b hf.out.symm, rfl⟩
  · have E2 := Lib.hid (rmB_no (sd := sd) (ut := ut) (n := n) (by omega))
    generalize rmB sd ut n = r at *
    simp only [hp, hq] at hh hc hd ⊢
    clear hp hq
    by_cases h1 : p = 0 ∨ p = n
    · have h2 : ¬ (q = 0 ∨ q = n) := by omega
      have a1 : ((q : Int) != 0) = true := by simp; omega
      have a2 : ((q : Int) != (n : Int)) = true := by simp; omega
      have a3 : ((p : Int) != 0) = true ∧ ((p : Int) != (n : Int)) = false ∨ ((p : Int) != 0) = false := by simp; omega
      clear h1 h2 hh
      rcases a3 with ⟨a3, a4⟩ | a3
      all_goals
        go_enter Tryz.func31, Tryz.ntmps31
        go_wp2
        go_ret
        exact ⟨ret_b E2.out.symm, rfl⟩
    · have a1 : ((p : Int) != 0) = true := by simp; omega
      have a2 : ((p : Int) != (n : Int)) = true := by simp; omega
      clear h1 hh
      go_enter Tryz.func31, Tryz.ntmps31
      go_wp2
      go_ret
      exact ⟨ret_b E2.out.symm, rfl⟩
end Go.Proofs.YtaljddoenjgbfaaGreat
/-
  The program's block: rightLeaps.
-/
namespace Go.Proofs.YtaljddoenjgbfaaGreat
open Go.ChangeShapes Go.WideShapes Go.ChangeAt Go.RowKit Lc

/-- Block B is a box of two numbers that may be written. -/
def Bx2 (w : World) (B : Nat) (a b : Int) : Prop := w.cell? ⟨B, 0, none⟩ = some (.int .i64 a) ∧ w.cell? ⟨B, 1, none⟩ = some (.int .i64 b) ∧ w.frozen? ⟨B, 0, none⟩ = false ∧ w.frozen? ⟨B, 1, none⟩ = false
set_option maxRecDepth 100000 in
theorem Bx2.up {w w' : World} {B : Nat} {a b : Int} (h : Bx2 w B a b) (u : Up w w') : Bx2 w' B a b := by
  have lt := cell_lt h.1
  exact ⟨u.cell h.1, u.cell h.2.1, by rw [World.frozen?_of_block (Below.block u _ lt)]; exact h.2.2.1, by rw [World.frozen?_of_block (Below.block u _ lt)]; exact h.2.2.2⟩
set_option maxRecDepth 100000 in
theorem Bx2.new (w : World) (a b : Int) (t : TypeId) : Bx2 (w.alloc (.cells #[.int .i64 a, .int .i64 b] t)) w.heap.size a b := by
  refine ⟨by simp, by simp, ?_, ?_⟩ <;> simp

set_option maxRecDepth 100000 in
theorem Bx2.set2 {w : World} {B : Nat} {a b : Int} (h : Bx2 w B a b) (x y : Int) : Bx2 ((w.setCell ⟨B, 0, none⟩ (.int .i64 x)).setCell ⟨B, 1, none⟩ (.int .i64 y)) B x y := by
  obtain ⟨h1, h2, h3, h4⟩ := h
  refine ⟨?_, ?_, by rw [World.frozen?_setCell, World.frozen?_setCell]; exact h3, by rw [World.frozen?_setCell, World.frozen?_setCell]; exact h4⟩
  · rw [World.cell?_setCell_other _ _ _ _ (fun c => by injection c with _ c; cases c), World.cell?_setCell_same _ _ _ h1]
  · refine World.cell?_setCell_same (u := .int .i64 b) _ _ _ ?_
    rw [World.cell?_setCell_other _ _ _ _ (fun c => by injection c with _ c; cases c)]; exact h2
set_option maxRecDepth 100000 in
set_option maxHeartbeats 4000000 in
theorem rleaps_any (A : Option Addr) (ls : List Lep) (c : Nat) (z ver : Int) (w : World) (ra : Rc w A (lc ls)) :
    Calls Tryz.prog 33 #[.slice A ls.length c, .int .i64 z, .int .i64 ver] w fun e w' => e = .returned (.bool (rlB ls z ver)) ∧ Up w w' := by
  have RA := Lib.hid ra
  clear ra
  obtain ⟨q, hq⟩ : ∃ q, ls.length = q := ⟨_, rfl⟩
  have E := Lib.hid (show rlB ls z ver = (decide (ls.length ≤ 5000) && allB ls.length (rlOne ls z ver)) from rfl)
  generalize rlB ls z ver = r at *
  simp only [hq]
  have HQ := Lib.hid hq
  clear hq
  by_cases h5 : q ≤ 5000
  · have E : Hid (r = allB q (rlOne ls z ver)) := Lib.hid (by rw [E.out, HQ.out]; simp [h5])
    go_enter Tryz.func33, Tryz.ntmps33
    go_wp2
    go_loopw [17] (fun i wr => ∃ k : Nat, k ≤ q ∧ i = .int .i64 k ∧ Up w wr ∧ Bx2 wr w.heap.size (pvT ls k) (pvC ls k) ∧ ∀ j, j < k → rlOne ls z ver j = true) (fun i _ => q - (intOf i).toNat)
    case atStart => exact ⟨0, Nat.zero_le _, rfl, Up.alloc _ _, Bx2.new _ _ _ _, fun j hj => absurd hj (Nat.not_lt_zero j)⟩
    case round =>
      obtain ⟨k, hk, rfl, hu, hbx, hall⟩ := hrel
      have HA := Lib.hid hall
      have HU := Lib.hid hu
      have HB := Lib.hid hbx
      clear hall hu hbx
      by_cases hlt : k < q
      · obtain ⟨b, o, rfl, c1, c2⟩ := (RA.out.up HU.out).lep (i := k) (by rw [HQ.out]; exact hlt)
        obtain ⟨lt, e1⟩ : ∃ x, Hid ((ls.getD k l0).t = x) := ⟨_, rfl⟩
        obtain ⟨lk, e2⟩ : ∃ x, Hid ((ls.getD k l0).c = x) := ⟨_, rfl⟩
        obtain ⟨pt, e3⟩ : ∃ x, Hid (pvT ls k = x) := ⟨_, rfl⟩
        obtain ⟨pc, e4⟩ : ∃ x, Hid (pvC ls k = x) := ⟨_, rfl⟩
        rw [e1.out] at c1
        rw [e2.out] at c2
        obtain ⟨b1, b2, f1, f2⟩ := HB.out
        rw [e3.out] at b1
        rw [e4.out] at b2
        have q1 : -5000 ≤ pc ∧ pc ≤ 5000 := by have := pv_bd HA.out; rw [e4.out] at this; omega
        obtain ⟨q1, q2⟩ := q1
        have RO := Lib.hid (rlOne_eq (z := z) (ver := ver) HQ.out e1.out e2.out e3.out e4.out)
        have x0 := cell_lt b1
        by_cases ho : pt < lt
        · cases hz : fitZ lt z
          · have hf : Hid (r = false) := Lib.hid (by
              rw [E.out]
              refine allB_no (k := k) hlt ?_
              rw [RO.out, hz]; simp)
            have FZ := fun w => bfits_any lt z w
            rw [hz] at FZ
            clear HA hz
            go_wp2_with (go_at_call 47; refine (FZ _).mono ?_; rintro e w' ⟨rfl, rfl⟩)
            go_ret
            exact ⟨ret_b hf.out.symm, HU.out.alloc' _⟩
          · have FZ := fun w => bfits_any lt z w
            rw [hz] at FZ
            have RO2 : Hid (rlOne ls z ver k = (decide (lk = pc + 1) || decide (lk = pc - 1) || (decide (ver = 4) && decide (0 < k) && decide (k + 1 = q) && decide (lk = pc)))) := Lib.hid (by rw [RO.out, hz]; simp [ho])
            clear RO hz
            have D1 : (Hid (ver ≠ 4) ∧ (ver == 4) = false) ∨ (Hid (ver = 4) ∧ (ver == 4) = true) ∧ ((Hid (¬ 0 < k) ∧ decide (0 < k) = false) ∨ (Hid (0 < k) ∧ decide (0 < k) = true) ∧ ((Hid (k + 1 ≠ q) ∧ ((k : Int) == (q : Int) - 1) = false) ∨ (Hid (k + 1 = q) ∧ ((k : Int) == (q : Int) - 1) = true) ∧ ((Hid (lk ≠ pc) ∧ (lk == pc) = false) ∨ (Hid (lk = pc) ∧ (lk == pc) = true)))) := by
              by_cases v : ver = 4
              · refine .inr ⟨⟨Lib.hid v, by simp [v]⟩, ?_⟩
                by_cases a : 0 < k
                · refine .inr ⟨⟨Lib.hid a, by simp [a]⟩, ?_⟩
                  by_cases l : k + 1 = q
                  · refine .inr ⟨⟨Lib.hid l, by rw [beq_iff_eq]; omega⟩, ?_⟩
                    by_cases s : lk = pc
                    · exact .inr ⟨Lib.hid s, by simp [s]⟩
                    · exact .inl ⟨Lib.hid s, by simp [s]⟩
                  · exact .inl ⟨Lib.hid l, by rw [beq_eq_false_iff_ne]; omega⟩
                · exact .inl ⟨Lib.hid a, by simp [a]⟩
              · exact .inl ⟨Lib.hid v, by simp [v]⟩
            have D2 : (Hid (lk = pc + 1) ∧ (lk != pc + 1) = false) ∨ (Hid (lk ≠ pc + 1) ∧ (lk != pc + 1) = true) ∧ ((Hid (lk = pc - 1) ∧ (lk != pc - 1) = false) ∨ (Hid (lk ≠ pc - 1) ∧ (lk != pc - 1) = true)) := by
              by_cases p : lk = pc + 1
              · exact .inl ⟨Lib.hid p, by simp [p]⟩
              · refine .inr ⟨⟨Lib.hid p, by simp [p]⟩, ?_⟩
                by_cases m : lk = pc - 1
                · exact .inl ⟨Lib.hid m, by simp [m]⟩
                · exact .inr ⟨Lib.hid m, by simp [m]⟩
            have NX : Hid (∀ ob, Up w (((wr.setCell ⟨w.heap.size, 0, none⟩ (.int .i64 lt)).setCell ⟨w.heap.size, 1, none⟩ (.int .i64 lk)).alloc ob) ∧ Bx2 (((wr.setCell ⟨w.heap.size, 0, none⟩ (.int .i64 lt)).setCell ⟨w.heap.size, 1, none⟩ (.int .i64 lk)).alloc ob) w.heap.size (pvT ls (k + 1)) (pvC ls (k + 1))) := Lib.hid (fun ob => by
              rw [pvT_succ, pvC_succ, e1.out, e2.out]
              exact ⟨((HU.out.setCell' (Nat.le_refl _) _).setCell' (Nat.le_refl _) _).alloc' _, (HB.out.set2 _ _).up (Up.alloc _ _)⟩)
            rcases D1 with ⟨v, v'⟩ | ⟨⟨v, v'⟩, ⟨a, a'⟩ | ⟨⟨a, a'⟩, ⟨l, l'⟩ | ⟨⟨l, l'⟩, ⟨s, s'⟩ | ⟨s, s'⟩⟩⟩⟩
            all_goals rcases D2 with ⟨p, p'⟩ | ⟨⟨p, p'⟩, ⟨m, m'⟩ | ⟨m, m'⟩⟩
            all_goals
              go_wp2_with (go_at_call 47; refine (FZ _).mono ?_; rintro e w' ⟨rfl, rfl⟩)
              first
                | (go_roundw
                   case rel =>
                     refine ⟨k + 1, by omega, by go_num, (NX.out _).1, (NX.out _).2, snoc_all HA.out ?_⟩
                     rw [RO2.out]
                     have h1 := v.out
                     have h2 := p.out
                     (try have h3 := a.out)
                     (try have h4 := l.out)
                     (try have h5 := s.out)
                     (try have h6 := m.out)
                     simp only [Bool.and_eq_true, Bool.or_eq_true, decide_eq_true_eq]
                     omega
                   case measure => simp [intOf]; omega)
                | (go_ret
                   refine ⟨ret_b ?_, HU.out.alloc' _⟩
                   rw [E.out]
                   refine (allB_no (k := k) hlt ?_).symm
                   rw [RO2.out]
                   have h1 := v.out
                   have h2 := p.out
                   (try have h3 := a.out)
                   (try have h4 := l.out)
                   (try have h5 := s.out)
                   (try have h6 := m.out)
                   simp only [Bool.and_eq_false_iff, Bool.or_eq_false_iff, decide_eq_false_iff_not]
                   omega)
        · have hf : Hid (r = false) := Lib.hid (by
            rw [E.out]
            refine allB_no (k := k) hlt ?_
            rw [RO.out]; simp [ho])
          clear HA
          go_wp2
          go_ret
          exact ⟨ret_b hf.out.symm, HU.out.alloc' _⟩
      · have hf : Hid (r = true) := Lib.hid (by
          rw [E.out, allB_true]
          intro j hj; exact HA.out j (by omega))
        go_wp2
        go_ret
        exact ⟨ret_b hf.out.symm, HU.out⟩
  · have E2 : Hid (r = false) := Lib.hid (by rw [E.out, HQ.out]; simp; omega)
    clear E
    go_enter Tryz.func33, Tryz.ntmps33
    go_wp2
    go_ret
    exact ⟨ret_b E2.out.symm, Up.refl _⟩
end Go.Proofs.YtaljddoenjgbfaaGreat
