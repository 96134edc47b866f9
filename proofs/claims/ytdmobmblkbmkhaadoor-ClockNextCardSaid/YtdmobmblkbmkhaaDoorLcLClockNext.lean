/-
  ClockNext (longcaselaw03): for every input it answers true, and its arguments read as before; the listed tables as the program lays them. No condition.
-/
import Derived.Test.YtdmobmblkbmkhaaDoorLcShown3
import Derived.Test.YtdmobmblkbmkhaaDoorLcPrm
import Derived.Test.YtdmobmblkbmkhaaDoorLcRefC
import Derived.Test.YtdmobmblkbmkhaaDoorLcFree
import Derived.Test.YtdmobmblkbmkhaaDoorTie
import Derived.Test.YtdmobmblkbmkhaaDoorCards
import Derived.WalkKit
import Derived.ProofKit
import Derived.OpenShut
import Derived.LaidMore
import Derived.Stop.Joined
import Derived.SevenTiedAt
namespace Go.Proofs.YtdmobmblkbmkhaaDoor.clockNext
open Go.ChangeShapes Go.WideShapes Go.ChangeAt Go.RowKit Lc
set_option linter.unusedVariables false

theorem own : ownKnob Tryd.prog.godebug = none := by kernel_rfl

set_option maxHeartbeats 16000000 in
set_option maxRecDepth 100000 in
theorem walk (a0 : Int) (w0 : (Lit.int .i64 a0).wf = true) (w : World) (T : Tabs w) :
    Calls Tryd.prog 6 #[.int .i64 a0] w fun e w' => e = .returned (.bool true) ∧ Up w w' := by
  have t := Lib.hid T; clear T
  rcases of_ex a0 with h0 | ⟨py, pm, pd, ph, pi, ps, pr, pe⟩
  · have OT := fun w => of_no a0 w (fit_wf w0) h0
    clear h0
    go_enter Tryd.func6, Tryd.ntmps6
    go_wp2_with fail
    refine (shown_any _ (t.out.up (Up.refl _))).mono ?_; rintro e w1 ⟨rfl, u1⟩
    have u := Lib.hid ((Up.refl _).trans u1)
    clear u1
    go_wp2_with fail
    refine (OT _).mono ?_; rintro e w2 ⟨rfl, u2⟩
    replace u := Lib.hid (u.out.trans u2)
    clear u2
    go_wp2_with fail
    go_ret
    exact ⟨rfl, (u.out.alloc' _)⟩
  · have OT : ∀ w, Tabs w → _ := fun w T => of_yes a0 py pm pd ph pi ps w T pr pe
    obtain ⟨bl, bh⟩ := sec_bd pr pe
    have PB := rightC_true.1 pr
    have PR := right_true.1 PB.1
    have PM := right_month PB.1
    have PL := (len_bd py pm).2
    have pd1 : 1 ≤ pd := by omega
    have pd2 : pd ≤ 31 := by omega
    by_cases last : py = 2147483647 ∧ pm = 12 ∧ pd = 31
    · have g0 : (py == 2147483647) = true := by simp; omega
      have g1 : (pm == 12) = true := by simp; omega
      have g2 : (pd == 31) = true := by simp; omega
      clear last pr pe PB PR PM PL
      go_enter Tryd.func6, Tryd.ntmps6
      go_wp2_with fail
      refine (shown_any _ (t.out.up (Up.refl _))).mono ?_; rintro e w1 ⟨rfl, u1⟩
      have u := Lib.hid ((Up.refl _).trans u1)
      clear u1
      go_wp2_with fail
      refine (OT _ (t.out.up (u.out))).mono ?_; rintro e w2 ⟨rfl, u2⟩
      replace u := Lib.hid (u.out.trans u2)
      clear u2
      go_wp2_with fail
      go_ret
      exact ⟨rfl, (u.out.alloc' _)⟩
    · by_cases cs : ps < 59
      · obtain ⟨nr, ne⟩ := next_s pr pe cs
        have ON : ∀ w, Tabs w → _ := fun w T => of_yes (a0 + 1) py pm pd ph pi (ps + 1) w T nr ne
        clear nr ne
        rcases (show py ≠ 2147483647 ∨ (py = 2147483647 ∧ pm ≠ 12) ∨ (py = 2147483647 ∧ pm = 12 ∧ pd ≠ 31) by omega) with k | k | k
        · have g0 : (py == 2147483647) = false := by simp; omega
          clear k last pr pe PR PM
          go_enter Tryd.func6, Tryd.ntmps6
          go_wp2_with fail
          refine (shown_any _ (t.out.up (Up.refl _))).mono ?_; rintro e w1 ⟨rfl, u1⟩
          have u := Lib.hid ((Up.refl _).trans u1)
          clear u1
          go_wp2_with fail
          refine (OT _ (t.out.up (u.out))).mono ?_; rintro e w2 ⟨rfl, u2⟩
          replace u := Lib.hid (u.out.trans u2)
          clear u2
          have z_c := Lib.hid (Up.size u.out)
          go_wp2_with fail
          refine (ON _ (t.out.up (u.out.alloc' _))).mono ?_; rintro e w3 ⟨rfl, u3⟩
          have b_c := Lib.hid ((Box.new w2 py pm pd ph pi ps 23).up u3)
          have f_c := Lib.hid ((Free.new w2 _ _).up u3)
          replace u := Lib.hid ((u.out.alloc' _).trans u3)
          clear u3
          obtain ⟨c0, c1, c2, c3, c4, c5⟩ := b_c.out
          have l_c := cell_lt c0
          have qc0 := f_c.out.2 0
          have qc1 := f_c.out.2 1
          have qc2 := f_c.out.2 2
          have qc3 := f_c.out.2 3
          have qc4 := f_c.out.2 4
          have qc5 := f_c.out.2 5
          go_wp2_with fail
          go_ret
          exact ⟨rfl, (u.out.setCell' (p := ⟨w2.heap.size, 5, none⟩) z_c.out _).alloc' _⟩
        · have g0 : (py == 2147483647) = true := by simp; omega
          have g1 : (pm == 12) = false := by simp; omega
          clear k last pr pe PR PM
          go_enter Tryd.func6, Tryd.ntmps6
          go_wp2_with fail
          refine (shown_any _ (t.out.up (Up.refl _))).mono ?_; rintro e w1 ⟨rfl, u1⟩
          have u := Lib.hid ((Up.refl _).trans u1)
          clear u1
          go_wp2_with fail
          refine (OT _ (t.out.up (u.out))).mono ?_; rintro e w2 ⟨rfl, u2⟩
          replace u := Lib.hid (u.out.trans u2)
          clear u2
          have z_c := Lib.hid (Up.size u.out)
          go_wp2_with fail
          refine (ON _ (t.out.up (u.out.alloc' _))).mono ?_; rintro e w3 ⟨rfl, u3⟩
          have b_c := Lib.hid ((Box.new w2 py pm pd ph pi ps 23).up u3)
          have f_c := Lib.hid ((Free.new w2 _ _).up u3)
          replace u := Lib.hid ((u.out.alloc' _).trans u3)
          clear u3
          obtain ⟨c0, c1, c2, c3, c4, c5⟩ := b_c.out
          have l_c := cell_lt c0
          have qc0 := f_c.out.2 0
          have qc1 := f_c.out.2 1
          have qc2 := f_c.out.2 2
          have qc3 := f_c.out.2 3
          have qc4 := f_c.out.2 4
          have qc5 := f_c.out.2 5
          go_wp2_with fail
          go_ret
          exact ⟨rfl, (u.out.setCell' (p := ⟨w2.heap.size, 5, none⟩) z_c.out _).alloc' _⟩
        · have g0 : (py == 2147483647) = true := by simp; omega
          have g1 : (pm == 12) = true := by simp; omega
          have g2 : (pd == 31) = false := by simp; omega
          clear k last pr pe PR PM
          go_enter Tryd.func6, Tryd.ntmps6
          go_wp2_with fail
          refine (shown_any _ (t.out.up (Up.refl _))).mono ?_; rintro e w1 ⟨rfl, u1⟩
          have u := Lib.hid ((Up.refl _).trans u1)
          clear u1
          go_wp2_with fail
          refine (OT _ (t.out.up (u.out))).mono ?_; rintro e w2 ⟨rfl, u2⟩
          replace u := Lib.hid (u.out.trans u2)
          clear u2
          have z_c := Lib.hid (Up.size u.out)
          go_wp2_with fail
          refine (ON _ (t.out.up (u.out.alloc' _))).mono ?_; rintro e w3 ⟨rfl, u3⟩
          have b_c := Lib.hid ((Box.new w2 py pm pd ph pi ps 23).up u3)
          have f_c := Lib.hid ((Free.new w2 _ _).up u3)
          replace u := Lib.hid ((u.out.alloc' _).trans u3)
          clear u3
          obtain ⟨c0, c1, c2, c3, c4, c5⟩ := b_c.out
          have l_c := cell_lt c0
          have qc0 := f_c.out.2 0
          have qc1 := f_c.out.2 1
          have qc2 := f_c.out.2 2
          have qc3 := f_c.out.2 3
          have qc4 := f_c.out.2 4
          have qc5 := f_c.out.2 5
          go_wp2_with fail
          go_ret
          exact ⟨rfl, (u.out.setCell' (p := ⟨w2.heap.size, 5, none⟩) z_c.out _).alloc' _⟩
      · have cs2 := decf cs
        by_cases ci : pi < 59
        · obtain ⟨nr, ne⟩ := next_i pr pe cs ci
          have ON : ∀ w, Tabs w → _ := fun w T => of_yes (a0 + 1) py pm pd ph (pi + 1) 0 w T nr ne
          clear nr ne
          rcases (show py ≠ 2147483647 ∨ (py = 2147483647 ∧ pm ≠ 12) ∨ (py = 2147483647 ∧ pm = 12 ∧ pd ≠ 31) by omega) with k | k | k
          · have g0 : (py == 2147483647) = false := by simp; omega
            clear cs
            clear k last pr pe PR PM
            go_enter Tryd.func6, Tryd.ntmps6
            go_wp2_with fail
            refine (shown_any _ (t.out.up (Up.refl _))).mono ?_; rintro e w1 ⟨rfl, u1⟩
            have u := Lib.hid ((Up.refl _).trans u1)
            clear u1
            go_wp2_with fail
            refine (OT _ (t.out.up (u.out))).mono ?_; rintro e w2 ⟨rfl, u2⟩
            replace u := Lib.hid (u.out.trans u2)
            clear u2
            have z_c := Lib.hid (Up.size u.out)
            go_wp2_with fail
            refine (ON _ (t.out.up (u.out.alloc' _))).mono ?_; rintro e w3 ⟨rfl, u3⟩
            have b_c := Lib.hid ((Box.new w2 py pm pd ph pi ps 23).up u3)
            have f_c := Lib.hid ((Free.new w2 _ _).up u3)
            replace u := Lib.hid ((u.out.alloc' _).trans u3)
            clear u3
            obtain ⟨c0, c1, c2, c3, c4, c5⟩ := b_c.out
            have l_c := cell_lt c0
            have qc0 := f_c.out.2 0
            have qc1 := f_c.out.2 1
            have qc2 := f_c.out.2 2
            have qc3 := f_c.out.2 3
            have qc4 := f_c.out.2 4
            have qc5 := f_c.out.2 5
            go_wp2_with fail
            go_ret
            exact ⟨rfl, (u.out.alloc' _)⟩
          · have g0 : (py == 2147483647) = true := by simp; omega
            have g1 : (pm == 12) = false := by simp; omega
            clear cs
            clear k last pr pe PR PM
            go_enter Tryd.func6, Tryd.ntmps6
            go_wp2_with fail
            refine (shown_any _ (t.out.up (Up.refl _))).mono ?_; rintro e w1 ⟨rfl, u1⟩
            have u := Lib.hid ((Up.refl _).trans u1)
            clear u1
            go_wp2_with fail
            refine (OT _ (t.out.up (u.out))).mono ?_; rintro e w2 ⟨rfl, u2⟩
            replace u := Lib.hid (u.out.trans u2)
            clear u2
            have z_c := Lib.hid (Up.size u.out)
            go_wp2_with fail
            refine (ON _ (t.out.up (u.out.alloc' _))).mono ?_; rintro e w3 ⟨rfl, u3⟩
            have b_c := Lib.hid ((Box.new w2 py pm pd ph pi ps 23).up u3)
            have f_c := Lib.hid ((Free.new w2 _ _).up u3)
            replace u := Lib.hid ((u.out.alloc' _).trans u3)
            clear u3
            obtain ⟨c0, c1, c2, c3, c4, c5⟩ := b_c.out
            have l_c := cell_lt c0
            have qc0 := f_c.out.2 0
            have qc1 := f_c.out.2 1
            have qc2 := f_c.out.2 2
            have qc3 := f_c.out.2 3
            have qc4 := f_c.out.2 4
            have qc5 := f_c.out.2 5
            go_wp2_with fail
            go_ret
            exact ⟨rfl, (u.out.alloc' _)⟩
          · have g0 : (py == 2147483647) = true := by simp; omega
            have g1 : (pm == 12) = true := by simp; omega
            have g2 : (pd == 31) = false := by simp; omega
            clear cs
            clear k last pr pe PR PM
            go_enter Tryd.func6, Tryd.ntmps6
            go_wp2_with fail
            refine (shown_any _ (t.out.up (Up.refl _))).mono ?_; rintro e w1 ⟨rfl, u1⟩
            have u := Lib.hid ((Up.refl _).trans u1)
            clear u1
            go_wp2_with fail
            refine (OT _ (t.out.up (u.out))).mono ?_; rintro e w2 ⟨rfl, u2⟩
            replace u := Lib.hid (u.out.trans u2)
            clear u2
            have z_c := Lib.hid (Up.size u.out)
            go_wp2_with fail
            refine (ON _ (t.out.up (u.out.alloc' _))).mono ?_; rintro e w3 ⟨rfl, u3⟩
            have b_c := Lib.hid ((Box.new w2 py pm pd ph pi ps 23).up u3)
            have f_c := Lib.hid ((Free.new w2 _ _).up u3)
            replace u := Lib.hid ((u.out.alloc' _).trans u3)
            clear u3
            obtain ⟨c0, c1, c2, c3, c4, c5⟩ := b_c.out
            have l_c := cell_lt c0
            have qc0 := f_c.out.2 0
            have qc1 := f_c.out.2 1
            have qc2 := f_c.out.2 2
            have qc3 := f_c.out.2 3
            have qc4 := f_c.out.2 4
            have qc5 := f_c.out.2 5
            go_wp2_with fail
            go_ret
            exact ⟨rfl, (u.out.alloc' _)⟩
        · have ci2 := decf ci
          by_cases ch : ph < 23
          · obtain ⟨nr, ne⟩ := next_h pr pe cs ci ch
            have ON : ∀ w, Tabs w → _ := fun w T => of_yes (a0 + 1) py pm pd (ph + 1) 0 0 w T nr ne
            clear nr ne
            rcases (show py ≠ 2147483647 ∨ (py = 2147483647 ∧ pm ≠ 12) ∨ (py = 2147483647 ∧ pm = 12 ∧ pd ≠ 31) by omega) with k | k | k
            · have g0 : (py == 2147483647) = false := by simp; omega
              clear cs ci
              clear k last pr pe PR PM
              go_enter Tryd.func6, Tryd.ntmps6
              go_wp2_with fail
              refine (shown_any _ (t.out.up (Up.refl _))).mono ?_; rintro e w1 ⟨rfl, u1⟩
              have u := Lib.hid ((Up.refl _).trans u1)
              clear u1
              go_wp2_with fail
              refine (OT _ (t.out.up (u.out))).mono ?_; rintro e w2 ⟨rfl, u2⟩
              replace u := Lib.hid (u.out.trans u2)
              clear u2
              have z_c := Lib.hid (Up.size u.out)
              go_wp2_with fail
              refine (ON _ (t.out.up (u.out.alloc' _))).mono ?_; rintro e w3 ⟨rfl, u3⟩
              have b_c := Lib.hid ((Box.new w2 py pm pd ph pi ps 23).up u3)
              have f_c := Lib.hid ((Free.new w2 _ _).up u3)
              replace u := Lib.hid ((u.out.alloc' _).trans u3)
              clear u3
              obtain ⟨c0, c1, c2, c3, c4, c5⟩ := b_c.out
              have l_c := cell_lt c0
              have qc0 := f_c.out.2 0
              have qc1 := f_c.out.2 1
              have qc2 := f_c.out.2 2
              have qc3 := f_c.out.2 3
              have qc4 := f_c.out.2 4
              have qc5 := f_c.out.2 5
              go_wp2_with fail
              go_ret
              exact ⟨rfl, (u.out.alloc' _)⟩
            · have g0 : (py == 2147483647) = true := by simp; omega
              have g1 : (pm == 12) = false := by simp; omega
              clear cs ci
              clear k last pr pe PR PM
              go_enter Tryd.func6, Tryd.ntmps6
              go_wp2_with fail
              refine (shown_any _ (t.out.up (Up.refl _))).mono ?_; rintro e w1 ⟨rfl, u1⟩
              have u := Lib.hid ((Up.refl _).trans u1)
              clear u1
              go_wp2_with fail
              refine (OT _ (t.out.up (u.out))).mono ?_; rintro e w2 ⟨rfl, u2⟩
              replace u := Lib.hid (u.out.trans u2)
              clear u2
              have z_c := Lib.hid (Up.size u.out)
              go_wp2_with fail
              refine (ON _ (t.out.up (u.out.alloc' _))).mono ?_; rintro e w3 ⟨rfl, u3⟩
              have b_c := Lib.hid ((Box.new w2 py pm pd ph pi ps 23).up u3)
              have f_c := Lib.hid ((Free.new w2 _ _).up u3)
              replace u := Lib.hid ((u.out.alloc' _).trans u3)
              clear u3
              obtain ⟨c0, c1, c2, c3, c4, c5⟩ := b_c.out
              have l_c := cell_lt c0
              have qc0 := f_c.out.2 0
              have qc1 := f_c.out.2 1
              have qc2 := f_c.out.2 2
              have qc3 := f_c.out.2 3
              have qc4 := f_c.out.2 4
              have qc5 := f_c.out.2 5
              go_wp2_with fail
              go_ret
              exact ⟨rfl, (u.out.alloc' _)⟩
            · have g0 : (py == 2147483647) = true := by simp; omega
              have g1 : (pm == 12) = true := by simp; omega
              have g2 : (pd == 31) = false := by simp; omega
              clear cs ci
              clear k last pr pe PR PM
              go_enter Tryd.func6, Tryd.ntmps6
              go_wp2_with fail
              refine (shown_any _ (t.out.up (Up.refl _))).mono ?_; rintro e w1 ⟨rfl, u1⟩
              have u := Lib.hid ((Up.refl _).trans u1)
              clear u1
              go_wp2_with fail
              refine (OT _ (t.out.up (u.out))).mono ?_; rintro e w2 ⟨rfl, u2⟩
              replace u := Lib.hid (u.out.trans u2)
              clear u2
              have z_c := Lib.hid (Up.size u.out)
              go_wp2_with fail
              refine (ON _ (t.out.up (u.out.alloc' _))).mono ?_; rintro e w3 ⟨rfl, u3⟩
              have b_c := Lib.hid ((Box.new w2 py pm pd ph pi ps 23).up u3)
              have f_c := Lib.hid ((Free.new w2 _ _).up u3)
              replace u := Lib.hid ((u.out.alloc' _).trans u3)
              clear u3
              obtain ⟨c0, c1, c2, c3, c4, c5⟩ := b_c.out
              have l_c := cell_lt c0
              have qc0 := f_c.out.2 0
              have qc1 := f_c.out.2 1
              have qc2 := f_c.out.2 2
              have qc3 := f_c.out.2 3
              have qc4 := f_c.out.2 4
              have qc5 := f_c.out.2 5
              go_wp2_with fail
              go_ret
              exact ⟨rfl, (u.out.alloc' _)⟩
          · have ch2 := decf ch
            obtain ⟨yn, mn, dn, nr, ne, e | ⟨rfl, e⟩⟩ := next_d pr pe cs ci ch last
            · subst e
              have ON : ∀ w, Tabs w → _ := fun w T => of_yes (a0 + 1) yn mn (pd + 1) 0 0 0 w T nr ne
              clear nr ne
              rcases (show py ≠ 2147483647 ∨ (py = 2147483647 ∧ pm ≠ 12) ∨ (py = 2147483647 ∧ pm = 12 ∧ pd ≠ 31) by omega) with k | k | k
              · have g0 : (py == 2147483647) = false := by simp; omega
                clear cs ci ch
                clear k last pr pe PR PM
                go_enter Tryd.func6, Tryd.ntmps6
                go_wp2_with fail
                refine (shown_any _ (t.out.up (Up.refl _))).mono ?_; rintro e w1 ⟨rfl, u1⟩
                have u := Lib.hid ((Up.refl _).trans u1)
                clear u1
                go_wp2_with fail
                refine (OT _ (t.out.up (u.out))).mono ?_; rintro e w2 ⟨rfl, u2⟩
                replace u := Lib.hid (u.out.trans u2)
                clear u2
                have z_c := Lib.hid (Up.size u.out)
                go_wp2_with fail
                refine (ON _ (t.out.up (u.out.alloc' _))).mono ?_; rintro e w3 ⟨rfl, u3⟩
                have b_c := Lib.hid ((Box.new w2 py pm pd ph pi ps 23).up u3)
                have f_c := Lib.hid ((Free.new w2 _ _).up u3)
                replace u := Lib.hid ((u.out.alloc' _).trans u3)
                clear u3
                obtain ⟨c0, c1, c2, c3, c4, c5⟩ := b_c.out
                have l_c := cell_lt c0
                have qc0 := f_c.out.2 0
                have qc1 := f_c.out.2 1
                have qc2 := f_c.out.2 2
                have qc3 := f_c.out.2 3
                have qc4 := f_c.out.2 4
                have qc5 := f_c.out.2 5
                go_wp2_with fail
                go_ret
                exact ⟨rfl, (u.out.alloc' _)⟩
              · have g0 : (py == 2147483647) = true := by simp; omega
                have g1 : (pm == 12) = false := by simp; omega
                clear cs ci ch
                clear k last pr pe PR PM
                go_enter Tryd.func6, Tryd.ntmps6
                go_wp2_with fail
                refine (shown_any _ (t.out.up (Up.refl _))).mono ?_; rintro e w1 ⟨rfl, u1⟩
                have u := Lib.hid ((Up.refl _).trans u1)
                clear u1
                go_wp2_with fail
                refine (OT _ (t.out.up (u.out))).mono ?_; rintro e w2 ⟨rfl, u2⟩
                replace u := Lib.hid (u.out.trans u2)
                clear u2
                have z_c := Lib.hid (Up.size u.out)
                go_wp2_with fail
                refine (ON _ (t.out.up (u.out.alloc' _))).mono ?_; rintro e w3 ⟨rfl, u3⟩
                have b_c := Lib.hid ((Box.new w2 py pm pd ph pi ps 23).up u3)
                have f_c := Lib.hid ((Free.new w2 _ _).up u3)
                replace u := Lib.hid ((u.out.alloc' _).trans u3)
                clear u3
                obtain ⟨c0, c1, c2, c3, c4, c5⟩ := b_c.out
                have l_c := cell_lt c0
                have qc0 := f_c.out.2 0
                have qc1 := f_c.out.2 1
                have qc2 := f_c.out.2 2
                have qc3 := f_c.out.2 3
                have qc4 := f_c.out.2 4
                have qc5 := f_c.out.2 5
                go_wp2_with fail
                go_ret
                exact ⟨rfl, (u.out.alloc' _)⟩
              · have g0 : (py == 2147483647) = true := by simp; omega
                have g1 : (pm == 12) = true := by simp; omega
                have g2 : (pd == 31) = false := by simp; omega
                clear cs ci ch
                clear k last pr pe PR PM
                go_enter Tryd.func6, Tryd.ntmps6
                go_wp2_with fail
                refine (shown_any _ (t.out.up (Up.refl _))).mono ?_; rintro e w1 ⟨rfl, u1⟩
                have u := Lib.hid ((Up.refl _).trans u1)
                clear u1
                go_wp2_with fail
                refine (OT _ (t.out.up (u.out))).mono ?_; rintro e w2 ⟨rfl, u2⟩
                replace u := Lib.hid (u.out.trans u2)
                clear u2
                have z_c := Lib.hid (Up.size u.out)
                go_wp2_with fail
                refine (ON _ (t.out.up (u.out.alloc' _))).mono ?_; rintro e w3 ⟨rfl, u3⟩
                have b_c := Lib.hid ((Box.new w2 py pm pd ph pi ps 23).up u3)
                have f_c := Lib.hid ((Free.new w2 _ _).up u3)
                replace u := Lib.hid ((u.out.alloc' _).trans u3)
                clear u3
                obtain ⟨c0, c1, c2, c3, c4, c5⟩ := b_c.out
                have l_c := cell_lt c0
                have qc0 := f_c.out.2 0
                have qc1 := f_c.out.2 1
                have qc2 := f_c.out.2 2
                have qc3 := f_c.out.2 3
                have qc4 := f_c.out.2 4
                have qc5 := f_c.out.2 5
                go_wp2_with fail
                go_ret
                exact ⟨rfl, (u.out.alloc' _)⟩
            · have e1 : ((1 : Int) == pd + 1) = false := by simp; omega
              clear e
              have ON : ∀ w, Tabs w → _ := fun w T => of_yes (a0 + 1) yn mn 1 0 0 0 w T nr ne
              clear nr ne
              rcases (show py ≠ 2147483647 ∨ (py = 2147483647 ∧ pm ≠ 12) ∨ (py = 2147483647 ∧ pm = 12 ∧ pd ≠ 31) by omega) with k | k | k
              · have g0 : (py == 2147483647) = false := by simp; omega
                clear cs ci ch
                clear k last pr pe PR PM
                go_enter Tryd.func6, Tryd.ntmps6
                go_wp2_with fail
                refine (shown_any _ (t.out.up (Up.refl _))).mono ?_; rintro e w1 ⟨rfl, u1⟩
                have u := Lib.hid ((Up.refl _).trans u1)
                clear u1
                go_wp2_with fail
                refine (OT _ (t.out.up (u.out))).mono ?_; rintro e w2 ⟨rfl, u2⟩
                replace u := Lib.hid (u.out.trans u2)
                clear u2
                have z_c := Lib.hid (Up.size u.out)
                go_wp2_with fail
                refine (ON _ (t.out.up (u.out.alloc' _))).mono ?_; rintro e w3 ⟨rfl, u3⟩
                have b_c := Lib.hid ((Box.new w2 py pm pd ph pi ps 23).up u3)
                have f_c := Lib.hid ((Free.new w2 _ _).up u3)
                replace u := Lib.hid ((u.out.alloc' _).trans u3)
                clear u3
                obtain ⟨c0, c1, c2, c3, c4, c5⟩ := b_c.out
                have l_c := cell_lt c0
                have qc0 := f_c.out.2 0
                have qc1 := f_c.out.2 1
                have qc2 := f_c.out.2 2
                have qc3 := f_c.out.2 3
                have qc4 := f_c.out.2 4
                have qc5 := f_c.out.2 5
                go_wp2_with fail
                go_ret
                exact ⟨rfl, (u.out.alloc' _)⟩
              · have g0 : (py == 2147483647) = true := by simp; omega
                have g1 : (pm == 12) = false := by simp; omega
                clear cs ci ch
                clear k last pr pe PR PM
                go_enter Tryd.func6, Tryd.ntmps6
                go_wp2_with fail
                refine (shown_any _ (t.out.up (Up.refl _))).mono ?_; rintro e w1 ⟨rfl, u1⟩
                have u := Lib.hid ((Up.refl _).trans u1)
                clear u1
                go_wp2_with fail
                refine (OT _ (t.out.up (u.out))).mono ?_; rintro e w2 ⟨rfl, u2⟩
                replace u := Lib.hid (u.out.trans u2)
                clear u2
                have z_c := Lib.hid (Up.size u.out)
                go_wp2_with fail
                refine (ON _ (t.out.up (u.out.alloc' _))).mono ?_; rintro e w3 ⟨rfl, u3⟩
                have b_c := Lib.hid ((Box.new w2 py pm pd ph pi ps 23).up u3)
                have f_c := Lib.hid ((Free.new w2 _ _).up u3)
                replace u := Lib.hid ((u.out.alloc' _).trans u3)
                clear u3
                obtain ⟨c0, c1, c2, c3, c4, c5⟩ := b_c.out
                have l_c := cell_lt c0
                have qc0 := f_c.out.2 0
                have qc1 := f_c.out.2 1
                have qc2 := f_c.out.2 2
                have qc3 := f_c.out.2 3
                have qc4 := f_c.out.2 4
                have qc5 := f_c.out.2 5
                go_wp2_with fail
                go_ret
                exact ⟨rfl, (u.out.alloc' _)⟩
              · have g0 : (py == 2147483647) = true := by simp; omega
                have g1 : (pm == 12) = true := by simp; omega
                have g2 : (pd == 31) = false := by simp; omega
                clear cs ci ch
                clear k last pr pe PR PM
                go_enter Tryd.func6, Tryd.ntmps6
                go_wp2_with fail
                refine (shown_any _ (t.out.up (Up.refl _))).mono ?_; rintro e w1 ⟨rfl, u1⟩
                have u := Lib.hid ((Up.refl _).trans u1)
                clear u1
                go_wp2_with fail
                refine (OT _ (t.out.up (u.out))).mono ?_; rintro e w2 ⟨rfl, u2⟩
                replace u := Lib.hid (u.out.trans u2)
                clear u2
                have z_c := Lib.hid (Up.size u.out)
                go_wp2_with fail
                refine (ON _ (t.out.up (u.out.alloc' _))).mono ?_; rintro e w3 ⟨rfl, u3⟩
                have b_c := Lib.hid ((Box.new w2 py pm pd ph pi ps 23).up u3)
                have f_c := Lib.hid ((Free.new w2 _ _).up u3)
                replace u := Lib.hid ((u.out.alloc' _).trans u3)
                clear u3
                obtain ⟨c0, c1, c2, c3, c4, c5⟩ := b_c.out
                have l_c := cell_lt c0
                have qc0 := f_c.out.2 0
                have qc1 := f_c.out.2 1
                have qc2 := f_c.out.2 2
                have qc3 := f_c.out.2 3
                have qc4 := f_c.out.2 4
                have qc5 := f_c.out.2 5
                go_wp2_with fail
                go_ret
                exact ⟨rfl, (u.out.alloc' _)⟩

set_option maxRecDepth 100000 in
theorem lifted (os : Os) (started : os.Started) (H : Type) (enc : TypeId × Value → H) :
    ReturnsInHanded {} Tryd.checked os 6 .any (fun w args => (Rows.clockNextSpec.pre enc Tryd.prog Tryd.f6 [] false w args ∧ laidMetH Tryd.prog laidD w) ∧ sizedMet enc Tryd.prog Tryd.f6 (OpenSpec.ofChange Rows.clockNextSpec) false w args) (Rows.clockNextSpec.post enc Tryd.prog Tryd.f6 false true false false) := by
  refine returnsInHanded_of_change_and (C := Tryd.checked) (X := fun w _ => laidMetH Tryd.prog laidD w) (fun _ _ _ hh h => h.of_heap hh) own started (by kernel_rfl) Tryd.func6
    (ChangeSpec.witness_shaped (enc := enc) (C := Tryd.checked) (os := os) (X := fun w _ => laidMetH Tryd.prog laidD w) false (World.doorLaid Tryd.prog 400 os) #[.int .i64 0] 8 rfl (World.shaped_of_RefB (by kernel_rfl) (by kernel_rfl)) (by kernel_rfl) (by kernel_rfl) (by kernel_rfl) (door_metD os _)) ?_
  intro W base args ds gs before hval0 hW _ _ hL _
  have hval : ∀ (j : Nat) t v, Tryd.f6.params[j]? = some t → args[j]? = some v → Value.okWide Tryd.prog W .any base t v := hval0
  have hW' := hW
  obtain ⟨p, q, hA0, hV, rfl, hfz, hnd⟩ := hW
  have hA : DataW.TrodAll enc Tryd.prog W 0 (fun _ => true) true Tryd.f6.params.toList args.toList ds p := hA0
  rw [Tryd.params6] at hA hval
  obtain ⟨v0, vs0, d0, ds0, p0, q0, hargs, rfl, rfl, h0, r0⟩ := trodAll_cons hA
  obtain ⟨rfl, rfl, rfl⟩ := trodAll_nil r0
  obtain rfl : args = #[v0] := by cases args; simp_all
  obtain ⟨rfl, rfl⟩ := trodVars_none hV
  obtain ⟨a0, rfl, rfl, rfl, w0⟩ := open_int Tryd.underlying2 (hval 0 2 v0 rfl rfl) h0
  clear hA0 hval0
  simp only [List.append_nil] at hW'
  refine (walk a0 w0 W (tabs_of_laid hL)).mono fun e W' ⟨he, hg⟩ => ?_
  subst he
  exact ⟨_, rfl, post_flat hW' (fun _ _ _ => (trodAll_cons_mk (shut_bool Tryd.underlying4 _) trodAll_mk0)) (fun sp => (trodAll_cons_mk (shut_int Tryd.underlying2 w0) trodAll_mk0)) (fun _ => rfl)
    hg (ok_one (by kernel_rfl) rfl (okWide_bool_mk Tryd.underlying4 _))⟩

theorem over : Rows.clockNextRow.holds Tryd.pinned (OpenSpec.ofChange Rows.clockNextSpec) :=
  OpenClaim.holds_of_wide 6 Tryd.f6 rfl rfl rfl rfl rfl rfl rfl ⟨rfl, rfl, rfl, rfl, rfl⟩ rfl rfl rfl rfl rfl (by kernel_rfl) Tryd.func6 (by kernel_rfl)
    (of_decide_eq_true (by kernel_rfl)) (by unfold Func.isWrapper; first | (rw [if_pos (by decide +kernel)]; kernel_rfl) | (rw [if_neg (by decide +kernel)]; exact ⟨rfl, rfl⟩))
    (fun os started H enc _ => lifted os started H enc)

set_option maxRecDepth 100000 in
theorem proved : Rows.ClockNextCardSaid :=
  Claim7.holds_tied_plain_at .later [] [.data, .data, .data, .data] true _ false
    over (fun _ h => by cases h) (by kernel_rfl) (fun _ h => by cases h) clockNext_row_tie rfl ⟨rfl, rfl⟩ (by kernel_rfl) rfl
    (fun f fn hf hfn => by
      obtain rfl : f = 6 := Option.some.inj ((show Tryd.prog.funcNamed "longcase/longcaselaw03.ClockNext" = some 6 by kernel_rfl).symm.trans hf) |>.symm
      obtain rfl : fn = Tryd.f6 := (Option.some.inj (Tryd.func6.symm.trans hfn)).symm
      exact ⟨by kernel_rfl, fun j t ht => by
        rw [Tryd.params6] at ht
        have hm : t ∈ [2] := by simpa using Array.mem_of_getElem? ht
        have hall : ([2].all fun u => !Tryd.prog.wantsStandIn u) = true := by kernel_rfl
        exact (show Tryd.prog.wantsStandIn t = false by simpa using List.all_eq_true.1 hall t hm)⟩)
    (by kernel_rfl)
end Go.Proofs.YtdmobmblkbmkhaaDoor.clockNext
