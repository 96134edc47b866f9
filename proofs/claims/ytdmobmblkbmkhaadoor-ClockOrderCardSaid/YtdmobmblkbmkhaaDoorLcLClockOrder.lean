/-
  ClockOrder (longcaselaw03): for every input it answers true, and its arguments read as before; the listed tables as the program lays them. No condition.
-/
import Derived.Test.YtdmobmblkbmkhaaDoorLcShown3
import Derived.Test.YtdmobmblkbmkhaaDoorLcPrm
import Derived.Test.YtdmobmblkbmkhaaDoorLcRefO
import Derived.Test.YtdmobmblkbmkhaaDoorLcTxI
import Derived.Test.YtdmobmblkbmkhaaDoorTie
import Derived.Test.YtdmobmblkbmkhaaDoorCards
import Derived.WalkKit
import Derived.ProofKit
import Derived.OpenShut
import Derived.LaidMore
import Derived.Stop.Joined
import Derived.SevenTiedAt
namespace Go.Proofs.YtdmobmblkbmkhaaDoor.clockOrder
open Go.ChangeShapes Go.WideShapes Go.ChangeAt Go.RowKit Lc
set_option linter.unusedVariables false

theorem own : ownKnob Tryd.prog.godebug = none := by kernel_rfl

set_option maxHeartbeats 8000000 in
set_option maxRecDepth 100000 in
theorem walk (a0y a0m a0d a0h a0i a0s : Int) (a1y a1m a1d a1h a1i a1s : Int) (a2 : Int) (a3 : Int) (w0y : (Lit.int .i64 a0y).wf = true) (w0m : (Lit.int .i64 a0m).wf = true) (w0d : (Lit.int .i64 a0d).wf = true) (w0h : (Lit.int .i64 a0h).wf = true) (w0i : (Lit.int .i64 a0i).wf = true) (w0s : (Lit.int .i64 a0s).wf = true) (w1y : (Lit.int .i64 a1y).wf = true) (w1m : (Lit.int .i64 a1m).wf = true) (w1d : (Lit.int .i64 a1d).wf = true) (w1h : (Lit.int .i64 a1h).wf = true) (w1i : (Lit.int .i64 a1i).wf = true) (w1s : (Lit.int .i64 a1s).wf = true) (w2 : (Lit.int .i64 a2).wf = true) (w3 : (Lit.int .i64 a3).wf = true) (w : World) (T : Tabs w) :
    Calls Tryd.prog 5 #[.agg #[.int .i64 a0y, .int .i64 a0m, .int .i64 a0d, .int .i64 a0h, .int .i64 a0i, .int .i64 a0s], .agg #[.int .i64 a1y, .int .i64 a1m, .int .i64 a1d, .int .i64 a1h, .int .i64 a1i, .int .i64 a1s], .int .i64 a2, .int .i64 a3] w fun e w' => e = .returned (.bool true) ∧ Up w w' := by
  have CM := fun w => compare_any a0y a0m a0d a0h a0i a0s a1y a1m a1d a1h a1i a1s w
  have RC := fun w => refCompare_any a0y a0m a0d a0h a0i a0s a1y a1m a1d a1h a1i a1s w
  generalize compC a0y a0m a0d a0h a0i a0s a1y a1m a1d a1h a1i a1s = zz at *
  have t := Lib.hid T; clear T
  rcases of_ex a2 with h2 | ⟨py, pm, pd, ph, pi, ps, pr, pe⟩
  · have OT := fun w => of_no a2 w (fit_wf w2) h2
    rcases of_ex a3 with h3 | ⟨qy, qm, qd, qh, qi, qs, qr, qe⟩
    · have OU := fun w => of_no a3 w (fit_wf w3) h3
      clear h2 h3
      go_enter Tryd.func5, Tryd.ntmps5
      go_wp2_with fail
      refine (shown_any _ (t.out.up (((Up.refl _).alloc' _).alloc' _))).mono ?_; rintro e w1 ⟨rfl, u1⟩
      have b_a := Lib.hid ((Box.new w a0y a0m a0d a0h a0i a0s 23).up ((Up.alloc _ _).trans u1))
      have b_b := Lib.hid ((Box.new2 w _ a1y a1m a1d a1h a1i a1s 23).up u1)
      have u := Lib.hid ((((Up.refl _).alloc' _).alloc' _).trans u1)
      clear u1
      go_wp2_with fail
      obtain ⟨a0, a1, a2, a3, a4, a5⟩ := b_a.out
      replace a0 := cell_regrown a0
      replace a1 := cell_regrown a1
      replace a2 := cell_regrown a2
      replace a3 := cell_regrown a3
      replace a4 := cell_regrown a4
      replace a5 := cell_regrown a5
      obtain ⟨b0, b1, b2, b3, b4, b5⟩ := b_b.out
      replace b0 := cell_regrown b0
      replace b1 := cell_regrown b1
      replace b2 := cell_regrown b2
      replace b3 := cell_regrown b3
      replace b4 := cell_regrown b4
      replace b5 := cell_regrown b5
      have Q0 := quiet_up (w := w1) (fun V U => CM V)
      have Q1 := quiet_up (w := w1) (fun V U => RC V)
      refine wp_region_quiet_below (by kernel_rfl) (by kernel_rfl) ?_
      repeat (quiet_step (first | (with_reducible exact Q0 _ _) | (with_reducible exact Q1 _ _)))
      refine wpQuiet_nil ?_
      intro _ hw'
      obtain ⟨⟨dq, osq⟩, hw''⟩ := hw'
      subst hw''
      clear a0 a1 a2 a3 a4 a5 b0 b1 b2 b3 b4 b5 Q0 Q1
      have u2 : Up w1 (Sort.grow (redrawn w1 dq) osq) := below_regrown w1 dq osq
      generalize Sort.grow (redrawn w1 dq) osq = w2 at *
      replace b_a := Lib.hid (b_a.out.up u2)
      replace b_b := Lib.hid (b_b.out.up u2)
      replace u := Lib.hid (u.out.trans u2)
      clear u2 dq osq
      clear b_a
      clear b_b
      go_wp2_with fail
      refine (OT _).mono ?_; rintro e w3 ⟨rfl, u3⟩
      replace u := Lib.hid (u.out.trans u3)
      clear u3
      go_wp2_with fail
      refine (OU _).mono ?_; rintro e w4 ⟨rfl, u4⟩
      have b_x := Lib.hid ((Box.new w3 0 0 0 0 0 0 23).up u4)
      replace u := Lib.hid ((u.out.alloc' _).trans u4)
      clear u4
      clear b_x
      go_wp2_with fail
      go_ret
      exact ⟨rfl, (u.out.alloc' _)⟩
    · have OU : ∀ w, Tabs w → _ := fun w T => of_yes a3 qy qm qd qh qi qs w T qr qe
      clear h2 qr qe
      go_enter Tryd.func5, Tryd.ntmps5
      go_wp2_with fail
      refine (shown_any _ (t.out.up (((Up.refl _).alloc' _).alloc' _))).mono ?_; rintro e w1 ⟨rfl, u1⟩
      have b_a := Lib.hid ((Box.new w a0y a0m a0d a0h a0i a0s 23).up ((Up.alloc _ _).trans u1))
      have b_b := Lib.hid ((Box.new2 w _ a1y a1m a1d a1h a1i a1s 23).up u1)
      have u := Lib.hid ((((Up.refl _).alloc' _).alloc' _).trans u1)
      clear u1
      go_wp2_with fail
      obtain ⟨a0, a1, a2, a3, a4, a5⟩ := b_a.out
      replace a0 := cell_regrown a0
      replace a1 := cell_regrown a1
      replace a2 := cell_regrown a2
      replace a3 := cell_regrown a3
      replace a4 := cell_regrown a4
      replace a5 := cell_regrown a5
      obtain ⟨b0, b1, b2, b3, b4, b5⟩ := b_b.out
      replace b0 := cell_regrown b0
      replace b1 := cell_regrown b1
      replace b2 := cell_regrown b2
      replace b3 := cell_regrown b3
      replace b4 := cell_regrown b4
      replace b5 := cell_regrown b5
      have Q0 := quiet_up (w := w1) (fun V U => CM V)
      have Q1 := quiet_up (w := w1) (fun V U => RC V)
      refine wp_region_quiet_below (by kernel_rfl) (by kernel_rfl) ?_
      repeat (quiet_step (first | (with_reducible exact Q0 _ _) | (with_reducible exact Q1 _ _)))
      refine wpQuiet_nil ?_
      intro _ hw'
      obtain ⟨⟨dq, osq⟩, hw''⟩ := hw'
      subst hw''
      clear a0 a1 a2 a3 a4 a5 b0 b1 b2 b3 b4 b5 Q0 Q1
      have u2 : Up w1 (Sort.grow (redrawn w1 dq) osq) := below_regrown w1 dq osq
      generalize Sort.grow (redrawn w1 dq) osq = w2 at *
      replace b_a := Lib.hid (b_a.out.up u2)
      replace b_b := Lib.hid (b_b.out.up u2)
      replace u := Lib.hid (u.out.trans u2)
      clear u2 dq osq
      clear b_a
      clear b_b
      go_wp2_with fail
      refine (OT _).mono ?_; rintro e w3 ⟨rfl, u3⟩
      replace u := Lib.hid (u.out.trans u3)
      clear u3
      go_wp2_with fail
      refine (OU _ (t.out.up (u.out.alloc' _))).mono ?_; rintro e w4 ⟨rfl, u4⟩
      have b_x := Lib.hid ((Box.new w3 0 0 0 0 0 0 23).up u4)
      replace u := Lib.hid ((u.out.alloc' _).trans u4)
      clear u4
      clear b_x
      go_wp2_with fail
      go_ret
      exact ⟨rfl, (u.out.alloc' _)⟩
  · have OT : ∀ w, Tabs w → _ := fun w T => of_yes a2 py pm pd ph pi ps w T pr pe
    rcases of_ex a3 with h3 | ⟨qy, qm, qd, qh, qi, qs, qr, qe⟩
    · have OU := fun w => of_no a3 w (fit_wf w3) h3
      clear h3 pr pe
      go_enter Tryd.func5, Tryd.ntmps5
      go_wp2_with fail
      refine (shown_any _ (t.out.up (((Up.refl _).alloc' _).alloc' _))).mono ?_; rintro e w1 ⟨rfl, u1⟩
      have b_a := Lib.hid ((Box.new w a0y a0m a0d a0h a0i a0s 23).up ((Up.alloc _ _).trans u1))
      have b_b := Lib.hid ((Box.new2 w _ a1y a1m a1d a1h a1i a1s 23).up u1)
      have u := Lib.hid ((((Up.refl _).alloc' _).alloc' _).trans u1)
      clear u1
      go_wp2_with fail
      obtain ⟨a0, a1, a2, a3, a4, a5⟩ := b_a.out
      replace a0 := cell_regrown a0
      replace a1 := cell_regrown a1
      replace a2 := cell_regrown a2
      replace a3 := cell_regrown a3
      replace a4 := cell_regrown a4
      replace a5 := cell_regrown a5
      obtain ⟨b0, b1, b2, b3, b4, b5⟩ := b_b.out
      replace b0 := cell_regrown b0
      replace b1 := cell_regrown b1
      replace b2 := cell_regrown b2
      replace b3 := cell_regrown b3
      replace b4 := cell_regrown b4
      replace b5 := cell_regrown b5
      have Q0 := quiet_up (w := w1) (fun V U => CM V)
      have Q1 := quiet_up (w := w1) (fun V U => RC V)
      refine wp_region_quiet_below (by kernel_rfl) (by kernel_rfl) ?_
      repeat (quiet_step (first | (with_reducible exact Q0 _ _) | (with_reducible exact Q1 _ _)))
      refine wpQuiet_nil ?_
      intro _ hw'
      obtain ⟨⟨dq, osq⟩, hw''⟩ := hw'
      subst hw''
      clear a0 a1 a2 a3 a4 a5 b0 b1 b2 b3 b4 b5 Q0 Q1
      have u2 : Up w1 (Sort.grow (redrawn w1 dq) osq) := below_regrown w1 dq osq
      generalize Sort.grow (redrawn w1 dq) osq = w2 at *
      replace b_a := Lib.hid (b_a.out.up u2)
      replace b_b := Lib.hid (b_b.out.up u2)
      replace u := Lib.hid (u.out.trans u2)
      clear u2 dq osq
      clear b_a
      clear b_b
      go_wp2_with fail
      refine (OT _ (t.out.up (u.out))).mono ?_; rintro e w3 ⟨rfl, u3⟩
      replace u := Lib.hid (u.out.trans u3)
      clear u3
      go_wp2_with fail
      refine (OU _).mono ?_; rintro e w4 ⟨rfl, u4⟩
      have b_x := Lib.hid ((Box.new w3 py pm pd ph pi ps 23).up u4)
      replace u := Lib.hid ((u.out.alloc' _).trans u4)
      clear u4
      clear b_x
      go_wp2_with fail
      go_ret
      exact ⟨rfl, (u.out.alloc' _)⟩
    · have CS := comp_sec pr qr
      rw [pe, qe] at CS
      have TI := fun e => text_inj pr qr e
      rcases Int.lt_trichotomy a2 a3 with lt | eq | gt
      · have OU : ∀ w, Tabs w → _ := fun w T => of_yes a3 qy qm qd qh qi qs w T qr qe
        have CX := fun w => compare_any py pm pd ph pi ps qy qm qd qh qi qs w
        rw [CS, cmp_lt lt] at CX
        have d1 : decide (a2 < a3) = true := by simpa using lt
        have e1 : (a2 == a3) = false := by simp; omega
        have ne : textB py pm pd ph pi ps ≠ textB qy qm qd qh qi qs := fun e => by obtain ⟨rfl, rfl, rfl, rfl, rfl, rfl⟩ := TI e; omega
        have TX : ∀ w, Tabs w → _ := fun w T => text_yes py pm pd ph pi ps w T pr
        have TY : ∀ w, Tabs w → _ := fun w T => text_yes qy qm qd qh qi qs w T qr
        clear CS TI pr qr pe qe
        generalize textB py pm pd ph pi ps = X at *
        generalize textB qy qm qd qh qi qs = Y at *
        have ne1 := text_ne ne
        clear ne
        go_enter Tryd.func5, Tryd.ntmps5
        go_wp2_with fail
        refine (shown_any _ (t.out.up (((Up.refl _).alloc' _).alloc' _))).mono ?_; rintro e w1 ⟨rfl, u1⟩
        have b_a := Lib.hid ((Box.new w a0y a0m a0d a0h a0i a0s 23).up ((Up.alloc _ _).trans u1))
        have b_b := Lib.hid ((Box.new2 w _ a1y a1m a1d a1h a1i a1s 23).up u1)
        have u := Lib.hid ((((Up.refl _).alloc' _).alloc' _).trans u1)
        clear u1
        go_wp2_with fail
        obtain ⟨a0, a1, a2, a3, a4, a5⟩ := b_a.out
        replace a0 := cell_regrown a0
        replace a1 := cell_regrown a1
        replace a2 := cell_regrown a2
        replace a3 := cell_regrown a3
        replace a4 := cell_regrown a4
        replace a5 := cell_regrown a5
        obtain ⟨b0, b1, b2, b3, b4, b5⟩ := b_b.out
        replace b0 := cell_regrown b0
        replace b1 := cell_regrown b1
        replace b2 := cell_regrown b2
        replace b3 := cell_regrown b3
        replace b4 := cell_regrown b4
        replace b5 := cell_regrown b5
        have Q0 := quiet_up (w := w1) (fun V U => CM V)
        have Q1 := quiet_up (w := w1) (fun V U => RC V)
        refine wp_region_quiet_below (by kernel_rfl) (by kernel_rfl) ?_
        repeat (quiet_step (first | (with_reducible exact Q0 _ _) | (with_reducible exact Q1 _ _)))
        refine wpQuiet_nil ?_
        intro _ hw'
        obtain ⟨⟨dq, osq⟩, hw''⟩ := hw'
        subst hw''
        clear a0 a1 a2 a3 a4 a5 b0 b1 b2 b3 b4 b5 Q0 Q1
        have u2 : Up w1 (Sort.grow (redrawn w1 dq) osq) := below_regrown w1 dq osq
        generalize Sort.grow (redrawn w1 dq) osq = w2 at *
        replace b_a := Lib.hid (b_a.out.up u2)
        replace b_b := Lib.hid (b_b.out.up u2)
        replace u := Lib.hid (u.out.trans u2)
        clear u2 dq osq
        clear b_a
        clear b_b
        go_wp2_with fail
        refine (OT _ (t.out.up (u.out))).mono ?_; rintro e w3 ⟨rfl, u3⟩
        replace u := Lib.hid (u.out.trans u3)
        clear u3
        go_wp2_with fail
        refine (OU _ (t.out.up (u.out.alloc' _))).mono ?_; rintro e w4 ⟨rfl, u4⟩
        have b_x := Lib.hid ((Box.new w3 py pm pd ph pi ps 23).up u4)
        replace u := Lib.hid ((u.out.alloc' _).trans u4)
        clear u4
        go_wp2_with fail
        obtain ⟨w5, hw5⟩ : ∃ W, W = World.alloc w4 (.cells #[.int .i64 qy, .int .i64 qm, .int .i64 qd, .int .i64 qh, .int .i64 qi, .int .i64 qs] 23) := ⟨_, rfl⟩
        rw [← hw5]
        have u5 : Up w4 w5 := by rw [hw5]; exact Up.alloc _ _
        replace b_x := Lib.hid (b_x.out.up u5)
        have b_y : Hid (Box w5 w4.heap.size qy qm qd qh qi qs) := by rw [hw5]; exact Box.new _ qy qm qd qh qi qs _
        replace u := Lib.hid (u.out.trans u5)
        clear u5 hw5
        obtain ⟨x0, x1, x2, x3, x4, x5⟩ := b_x.out
        replace x0 := cell_regrown x0
        replace x1 := cell_regrown x1
        replace x2 := cell_regrown x2
        replace x3 := cell_regrown x3
        replace x4 := cell_regrown x4
        replace x5 := cell_regrown x5
        obtain ⟨y0, y1, y2, y3, y4, y5⟩ := b_y.out
        replace y0 := cell_regrown y0
        replace y1 := cell_regrown y1
        replace y2 := cell_regrown y2
        replace y3 := cell_regrown y3
        replace y4 := cell_regrown y4
        replace y5 := cell_regrown y5
        have Q0 := quiet_up (w := w5) (fun V U => CX V)
        have Q1 := quiet_up (w := w5) (fun V U => TX V (t.out.up (u.out.trans U)))
        have Q2 := quiet_up (w := w5) (fun V U => TY V (t.out.up (u.out.trans U)))
        refine wp_region_quiet_below (by kernel_rfl) (by kernel_rfl) ?_
        repeat (quiet_step (first | (with_reducible exact Q0 _ _) | (with_reducible exact Q1 _ _) | (with_reducible exact Q2 _ _)))
        refine wpQuiet_nil ?_
        intro _ hw'
        obtain ⟨⟨dq, osq⟩, hw''⟩ := hw'
        subst hw''
        clear x0 x1 x2 x3 x4 x5 y0 y1 y2 y3 y4 y5 Q0 Q1 Q2
        have u6 : Up w5 (Sort.grow (redrawn w5 dq) osq) := below_regrown w5 dq osq
        generalize Sort.grow (redrawn w5 dq) osq = w6 at *
        replace b_x := Lib.hid (b_x.out.up u6)
        replace b_y := Lib.hid (b_y.out.up u6)
        replace u := Lib.hid (u.out.trans u6)
        clear u6 dq osq
        go_wp2_with fail
        go_ret
        exact ⟨rfl, u.out⟩
      · subst eq
        have OU := OT
        have CX := fun w => compare_any py pm pd ph pi ps py pm pd ph pi ps w
        rw [show compC py pm pd ph pi ps py pm pd ph pi ps = 0 by rw [comp_sec pr pr, cmp_eq (by omega) (by omega)]] at CX
        have TX : ∀ w, Tabs w → _ := fun w T => text_yes py pm pd ph pi ps w T pr
        clear CS TI pr qr pe qe
        generalize textB py pm pd ph pi ps = X at *
        go_enter Tryd.func5, Tryd.ntmps5
        go_wp2_with fail
        refine (shown_any _ (t.out.up (((Up.refl _).alloc' _).alloc' _))).mono ?_; rintro e w1 ⟨rfl, u1⟩
        have b_a := Lib.hid ((Box.new w a0y a0m a0d a0h a0i a0s 23).up ((Up.alloc _ _).trans u1))
        have b_b := Lib.hid ((Box.new2 w _ a1y a1m a1d a1h a1i a1s 23).up u1)
        have u := Lib.hid ((((Up.refl _).alloc' _).alloc' _).trans u1)
        clear u1
        go_wp2_with fail
        obtain ⟨a0, a1, a2, a3, a4, a5⟩ := b_a.out
        replace a0 := cell_regrown a0
        replace a1 := cell_regrown a1
        replace a2 := cell_regrown a2
        replace a3 := cell_regrown a3
        replace a4 := cell_regrown a4
        replace a5 := cell_regrown a5
        obtain ⟨b0, b1, b2, b3, b4, b5⟩ := b_b.out
        replace b0 := cell_regrown b0
        replace b1 := cell_regrown b1
        replace b2 := cell_regrown b2
        replace b3 := cell_regrown b3
        replace b4 := cell_regrown b4
        replace b5 := cell_regrown b5
        have Q0 := quiet_up (w := w1) (fun V U => CM V)
        have Q1 := quiet_up (w := w1) (fun V U => RC V)
        refine wp_region_quiet_below (by kernel_rfl) (by kernel_rfl) ?_
        repeat (quiet_step (first | (with_reducible exact Q0 _ _) | (with_reducible exact Q1 _ _)))
        refine wpQuiet_nil ?_
        intro _ hw'
        obtain ⟨⟨dq, osq⟩, hw''⟩ := hw'
        subst hw''
        clear a0 a1 a2 a3 a4 a5 b0 b1 b2 b3 b4 b5 Q0 Q1
        have u2 : Up w1 (Sort.grow (redrawn w1 dq) osq) := below_regrown w1 dq osq
        generalize Sort.grow (redrawn w1 dq) osq = w2 at *
        replace b_a := Lib.hid (b_a.out.up u2)
        replace b_b := Lib.hid (b_b.out.up u2)
        replace u := Lib.hid (u.out.trans u2)
        clear u2 dq osq
        clear b_a
        clear b_b
        go_wp2_with fail
        refine (OT _ (t.out.up (u.out))).mono ?_; rintro e w3 ⟨rfl, u3⟩
        replace u := Lib.hid (u.out.trans u3)
        clear u3
        go_wp2_with fail
        refine (OU _ (t.out.up (u.out.alloc' _))).mono ?_; rintro e w4 ⟨rfl, u4⟩
        have b_x := Lib.hid ((Box.new w3 py pm pd ph pi ps 23).up u4)
        replace u := Lib.hid ((u.out.alloc' _).trans u4)
        clear u4
        go_wp2_with fail
        obtain ⟨w5, hw5⟩ : ∃ W, W = World.alloc w4 (.cells #[.int .i64 py, .int .i64 pm, .int .i64 pd, .int .i64 ph, .int .i64 pi, .int .i64 ps] 23) := ⟨_, rfl⟩
        rw [← hw5]
        have u5 : Up w4 w5 := by rw [hw5]; exact Up.alloc _ _
        replace b_x := Lib.hid (b_x.out.up u5)
        have b_y : Hid (Box w5 w4.heap.size py pm pd ph pi ps) := by rw [hw5]; exact Box.new _ py pm pd ph pi ps _
        replace u := Lib.hid (u.out.trans u5)
        clear u5 hw5
        obtain ⟨x0, x1, x2, x3, x4, x5⟩ := b_x.out
        replace x0 := cell_regrown x0
        replace x1 := cell_regrown x1
        replace x2 := cell_regrown x2
        replace x3 := cell_regrown x3
        replace x4 := cell_regrown x4
        replace x5 := cell_regrown x5
        obtain ⟨y0, y1, y2, y3, y4, y5⟩ := b_y.out
        replace y0 := cell_regrown y0
        replace y1 := cell_regrown y1
        replace y2 := cell_regrown y2
        replace y3 := cell_regrown y3
        replace y4 := cell_regrown y4
        replace y5 := cell_regrown y5
        have Q0 := quiet_up (w := w5) (fun V U => CX V)
        have Q1 := quiet_up (w := w5) (fun V U => TX V (t.out.up (u.out.trans U)))
        refine wp_region_quiet_below (by kernel_rfl) (by kernel_rfl) ?_
        repeat (quiet_step (first | (with_reducible exact Q0 _ _) | (with_reducible exact Q1 _ _)))
        refine wpQuiet_nil ?_
        intro _ hw'
        obtain ⟨⟨dq, osq⟩, hw''⟩ := hw'
        subst hw''
        clear x0 x1 x2 x3 x4 x5 y0 y1 y2 y3 y4 y5 Q0 Q1
        have u6 : Up w5 (Sort.grow (redrawn w5 dq) osq) := below_regrown w5 dq osq
        generalize Sort.grow (redrawn w5 dq) osq = w6 at *
        replace b_x := Lib.hid (b_x.out.up u6)
        replace b_y := Lib.hid (b_y.out.up u6)
        replace u := Lib.hid (u.out.trans u6)
        clear u6 dq osq
        go_wp2_with fail
        go_ret
        exact ⟨rfl, u.out⟩
      · have OU : ∀ w, Tabs w → _ := fun w T => of_yes a3 qy qm qd qh qi qs w T qr qe
        have CX := fun w => compare_any py pm pd ph pi ps qy qm qd qh qi qs w
        rw [CS, cmp_gt gt] at CX
        have d1 : decide (a2 < a3) = false := by simp; omega
        have e1 : (a2 == a3) = false := by simp; omega
        have ne : textB py pm pd ph pi ps ≠ textB qy qm qd qh qi qs := fun e => by obtain ⟨rfl, rfl, rfl, rfl, rfl, rfl⟩ := TI e; omega
        have TX : ∀ w, Tabs w → _ := fun w T => text_yes py pm pd ph pi ps w T pr
        have TY : ∀ w, Tabs w → _ := fun w T => text_yes qy qm qd qh qi qs w T qr
        clear CS TI pr qr pe qe
        generalize textB py pm pd ph pi ps = X at *
        generalize textB qy qm qd qh qi qs = Y at *
        have ne1 := text_ne ne
        clear ne
        go_enter Tryd.func5, Tryd.ntmps5
        go_wp2_with fail
        refine (shown_any _ (t.out.up (((Up.refl _).alloc' _).alloc' _))).mono ?_; rintro e w1 ⟨rfl, u1⟩
        have b_a := Lib.hid ((Box.new w a0y a0m a0d a0h a0i a0s 23).up ((Up.alloc _ _).trans u1))
        have b_b := Lib.hid ((Box.new2 w _ a1y a1m a1d a1h a1i a1s 23).up u1)
        have u := Lib.hid ((((Up.refl _).alloc' _).alloc' _).trans u1)
        clear u1
        go_wp2_with fail
        obtain ⟨a0, a1, a2, a3, a4, a5⟩ := b_a.out
        replace a0 := cell_regrown a0
        replace a1 := cell_regrown a1
        replace a2 := cell_regrown a2
        replace a3 := cell_regrown a3
        replace a4 := cell_regrown a4
        replace a5 := cell_regrown a5
        obtain ⟨b0, b1, b2, b3, b4, b5⟩ := b_b.out
        replace b0 := cell_regrown b0
        replace b1 := cell_regrown b1
        replace b2 := cell_regrown b2
        replace b3 := cell_regrown b3
        replace b4 := cell_regrown b4
        replace b5 := cell_regrown b5
        have Q0 := quiet_up (w := w1) (fun V U => CM V)
        have Q1 := quiet_up (w := w1) (fun V U => RC V)
        refine wp_region_quiet_below (by kernel_rfl) (by kernel_rfl) ?_
        repeat (quiet_step (first | (with_reducible exact Q0 _ _) | (with_reducible exact Q1 _ _)))
        refine wpQuiet_nil ?_
        intro _ hw'
        obtain ⟨⟨dq, osq⟩, hw''⟩ := hw'
        subst hw''
        clear a0 a1 a2 a3 a4 a5 b0 b1 b2 b3 b4 b5 Q0 Q1
        have u2 : Up w1 (Sort.grow (redrawn w1 dq) osq) := below_regrown w1 dq osq
        generalize Sort.grow (redrawn w1 dq) osq = w2 at *
        replace b_a := Lib.hid (b_a.out.up u2)
        replace b_b := Lib.hid (b_b.out.up u2)
        replace u := Lib.hid (u.out.trans u2)
        clear u2 dq osq
        clear b_a
        clear b_b
        go_wp2_with fail
        refine (OT _ (t.out.up (u.out))).mono ?_; rintro e w3 ⟨rfl, u3⟩
        replace u := Lib.hid (u.out.trans u3)
        clear u3
        go_wp2_with fail
        refine (OU _ (t.out.up (u.out.alloc' _))).mono ?_; rintro e w4 ⟨rfl, u4⟩
        have b_x := Lib.hid ((Box.new w3 py pm pd ph pi ps 23).up u4)
        replace u := Lib.hid ((u.out.alloc' _).trans u4)
        clear u4
        go_wp2_with fail
        obtain ⟨w5, hw5⟩ : ∃ W, W = World.alloc w4 (.cells #[.int .i64 qy, .int .i64 qm, .int .i64 qd, .int .i64 qh, .int .i64 qi, .int .i64 qs] 23) := ⟨_, rfl⟩
        rw [← hw5]
        have u5 : Up w4 w5 := by rw [hw5]; exact Up.alloc _ _
        replace b_x := Lib.hid (b_x.out.up u5)
        have b_y : Hid (Box w5 w4.heap.size qy qm qd qh qi qs) := by rw [hw5]; exact Box.new _ qy qm qd qh qi qs _
        replace u := Lib.hid (u.out.trans u5)
        clear u5 hw5
        obtain ⟨x0, x1, x2, x3, x4, x5⟩ := b_x.out
        replace x0 := cell_regrown x0
        replace x1 := cell_regrown x1
        replace x2 := cell_regrown x2
        replace x3 := cell_regrown x3
        replace x4 := cell_regrown x4
        replace x5 := cell_regrown x5
        obtain ⟨y0, y1, y2, y3, y4, y5⟩ := b_y.out
        replace y0 := cell_regrown y0
        replace y1 := cell_regrown y1
        replace y2 := cell_regrown y2
        replace y3 := cell_regrown y3
        replace y4 := cell_regrown y4
        replace y5 := cell_regrown y5
        have Q0 := quiet_up (w := w5) (fun V U => CX V)
        have Q1 := quiet_up (w := w5) (fun V U => TX V (t.out.up (u.out.trans U)))
        have Q2 := quiet_up (w := w5) (fun V U => TY V (t.out.up (u.out.trans U)))
        refine wp_region_quiet_below (by kernel_rfl) (by kernel_rfl) ?_
        repeat (quiet_step (first | (with_reducible exact Q0 _ _) | (with_reducible exact Q1 _ _) | (with_reducible exact Q2 _ _)))
        refine wpQuiet_nil ?_
        intro _ hw'
        obtain ⟨⟨dq, osq⟩, hw''⟩ := hw'
        subst hw''
        clear x0 x1 x2 x3 x4 x5 y0 y1 y2 y3 y4 y5 Q0 Q1 Q2
        have u6 : Up w5 (Sort.grow (redrawn w5 dq) osq) := below_regrown w5 dq osq
        generalize Sort.grow (redrawn w5 dq) osq = w6 at *
        replace b_x := Lib.hid (b_x.out.up u6)
        replace b_y := Lib.hid (b_y.out.up u6)
        replace u := Lib.hid (u.out.trans u6)
        clear u6 dq osq
        go_wp2_with fail
        go_ret
        exact ⟨rfl, u.out⟩

set_option maxRecDepth 100000 in
theorem lifted (os : Os) (started : os.Started) (H : Type) (enc : TypeId × Value → H) :
    ReturnsInHanded {} Tryd.checked os 5 .any (fun w args => (Rows.clockOrderSpec.pre enc Tryd.prog Tryd.f5 [] false w args ∧ laidMetH Tryd.prog laidD w) ∧ sizedMet enc Tryd.prog Tryd.f5 (OpenSpec.ofChange Rows.clockOrderSpec) false w args) (Rows.clockOrderSpec.post enc Tryd.prog Tryd.f5 false true false false) := by
  refine returnsInHanded_of_change_and (C := Tryd.checked) (X := fun w _ => laidMetH Tryd.prog laidD w) (fun _ _ _ hh h => h.of_heap hh) own started (by kernel_rfl) Tryd.func5
    (ChangeSpec.witness_shaped (enc := enc) (C := Tryd.checked) (os := os) (X := fun w _ => laidMetH Tryd.prog laidD w) false (World.doorLaid Tryd.prog 400 os) #[.agg #[.int .i64 0, .int .i64 0, .int .i64 0, .int .i64 0, .int .i64 0, .int .i64 0], .agg #[.int .i64 0, .int .i64 0, .int .i64 0, .int .i64 0, .int .i64 0, .int .i64 0], .int .i64 0, .int .i64 0] 8 rfl (World.shaped_of_RefB (by kernel_rfl) (by kernel_rfl)) (by kernel_rfl) (by kernel_rfl) (by kernel_rfl) (door_metD os _)) ?_
  intro W base args ds gs before hval0 hW _ _ hL _
  have hval : ∀ (j : Nat) t v, Tryd.f5.params[j]? = some t → args[j]? = some v → Value.okWide Tryd.prog W .any base t v := hval0
  have hW' := hW
  obtain ⟨p, q, hA0, hV, rfl, hfz, hnd⟩ := hW
  have hA : DataW.TrodAll enc Tryd.prog W 0 (fun _ => true) true Tryd.f5.params.toList args.toList ds p := hA0
  rw [Tryd.params5] at hA hval
  obtain ⟨v0, vs0, d0, ds0, p0, q0, hargs, rfl, rfl, h0, r0⟩ := trodAll_cons hA
  obtain ⟨v1, vs1, d1, ds1, p1, q1, rfl, rfl, rfl, h1, r1⟩ := trodAll_cons r0
  obtain ⟨v2, vs2, d2, ds2, p2, q2, rfl, rfl, rfl, h2, r2⟩ := trodAll_cons r1
  obtain ⟨v3, vs3, d3, ds3, p3, q3, rfl, rfl, rfl, h3, r3⟩ := trodAll_cons r2
  obtain ⟨rfl, rfl, rfl⟩ := trodAll_nil r3
  obtain rfl : args = #[v0, v1, v2, v3] := by cases args; simp_all
  obtain ⟨rfl, rfl⟩ := trodVars_none hV
  obtain ⟨a0y, a0m, a0d, a0h, a0i, a0s, rfl, rfl, rfl, w0y, w0m, w0d, w0h, w0i, w0s⟩ := open_civ (hval 0 23 v0 rfl rfl) h0
  obtain ⟨a1y, a1m, a1d, a1h, a1i, a1s, rfl, rfl, rfl, w1y, w1m, w1d, w1h, w1i, w1s⟩ := open_civ (hval 1 23 v1 rfl rfl) h1
  obtain ⟨a2, rfl, rfl, rfl, w2⟩ := open_int Tryd.underlying2 (hval 2 2 v2 rfl rfl) h2
  obtain ⟨a3, rfl, rfl, rfl, w3⟩ := open_int Tryd.underlying2 (hval 3 2 v3 rfl rfl) h3
  clear hA0 hval0
  simp only [List.append_nil] at hW'
  refine (walk a0y a0m a0d a0h a0i a0s a1y a1m a1d a1h a1i a1s a2 a3 w0y w0m w0d w0h w0i w0s w1y w1m w1d w1h w1i w1s w2 w3 W (tabs_of_laid hL)).mono fun e W' ⟨he, hg⟩ => ?_
  subst he
  exact ⟨_, rfl, post_flat hW' (fun _ _ _ => (trodAll_cons_mk (shut_bool Tryd.underlying4 _) trodAll_mk0)) (fun sp => (trodAll_cons_mk (shut_civ w0y w0m w0d w0h w0i w0s) (trodAll_cons_mk (shut_civ w1y w1m w1d w1h w1i w1s) (trodAll_cons_mk (shut_int Tryd.underlying2 w2) (trodAll_cons_mk (shut_int Tryd.underlying2 w3) trodAll_mk0))))) (fun _ => rfl)
    hg (ok_one (by kernel_rfl) rfl (okWide_bool_mk Tryd.underlying4 _))⟩

theorem over : Rows.clockOrderRow.holds Tryd.pinned (OpenSpec.ofChange Rows.clockOrderSpec) :=
  OpenClaim.holds_of_wide 5 Tryd.f5 rfl rfl rfl rfl rfl rfl rfl ⟨rfl, rfl, rfl, rfl, rfl⟩ rfl rfl rfl rfl rfl (by kernel_rfl) Tryd.func5 (by kernel_rfl)
    (of_decide_eq_true (by kernel_rfl)) (by unfold Func.isWrapper; first | (rw [if_pos (by decide +kernel)]; kernel_rfl) | (rw [if_neg (by decide +kernel)]; exact ⟨rfl, rfl⟩))
    (fun os started H enc _ => lifted os started H enc)

set_option maxRecDepth 100000 in
theorem proved : Rows.ClockOrderCardSaid :=
  Claim7.holds_tied_plain_at .later [] [.data, .data, .data, .data] true _ false
    over (fun _ h => by cases h) (by kernel_rfl) (fun _ h => by cases h) clockOrder_row_tie rfl ⟨rfl, rfl⟩ (by kernel_rfl) rfl
    (fun f fn hf hfn => by
      obtain rfl : f = 5 := Option.some.inj ((show Tryd.prog.funcNamed "longcase/longcaselaw03.ClockOrder" = some 5 by kernel_rfl).symm.trans hf) |>.symm
      obtain rfl : fn = Tryd.f5 := (Option.some.inj (Tryd.func5.symm.trans hfn)).symm
      exact ⟨by kernel_rfl, fun j t ht => by
        rw [Tryd.params5] at ht
        have hm : t ∈ [23, 23, 2, 2] := by simpa using Array.mem_of_getElem? ht
        have hall : ([23, 23, 2, 2].all fun u => !Tryd.prog.wantsStandIn u) = true := by kernel_rfl
        exact (show Tryd.prog.wantsStandIn t = false by simpa using List.all_eq_true.1 hall t hm)⟩)
    (by kernel_rfl)
end Go.Proofs.YtdmobmblkbmkhaaDoor.clockOrder
