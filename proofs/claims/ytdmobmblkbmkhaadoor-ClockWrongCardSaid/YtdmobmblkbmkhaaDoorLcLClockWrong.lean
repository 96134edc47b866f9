/-
  ClockWrong (longcaselaw03): for every input it answers true, and its arguments read as before; the listed tables as the program lays them. No condition.
-/
import Derived.Test.YtdmobmblkbmkhaaDoorLcShown3
import Derived.Test.YtdmobmblkbmkhaaDoorLcPrm
import Derived.Test.YtdmobmblkbmkhaaDoorLcSet
import Derived.Test.YtdmobmblkbmkhaaDoorTie
import Derived.Test.YtdmobmblkbmkhaaDoorCards
import Derived.WalkKit
import Derived.ProofKit
import Derived.OpenShut
import Derived.LaidMore
import Derived.Stop.Joined
import Derived.SevenTiedAt
namespace Go.Proofs.YtdmobmblkbmkhaaDoor.clockWrong
open Go.ChangeShapes Go.WideShapes Go.ChangeAt Go.RowKit Lc
set_option linter.unusedVariables false

theorem own : ownKnob Tryd.prog.godebug = none := by kernel_rfl

set_option maxHeartbeats 16000000 in
set_option maxRecDepth 100000 in
theorem walk (a0y a0m a0d a0h a0i a0s : Int) (a1 : Int) (a2 : Bool) (w0y : (Lit.int .i64 a0y).wf = true) (w0m : (Lit.int .i64 a0m).wf = true) (w0d : (Lit.int .i64 a0d).wf = true) (w0h : (Lit.int .i64 a0h).wf = true) (w0i : (Lit.int .i64 a0i).wf = true) (w0s : (Lit.int .i64 a0s).wf = true) (w1 : (Lit.int .i64 a1).wf = true) (w : World) (T : Tabs w) :
    Calls Tryd.prog 9 #[.agg #[.int .i64 a0y, .int .i64 a0m, .int .i64 a0d, .int .i64 a0h, .int .i64 a0i, .int .i64 a0s], .int .i64 a1, .bool a2] w fun e w' => e = .returned (.bool true) ∧ Up w w' := by
  have t := Lib.hid T; clear T
  have RT : ∀ w, Tabs w → _ := fun w T => clockRight_any a0y a0m a0d a0h a0i a0s w T
  cases r : rightC a0y a0m a0d a0h a0i a0s
  · rw [r] at RT
    clear r
    go_enter Tryd.func9, Tryd.ntmps9
    go_wp2_with fail
    refine (shown_any _ (t.out.up ((Up.refl _).alloc' _))).mono ?_; rintro e w1 ⟨rfl, u1⟩
    have b_c := Lib.hid ((Box.new w a0y a0m a0d a0h a0i a0s 23).up u1)
    have u := Lib.hid (((Up.refl _).alloc' _).trans u1)
    clear u1
    obtain ⟨c0, c1, c2, c3, c4, c5⟩ := b_c.out
    have l_c := cell_lt c0
    go_wp2_with fail
    clear c0 c1 c2 c3 c4 c5 l_c
    refine (RT _ (t.out.up (u.out))).mono ?_; rintro e w2 ⟨rfl, u2⟩
    replace b_c := Lib.hid (b_c.out.up u2)
    replace u := Lib.hid (u.out.trans u2)
    clear u2
    go_wp2_with fail
    go_ret
    exact ⟨rfl, u.out⟩
  · rw [r] at RT
    clear r
    rcases mask5 a1 with hk | hk | hk | hk | hk
    · cases a2
      · have nr : rightC a0y 13 a0d a0h a0i a0s = false := not_right (by omega)
        have SE : ∀ w, Tabs w → _ := fun w T => seconds_no a0y 13 a0d a0h a0i a0s w T nr
        have TX : ∀ w, Tabs w → _ := fun w T => text_no a0y 13 a0d a0h a0i a0s w T nr
        have R2 : ∀ w, Tabs w → _ := fun w T => clockRight_any a0y 13 a0d a0h a0i a0s w T
        rw [nr] at R2
        clear nr
        go_enter Tryd.func9, Tryd.ntmps9
        have z_c := Lib.hid (Up.size (Up.refl w))
        go_wp2_with fail
        refine (shown_any _ (t.out.up ((Up.refl _).alloc' _))).mono ?_; rintro e w1 ⟨rfl, u1⟩
        have b_c := Lib.hid ((Box.new w a0y a0m a0d a0h a0i a0s 23).up u1)
        have f_c := Lib.hid ((Free.new w _ _).up u1)
        have u := Lib.hid (((Up.refl _).alloc' _).trans u1)
        clear u1
        obtain ⟨c0, c1, c2, c3, c4, c5⟩ := b_c.out
        have l_c := cell_lt c0
        have qc0 := f_c.out.2 0
        have qc1 := f_c.out.2 1
        have qc2 := f_c.out.2 2
        have qc3 := f_c.out.2 3
        have qc4 := f_c.out.2 4
        have qc5 := f_c.out.2 5
        go_wp2_with fail
        clear c0 c1 c2 c3 c4 c5 l_c qc0 qc1 qc2 qc3 qc4 qc5
        refine (RT _ (t.out.up (u.out))).mono ?_; rintro e w2 ⟨rfl, u2⟩
        replace b_c := Lib.hid (b_c.out.up u2)
        replace f_c := Lib.hid (f_c.out.up u2)
        replace u := Lib.hid (u.out.trans u2)
        clear u2
        obtain ⟨c0, c1, c2, c3, c4, c5⟩ := b_c.out
        have l_c := cell_lt c0
        have qc0 := f_c.out.2 0
        have qc1 := f_c.out.2 1
        have qc2 := f_c.out.2 2
        have qc3 := f_c.out.2 3
        have qc4 := f_c.out.2 4
        have qc5 := f_c.out.2 5
        go_wp2_with fail
        clear c0 c1 c2 c3 c4 c5 l_c qc0 qc1 qc2 qc3 qc4 qc5
        refine (SE _ (t.out.up (((u.out.setCell' (p := ⟨w.heap.size, 1, none⟩) (Nat.le_refl _) _).alloc' _).alloc' _))).mono ?_; rintro e w3 ⟨rfl, u3⟩
        replace b_c := Lib.hid ((b_c.out.set1 13).up (((Up.alloc _ _).alloc' _).trans u3))
        replace u := Lib.hid ((((u.out.setCell' (p := ⟨w.heap.size, 1, none⟩) (Nat.le_refl _) _).alloc' _).alloc' _).trans u3)
        clear u3 f_c z_c
        obtain ⟨c0, c1, c2, c3, c4, c5⟩ := b_c.out
        have l_c := cell_lt c0
        go_wp2_with fail
        clear c0 c1 c2 c3 c4 c5 l_c
        refine (R2 _ (t.out.up (u.out))).mono ?_; rintro e w4 ⟨rfl, u4⟩
        replace b_c := Lib.hid (b_c.out.up u4)
        replace u := Lib.hid (u.out.trans u4)
        clear u4
        obtain ⟨c0, c1, c2, c3, c4, c5⟩ := b_c.out
        have l_c := cell_lt c0
        go_wp2_with fail
        clear c0 c1 c2 c3 c4 c5 l_c
        refine (TX _ (t.out.up (u.out))).mono ?_; rintro e w5 ⟨rfl, u5⟩
        replace b_c := Lib.hid (b_c.out.up u5)
        replace u := Lib.hid (u.out.trans u5)
        clear u5
        go_wp2_with fail
        go_ret
        exact ⟨rfl, u.out⟩
      · have nr : rightC a0y 0 a0d a0h a0i a0s = false := not_right (by omega)
        have SE : ∀ w, Tabs w → _ := fun w T => seconds_no a0y 0 a0d a0h a0i a0s w T nr
        have TX : ∀ w, Tabs w → _ := fun w T => text_no a0y 0 a0d a0h a0i a0s w T nr
        have R2 : ∀ w, Tabs w → _ := fun w T => clockRight_any a0y 0 a0d a0h a0i a0s w T
        rw [nr] at R2
        clear nr
        go_enter Tryd.func9, Tryd.ntmps9
        have z_c := Lib.hid (Up.size (Up.refl w))
        go_wp2_with fail
        refine (shown_any _ (t.out.up ((Up.refl _).alloc' _))).mono ?_; rintro e w1 ⟨rfl, u1⟩
        have b_c := Lib.hid ((Box.new w a0y a0m a0d a0h a0i a0s 23).up u1)
        have f_c := Lib.hid ((Free.new w _ _).up u1)
        have u := Lib.hid (((Up.refl _).alloc' _).trans u1)
        clear u1
        obtain ⟨c0, c1, c2, c3, c4, c5⟩ := b_c.out
        have l_c := cell_lt c0
        have qc0 := f_c.out.2 0
        have qc1 := f_c.out.2 1
        have qc2 := f_c.out.2 2
        have qc3 := f_c.out.2 3
        have qc4 := f_c.out.2 4
        have qc5 := f_c.out.2 5
        go_wp2_with fail
        clear c0 c1 c2 c3 c4 c5 l_c qc0 qc1 qc2 qc3 qc4 qc5
        refine (RT _ (t.out.up (u.out))).mono ?_; rintro e w2 ⟨rfl, u2⟩
        replace b_c := Lib.hid (b_c.out.up u2)
        replace f_c := Lib.hid (f_c.out.up u2)
        replace u := Lib.hid (u.out.trans u2)
        clear u2
        obtain ⟨c0, c1, c2, c3, c4, c5⟩ := b_c.out
        have l_c := cell_lt c0
        have qc0 := f_c.out.2 0
        have qc1 := f_c.out.2 1
        have qc2 := f_c.out.2 2
        have qc3 := f_c.out.2 3
        have qc4 := f_c.out.2 4
        have qc5 := f_c.out.2 5
        go_wp2_with fail
        clear c0 c1 c2 c3 c4 c5 l_c qc0 qc1 qc2 qc3 qc4 qc5
        refine (SE _ (t.out.up (((u.out.setCell' (p := ⟨w.heap.size, 1, none⟩) (Nat.le_refl _) _).alloc' _).alloc' _))).mono ?_; rintro e w3 ⟨rfl, u3⟩
        replace b_c := Lib.hid ((b_c.out.set1 0).up (((Up.alloc _ _).alloc' _).trans u3))
        replace u := Lib.hid ((((u.out.setCell' (p := ⟨w.heap.size, 1, none⟩) (Nat.le_refl _) _).alloc' _).alloc' _).trans u3)
        clear u3 f_c z_c
        obtain ⟨c0, c1, c2, c3, c4, c5⟩ := b_c.out
        have l_c := cell_lt c0
        go_wp2_with fail
        clear c0 c1 c2 c3 c4 c5 l_c
        refine (R2 _ (t.out.up (u.out))).mono ?_; rintro e w4 ⟨rfl, u4⟩
        replace b_c := Lib.hid (b_c.out.up u4)
        replace u := Lib.hid (u.out.trans u4)
        clear u4
        obtain ⟨c0, c1, c2, c3, c4, c5⟩ := b_c.out
        have l_c := cell_lt c0
        go_wp2_with fail
        clear c0 c1 c2 c3 c4 c5 l_c
        refine (TX _ (t.out.up (u.out))).mono ?_; rintro e w5 ⟨rfl, u5⟩
        replace b_c := Lib.hid (b_c.out.up u5)
        replace u := Lib.hid (u.out.trans u5)
        clear u5
        go_wp2_with fail
        go_ret
        exact ⟨rfl, u.out⟩
    · cases a2
      · have nr : rightC a0y a0m 32 a0h a0i a0s = false := not_right (by omega)
        have SE : ∀ w, Tabs w → _ := fun w T => seconds_no a0y a0m 32 a0h a0i a0s w T nr
        have TX : ∀ w, Tabs w → _ := fun w T => text_no a0y a0m 32 a0h a0i a0s w T nr
        have R2 : ∀ w, Tabs w → _ := fun w T => clockRight_any a0y a0m 32 a0h a0i a0s w T
        rw [nr] at R2
        clear nr
        go_enter Tryd.func9, Tryd.ntmps9
        have z_c := Lib.hid (Up.size (Up.refl w))
        go_wp2_with fail
        refine (shown_any _ (t.out.up ((Up.refl _).alloc' _))).mono ?_; rintro e w1 ⟨rfl, u1⟩
        have b_c := Lib.hid ((Box.new w a0y a0m a0d a0h a0i a0s 23).up u1)
        have f_c := Lib.hid ((Free.new w _ _).up u1)
        have u := Lib.hid (((Up.refl _).alloc' _).trans u1)
        clear u1
        obtain ⟨c0, c1, c2, c3, c4, c5⟩ := b_c.out
        have l_c := cell_lt c0
        have qc0 := f_c.out.2 0
        have qc1 := f_c.out.2 1
        have qc2 := f_c.out.2 2
        have qc3 := f_c.out.2 3
        have qc4 := f_c.out.2 4
        have qc5 := f_c.out.2 5
        go_wp2_with fail
        clear c0 c1 c2 c3 c4 c5 l_c qc0 qc1 qc2 qc3 qc4 qc5
        refine (RT _ (t.out.up (u.out))).mono ?_; rintro e w2 ⟨rfl, u2⟩
        replace b_c := Lib.hid (b_c.out.up u2)
        replace f_c := Lib.hid (f_c.out.up u2)
        replace u := Lib.hid (u.out.trans u2)
        clear u2
        obtain ⟨c0, c1, c2, c3, c4, c5⟩ := b_c.out
        have l_c := cell_lt c0
        have qc0 := f_c.out.2 0
        have qc1 := f_c.out.2 1
        have qc2 := f_c.out.2 2
        have qc3 := f_c.out.2 3
        have qc4 := f_c.out.2 4
        have qc5 := f_c.out.2 5
        go_wp2_with fail
        clear c0 c1 c2 c3 c4 c5 l_c qc0 qc1 qc2 qc3 qc4 qc5
        refine (SE _ (t.out.up (((u.out.setCell' (p := ⟨w.heap.size, 2, none⟩) (Nat.le_refl _) _).alloc' _).alloc' _))).mono ?_; rintro e w3 ⟨rfl, u3⟩
        replace b_c := Lib.hid ((b_c.out.set2 32).up (((Up.alloc _ _).alloc' _).trans u3))
        replace u := Lib.hid ((((u.out.setCell' (p := ⟨w.heap.size, 2, none⟩) (Nat.le_refl _) _).alloc' _).alloc' _).trans u3)
        clear u3 f_c z_c
        obtain ⟨c0, c1, c2, c3, c4, c5⟩ := b_c.out
        have l_c := cell_lt c0
        go_wp2_with fail
        clear c0 c1 c2 c3 c4 c5 l_c
        refine (R2 _ (t.out.up (u.out))).mono ?_; rintro e w4 ⟨rfl, u4⟩
        replace b_c := Lib.hid (b_c.out.up u4)
        replace u := Lib.hid (u.out.trans u4)
        clear u4
        obtain ⟨c0, c1, c2, c3, c4, c5⟩ := b_c.out
        have l_c := cell_lt c0
        go_wp2_with fail
        clear c0 c1 c2 c3 c4 c5 l_c
        refine (TX _ (t.out.up (u.out))).mono ?_; rintro e w5 ⟨rfl, u5⟩
        replace b_c := Lib.hid (b_c.out.up u5)
        replace u := Lib.hid (u.out.trans u5)
        clear u5
        go_wp2_with fail
        go_ret
        exact ⟨rfl, u.out⟩
      · have nr : rightC a0y a0m 0 a0h a0i a0s = false := not_right (by omega)
        have SE : ∀ w, Tabs w → _ := fun w T => seconds_no a0y a0m 0 a0h a0i a0s w T nr
        have TX : ∀ w, Tabs w → _ := fun w T => text_no a0y a0m 0 a0h a0i a0s w T nr
        have R2 : ∀ w, Tabs w → _ := fun w T => clockRight_any a0y a0m 0 a0h a0i a0s w T
        rw [nr] at R2
        clear nr
        go_enter Tryd.func9, Tryd.ntmps9
        have z_c := Lib.hid (Up.size (Up.refl w))
        go_wp2_with fail
        refine (shown_any _ (t.out.up ((Up.refl _).alloc' _))).mono ?_; rintro e w1 ⟨rfl, u1⟩
        have b_c := Lib.hid ((Box.new w a0y a0m a0d a0h a0i a0s 23).up u1)
        have f_c := Lib.hid ((Free.new w _ _).up u1)
        have u := Lib.hid (((Up.refl _).alloc' _).trans u1)
        clear u1
        obtain ⟨c0, c1, c2, c3, c4, c5⟩ := b_c.out
        have l_c := cell_lt c0
        have qc0 := f_c.out.2 0
        have qc1 := f_c.out.2 1
        have qc2 := f_c.out.2 2
        have qc3 := f_c.out.2 3
        have qc4 := f_c.out.2 4
        have qc5 := f_c.out.2 5
        go_wp2_with fail
        clear c0 c1 c2 c3 c4 c5 l_c qc0 qc1 qc2 qc3 qc4 qc5
        refine (RT _ (t.out.up (u.out))).mono ?_; rintro e w2 ⟨rfl, u2⟩
        replace b_c := Lib.hid (b_c.out.up u2)
        replace f_c := Lib.hid (f_c.out.up u2)
        replace u := Lib.hid (u.out.trans u2)
        clear u2
        obtain ⟨c0, c1, c2, c3, c4, c5⟩ := b_c.out
        have l_c := cell_lt c0
        have qc0 := f_c.out.2 0
        have qc1 := f_c.out.2 1
        have qc2 := f_c.out.2 2
        have qc3 := f_c.out.2 3
        have qc4 := f_c.out.2 4
        have qc5 := f_c.out.2 5
        go_wp2_with fail
        clear c0 c1 c2 c3 c4 c5 l_c qc0 qc1 qc2 qc3 qc4 qc5
        refine (SE _ (t.out.up (((u.out.setCell' (p := ⟨w.heap.size, 2, none⟩) (Nat.le_refl _) _).alloc' _).alloc' _))).mono ?_; rintro e w3 ⟨rfl, u3⟩
        replace b_c := Lib.hid ((b_c.out.set2 0).up (((Up.alloc _ _).alloc' _).trans u3))
        replace u := Lib.hid ((((u.out.setCell' (p := ⟨w.heap.size, 2, none⟩) (Nat.le_refl _) _).alloc' _).alloc' _).trans u3)
        clear u3 f_c z_c
        obtain ⟨c0, c1, c2, c3, c4, c5⟩ := b_c.out
        have l_c := cell_lt c0
        go_wp2_with fail
        clear c0 c1 c2 c3 c4 c5 l_c
        refine (R2 _ (t.out.up (u.out))).mono ?_; rintro e w4 ⟨rfl, u4⟩
        replace b_c := Lib.hid (b_c.out.up u4)
        replace u := Lib.hid (u.out.trans u4)
        clear u4
        obtain ⟨c0, c1, c2, c3, c4, c5⟩ := b_c.out
        have l_c := cell_lt c0
        go_wp2_with fail
        clear c0 c1 c2 c3 c4 c5 l_c
        refine (TX _ (t.out.up (u.out))).mono ?_; rintro e w5 ⟨rfl, u5⟩
        replace b_c := Lib.hid (b_c.out.up u5)
        replace u := Lib.hid (u.out.trans u5)
        clear u5
        go_wp2_with fail
        go_ret
        exact ⟨rfl, u.out⟩
    · cases a2
      · have nr : rightC a0y a0m a0d 24 a0i a0s = false := not_right (by omega)
        have SE : ∀ w, Tabs w → _ := fun w T => seconds_no a0y a0m a0d 24 a0i a0s w T nr
        have TX : ∀ w, Tabs w → _ := fun w T => text_no a0y a0m a0d 24 a0i a0s w T nr
        have R2 : ∀ w, Tabs w → _ := fun w T => clockRight_any a0y a0m a0d 24 a0i a0s w T
        rw [nr] at R2
        clear nr
        go_enter Tryd.func9, Tryd.ntmps9
        have z_c := Lib.hid (Up.size (Up.refl w))
        go_wp2_with fail
        refine (shown_any _ (t.out.up ((Up.refl _).alloc' _))).mono ?_; rintro e w1 ⟨rfl, u1⟩
        have b_c := Lib.hid ((Box.new w a0y a0m a0d a0h a0i a0s 23).up u1)
        have f_c := Lib.hid ((Free.new w _ _).up u1)
        have u := Lib.hid (((Up.refl _).alloc' _).trans u1)
        clear u1
        obtain ⟨c0, c1, c2, c3, c4, c5⟩ := b_c.out
        have l_c := cell_lt c0
        have qc0 := f_c.out.2 0
        have qc1 := f_c.out.2 1
        have qc2 := f_c.out.2 2
        have qc3 := f_c.out.2 3
        have qc4 := f_c.out.2 4
        have qc5 := f_c.out.2 5
        go_wp2_with fail
        clear c0 c1 c2 c3 c4 c5 l_c qc0 qc1 qc2 qc3 qc4 qc5
        refine (RT _ (t.out.up (u.out))).mono ?_; rintro e w2 ⟨rfl, u2⟩
        replace b_c := Lib.hid (b_c.out.up u2)
        replace f_c := Lib.hid (f_c.out.up u2)
        replace u := Lib.hid (u.out.trans u2)
        clear u2
        obtain ⟨c0, c1, c2, c3, c4, c5⟩ := b_c.out
        have l_c := cell_lt c0
        have qc0 := f_c.out.2 0
        have qc1 := f_c.out.2 1
        have qc2 := f_c.out.2 2
        have qc3 := f_c.out.2 3
        have qc4 := f_c.out.2 4
        have qc5 := f_c.out.2 5
        go_wp2_with fail
        clear c0 c1 c2 c3 c4 c5 l_c qc0 qc1 qc2 qc3 qc4 qc5
        refine (SE _ (t.out.up (((u.out.setCell' (p := ⟨w.heap.size, 3, none⟩) (Nat.le_refl _) _).alloc' _).alloc' _))).mono ?_; rintro e w3 ⟨rfl, u3⟩
        replace b_c := Lib.hid ((b_c.out.set3 24).up (((Up.alloc _ _).alloc' _).trans u3))
        replace u := Lib.hid ((((u.out.setCell' (p := ⟨w.heap.size, 3, none⟩) (Nat.le_refl _) _).alloc' _).alloc' _).trans u3)
        clear u3 f_c z_c
        obtain ⟨c0, c1, c2, c3, c4, c5⟩ := b_c.out
        have l_c := cell_lt c0
        go_wp2_with fail
        clear c0 c1 c2 c3 c4 c5 l_c
        refine (R2 _ (t.out.up (u.out))).mono ?_; rintro e w4 ⟨rfl, u4⟩
        replace b_c := Lib.hid (b_c.out.up u4)
        replace u := Lib.hid (u.out.trans u4)
        clear u4
        obtain ⟨c0, c1, c2, c3, c4, c5⟩ := b_c.out
        have l_c := cell_lt c0
        go_wp2_with fail
        clear c0 c1 c2 c3 c4 c5 l_c
        refine (TX _ (t.out.up (u.out))).mono ?_; rintro e w5 ⟨rfl, u5⟩
        replace b_c := Lib.hid (b_c.out.up u5)
        replace u := Lib.hid (u.out.trans u5)
        clear u5
        go_wp2_with fail
        go_ret
        exact ⟨rfl, u.out⟩
      · have nr : rightC a0y a0m a0d (-1) a0i a0s = false := not_right (by omega)
        have SE : ∀ w, Tabs w → _ := fun w T => seconds_no a0y a0m a0d (-1) a0i a0s w T nr
        have TX : ∀ w, Tabs w → _ := fun w T => text_no a0y a0m a0d (-1) a0i a0s w T nr
        have R2 : ∀ w, Tabs w → _ := fun w T => clockRight_any a0y a0m a0d (-1) a0i a0s w T
        rw [nr] at R2
        clear nr
        go_enter Tryd.func9, Tryd.ntmps9
        have z_c := Lib.hid (Up.size (Up.refl w))
        go_wp2_with fail
        refine (shown_any _ (t.out.up ((Up.refl _).alloc' _))).mono ?_; rintro e w1 ⟨rfl, u1⟩
        have b_c := Lib.hid ((Box.new w a0y a0m a0d a0h a0i a0s 23).up u1)
        have f_c := Lib.hid ((Free.new w _ _).up u1)
        have u := Lib.hid (((Up.refl _).alloc' _).trans u1)
        clear u1
        obtain ⟨c0, c1, c2, c3, c4, c5⟩ := b_c.out
        have l_c := cell_lt c0
        have qc0 := f_c.out.2 0
        have qc1 := f_c.out.2 1
        have qc2 := f_c.out.2 2
        have qc3 := f_c.out.2 3
        have qc4 := f_c.out.2 4
        have qc5 := f_c.out.2 5
        go_wp2_with fail
        clear c0 c1 c2 c3 c4 c5 l_c qc0 qc1 qc2 qc3 qc4 qc5
        refine (RT _ (t.out.up (u.out))).mono ?_; rintro e w2 ⟨rfl, u2⟩
        replace b_c := Lib.hid (b_c.out.up u2)
        replace f_c := Lib.hid (f_c.out.up u2)
        replace u := Lib.hid (u.out.trans u2)
        clear u2
        obtain ⟨c0, c1, c2, c3, c4, c5⟩ := b_c.out
        have l_c := cell_lt c0
        have qc0 := f_c.out.2 0
        have qc1 := f_c.out.2 1
        have qc2 := f_c.out.2 2
        have qc3 := f_c.out.2 3
        have qc4 := f_c.out.2 4
        have qc5 := f_c.out.2 5
        go_wp2_with fail
        clear c0 c1 c2 c3 c4 c5 l_c qc0 qc1 qc2 qc3 qc4 qc5
        refine (SE _ (t.out.up (((u.out.setCell' (p := ⟨w.heap.size, 3, none⟩) (Nat.le_refl _) _).alloc' _).alloc' _))).mono ?_; rintro e w3 ⟨rfl, u3⟩
        replace b_c := Lib.hid ((b_c.out.set3 (-1)).up (((Up.alloc _ _).alloc' _).trans u3))
        replace u := Lib.hid ((((u.out.setCell' (p := ⟨w.heap.size, 3, none⟩) (Nat.le_refl _) _).alloc' _).alloc' _).trans u3)
        clear u3 f_c z_c
        obtain ⟨c0, c1, c2, c3, c4, c5⟩ := b_c.out
        have l_c := cell_lt c0
        go_wp2_with fail
        clear c0 c1 c2 c3 c4 c5 l_c
        refine (R2 _ (t.out.up (u.out))).mono ?_; rintro e w4 ⟨rfl, u4⟩
        replace b_c := Lib.hid (b_c.out.up u4)
        replace u := Lib.hid (u.out.trans u4)
        clear u4
        obtain ⟨c0, c1, c2, c3, c4, c5⟩ := b_c.out
        have l_c := cell_lt c0
        go_wp2_with fail
        clear c0 c1 c2 c3 c4 c5 l_c
        refine (TX _ (t.out.up (u.out))).mono ?_; rintro e w5 ⟨rfl, u5⟩
        replace b_c := Lib.hid (b_c.out.up u5)
        replace u := Lib.hid (u.out.trans u5)
        clear u5
        go_wp2_with fail
        go_ret
        exact ⟨rfl, u.out⟩
    · cases a2
      · have nr : rightC a0y a0m a0d a0h 60 a0s = false := not_right (by omega)
        have SE : ∀ w, Tabs w → _ := fun w T => seconds_no a0y a0m a0d a0h 60 a0s w T nr
        have TX : ∀ w, Tabs w → _ := fun w T => text_no a0y a0m a0d a0h 60 a0s w T nr
        have R2 : ∀ w, Tabs w → _ := fun w T => clockRight_any a0y a0m a0d a0h 60 a0s w T
        rw [nr] at R2
        clear nr
        go_enter Tryd.func9, Tryd.ntmps9
        have z_c := Lib.hid (Up.size (Up.refl w))
        go_wp2_with fail
        refine (shown_any _ (t.out.up ((Up.refl _).alloc' _))).mono ?_; rintro e w1 ⟨rfl, u1⟩
        have b_c := Lib.hid ((Box.new w a0y a0m a0d a0h a0i a0s 23).up u1)
        have f_c := Lib.hid ((Free.new w _ _).up u1)
        have u := Lib.hid (((Up.refl _).alloc' _).trans u1)
        clear u1
        obtain ⟨c0, c1, c2, c3, c4, c5⟩ := b_c.out
        have l_c := cell_lt c0
        have qc0 := f_c.out.2 0
        have qc1 := f_c.out.2 1
        have qc2 := f_c.out.2 2
        have qc3 := f_c.out.2 3
        have qc4 := f_c.out.2 4
        have qc5 := f_c.out.2 5
        go_wp2_with fail
        clear c0 c1 c2 c3 c4 c5 l_c qc0 qc1 qc2 qc3 qc4 qc5
        refine (RT _ (t.out.up (u.out))).mono ?_; rintro e w2 ⟨rfl, u2⟩
        replace b_c := Lib.hid (b_c.out.up u2)
        replace f_c := Lib.hid (f_c.out.up u2)
        replace u := Lib.hid (u.out.trans u2)
        clear u2
        obtain ⟨c0, c1, c2, c3, c4, c5⟩ := b_c.out
        have l_c := cell_lt c0
        have qc0 := f_c.out.2 0
        have qc1 := f_c.out.2 1
        have qc2 := f_c.out.2 2
        have qc3 := f_c.out.2 3
        have qc4 := f_c.out.2 4
        have qc5 := f_c.out.2 5
        go_wp2_with fail
        clear c0 c1 c2 c3 c4 c5 l_c qc0 qc1 qc2 qc3 qc4 qc5
        refine (SE _ (t.out.up (((u.out.setCell' (p := ⟨w.heap.size, 4, none⟩) (Nat.le_refl _) _).alloc' _).alloc' _))).mono ?_; rintro e w3 ⟨rfl, u3⟩
        replace b_c := Lib.hid ((b_c.out.set4 60).up (((Up.alloc _ _).alloc' _).trans u3))
        replace u := Lib.hid ((((u.out.setCell' (p := ⟨w.heap.size, 4, none⟩) (Nat.le_refl _) _).alloc' _).alloc' _).trans u3)
        clear u3 f_c z_c
        obtain ⟨c0, c1, c2, c3, c4, c5⟩ := b_c.out
        have l_c := cell_lt c0
        go_wp2_with fail
        clear c0 c1 c2 c3 c4 c5 l_c
        refine (R2 _ (t.out.up (u.out))).mono ?_; rintro e w4 ⟨rfl, u4⟩
        replace b_c := Lib.hid (b_c.out.up u4)
        replace u := Lib.hid (u.out.trans u4)
        clear u4
        obtain ⟨c0, c1, c2, c3, c4, c5⟩ := b_c.out
        have l_c := cell_lt c0
        go_wp2_with fail
        clear c0 c1 c2 c3 c4 c5 l_c
        refine (TX _ (t.out.up (u.out))).mono ?_; rintro e w5 ⟨rfl, u5⟩
        replace b_c := Lib.hid (b_c.out.up u5)
        replace u := Lib.hid (u.out.trans u5)
        clear u5
        go_wp2_with fail
        go_ret
        exact ⟨rfl, u.out⟩
      · have nr : rightC a0y a0m a0d a0h (-1) a0s = false := not_right (by omega)
        have SE : ∀ w, Tabs w → _ := fun w T => seconds_no a0y a0m a0d a0h (-1) a0s w T nr
        have TX : ∀ w, Tabs w → _ := fun w T => text_no a0y a0m a0d a0h (-1) a0s w T nr
        have R2 : ∀ w, Tabs w → _ := fun w T => clockRight_any a0y a0m a0d a0h (-1) a0s w T
        rw [nr] at R2
        clear nr
        go_enter Tryd.func9, Tryd.ntmps9
        have z_c := Lib.hid (Up.size (Up.refl w))
        go_wp2_with fail
        refine (shown_any _ (t.out.up ((Up.refl _).alloc' _))).mono ?_; rintro e w1 ⟨rfl, u1⟩
        have b_c := Lib.hid ((Box.new w a0y a0m a0d a0h a0i a0s 23).up u1)
        have f_c := Lib.hid ((Free.new w _ _).up u1)
        have u := Lib.hid (((Up.refl _).alloc' _).trans u1)
        clear u1
        obtain ⟨c0, c1, c2, c3, c4, c5⟩ := b_c.out
        have l_c := cell_lt c0
        have qc0 := f_c.out.2 0
        have qc1 := f_c.out.2 1
        have qc2 := f_c.out.2 2
        have qc3 := f_c.out.2 3
        have qc4 := f_c.out.2 4
        have qc5 := f_c.out.2 5
        go_wp2_with fail
        clear c0 c1 c2 c3 c4 c5 l_c qc0 qc1 qc2 qc3 qc4 qc5
        refine (RT _ (t.out.up (u.out))).mono ?_; rintro e w2 ⟨rfl, u2⟩
        replace b_c := Lib.hid (b_c.out.up u2)
        replace f_c := Lib.hid (f_c.out.up u2)
        replace u := Lib.hid (u.out.trans u2)
        clear u2
        obtain ⟨c0, c1, c2, c3, c4, c5⟩ := b_c.out
        have l_c := cell_lt c0
        have qc0 := f_c.out.2 0
        have qc1 := f_c.out.2 1
        have qc2 := f_c.out.2 2
        have qc3 := f_c.out.2 3
        have qc4 := f_c.out.2 4
        have qc5 := f_c.out.2 5
        go_wp2_with fail
        clear c0 c1 c2 c3 c4 c5 l_c qc0 qc1 qc2 qc3 qc4 qc5
        refine (SE _ (t.out.up (((u.out.setCell' (p := ⟨w.heap.size, 4, none⟩) (Nat.le_refl _) _).alloc' _).alloc' _))).mono ?_; rintro e w3 ⟨rfl, u3⟩
        replace b_c := Lib.hid ((b_c.out.set4 (-1)).up (((Up.alloc _ _).alloc' _).trans u3))
        replace u := Lib.hid ((((u.out.setCell' (p := ⟨w.heap.size, 4, none⟩) (Nat.le_refl _) _).alloc' _).alloc' _).trans u3)
        clear u3 f_c z_c
        obtain ⟨c0, c1, c2, c3, c4, c5⟩ := b_c.out
        have l_c := cell_lt c0
        go_wp2_with fail
        clear c0 c1 c2 c3 c4 c5 l_c
        refine (R2 _ (t.out.up (u.out))).mono ?_; rintro e w4 ⟨rfl, u4⟩
        replace b_c := Lib.hid (b_c.out.up u4)
        replace u := Lib.hid (u.out.trans u4)
        clear u4
        obtain ⟨c0, c1, c2, c3, c4, c5⟩ := b_c.out
        have l_c := cell_lt c0
        go_wp2_with fail
        clear c0 c1 c2 c3 c4 c5 l_c
        refine (TX _ (t.out.up (u.out))).mono ?_; rintro e w5 ⟨rfl, u5⟩
        replace b_c := Lib.hid (b_c.out.up u5)
        replace u := Lib.hid (u.out.trans u5)
        clear u5
        go_wp2_with fail
        go_ret
        exact ⟨rfl, u.out⟩
    · cases a2
      · have nr : rightC a0y a0m a0d a0h a0i 60 = false := not_right (by omega)
        have SE : ∀ w, Tabs w → _ := fun w T => seconds_no a0y a0m a0d a0h a0i 60 w T nr
        have TX : ∀ w, Tabs w → _ := fun w T => text_no a0y a0m a0d a0h a0i 60 w T nr
        have R2 : ∀ w, Tabs w → _ := fun w T => clockRight_any a0y a0m a0d a0h a0i 60 w T
        rw [nr] at R2
        clear nr
        go_enter Tryd.func9, Tryd.ntmps9
        have z_c := Lib.hid (Up.size (Up.refl w))
        go_wp2_with fail
        refine (shown_any _ (t.out.up ((Up.refl _).alloc' _))).mono ?_; rintro e w1 ⟨rfl, u1⟩
        have b_c := Lib.hid ((Box.new w a0y a0m a0d a0h a0i a0s 23).up u1)
        have f_c := Lib.hid ((Free.new w _ _).up u1)
        have u := Lib.hid (((Up.refl _).alloc' _).trans u1)
        clear u1
        obtain ⟨c0, c1, c2, c3, c4, c5⟩ := b_c.out
        have l_c := cell_lt c0
        have qc0 := f_c.out.2 0
        have qc1 := f_c.out.2 1
        have qc2 := f_c.out.2 2
        have qc3 := f_c.out.2 3
        have qc4 := f_c.out.2 4
        have qc5 := f_c.out.2 5
        go_wp2_with fail
        clear c0 c1 c2 c3 c4 c5 l_c qc0 qc1 qc2 qc3 qc4 qc5
        refine (RT _ (t.out.up (u.out))).mono ?_; rintro e w2 ⟨rfl, u2⟩
        replace b_c := Lib.hid (b_c.out.up u2)
        replace f_c := Lib.hid (f_c.out.up u2)
        replace u := Lib.hid (u.out.trans u2)
        clear u2
        obtain ⟨c0, c1, c2, c3, c4, c5⟩ := b_c.out
        have l_c := cell_lt c0
        have qc0 := f_c.out.2 0
        have qc1 := f_c.out.2 1
        have qc2 := f_c.out.2 2
        have qc3 := f_c.out.2 3
        have qc4 := f_c.out.2 4
        have qc5 := f_c.out.2 5
        go_wp2_with fail
        clear c0 c1 c2 c3 c4 c5 l_c qc0 qc1 qc2 qc3 qc4 qc5
        refine (SE _ (t.out.up (((u.out.setCell' (p := ⟨w.heap.size, 5, none⟩) (Nat.le_refl _) _).alloc' _).alloc' _))).mono ?_; rintro e w3 ⟨rfl, u3⟩
        replace b_c := Lib.hid ((b_c.out.set5 60).up (((Up.alloc _ _).alloc' _).trans u3))
        replace u := Lib.hid ((((u.out.setCell' (p := ⟨w.heap.size, 5, none⟩) (Nat.le_refl _) _).alloc' _).alloc' _).trans u3)
        clear u3 f_c z_c
        obtain ⟨c0, c1, c2, c3, c4, c5⟩ := b_c.out
        have l_c := cell_lt c0
        go_wp2_with fail
        clear c0 c1 c2 c3 c4 c5 l_c
        refine (R2 _ (t.out.up (u.out))).mono ?_; rintro e w4 ⟨rfl, u4⟩
        replace b_c := Lib.hid (b_c.out.up u4)
        replace u := Lib.hid (u.out.trans u4)
        clear u4
        obtain ⟨c0, c1, c2, c3, c4, c5⟩ := b_c.out
        have l_c := cell_lt c0
        go_wp2_with fail
        clear c0 c1 c2 c3 c4 c5 l_c
        refine (TX _ (t.out.up (u.out))).mono ?_; rintro e w5 ⟨rfl, u5⟩
        replace b_c := Lib.hid (b_c.out.up u5)
        replace u := Lib.hid (u.out.trans u5)
        clear u5
        go_wp2_with fail
        go_ret
        exact ⟨rfl, u.out⟩
      · have nr : rightC a0y a0m a0d a0h a0i (-1) = false := not_right (by omega)
        have SE : ∀ w, Tabs w → _ := fun w T => seconds_no a0y a0m a0d a0h a0i (-1) w T nr
        have TX : ∀ w, Tabs w → _ := fun w T => text_no a0y a0m a0d a0h a0i (-1) w T nr
        have R2 : ∀ w, Tabs w → _ := fun w T => clockRight_any a0y a0m a0d a0h a0i (-1) w T
        rw [nr] at R2
        clear nr
        go_enter Tryd.func9, Tryd.ntmps9
        have z_c := Lib.hid (Up.size (Up.refl w))
        go_wp2_with fail
        refine (shown_any _ (t.out.up ((Up.refl _).alloc' _))).mono ?_; rintro e w1 ⟨rfl, u1⟩
        have b_c := Lib.hid ((Box.new w a0y a0m a0d a0h a0i a0s 23).up u1)
        have f_c := Lib.hid ((Free.new w _ _).up u1)
        have u := Lib.hid (((Up.refl _).alloc' _).trans u1)
        clear u1
        obtain ⟨c0, c1, c2, c3, c4, c5⟩ := b_c.out
        have l_c := cell_lt c0
        have qc0 := f_c.out.2 0
        have qc1 := f_c.out.2 1
        have qc2 := f_c.out.2 2
        have qc3 := f_c.out.2 3
        have qc4 := f_c.out.2 4
        have qc5 := f_c.out.2 5
        go_wp2_with fail
        clear c0 c1 c2 c3 c4 c5 l_c qc0 qc1 qc2 qc3 qc4 qc5
        refine (RT _ (t.out.up (u.out))).mono ?_; rintro e w2 ⟨rfl, u2⟩
        replace b_c := Lib.hid (b_c.out.up u2)
        replace f_c := Lib.hid (f_c.out.up u2)
        replace u := Lib.hid (u.out.trans u2)
        clear u2
        obtain ⟨c0, c1, c2, c3, c4, c5⟩ := b_c.out
        have l_c := cell_lt c0
        have qc0 := f_c.out.2 0
        have qc1 := f_c.out.2 1
        have qc2 := f_c.out.2 2
        have qc3 := f_c.out.2 3
        have qc4 := f_c.out.2 4
        have qc5 := f_c.out.2 5
        go_wp2_with fail
        clear c0 c1 c2 c3 c4 c5 l_c qc0 qc1 qc2 qc3 qc4 qc5
        refine (SE _ (t.out.up (((u.out.setCell' (p := ⟨w.heap.size, 5, none⟩) (Nat.le_refl _) _).alloc' _).alloc' _))).mono ?_; rintro e w3 ⟨rfl, u3⟩
        replace b_c := Lib.hid ((b_c.out.set5 (-1)).up (((Up.alloc _ _).alloc' _).trans u3))
        replace u := Lib.hid ((((u.out.setCell' (p := ⟨w.heap.size, 5, none⟩) (Nat.le_refl _) _).alloc' _).alloc' _).trans u3)
        clear u3 f_c z_c
        obtain ⟨c0, c1, c2, c3, c4, c5⟩ := b_c.out
        have l_c := cell_lt c0
        go_wp2_with fail
        clear c0 c1 c2 c3 c4 c5 l_c
        refine (R2 _ (t.out.up (u.out))).mono ?_; rintro e w4 ⟨rfl, u4⟩
        replace b_c := Lib.hid (b_c.out.up u4)
        replace u := Lib.hid (u.out.trans u4)
        clear u4
        obtain ⟨c0, c1, c2, c3, c4, c5⟩ := b_c.out
        have l_c := cell_lt c0
        go_wp2_with fail
        clear c0 c1 c2 c3 c4 c5 l_c
        refine (TX _ (t.out.up (u.out))).mono ?_; rintro e w5 ⟨rfl, u5⟩
        replace b_c := Lib.hid (b_c.out.up u5)
        replace u := Lib.hid (u.out.trans u5)
        clear u5
        go_wp2_with fail
        go_ret
        exact ⟨rfl, u.out⟩

set_option maxRecDepth 100000 in
theorem lifted (os : Os) (started : os.Started) (H : Type) (enc : TypeId × Value → H) :
    ReturnsInHanded {} Tryd.checked os 9 .any (fun w args => (Rows.clockWrongSpec.pre enc Tryd.prog Tryd.f9 [] false w args ∧ laidMetH Tryd.prog laidD w) ∧ sizedMet enc Tryd.prog Tryd.f9 (OpenSpec.ofChange Rows.clockWrongSpec) false w args) (Rows.clockWrongSpec.post enc Tryd.prog Tryd.f9 false true false false) := by
  refine returnsInHanded_of_change_and (C := Tryd.checked) (X := fun w _ => laidMetH Tryd.prog laidD w) (fun _ _ _ hh h => h.of_heap hh) own started (by kernel_rfl) Tryd.func9
    (ChangeSpec.witness_shaped (enc := enc) (C := Tryd.checked) (os := os) (X := fun w _ => laidMetH Tryd.prog laidD w) false (World.doorLaid Tryd.prog 400 os) #[.agg #[.int .i64 0, .int .i64 0, .int .i64 0, .int .i64 0, .int .i64 0, .int .i64 0], .int .i64 0, .bool false] 8 rfl (World.shaped_of_RefB (by kernel_rfl) (by kernel_rfl)) (by kernel_rfl) (by kernel_rfl) (by kernel_rfl) (door_metD os _)) ?_
  intro W base args ds gs before hval0 hW _ _ hL _
  have hval : ∀ (j : Nat) t v, Tryd.f9.params[j]? = some t → args[j]? = some v → Value.okWide Tryd.prog W .any base t v := hval0
  have hW' := hW
  obtain ⟨p, q, hA0, hV, rfl, hfz, hnd⟩ := hW
  have hA : DataW.TrodAll enc Tryd.prog W 0 (fun _ => true) true Tryd.f9.params.toList args.toList ds p := hA0
  rw [Tryd.params9] at hA hval
  obtain ⟨v0, vs0, d0, ds0, p0, q0, hargs, rfl, rfl, h0, r0⟩ := trodAll_cons hA
  obtain ⟨v1, vs1, d1, ds1, p1, q1, rfl, rfl, rfl, h1, r1⟩ := trodAll_cons r0
  obtain ⟨v2, vs2, d2, ds2, p2, q2, rfl, rfl, rfl, h2, r2⟩ := trodAll_cons r1
  obtain ⟨rfl, rfl, rfl⟩ := trodAll_nil r2
  obtain rfl : args = #[v0, v1, v2] := by cases args; simp_all
  obtain ⟨rfl, rfl⟩ := trodVars_none hV
  obtain ⟨a0y, a0m, a0d, a0h, a0i, a0s, rfl, rfl, rfl, w0y, w0m, w0d, w0h, w0i, w0s⟩ := open_civ (hval 0 23 v0 rfl rfl) h0
  obtain ⟨a1, rfl, rfl, rfl, w1⟩ := open_int Tryd.underlying3 (hval 1 3 v1 rfl rfl) h1
  obtain ⟨a2, rfl, rfl, rfl⟩ := open_bool Tryd.underlying4 (hval 2 4 v2 rfl rfl) h2
  clear hA0 hval0
  simp only [List.append_nil] at hW'
  refine (walk a0y a0m a0d a0h a0i a0s a1 a2 w0y w0m w0d w0h w0i w0s w1 W (tabs_of_laid hL)).mono fun e W' ⟨he, hg⟩ => ?_
  subst he
  exact ⟨_, rfl, post_flat hW' (fun _ _ _ => (trodAll_cons_mk (shut_bool Tryd.underlying4 _) trodAll_mk0)) (fun sp => (trodAll_cons_mk (shut_civ w0y w0m w0d w0h w0i w0s) (trodAll_cons_mk (shut_int Tryd.underlying3 w1) (trodAll_cons_mk (shut_bool Tryd.underlying4 _) trodAll_mk0)))) (fun _ => rfl)
    hg (ok_one (by kernel_rfl) rfl (okWide_bool_mk Tryd.underlying4 _))⟩

theorem over : Rows.clockWrongRow.holds Tryd.pinned (OpenSpec.ofChange Rows.clockWrongSpec) :=
  OpenClaim.holds_of_wide 9 Tryd.f9 rfl rfl rfl rfl rfl rfl rfl ⟨rfl, rfl, rfl, rfl, rfl⟩ rfl rfl rfl rfl rfl (by kernel_rfl) Tryd.func9 (by kernel_rfl)
    (of_decide_eq_true (by kernel_rfl)) (by unfold Func.isWrapper; first | (rw [if_pos (by decide +kernel)]; kernel_rfl) | (rw [if_neg (by decide +kernel)]; exact ⟨rfl, rfl⟩))
    (fun os started H enc _ => lifted os started H enc)

set_option maxRecDepth 100000 in
theorem proved : Rows.ClockWrongCardSaid :=
  Claim7.holds_tied_plain_at .later [] [.data, .data, .data, .data] true _ false
    over (fun _ h => by cases h) (by kernel_rfl) (fun _ h => by cases h) clockWrong_row_tie rfl ⟨rfl, rfl⟩ (by kernel_rfl) rfl
    (fun f fn hf hfn => by
      obtain rfl : f = 9 := Option.some.inj ((show Tryd.prog.funcNamed "longcase/longcaselaw03.ClockWrong" = some 9 by kernel_rfl).symm.trans hf) |>.symm
      obtain rfl : fn = Tryd.f9 := (Option.some.inj (Tryd.func9.symm.trans hfn)).symm
      exact ⟨by kernel_rfl, fun j t ht => by
        rw [Tryd.params9] at ht
        have hm : t ∈ [23, 3, 4] := by simpa using Array.mem_of_getElem? ht
        have hall : ([23, 3, 4].all fun u => !Tryd.prog.wantsStandIn u) = true := by kernel_rfl
        exact (show Tryd.prog.wantsStandIn t = false by simpa using List.all_eq_true.1 hall t hm)⟩)
    (by kernel_rfl)
end Go.Proofs.YtdmobmblkbmkhaaDoor.clockWrong
