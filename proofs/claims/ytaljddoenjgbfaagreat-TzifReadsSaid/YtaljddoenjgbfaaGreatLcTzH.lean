/-
  The program's file: readHeader.
-/
import Derived.Test.YtaljddoenjgbfaaGreatLcTzA
import Derived.Test.YtaljddoenjgbfaaGreatLcMr
import Derived.Test.YtaljddoenjgbfaaGreatLcMh
namespace Go.Proofs.YtaljddoenjgbfaaGreat
open Go.ChangeShapes Go.WideShapes Go.ChangeAt Go.RowKit Lc

set_option maxRecDepth 100000 in
/-- From a place on. -/
theorem Sb.from {w : World} {A : Option Addr} {l : List UInt8} {c : Nat} (hc : l.length ≤ c) (hcm : c ≤ maxLen) (hr : Rd w A l) (k : Nat) (hk : k ≤ l.length) : Sb w (.slice (if c = k then A else Option.map (fun x => x.add k) A) (l.length - k) (c - k)) (l.drop k) := by
  refine ⟨_, c - k, by rw [List.length_drop], by rw [List.length_drop]; omega, by unfold maxLen at hcm ⊢; omega, ?_⟩
  split
  · rw [List.drop_eq_nil_of_le (by omega)]; exact Rd.nil _ _
  · exact hr.cut k
set_option maxRecDepth 100000 in
theorem errH_no {l : List UInt8} (h : errH l ≠ 0) : decH l = hv 0 0 0 0 0 0 0 := by
  unfold errH at h
  unfold decH
  cases g : isH l
  · rfl
  · rw [g] at h
    unfold isH at g
    simp only [Bool.and_eq_true, decide_eq_true_eq] at g
    exact absurd (by rw [if_neg (by omega)]; rfl) h
set_option maxRecDepth 100000 in
theorem errH_yes {l : List UInt8} (h : errH l = 0) : isH l = true := by
  unfold errH at h
  split at h
  · omega
  · cases g : isH l
    · rw [g] at h; simp at h
    · rfl
set_option maxRecDepth 100000 in
theorem isH_err {l : List UInt8} (h : isH l = true) : errH l = 0 ∧ 44 ≤ l.length ∧ rawB l = true := by
  have g := h
  unfold isH at g
  simp only [Bool.and_eq_true, decide_eq_true_eq] at g
  refine ⟨?_, g.1.1, g.2⟩
  unfold errH; rw [if_neg (by omega), h]; rfl

set_option maxRecDepth 100000 in
set_option maxHeartbeats 2000000 in
theorem rheader_no (v : Value) (l : List UInt8) (w : World) (hs : Sb w v l) (h : errH l ≠ 0) :
    Calls Tryz.prog 51 #[v] w fun e w' => e = .panicked (pnc (errH l)) ∧ Up w w' := by
  obtain ⟨A, c, rfl, hc, hcm, hr⟩ := hs
  have U0 := Lib.hid (Up.alloc w (.cells #[.int .i64 0, .int .i64 0, .int .i64 0, .int .i64 0, .int .i64 0, .int .i64 0, .int .i64 0] 90))
  have D := Lib.hid (decode_any A l c _ hc hcm (hr.up U0.out))
  have R := Lib.hid (fun w => refuse_yes (errH l) w)
  rw [errH_no h] at D
  have hx : (errH l != 0) = true := by simpa using h
  generalize errH l = n at *
  generalize l.length = m at *
  clear hr h
  unfold hv at D
  go_enter Tryz.func51, Tryz.ntmps51
  go_wp2_with fail
  refine D.out.mono ?_; rintro e w1 ⟨rfl, u1⟩
  go_wp2_with fail
  refine (R.out _).mono ?_; rintro e w2 ⟨rfl, rfl⟩
  go_wp2_with fail
  exact ⟨rfl, rfl, (U0.out.trans u1).alloc' _⟩

set_option maxRecDepth 100000 in
set_option maxHeartbeats 2000000 in
theorem rheader_yes (v : Value) (l : List UInt8) (w : World) (hs : Sb w v l) (h : isH l = true) :
    Calls Tryz.prog 51 #[v] w fun e w' => ∃ v', e = .returned (.tuple #[hv (versI (l.getD 4 0)) (cntI l 0) (cntI l 1) (cntI l 2) (cntI l 3) (cntI l 4) (cntI l 5), v']) ∧ Sb w v' (l.drop 44) ∧ Up w w' := by
  obtain ⟨A, c, rfl, hc, hcm, hr⟩ := hs
  have U0 := Lib.hid (Up.alloc w (.cells #[.int .i64 0, .int .i64 0, .int .i64 0, .int .i64 0, .int .i64 0, .int .i64 0, .int .i64 0] 90))
  have B0 := Lib.hid (HBox.new w 0 0 0 0 0 0 0 90)
  have F0 := Lib.hid (Free.new w #[.int .i64 0, .int .i64 0, .int .i64 0, .int .i64 0, .int .i64 0, .int .i64 0, .int .i64 0] 90)
  have D := Lib.hid (decode_any A l c _ hc hcm (hr.up U0.out))
  have R := Lib.hid (fun w => refuse_no (errH l) w)
  obtain ⟨hz, h44, _⟩ := isH_err h
  have S := Lib.hid (Sb.from hc hcm hr 44 h44)
  rw [show decH l = hv (versI (l.getD 4 0)) (cntI l 0) (cntI l 1) (cntI l 2) (cntI l 3) (cntI l 4) (cntI l 5) by unfold decH; rw [h]; rfl, hz] at D
  rw [hz] at R
  generalize versI (l.getD 4 0) = n0 at *
  generalize cntI l 0 = n1 at *
  generalize cntI l 1 = n2 at *
  generalize cntI l 2 = n3 at *
  generalize cntI l 3 = n4 at *
  generalize cntI l 4 = n5 at *
  generalize cntI l 5 = n6 at *
  have hcm' := hcm
  unfold maxLen at hcm'
  have x1 : (44 : Int) ≤ (l.length : Int) := by omega
  have x2 : (l.length : Int) ≤ (c : Int) := by omega
  generalize l.length = m at *
  clear hr h hz
  unfold hv at D
  by_cases hca : c = 44
  · rw [if_pos hca] at S; subst hca
    rw [Nat.sub_self, show m - 44 = 0 by omega] at S
    go_enter Tryz.func51, Tryz.ntmps51
    go_wp2_with fail
    refine D.out.mono ?_; rintro e w1 ⟨rfl, u1⟩
    go_wp2_with fail
    refine (R.out _).mono ?_; rintro e w2 ⟨rfl, rfl⟩
    have B1 := Lib.hid (HBox.new w1 n0 n1 n2 n3 n4 n5 n6 90)
    have U1 := Lib.hid ((U0.out.trans u1).alloc' (.cells #[.int .i64 n0, .int .i64 n1, .int .i64 n2, .int .i64 n3, .int .i64 n4, .int .i64 n5, .int .i64 n6] 90))
    have B2 := Lib.hid ((B0.out.up u1).up (Up.alloc w1 (.cells #[.int .i64 n0, .int .i64 n1, .int .i64 n2, .int .i64 n3, .int .i64 n4, .int .i64 n5, .int .i64 n6] 90)))
    have F2 := Lib.hid ((F0.out.up u1).up (Up.alloc w1 (.cells #[.int .i64 n0, .int .i64 n1, .int .i64 n2, .int .i64 n3, .int .i64 n4, .int .i64 n5, .int .i64 n6] 90)))
    go_wp2_with fail
    have Z : (w1.alloc (.cells #[.int .i64 n0, .int .i64 n1, .int .i64 n2, .int .i64 n3, .int .i64 n4, .int .i64 n5, .int .i64 n6] 90)).heap.size = w1.heap.size + 1 := World.size_alloc _ _
    generalize hV : (w1.alloc (.cells #[.int .i64 n0, .int .i64 n1, .int .i64 n2, .int .i64 n3, .int .i64 n4, .int .i64 n5, .int .i64 n6] 90)) = V at *
    clear hV
    obtain ⟨a0, a1, a2, a3, a4, a5, a6⟩ := B2.out
    obtain ⟨b0, b1, b2, b3, b4, b5, b6⟩ := B1.out
    obtain ⟨f, f'⟩ := F2.out
    have g0 := f' 0; have g1 := f' 1; have g2 := f' 2; have g3 := f' 3; have g4 := f' 4; have g5 := f' 5; have g6 := f' 6
    clear f' B2 B1 F2 F0 B0 R D U0
    have hne : ¬ w1.heap.size = w.heap.size := fun e => by have := u1.size; rw [World.size_alloc] at this; omega
    clear u1
    go_region
    have US := Lib.hid ((Up.seven U1.out (Nat.le_refl _) (.int .i64 n0) (.int .i64 n1) (.int .i64 n2) (.int .i64 n3) (.int .i64 n4) (.int .i64 n5) (.int .i64 n6)).drewN' 1)
    generalize hsv : Value.slice A 0 0 = sv at S ⊢
    clear hsv
    go_wp2_with fail
    refine bodyPost_ret (v := .tuple #[hv n0 n1 n2 n3 n4 n5 n6, sv]) (by simp [results, Tryz.results51, go_sem, hv, a0, a1, a2, a3, a4, a5, a6]) rfl ?_
    exact ⟨_, rfl, S.out, US.out⟩
  · rw [if_neg hca] at S
    simp [Addr.add] at S
    go_enter Tryz.func51, Tryz.ntmps51
    go_wp2_with fail
    refine D.out.mono ?_; rintro e w1 ⟨rfl, u1⟩
    go_wp2_with fail
    refine (R.out _).mono ?_; rintro e w2 ⟨rfl, rfl⟩
    have B1 := Lib.hid (HBox.new w1 n0 n1 n2 n3 n4 n5 n6 90)
    have U1 := Lib.hid ((U0.out.trans u1).alloc' (.cells #[.int .i64 n0, .int .i64 n1, .int .i64 n2, .int .i64 n3, .int .i64 n4, .int .i64 n5, .int .i64 n6] 90))
    have B2 := Lib.hid ((B0.out.up u1).up (Up.alloc w1 (.cells #[.int .i64 n0, .int .i64 n1, .int .i64 n2, .int .i64 n3, .int .i64 n4, .int .i64 n5, .int .i64 n6] 90)))
    have F2 := Lib.hid ((F0.out.up u1).up (Up.alloc w1 (.cells #[.int .i64 n0, .int .i64 n1, .int .i64 n2, .int .i64 n3, .int .i64 n4, .int .i64 n5, .int .i64 n6] 90)))
    go_wp2_with fail
    have Z : (w1.alloc (.cells #[.int .i64 n0, .int .i64 n1, .int .i64 n2, .int .i64 n3, .int .i64 n4, .int .i64 n5, .int .i64 n6] 90)).heap.size = w1.heap.size + 1 := World.size_alloc _ _
    generalize hV : (w1.alloc (.cells #[.int .i64 n0, .int .i64 n1, .int .i64 n2, .int .i64 n3, .int .i64 n4, .int .i64 n5, .int .i64 n6] 90)) = V at *
    clear hV
    obtain ⟨a0, a1, a2, a3, a4, a5, a6⟩ := B2.out
    obtain ⟨b0, b1, b2, b3, b4, b5, b6⟩ := B1.out
    obtain ⟨f, f'⟩ := F2.out
    have g0 := f' 0; have g1 := f' 1; have g2 := f' 2; have g3 := f' 3; have g4 := f' 4; have g5 := f' 5; have g6 := f' 6
    clear f' B2 B1 F2 F0 B0 R D U0
    have hne : ¬ w1.heap.size = w.heap.size := fun e => by have := u1.size; rw [World.size_alloc] at this; omega
    clear u1
    go_region
    have US := Lib.hid ((Up.seven U1.out (Nat.le_refl _) (.int .i64 n0) (.int .i64 n1) (.int .i64 n2) (.int .i64 n3) (.int .i64 n4) (.int .i64 n5) (.int .i64 n6)).drewN' 1)
    generalize hsv : Value.slice (Option.map _ A) (m - 44) (c - 44) = sv at S ⊢
    clear hsv
    go_wp2_with fail
    refine bodyPost_ret (v := .tuple #[hv n0 n1 n2 n3 n4 n5 n6, sv]) (by simp [results, Tryz.results51, go_sem, hv, a0, a1, a2, a3, a4, a5, a6]) rfl ?_
    exact ⟨_, rfl, S.out, US.out⟩

end Go.Proofs.YtaljddoenjgbfaaGreat
