/-
  The program's file: Right.
-/
import Derived.Test.YtaljddoenjgbfaaGreatLcTzE
import Derived.BigQuiet
namespace Go.Proofs.YtaljddoenjgbfaaGreat
open Go.ChangeShapes Go.WideShapes Go.ChangeAt Go.RowKit Go.Sort Lc

/-- A right file. -/
def rightF (f : Fil) : Bool := decide (1 ≤ f.ver) && decide (f.ver ≤ 4) && rightB f.blk (mz f.ver) f.ver && rfB f.foot f.ver
set_option maxRecDepth 100000 in
set_option maxHeartbeats 4000000 in
theorem tright_any (v : Value) (f : Fil) (w : World) (hs : FlR w v f) :
    Calls Tryz.prog 10 #[v] w fun e w' => e = .returned (.bool (rightF f)) ∧ Up w w' := by
  obtain ⟨A0, n0, c0, A1, n1, c1, A2, n2, c2, A3, n3, c3, A4, n4, c4, rfl, hb⟩ := hs.form
  have UA := Lib.hid (Up.alloc w (.cells #[.int .i64 f.ver, .slice A0 n0 c0, .slice A1 n1 c1, .slice A2 n2 c2, .slice A3 n3 c3, .slice A4 n4 c4, .string f.foot] 29))
  have X0 := Lib.hid (Bx7.new w (.int .i64 f.ver) (.slice A0 n0 c0) (.slice A1 n1 c1) (.slice A2 n2 c2) (.slice A3 n3 c3) (.slice A4 n4 c4) (.string f.foot) 29)
  have E := Lib.hid (show rightF f = (decide (1 ≤ f.ver) && decide (f.ver ≤ 4) && rightB f.blk (mz f.ver) f.ver && rfB f.foot f.ver) from rfl)
  have K0 := Lib.hid (fun W => msize_any f.ver W)
  have K1 := Lib.hid (fun W (u : Up w W) => bright_any _ f.blk (mz f.ver) f.ver W (hb.up u))
  have K2 := Lib.hid (fun W => rightf_any f.foot f.ver W)
  generalize rightF f = r at *
  generalize mz f.ver = z at *
  generalize rightB f.blk z f.ver = r1 at *
  generalize rfB f.foot f.ver = r2 at *
  generalize f.ver = ver at *
  generalize f.foot = ft at *
  clear hb hs
  go_enter Tryz.func10, Tryz.ntmps10
  go_wp2_with fail
  have lw : w.heap.size < (w.alloc (.cells #[.int .i64 ver, .slice A0 n0 c0, .slice A1 n1 c1, .slice A2 n2 c2, .slice A3 n3 c3, .slice A4 n4 c4, .string ft] 29)).heap.size := by simp
  generalize w.alloc (.cells #[.int .i64 ver, .slice A0 n0 c0, .slice A1 n1 c1, .slice A2 n2 c2, .slice A3 n3 c3, .slice A4 n4 c4, .string ft] 29) = W at *
  generalize w.heap.size = B at *
  obtain ⟨x0, x1, x2, x3, x4, x5, x6⟩ := X0.out
  clear X0
  by_cases h1 : 1 ≤ ver
  · by_cases h4 : ver ≤ 4
    · have q1 : decide (1 ≤ ver) = true := decide_eq_true h1
      have q4 : decide (ver ≤ 4) = true := decide_eq_true h4
      have Q0 := quiet_up (w := W) (fun V _ => same_up (K0.out V))
      have Q1 := quiet_up (w := W) (fun V u => K1.out V (UA.out.trans u))
      have Q2 := quiet_up (w := W) (fun V _ => same_up (K2.out V))
      have k0 := cell_regrown x0; have k1 := cell_regrown x1; have k2 := cell_regrown x2; have k3 := cell_regrown x3; have k4 := cell_regrown x4; have k5 := cell_regrown x5; have k6 := cell_regrown x6
      cases r1
      · refine wp_region_quiet_below (by kernel_rfl) (by kernel_rfl) ?_
        repeat (quiet_step (first | (with_reducible exact Q0 _ _) | (with_reducible exact Q1 _ _) | (with_reducible exact Q2 _ _)))
        refine wpQuiet_nil ?_
        rintro _ ⟨⟨dq, osq⟩, rfl⟩
        have UF := Lib.hid (UA.out.trans (up_grown W dq osq))
        clear k0 k1 k2 k3 k4 k5 k6 Q0 Q1 Q2
        go_wp2_with fail
        go_ret
        exact ⟨ret_b (by rw [E.out, q1, q4]; rfl), UF.out⟩
      · refine wp_region_quiet_below (by kernel_rfl) (by kernel_rfl) ?_
        repeat (quiet_step (first | (with_reducible exact Q0 _ _) | (with_reducible exact Q1 _ _) | (with_reducible exact Q2 _ _)))
        refine wpQuiet_nil ?_
        rintro _ ⟨⟨dq, osq⟩, rfl⟩
        have UF := Lib.hid (UA.out.trans (up_grown W dq osq))
        clear k0 k1 k2 k3 k4 k5 k6 Q0 Q1 Q2
        go_wp2_with fail
        go_ret
        exact ⟨ret_b (by rw [E.out, q1, q4]; simp), UF.out⟩
    · have q1 : decide (1 ≤ ver) = true := decide_eq_true h1
      have q4 : decide (ver ≤ 4) = false := decide_eq_false h4
      go_quiet (fail)
      go_wp2_with fail
      go_ret
      exact ⟨ret_b (by rw [E.out, q1, q4]; rfl), UA.out.drewN' _⟩
  · have q1 : decide (1 ≤ ver) = false := decide_eq_false h1
    go_quiet (fail)
    go_wp2_with fail
    go_ret
    exact ⟨ret_b (by rw [E.out, q1]; rfl), UA.out.drewN' _⟩
end Go.Proofs.YtaljddoenjgbfaaGreat
