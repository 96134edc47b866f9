/-
  The program's block: Right.
-/
import Derived.Test.YtoijaananjlfpaaLcBkK
import Derived.Test.YtoijaananjlfpaaLcBkM
import Derived.Test.YtoijaananjlfpaaLcBkL
namespace Go.Proofs.Ytoijaananjlfpaa
open Go.ChangeShapes Go.WideShapes Go.ChangeAt Go.RowKit Lc

/-- Block B is a box of five values. -/
def Bx5 (w : World) (B : Nat) (a b c d e : Value) : Prop := w.cell? ⟨B, 0, none⟩ = some a ∧ w.cell? ⟨B, 1, none⟩ = some b ∧ w.cell? ⟨B, 2, none⟩ = some c ∧ w.cell? ⟨B, 3, none⟩ = some d ∧ w.cell? ⟨B, 4, none⟩ = some e
theorem Bx5.up {w w' : World} {B : Nat} {a b c d e : Value} (h : Bx5 w B a b c d e) (u : Up w w') : Bx5 w' B a b c d e :=
  ⟨u.cell h.1, u.cell h.2.1, u.cell h.2.2.1, u.cell h.2.2.2.1, u.cell h.2.2.2.2⟩
theorem Bx5.new (w : World) (a b c d e : Value) (t : TypeId) : Bx5 (w.alloc (.cells #[a, b, c, d, e] t)) w.heap.size a b c d e := by
  refine ⟨?_, ?_, ?_, ?_, ?_⟩ <;> simp

theorem rkB_len {ks : List Knd} (h : rkB ks = true) : 1 ≤ ks.length ∧ ks.length ≤ 256 := by
  unfold rkB at h
  simp only [Bool.and_eq_true, decide_eq_true_eq] at h
  exact ⟨h.1.1.1, h.1.1.2⟩
set_option maxRecDepth 100000 in
set_option maxHeartbeats 2000000 in
theorem bright_any (v : Value) (x : Blk) (z ver : Int) (w : World) (hv : BkR w v x) :
    Calls Try.prog 16 #[v, .int .i64 z, .int .i64 ver] w fun e w' => e = .returned (.bool (rightB x z ver)) ∧ Up w w' := by
  obtain ⟨_, _, _, _, _, rfl, ⟨A0, c0, rfl, m0, n0, r0⟩, ⟨A1, c1, rfl, m1, n1, r1⟩, ⟨A2, c2, rfl, m2, n2, r2⟩, ⟨A3, c3, rfl, m3, n3, r3⟩, ⟨A4, c4, rfl, m4, n4, r4⟩⟩ := hv
  have E := Lib.hid (show rightB x z ver = (zB z && rkB x.ks && rmB x.sd x.ut x.ks.length && rjB x.js x.ks.length z && rlB x.ls z ver) from rfl)
  have K0 := fun w => rsize_any z w
  have K1 := Lib.hid (fun w1 (u : Up w w1) => rkinds_any A0 x.ks c0 w1 (r0.up u))
  have K2 := Lib.hid (fun w1 (u : Up w w1) => rmarks_any A3 A4 x.sd x.ut c3 c4 x.ks.length w1 m3 n3 m4 n4 (r3.up u) (r4.up u))
  have K3 := Lib.hid (fun (h : 1 ≤ x.ks.length ∧ x.ks.length ≤ 256) w1 (u : Up w w1) => rjumps_any A1 x.js c1 x.ks.length z w1 h.1 (by omega) (r1.up u))
  have K4 := Lib.hid (fun w1 (u : Up w w1) => rleaps_any A2 x.ls c2 z ver w1 (r2.up u))
  have HL := Lib.hid (fun (h : rkB x.ks = true) => rkB_len h)
  unfold maxLen at n0 n1 n2 n3 n4
  clear r0 r1 r2 r3 r4
  generalize rightB x z ver = r at *
  generalize rlB x.ls z ver = r4 at *
  generalize rjB x.js x.ks.length z = r3 at *
  generalize rmB x.sd x.ut x.ks.length = r2 at *
  generalize rkB x.ks = r1 at *
  generalize zB z = r0 at *
  generalize x.ks.length = q0 at *
  generalize x.js.length = q1 at *
  generalize x.ls.length = q2 at *
  generalize x.sd.length = q3 at *
  generalize x.ut.length = q4 at *
  have BX := Lib.hid (Bx5.new w (.slice A0 q0 c0) (.slice A1 q1 c1) (.slice A2 q2 c2) (.slice A3 q3 c3) (.slice A4 q4 c4) 27)
  cases r0
  · go_enter Try.func16, Try.ntmps16
    go_wp2_with (go_at_call 32; refine (K0 _).mono ?_; rintro e w' ⟨rfl, rfl⟩)
    go_ret
    exact ⟨ret_b (by rw [E.out]; rfl), Up.alloc _ _⟩
  · go_enter Try.func16, Try.ntmps16
    go_wp2_with fail
    refine (K0 _).mono ?_; rintro e w' ⟨rfl, rfl⟩
    have U0 := Lib.hid (Up.alloc w (.cells #[.slice A0 q0 c0, .slice A1 q1 c1, .slice A2 q2 c2, .slice A3 q3 c3, .slice A4 q4 c4] 27))
    have lw : w.heap.size < (w.alloc (.cells #[.slice A0 q0 c0, .slice A1 q1 c1, .slice A2 q2 c2, .slice A3 q3 c3, .slice A4 q4 c4] 27)).heap.size := by simp
    generalize hB : w.heap.size = B at *
    generalize w.alloc (.cells #[.slice A0 q0 c0, .slice A1 q1 c1, .slice A2 q2 c2, .slice A3 q3 c3, .slice A4 q4 c4] 27) = wa at *
    clear hB
    obtain ⟨b0, b1, b2, b3, b4⟩ := BX.out
    go_wp2_with fail
    clear b0 b1 b2 b3 b4
    refine (K1.out _ U0.out).mono ?_; rintro e w1 ⟨rfl, u1⟩
    have U1 := Lib.hid (U0.out.trans u1)
    have BX := Lib.hid (BX.out.up u1)
    clear u1 U0
    cases r1
    · go_wp2_with fail
      go_ret
      exact ⟨ret_b (by rw [E.out]; rfl), U1.out⟩
    · obtain ⟨b0, b1, b2, b3, b4⟩ := BX.out
      go_wp2_with fail
      clear b0 b1 b2 b3 b4
      refine (K2.out _ U1.out).mono ?_; rintro e w2 ⟨rfl, rfl⟩
      cases r2
      · go_wp2_with fail
        go_ret
        exact ⟨ret_b (by rw [E.out]; rfl), U1.out⟩
      · obtain ⟨b0, b1, b2, b3, b4⟩ := BX.out
        go_wp2_with fail
        clear b0 b1 b2 b3 b4
        refine (K3.out (HL.out (by trivial)) _ U1.out).mono ?_; rintro e w3 ⟨rfl, u3⟩
        have U3 := Lib.hid (U1.out.trans u3)
        have BX := Lib.hid (BX.out.up u3)
        clear u3 U1
        cases r3
        · go_wp2_with fail
          go_ret
          exact ⟨ret_b (by rw [E.out]; rfl), U3.out⟩
        · obtain ⟨b0, b1, b2, b3, b4⟩ := BX.out
          go_wp2_with fail
          clear b0 b1 b2 b3 b4
          refine (K4.out _ U3.out).mono ?_; rintro e w4 ⟨rfl, u4⟩
          go_wp2_with fail
          go_ret
          exact ⟨ret_b (by rw [E.out]; cases r4 <;> rfl), U3.out.trans u4⟩
end Go.Proofs.Ytoijaananjlfpaa
