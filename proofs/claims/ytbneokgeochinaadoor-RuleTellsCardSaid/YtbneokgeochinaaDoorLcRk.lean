/-
  Right, in the program.
-/
import Derived.Test.YtbneokgeochinaaDoorLcRj
namespace Go.Proofs.YtbneokgeochinaaDoor
open Go.ChangeShapes Go.WideShapes Go.ChangeAt Go.RowKit Lc

set_option maxRecDepth 100000 in
set_option maxHeartbeats 4000000 in
theorem right_any (r : Ru) (wide : Bool) (w : World) (h1 : r.std.name.length ≤ maxLen) (h2 : r.dst.name.length ≤ maxLen) : Calls Tryd.prog 33 #[.agg (rA r), .bool wide] w fun e w' => e = .returned (.bool (rightB r wide)) ∧ Up w w' := by
  have B0 := Lib.hid (Rb.bk (Bk.new w (rA r) 27 (by decide)))
  have U0 := Lib.hid (Up.alloc w (.cells (rA r) 27))
  have K : ∀ w, _ := fun w => rightKind_any r.std false w h1
  have K2 : ∀ w, _ := fun w => rightKind_any r.dst true w h2
  have C : ∀ w, _ := fun w => rightChange_any r.st wide w
  have C2 : ∀ w, _ := fun w => rightChange_any r.en wide w
  have E : ∀ w, _ := fun w => ru_eql r ⟨r.std, kd0, false, ch0, ch0⟩ w
  rw [ru_one] at E
  have hr : Hid (rightB r wide = (kindB r.std false && (if r.both then kindB r.dst true && changeB r.st wide && changeB r.en wide else r.dst == kd0 && r.st == ch0 && r.en == ch0))) := Lib.hid rfl
  generalize kindB r.std false = k1 at *
  generalize kindB r.dst true = k2 at *
  generalize changeB r.st wide = q1 at *
  generalize changeB r.en wide = q2 at *
  generalize (r.dst == kd0 && r.st == ch0 && r.en == ch0) = q3 at *
  generalize rightB r wide = R at *
  obtain ⟨⟨so, sd, sn⟩, ⟨dO, dd, dn⟩, b, ⟨a1, a2, a3, a4, a5⟩, ⟨b1, b2, b3, b4, b5⟩⟩ := r
  simp only [rA, cA, kA, kd0, ch0] at *
  have tx0 : tx [] = ⟨#[]⟩ := rfl
  rw [tx0] at E
  clear tx0 h1 h2
  have fin : ∀ {w2 : World}, Up (w.alloc (.cells #[.int .i64 so, .bool sd, .string (tx sn), .int .i64 dO, .bool dd, .string (tx dn), .bool b, .int .i64 a1, .int .i64 a2, .int .i64 a3, .int .i64 a4, .int .i64 a5, .int .i64 b1, .int .i64 b2, .int .i64 b3, .int .i64 b4, .int .i64 b5] 27)) w2 → Up w w2 := fun u => U0.out.trans u
  have FIN : Hid (∀ (w2 : World), Up _ w2 → Up w w2) := Lib.hid (fun w2 => @fin w2)
  clear fin U0
  cases k1
  · rw [hr.out, Bool.false_and]
    go_enter Tryd.func33, Tryd.ntmps33
    go_wp2_with fail
    refine (K _).mono ?_
    rintro e w1 ⟨rfl, u1⟩
    go_wp2_with fail
    go_ret
    exact ⟨rfl, FIN.out _ u1⟩
  · rw [hr.out, Bool.true_and]
    cases b
    · rw [if_neg (by decide)]
      go_enter Tryd.func33, Tryd.ntmps33
      go_wp2_with fail
      refine (K _).mono ?_
      rintro e w1 ⟨rfl, u1⟩
      obtain ⟨⟨c0, c1, c2⟩, ⟨c3, c4, c5⟩, c6, ⟨c7, c8, c9, d0, d1⟩, d2, d3, d4, d5, d6⟩ := B0.out.up u1
      have U1 := Lib.hid (FIN.out _ u1)
      clear u1 K K2 C C2
      simp only at c0 c1 c2 c3 c4 c5 c6 c7 c8 c9 d0 d1 d2 d3 d4 d5 d6
      go_wp2_with fail
      go_ret
      exact ⟨ret_b (by simp), U1.out⟩
    · rw [if_pos rfl]
      go_enter Tryd.func33, Tryd.ntmps33
      go_wp2_with fail
      refine (K _).mono ?_
      rintro e w1 ⟨rfl, u1⟩
      obtain ⟨⟨c0, c1, c2⟩, ⟨c3, c4, c5⟩, c6, ⟨c7, c8, c9, d0, d1⟩, d2, d3, d4, d5, d6⟩ := B0.out.up u1
      have B1 := Lib.hid (B0.out.up u1)
      have U1 := Lib.hid (FIN.out _ u1)
      clear u1 K B0
      simp only at c0 c1 c2 c3 c4 c5 c6 c7 c8 c9 d0 d1 d2 d3 d4 d5 d6
      go_wp2_with fail
      refine (K2 _).mono ?_
      rintro e w2 ⟨rfl, u2⟩
      clear c0 c1 c2 c3 c4 c5 c6 c7 c8 c9 d0 d1 d2 d3 d4 d5 d6
      obtain ⟨⟨c0, c1, c2⟩, ⟨c3, c4, c5⟩, c6, ⟨c7, c8, c9, d0, d1⟩, d2, d3, d4, d5, d6⟩ := B1.out.up u2
      have B2 := Lib.hid (B1.out.up u2)
      have U2 := Lib.hid (U1.out.trans u2)
      clear u2 K2 B1 U1
      simp only at c0 c1 c2 c3 c4 c5 c6 c7 c8 c9 d0 d1 d2 d3 d4 d5 d6
      cases k2
      · go_wp2_with fail
        go_ret
        exact ⟨ret_b (by simp), U2.out⟩
      · go_wp2_with fail
        refine (C _).mono ?_
        rintro e w3 ⟨rfl, u3⟩
        clear c0 c1 c2 c3 c4 c5 c6 c7 c8 c9 d0 d1 d2 d3 d4 d5 d6
        obtain ⟨⟨c0, c1, c2⟩, ⟨c3, c4, c5⟩, c6, ⟨c7, c8, c9, d0, d1⟩, d2, d3, d4, d5, d6⟩ := B2.out.up u3
        have U3 := Lib.hid (U2.out.trans u3)
        clear u3 C B2 U2
        simp only at c0 c1 c2 c3 c4 c5 c6 c7 c8 c9 d0 d1 d2 d3 d4 d5 d6
        cases q1
        · go_wp2_with fail
          go_ret
          exact ⟨ret_b (by simp), U3.out⟩
        · go_wp2_with fail
          refine (C2 _).mono ?_
          rintro e w4 ⟨rfl, u4⟩
          go_wp2_with fail
          go_ret
          exact ⟨ret_b (by simp), U3.out.trans u4⟩
end Go.Proofs.YtbneokgeochinaaDoor
