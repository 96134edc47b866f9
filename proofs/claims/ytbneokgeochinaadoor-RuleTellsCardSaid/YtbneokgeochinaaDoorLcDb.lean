/-
  The document's own answer of layer 8: Right.
-/
import Derived.Test.YtbneokgeochinaaDoorLcDa
namespace Go.Proofs.YtbneokgeochinaaDoor
open Go.ChangeShapes Go.WideShapes Go.ChangeAt Go.RowKit Lc

def rightBad (sd n1 o1 : Bool) : Bool := sd || !n1 || !o1
set_option maxRecDepth 100000 in
set_option maxHeartbeats 4000000 in
theorem dright_any (r : Ru) (wide : Bool) (w : World) (h1 : r.std.name.length ≤ maxLen) (h2 : r.dst.name.length ≤ maxLen) : Calls Tryd.prog 18 #[.agg (rA r), .bool wide] w fun e w' => e = .returned (.bool (rightB r wide)) ∧ Up w w' := by
  have B0 := Lib.hid (Rb.bk (Bk.new w (rA r) 27 (by decide)))
  have U0 := Lib.hid (Up.alloc w (.cells (rA r) 27))
  have N1 : ∀ w, _ := fun w => dname_any r.std.name w h1
  have N2 : ∀ w, _ := fun w => dname_any r.dst.name w h2
  have O1 : ∀ w, _ := fun w => doff_any r.std.off w
  have O2 : ∀ w, _ := fun w => doff_any r.dst.off w
  have C : ∀ w, _ := fun w => dchange_any r.st wide w
  have C2 : ∀ w, _ := fun w => dchange_any r.en wide w
  have E1 : ∀ w, _ := fun w => kd_eql r.dst kd0 w
  have E2 : ∀ w, _ := fun w => ch_eql r.st ch0 w
  have E3 : ∀ w, _ := fun w => ch_eql r.en ch0 w
  have hr : Hid (rightB r wide = (((r.std.dst == false) && nameB r.std.name && inB r.std.off (-89999) 89999) && (if r.both then ((r.dst.dst == true) && nameB r.dst.name && inB r.dst.off (-89999) 89999) && changeB r.st wide && changeB r.en wide else decide (r.dst = kd0) && decide (r.st = ch0) && decide (r.en = ch0)))) := Lib.hid rfl
  generalize nameB r.std.name = n1 at *
  generalize nameB r.dst.name = n2 at *
  generalize inB r.std.off (-89999) 89999 = o1 at *
  generalize inB r.dst.off (-89999) 89999 = o2 at *
  generalize changeB r.st wide = q1 at *
  generalize changeB r.en wide = q2 at *
  generalize decide (r.dst = kd0) = e1 at *
  generalize decide (r.st = ch0) = e2 at *
  generalize decide (r.en = ch0) = e3 at *
  generalize rightB r wide = R at *
  obtain ⟨⟨so, sd, sn⟩, ⟨dO, dd, dn⟩, b, ⟨a1, a2, a3, a4, a5⟩, ⟨b1, b2, b3, b4, b5⟩⟩ := r
  simp only [rA, cA, kA, kd0, ch0] at *
  have tx0 : tx [] = ⟨#[]⟩ := rfl
  rw [tx0] at E1
  clear tx0 h1 h2
  have fin : Hid (∀ {w2 : World}, Up (w.alloc (.cells #[.int .i64 so, .bool sd, .string (tx sn), .int .i64 dO, .bool dd, .string (tx dn), .bool b, .int .i64 a1, .int .i64 a2, .int .i64 a3, .int .i64 a4, .int .i64 a5, .int .i64 b1, .int .i64 b2, .int .i64 b3, .int .i64 b4, .int .i64 b5] 27)) w2 → Up w w2) := Lib.hid (fun u => U0.out.trans u)
  cases b
  · rw [if_neg (by decide)] at hr
    clear N2 O2 C C2
    cases sd <;> cases n1 <;> cases o1
    all_goals
      obtain ⟨⟨c0, c1, c2⟩, ⟨c3, c4, c5⟩, c6, ⟨c7, c8, c9, d0, d1⟩, d2, d3, d4, d5, d6⟩ := B0.out
      simp only at c0 c1 c2 c3 c4 c5 c6 c7 c8 c9 d0 d1 d2 d3 d4 d5 d6
      go_enter Tryd.func18, Tryd.ntmps18
      go_wp2_with (first | (go_at_call 40; refine (N1 _).mono ?_; rintro e w' ⟨rfl, rfl⟩) | (go_at_call 41; refine (O1 _).mono ?_; rintro e w' ⟨rfl, rfl⟩))
      all_goals go_ret
      all_goals exact ⟨ret_b (by rw [hr.out]; simp [*]), U0.out⟩
  · rw [if_pos rfl] at hr
    clear E1 E2 E3
    have no : ∀ x, rightBad sd n1 o1 = true → (((sd == false) && n1 && o1) && x) = false := fun x h => by cases sd <;> cases n1 <;> cases o1 <;> simp_all [rightBad]
    by_cases hb : rightBad sd n1 o1 = true
    · have hf : R = false := by rw [hr.out]; exact no _ hb
      clear no
      cases sd <;> cases n1 <;> cases o1
      all_goals first
        | (exfalso; revert hb; decide)
        | (obtain ⟨⟨c0, c1, c2⟩, ⟨c3, c4, c5⟩, c6, ⟨c7, c8, c9, d0, d1⟩, d2, d3, d4, d5, d6⟩ := B0.out
           simp only at c0 c1 c2 c3 c4 c5 c6 c7 c8 c9 d0 d1 d2 d3 d4 d5 d6
           clear hb
           go_enter Tryd.func18, Tryd.ntmps18
           go_wp2_with (first | (go_at_call 40; refine (N1 _).mono ?_; rintro e w' ⟨rfl, rfl⟩) | (go_at_call 41; refine (O1 _).mono ?_; rintro e w' ⟨rfl, rfl⟩))
           go_ret
           exact ⟨ret_b hf.symm, U0.out⟩)
    · obtain ⟨rfl, rfl, rfl⟩ : sd = false ∧ n1 = true ∧ o1 = true := by cases sd <;> cases n1 <;> cases o1 <;> simp_all [rightBad]
      clear no hb
      have hr2 : R = (((dd == true) && n2 && o2) && q1 && q2) := by rw [hr.out]; simp
      have HR := Lib.hid hr2
      clear hr2 hr
      have no : ∀ x, rightBad (!dd) n2 o2 = true → (((dd == true) && n2 && o2) && x) = false := fun x h => by cases dd <;> cases n2 <;> cases o2 <;> simp_all [rightBad]
      by_cases hb : rightBad (!dd) n2 o2 = true
      · have hf : R = false := by rw [HR.out, Bool.and_assoc]; exact no _ hb
        clear no
        cases dd <;> cases n2 <;> cases o2
        all_goals first
          | (exfalso; revert hb; decide)
          | (obtain ⟨⟨c0, c1, c2⟩, ⟨c3, c4, c5⟩, c6, ⟨c7, c8, c9, d0, d1⟩, d2, d3, d4, d5, d6⟩ := B0.out
             simp only at c0 c1 c2 c3 c4 c5 c6 c7 c8 c9 d0 d1 d2 d3 d4 d5 d6
             clear hb
             go_enter Tryd.func18, Tryd.ntmps18
             go_wp2_with (first | (go_at_call 40; (first | (with_reducible refine (N1 _).mono ?_) | (with_reducible refine (N2 _).mono ?_)); rintro e w' ⟨rfl, rfl⟩) | (go_at_call 41; (first | (with_reducible refine (O1 _).mono ?_) | (with_reducible refine (O2 _).mono ?_)); rintro e w' ⟨rfl, rfl⟩))
             go_ret
             exact ⟨ret_b hf.symm, U0.out⟩)
      · obtain ⟨rfl, rfl, rfl⟩ : dd = true ∧ n2 = true ∧ o2 = true := by cases dd <;> cases n2 <;> cases o2 <;> simp_all [rightBad]
        clear no hb
        have hr2 : R = (q1 && q2) := by rw [HR.out]; simp
        have HQ := Lib.hid hr2
        clear hr2 HR
        obtain ⟨⟨c0, c1, c2⟩, ⟨c3, c4, c5⟩, c6, ⟨c7, c8, c9, d0, d1⟩, d2, d3, d4, d5, d6⟩ := B0.out
        simp only at c0 c1 c2 c3 c4 c5 c6 c7 c8 c9 d0 d1 d2 d3 d4 d5 d6
        go_enter Tryd.func18, Tryd.ntmps18
        go_wp2_with (first | (go_at_call 40; (first | (with_reducible refine (N1 _).mono ?_) | (with_reducible refine (N2 _).mono ?_)); rintro e w' ⟨rfl, rfl⟩) | (go_at_call 41; (first | (with_reducible refine (O1 _).mono ?_) | (with_reducible refine (O2 _).mono ?_)); rintro e w' ⟨rfl, rfl⟩))
        refine (C _).mono ?_
        rintro e w3 ⟨rfl, u3⟩
        clear c0 c1 c2 c3 c4 c5 c6 c7 c8 c9 d0 d1 d2 d3 d4 d5 d6
        obtain ⟨⟨c0, c1, c2⟩, ⟨c3, c4, c5⟩, c6, ⟨c7, c8, c9, d0, d1⟩, d2, d3, d4, d5, d6⟩ := B0.out.up u3
        have U3 := Lib.hid (fin.out u3)
        clear u3 C B0 U0 fin N1 N2 O1 O2
        simp only at c0 c1 c2 c3 c4 c5 c6 c7 c8 c9 d0 d1 d2 d3 d4 d5 d6
        cases q1
        · go_wp2_with fail
          go_ret
          exact ⟨ret_b (by rw [HQ.out]; rfl), U3.out⟩
        · go_wp2_with fail
          refine (C2 _).mono ?_
          rintro e w4 ⟨rfl, u4⟩
          go_wp2_with fail
          go_ret
          exact ⟨ret_b (by rw [HQ.out]; rfl), U3.out.trans u4⟩
end Go.Proofs.YtbneokgeochinaaDoor
