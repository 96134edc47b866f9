/-
  RuleRange is proved: for every rule and second the statement answers true: far away there are no dates (ErrRange, of a rule of two kinds). Conditions: the tied card's own (the listed variable, the lengths of months, as the text of the program lays it).
-/
import Derived.Test.YtbneokgeochinaaDoorLcShown9
import Derived.Test.YtbneokgeochinaaDoorLcPs8
import Derived.Test.YtbneokgeochinaaDoorLcOpC
import Derived.Test.YtbneokgeochinaaDoorLcDb
import Derived.Test.YtbneokgeochinaaDoorTie
import Derived.Test.YtbneokgeochinaaDoorCards
import Derived.WalkKit
import Derived.ProofKit
import Derived.OpenShut
import Derived.LaidMore
import Derived.Stop.Joined
import Derived.SevenTiedAt
namespace Go.Proofs.YtbneokgeochinaaDoor.ruleRange
open Go.ChangeShapes Go.WideShapes Go.ChangeAt Go.RowKit Lc
set_option linter.unusedVariables false

theorem own : ownKnob Tryd.prog.godebug = none := by kernel_rfl

theorem range_cases {r : Ru} {t : Int} {K : Kd} {E : Int} (h : AtS r t K E) :
    (rightB r true = false) ∨
    (rightB r true = true ∧ r.both = false ∧ K = r.std ∧ E = 0) ∨
    (rightB r true = true ∧ r.both = true ∧ K = kd0 ∧ E = 2 ∧ decide (t < -67768100567971200) = true) ∨
    (rightB r true = true ∧ r.both = true ∧ K = kd0 ∧ E = 2 ∧ decide (t < -67768100567971200) = false ∧ decide (67767976233532799 < t) = true) ∨
    (rightB r true = true ∧ r.both = true ∧ K = r.std ∧ E = 0 ∧ decide (t < -67768100567971200) = false ∧ decide (67767976233532799 < t) = false) ∨
    (rightB r true = true ∧ r.both = true ∧ K = r.dst ∧ E = 0 ∧ decide (t < -67768100567971200) = false ∧ decide (67767976233532799 < t) = false) := by
  rcases h with ⟨hr, _, _⟩ | ⟨hr, hb, hk, he⟩ | ⟨hr, hb, hd, hk, he⟩ | ⟨hr, hb, y, m, d, hd, hn, hk, he⟩
  · exact .inl hr
  · exact .inr (.inl ⟨hr, hb, hk, he⟩)
  · rw [ny_first, ny_last] at hd
    by_cases c : t < -67768100567971200
    · exact .inr (.inr (.inl ⟨hr, hb, hk, he, by simpa using c⟩))
    · exact .inr (.inr (.inr (.inl ⟨hr, hb, hk, he, by simpa using c, by simp; omega⟩)))
  · have rg := day_range hd
    rw [hn, ny_first, ny_last] at rg
    have c1 : decide (t < -67768100567971200) = false := by simp; omega
    have c2 : decide (67767976233532799 < t) = false := by simp; omega
    cases q : inDst r t y
    · rw [q] at hk; exact .inr (.inr (.inr (.inr (.inl ⟨hr, hb, hk, he, c1, c2⟩))))
    · rw [q] at hk; exact .inr (.inr (.inr (.inr (.inr ⟨hr, hb, hk, he, c1, c2⟩))))

set_option maxHeartbeats 8000000 in
set_option maxRecDepth 100000 in
theorem walk (x0 : Ru) (a1 : Int) (fo0 : fitB x0.std.off = true) (fd0 : fitB x0.dst.off = true) (ns0 : x0.std.name.length ≤ maxLen) (nd0 : x0.dst.name.length ≤ maxLen) (ft0 : fitB x0.st.tm = true) (fe0 : fitB x0.en.tm = true) (w1 : (Lit.int .i64 a1).wf = true) (w : World) (T : Tab w) :
    Calls Tryd.prog 7 #[.agg (rA x0), .int .i64 a1] w fun e w' => e = .returned (.bool true) ∧ Up w w' := by
  have SH := Lib.hid (fun w T => shown_any w T)
  have B0 := Lib.hid (Bk.new w (rA x0) 27 (by decide))
  have U0 := Lib.hid (Up.alloc w (.cells (rA x0) 27))
  have TT := Lib.hid T
  clear T
  have ft := fit_wf w1
  have DR := Lib.hid (fun w => dright_any x0 true w ns0 nd0)
  obtain ⟨K, E, hat⟩ := at_ex x0 a1
  have AP := Lib.hid (fun w T => at_of hat w T ns0 nd0 ft)
  have HC := range_cases hat
  clear hat
  rcases HC with hr | ⟨hr, hb, rfl, rfl⟩ | ⟨hr, hb, rfl, rfl, x1⟩ | ⟨hr, hb, rfl, rfl, x1, x2⟩ | ⟨hr, hb, rfl, rfl, x1, x2⟩ | ⟨hr, hb, rfl, rfl, x1, x2⟩
  · clear AP
    rw [hr] at DR
    go_enter Tryd.func7, Tryd.ntmps7
    go_wp2_with fail
    refine (SH.out _ (Tab.up TT.out U0.out)).mono ?_; rintro e w1 ⟨rfl, u1⟩
    have B1 := Lib.hid (B0.out.up u1)
    have U1 := Lib.hid (U0.out.trans u1)
    clear u1 B0 U0 SH
    go_upto_region 2 with (fail)
    refine wp_region_lit ?_
    refine wpList_ld rfl 2 w.heap.size x0 _ rfl B1.out rfl ?_
    go_wp2_with fail
    refine (DR.out _).mono ?_; rintro e w2 ⟨rfl, u2⟩
    have B2 := Lib.hid (B1.out.up u2)
    have U2 := Lib.hid (U1.out.trans u2)
    clear u2 B1 U1 DR
    go_wp2_with fail
    go_ret
    exact ⟨rfl, U2.out⟩
  · have AP : Hid (∀ w, Tab w → Calls Tryd.prog 16 #[.agg (rA x0), .int .i64 a1] w fun e w' => e = .returned (.tuple #[.agg #[.int .i64 x0.std.off, .bool x0.std.dst, .string (tx x0.std.name)], .int .i64 0]) ∧ Up w w') := AP
    have QEa : ∀ w, (binOp .eql 23 (.agg #[.int .i64 x0.std.off, .bool x0.std.dst, .string (tx x0.std.name)]) (.agg #[.int .i64 x0.std.off, .bool x0.std.dst, .string (tx x0.std.name)])).run Tryd.prog w = .ok (.bool true) w := fun w => by have := kd_eql x0.std x0.std w; rw [decide_eq_true rfl] at this; exact this
    rw [hr] at DR
    go_enter Tryd.func7, Tryd.ntmps7
    go_wp2_with fail
    refine (SH.out _ (Tab.up TT.out U0.out)).mono ?_; rintro e w1 ⟨rfl, u1⟩
    have B1 := Lib.hid (B0.out.up u1)
    have U1 := Lib.hid (U0.out.trans u1)
    clear u1 B0 U0 SH
    go_upto_region 2 with (fail)
    refine wp_region_lit ?_
    refine wpList_ld rfl 2 w.heap.size x0 _ rfl B1.out rfl ?_
    go_wp2_with fail
    refine (DR.out _).mono ?_; rintro e w2 ⟨rfl, u2⟩
    have B2 := Lib.hid (B1.out.up u2)
    have U2 := Lib.hid (U1.out.trans u2)
    clear u2 B1 U1 DR
    go_upto_region 5 with (fail)
    refine wp_region_lit ?_
    refine wpList_ld rfl 2 w.heap.size x0 _ rfl B2.out rfl ?_
    go_wp2_with fail
    refine (AP.out _ (Tab.up TT.out U2.out)).mono ?_; rintro e w3 ⟨rfl, u3⟩
    have KB := Bk.new w3 #[.int .i64 x0.std.off, .bool x0.std.dst, .string (tx x0.std.name)] 23 (by decide)
    have u3' := u3.trans (Up.alloc w3 (.cells #[.int .i64 x0.std.off, .bool x0.std.dst, .string (tx x0.std.name)] 23))
    have B3 := Lib.hid (B2.out.up u3')
    have U3 := Lib.hid (U2.out.trans u3')
    have K3 := Lib.hid KB
    clear u3 u3' KB B2 U2 AP
    go_upto_region 6 with (fail)
    generalize w3.alloc _ = W at *
    have q6 : W.cell? ⟨w.heap.size, 6, none⟩ = some (.bool false) := by rw [← hb]; exact B3.out.cell 6
    have p0 : W.cell? ⟨w3.heap.size, 0, none⟩ = some (.int .i64 x0.std.off) := K3.out.cell 0
    have p1 : W.cell? ⟨w3.heap.size, 1, none⟩ = some (.bool x0.std.dst) := K3.out.cell 1
    have p2 : W.cell? ⟨w3.heap.size, 2, none⟩ = some (.string (tx x0.std.name)) := K3.out.cell 2
    have s0 : W.cell? ⟨w.heap.size, 0, none⟩ = some (.int .i64 x0.std.off) := B3.out.cell 0
    have s1 : W.cell? ⟨w.heap.size, 1, none⟩ = some (.bool x0.std.dst) := B3.out.cell 1
    have s2 : W.cell? ⟨w.heap.size, 2, none⟩ = some (.string (tx x0.std.name)) := B3.out.cell 2
    have s3 : W.cell? ⟨w.heap.size, 3, none⟩ = some (.int .i64 x0.dst.off) := B3.out.cell 3
    have s4 : W.cell? ⟨w.heap.size, 4, none⟩ = some (.bool x0.dst.dst) := B3.out.cell 4
    have s5 : W.cell? ⟨w.heap.size, 5, none⟩ = some (.string (tx x0.dst.name)) := B3.out.cell 5
    go_wp2_with fail
    go_ret
    exact ⟨ret_b (by simp), U3.out⟩
  · have AP : Hid (∀ w, Tab w → Calls Tryd.prog 16 #[.agg (rA x0), .int .i64 a1] w fun e w' => e = .returned (.tuple #[.agg #[.int .i64 0, .bool false, .string ⟨#[]⟩], .int .i64 2]) ∧ Up w w') := AP
    have QEa : ∀ w, (binOp .eql 23 (.agg #[.int .i64 0, .bool false, .string ⟨#[]⟩]) (.agg #[.int .i64 0, .bool false, .string ⟨#[]⟩])).run Tryd.prog w = .ok (.bool true) w := fun w => by have := kd_eql kd0 kd0 w; rw [decide_eq_true rfl] at this; exact this
    rw [hr] at DR
    go_enter Tryd.func7, Tryd.ntmps7
    go_wp2_with fail
    refine (SH.out _ (Tab.up TT.out U0.out)).mono ?_; rintro e w1 ⟨rfl, u1⟩
    have B1 := Lib.hid (B0.out.up u1)
    have U1 := Lib.hid (U0.out.trans u1)
    clear u1 B0 U0 SH
    go_upto_region 2 with (fail)
    refine wp_region_lit ?_
    refine wpList_ld rfl 2 w.heap.size x0 _ rfl B1.out rfl ?_
    go_wp2_with fail
    refine (DR.out _).mono ?_; rintro e w2 ⟨rfl, u2⟩
    have B2 := Lib.hid (B1.out.up u2)
    have U2 := Lib.hid (U1.out.trans u2)
    clear u2 B1 U1 DR
    go_upto_region 5 with (fail)
    refine wp_region_lit ?_
    refine wpList_ld rfl 2 w.heap.size x0 _ rfl B2.out rfl ?_
    go_wp2_with fail
    refine (AP.out _ (Tab.up TT.out U2.out)).mono ?_; rintro e w3 ⟨rfl, u3⟩
    have KB := Bk.new w3 #[.int .i64 0, .bool false, .string ⟨#[]⟩] 23 (by decide)
    have u3' := u3.trans (Up.alloc w3 (.cells #[.int .i64 0, .bool false, .string ⟨#[]⟩] 23))
    have B3 := Lib.hid (B2.out.up u3')
    have U3 := Lib.hid (U2.out.trans u3')
    have K3 := Lib.hid KB
    clear u3 u3' KB B2 U2 AP
    go_upto_region 6 with (fail)
    generalize w3.alloc _ = W at *
    have q6 : W.cell? ⟨w.heap.size, 6, none⟩ = some (.bool true) := by rw [← hb]; exact B3.out.cell 6
    have p0 : W.cell? ⟨w3.heap.size, 0, none⟩ = some (.int .i64 0) := K3.out.cell 0
    have p1 : W.cell? ⟨w3.heap.size, 1, none⟩ = some (.bool false) := K3.out.cell 1
    have p2 : W.cell? ⟨w3.heap.size, 2, none⟩ = some (.string ⟨#[]⟩) := K3.out.cell 2
    have s0 : W.cell? ⟨w.heap.size, 0, none⟩ = some (.int .i64 x0.std.off) := B3.out.cell 0
    have s1 : W.cell? ⟨w.heap.size, 1, none⟩ = some (.bool x0.std.dst) := B3.out.cell 1
    have s2 : W.cell? ⟨w.heap.size, 2, none⟩ = some (.string (tx x0.std.name)) := B3.out.cell 2
    have s3 : W.cell? ⟨w.heap.size, 3, none⟩ = some (.int .i64 x0.dst.off) := B3.out.cell 3
    have s4 : W.cell? ⟨w.heap.size, 4, none⟩ = some (.bool x0.dst.dst) := B3.out.cell 4
    have s5 : W.cell? ⟨w.heap.size, 5, none⟩ = some (.string (tx x0.dst.name)) := B3.out.cell 5
    go_wp2_with fail
    go_ret
    exact ⟨ret_b (by simp), U3.out⟩
  · have AP : Hid (∀ w, Tab w → Calls Tryd.prog 16 #[.agg (rA x0), .int .i64 a1] w fun e w' => e = .returned (.tuple #[.agg #[.int .i64 0, .bool false, .string ⟨#[]⟩], .int .i64 2]) ∧ Up w w') := AP
    have QEa : ∀ w, (binOp .eql 23 (.agg #[.int .i64 0, .bool false, .string ⟨#[]⟩]) (.agg #[.int .i64 0, .bool false, .string ⟨#[]⟩])).run Tryd.prog w = .ok (.bool true) w := fun w => by have := kd_eql kd0 kd0 w; rw [decide_eq_true rfl] at this; exact this
    rw [hr] at DR
    go_enter Tryd.func7, Tryd.ntmps7
    go_wp2_with fail
    refine (SH.out _ (Tab.up TT.out U0.out)).mono ?_; rintro e w1 ⟨rfl, u1⟩
    have B1 := Lib.hid (B0.out.up u1)
    have U1 := Lib.hid (U0.out.trans u1)
    clear u1 B0 U0 SH
    go_upto_region 2 with (fail)
    refine wp_region_lit ?_
    refine wpList_ld rfl 2 w.heap.size x0 _ rfl B1.out rfl ?_
    go_wp2_with fail
    refine (DR.out _).mono ?_; rintro e w2 ⟨rfl, u2⟩
    have B2 := Lib.hid (B1.out.up u2)
    have U2 := Lib.hid (U1.out.trans u2)
    clear u2 B1 U1 DR
    go_upto_region 5 with (fail)
    refine wp_region_lit ?_
    refine wpList_ld rfl 2 w.heap.size x0 _ rfl B2.out rfl ?_
    go_wp2_with fail
    refine (AP.out _ (Tab.up TT.out U2.out)).mono ?_; rintro e w3 ⟨rfl, u3⟩
    have KB := Bk.new w3 #[.int .i64 0, .bool false, .string ⟨#[]⟩] 23 (by decide)
    have u3' := u3.trans (Up.alloc w3 (.cells #[.int .i64 0, .bool false, .string ⟨#[]⟩] 23))
    have B3 := Lib.hid (B2.out.up u3')
    have U3 := Lib.hid (U2.out.trans u3')
    have K3 := Lib.hid KB
    clear u3 u3' KB B2 U2 AP
    go_upto_region 6 with (fail)
    generalize w3.alloc _ = W at *
    have q6 : W.cell? ⟨w.heap.size, 6, none⟩ = some (.bool true) := by rw [← hb]; exact B3.out.cell 6
    have p0 : W.cell? ⟨w3.heap.size, 0, none⟩ = some (.int .i64 0) := K3.out.cell 0
    have p1 : W.cell? ⟨w3.heap.size, 1, none⟩ = some (.bool false) := K3.out.cell 1
    have p2 : W.cell? ⟨w3.heap.size, 2, none⟩ = some (.string ⟨#[]⟩) := K3.out.cell 2
    have s0 : W.cell? ⟨w.heap.size, 0, none⟩ = some (.int .i64 x0.std.off) := B3.out.cell 0
    have s1 : W.cell? ⟨w.heap.size, 1, none⟩ = some (.bool x0.std.dst) := B3.out.cell 1
    have s2 : W.cell? ⟨w.heap.size, 2, none⟩ = some (.string (tx x0.std.name)) := B3.out.cell 2
    have s3 : W.cell? ⟨w.heap.size, 3, none⟩ = some (.int .i64 x0.dst.off) := B3.out.cell 3
    have s4 : W.cell? ⟨w.heap.size, 4, none⟩ = some (.bool x0.dst.dst) := B3.out.cell 4
    have s5 : W.cell? ⟨w.heap.size, 5, none⟩ = some (.string (tx x0.dst.name)) := B3.out.cell 5
    go_wp2_with fail
    go_ret
    exact ⟨ret_b (by simp), U3.out⟩
  · have AP : Hid (∀ w, Tab w → Calls Tryd.prog 16 #[.agg (rA x0), .int .i64 a1] w fun e w' => e = .returned (.tuple #[.agg #[.int .i64 x0.std.off, .bool x0.std.dst, .string (tx x0.std.name)], .int .i64 0]) ∧ Up w w') := AP
    have QEa : ∀ w, (binOp .eql 23 (.agg #[.int .i64 x0.std.off, .bool x0.std.dst, .string (tx x0.std.name)]) (.agg #[.int .i64 x0.std.off, .bool x0.std.dst, .string (tx x0.std.name)])).run Tryd.prog w = .ok (.bool true) w := fun w => by have := kd_eql x0.std x0.std w; rw [decide_eq_true rfl] at this; exact this
    rw [hr] at DR
    go_enter Tryd.func7, Tryd.ntmps7
    go_wp2_with fail
    refine (SH.out _ (Tab.up TT.out U0.out)).mono ?_; rintro e w1 ⟨rfl, u1⟩
    have B1 := Lib.hid (B0.out.up u1)
    have U1 := Lib.hid (U0.out.trans u1)
    clear u1 B0 U0 SH
    go_upto_region 2 with (fail)
    refine wp_region_lit ?_
    refine wpList_ld rfl 2 w.heap.size x0 _ rfl B1.out rfl ?_
    go_wp2_with fail
    refine (DR.out _).mono ?_; rintro e w2 ⟨rfl, u2⟩
    have B2 := Lib.hid (B1.out.up u2)
    have U2 := Lib.hid (U1.out.trans u2)
    clear u2 B1 U1 DR
    go_upto_region 5 with (fail)
    refine wp_region_lit ?_
    refine wpList_ld rfl 2 w.heap.size x0 _ rfl B2.out rfl ?_
    go_wp2_with fail
    refine (AP.out _ (Tab.up TT.out U2.out)).mono ?_; rintro e w3 ⟨rfl, u3⟩
    have KB := Bk.new w3 #[.int .i64 x0.std.off, .bool x0.std.dst, .string (tx x0.std.name)] 23 (by decide)
    have u3' := u3.trans (Up.alloc w3 (.cells #[.int .i64 x0.std.off, .bool x0.std.dst, .string (tx x0.std.name)] 23))
    have B3 := Lib.hid (B2.out.up u3')
    have U3 := Lib.hid (U2.out.trans u3')
    have K3 := Lib.hid KB
    clear u3 u3' KB B2 U2 AP
    go_upto_region 6 with (fail)
    generalize w3.alloc _ = W at *
    have q6 : W.cell? ⟨w.heap.size, 6, none⟩ = some (.bool true) := by rw [← hb]; exact B3.out.cell 6
    have p0 : W.cell? ⟨w3.heap.size, 0, none⟩ = some (.int .i64 x0.std.off) := K3.out.cell 0
    have p1 : W.cell? ⟨w3.heap.size, 1, none⟩ = some (.bool x0.std.dst) := K3.out.cell 1
    have p2 : W.cell? ⟨w3.heap.size, 2, none⟩ = some (.string (tx x0.std.name)) := K3.out.cell 2
    have s0 : W.cell? ⟨w.heap.size, 0, none⟩ = some (.int .i64 x0.std.off) := B3.out.cell 0
    have s1 : W.cell? ⟨w.heap.size, 1, none⟩ = some (.bool x0.std.dst) := B3.out.cell 1
    have s2 : W.cell? ⟨w.heap.size, 2, none⟩ = some (.string (tx x0.std.name)) := B3.out.cell 2
    have s3 : W.cell? ⟨w.heap.size, 3, none⟩ = some (.int .i64 x0.dst.off) := B3.out.cell 3
    have s4 : W.cell? ⟨w.heap.size, 4, none⟩ = some (.bool x0.dst.dst) := B3.out.cell 4
    have s5 : W.cell? ⟨w.heap.size, 5, none⟩ = some (.string (tx x0.dst.name)) := B3.out.cell 5
    go_wp2_with fail
    go_ret
    exact ⟨ret_b (by simp), U3.out⟩
  · have AP : Hid (∀ w, Tab w → Calls Tryd.prog 16 #[.agg (rA x0), .int .i64 a1] w fun e w' => e = .returned (.tuple #[.agg #[.int .i64 x0.dst.off, .bool x0.dst.dst, .string (tx x0.dst.name)], .int .i64 0]) ∧ Up w w') := AP
    have QEa : ∀ w, (binOp .eql 23 (.agg #[.int .i64 x0.dst.off, .bool x0.dst.dst, .string (tx x0.dst.name)]) (.agg #[.int .i64 x0.dst.off, .bool x0.dst.dst, .string (tx x0.dst.name)])).run Tryd.prog w = .ok (.bool true) w := fun w => by have := kd_eql x0.dst x0.dst w; rw [decide_eq_true rfl] at this; exact this
    obtain ⟨q, hq⟩ : ∃ q, decide (x0.dst = x0.std) = q := ⟨_, rfl⟩
    have QEb : ∀ w, (binOp .eql 23 (.agg #[.int .i64 x0.dst.off, .bool x0.dst.dst, .string (tx x0.dst.name)]) (.agg #[.int .i64 x0.std.off, .bool x0.std.dst, .string (tx x0.std.name)])).run Tryd.prog w = .ok (.bool q) w := fun w => by have := kd_eql x0.dst x0.std w; rw [hq] at this; exact this
    clear hq
    cases q
    · skip
      rw [hr] at DR
      go_enter Tryd.func7, Tryd.ntmps7
      go_wp2_with fail
      refine (SH.out _ (Tab.up TT.out U0.out)).mono ?_; rintro e w1 ⟨rfl, u1⟩
      have B1 := Lib.hid (B0.out.up u1)
      have U1 := Lib.hid (U0.out.trans u1)
      clear u1 B0 U0 SH
      go_upto_region 2 with (fail)
      refine wp_region_lit ?_
      refine wpList_ld rfl 2 w.heap.size x0 _ rfl B1.out rfl ?_
      go_wp2_with fail
      refine (DR.out _).mono ?_; rintro e w2 ⟨rfl, u2⟩
      have B2 := Lib.hid (B1.out.up u2)
      have U2 := Lib.hid (U1.out.trans u2)
      clear u2 B1 U1 DR
      go_upto_region 5 with (fail)
      refine wp_region_lit ?_
      refine wpList_ld rfl 2 w.heap.size x0 _ rfl B2.out rfl ?_
      go_wp2_with fail
      refine (AP.out _ (Tab.up TT.out U2.out)).mono ?_; rintro e w3 ⟨rfl, u3⟩
      have KB := Bk.new w3 #[.int .i64 x0.dst.off, .bool x0.dst.dst, .string (tx x0.dst.name)] 23 (by decide)
      have u3' := u3.trans (Up.alloc w3 (.cells #[.int .i64 x0.dst.off, .bool x0.dst.dst, .string (tx x0.dst.name)] 23))
      have B3 := Lib.hid (B2.out.up u3')
      have U3 := Lib.hid (U2.out.trans u3')
      have K3 := Lib.hid KB
      clear u3 u3' KB B2 U2 AP
      go_upto_region 6 with (fail)
      generalize w3.alloc _ = W at *
      have q6 : W.cell? ⟨w.heap.size, 6, none⟩ = some (.bool true) := by rw [← hb]; exact B3.out.cell 6
      have p0 : W.cell? ⟨w3.heap.size, 0, none⟩ = some (.int .i64 x0.dst.off) := K3.out.cell 0
      have p1 : W.cell? ⟨w3.heap.size, 1, none⟩ = some (.bool x0.dst.dst) := K3.out.cell 1
      have p2 : W.cell? ⟨w3.heap.size, 2, none⟩ = some (.string (tx x0.dst.name)) := K3.out.cell 2
      have s0 : W.cell? ⟨w.heap.size, 0, none⟩ = some (.int .i64 x0.std.off) := B3.out.cell 0
      have s1 : W.cell? ⟨w.heap.size, 1, none⟩ = some (.bool x0.std.dst) := B3.out.cell 1
      have s2 : W.cell? ⟨w.heap.size, 2, none⟩ = some (.string (tx x0.std.name)) := B3.out.cell 2
      have s3 : W.cell? ⟨w.heap.size, 3, none⟩ = some (.int .i64 x0.dst.off) := B3.out.cell 3
      have s4 : W.cell? ⟨w.heap.size, 4, none⟩ = some (.bool x0.dst.dst) := B3.out.cell 4
      have s5 : W.cell? ⟨w.heap.size, 5, none⟩ = some (.string (tx x0.dst.name)) := B3.out.cell 5
      go_wp2_with fail
      go_ret
      exact ⟨ret_b (by simp), U3.out⟩
    · skip
      rw [hr] at DR
      go_enter Tryd.func7, Tryd.ntmps7
      go_wp2_with fail
      refine (SH.out _ (Tab.up TT.out U0.out)).mono ?_; rintro e w1 ⟨rfl, u1⟩
      have B1 := Lib.hid (B0.out.up u1)
      have U1 := Lib.hid (U0.out.trans u1)
      clear u1 B0 U0 SH
      go_upto_region 2 with (fail)
      refine wp_region_lit ?_
      refine wpList_ld rfl 2 w.heap.size x0 _ rfl B1.out rfl ?_
      go_wp2_with fail
      refine (DR.out _).mono ?_; rintro e w2 ⟨rfl, u2⟩
      have B2 := Lib.hid (B1.out.up u2)
      have U2 := Lib.hid (U1.out.trans u2)
      clear u2 B1 U1 DR
      go_upto_region 5 with (fail)
      refine wp_region_lit ?_
      refine wpList_ld rfl 2 w.heap.size x0 _ rfl B2.out rfl ?_
      go_wp2_with fail
      refine (AP.out _ (Tab.up TT.out U2.out)).mono ?_; rintro e w3 ⟨rfl, u3⟩
      have KB := Bk.new w3 #[.int .i64 x0.dst.off, .bool x0.dst.dst, .string (tx x0.dst.name)] 23 (by decide)
      have u3' := u3.trans (Up.alloc w3 (.cells #[.int .i64 x0.dst.off, .bool x0.dst.dst, .string (tx x0.dst.name)] 23))
      have B3 := Lib.hid (B2.out.up u3')
      have U3 := Lib.hid (U2.out.trans u3')
      have K3 := Lib.hid KB
      clear u3 u3' KB B2 U2 AP
      go_upto_region 6 with (fail)
      generalize w3.alloc _ = W at *
      have q6 : W.cell? ⟨w.heap.size, 6, none⟩ = some (.bool true) := by rw [← hb]; exact B3.out.cell 6
      have p0 : W.cell? ⟨w3.heap.size, 0, none⟩ = some (.int .i64 x0.dst.off) := K3.out.cell 0
      have p1 : W.cell? ⟨w3.heap.size, 1, none⟩ = some (.bool x0.dst.dst) := K3.out.cell 1
      have p2 : W.cell? ⟨w3.heap.size, 2, none⟩ = some (.string (tx x0.dst.name)) := K3.out.cell 2
      have s0 : W.cell? ⟨w.heap.size, 0, none⟩ = some (.int .i64 x0.std.off) := B3.out.cell 0
      have s1 : W.cell? ⟨w.heap.size, 1, none⟩ = some (.bool x0.std.dst) := B3.out.cell 1
      have s2 : W.cell? ⟨w.heap.size, 2, none⟩ = some (.string (tx x0.std.name)) := B3.out.cell 2
      have s3 : W.cell? ⟨w.heap.size, 3, none⟩ = some (.int .i64 x0.dst.off) := B3.out.cell 3
      have s4 : W.cell? ⟨w.heap.size, 4, none⟩ = some (.bool x0.dst.dst) := B3.out.cell 4
      have s5 : W.cell? ⟨w.heap.size, 5, none⟩ = some (.string (tx x0.dst.name)) := B3.out.cell 5
      go_wp2_with fail
      go_ret
      exact ⟨ret_b (by simp), U3.out⟩

theorem readable : ∀ t ∈ Tryd.f7.params.toList, Tryd.prog.readableRec t = true ∧ t < Tryd.prog.types.size := by
  rw [Tryd.params7]
  intro t ht
  have hall : ([27, 2].all fun u => Tryd.prog.readableRec u && decide (u < Tryd.prog.types.size)) = true := by kernel_rfl
  have := List.all_eq_true.1 hall t (by simpa using ht)
  simpa using this

set_option maxRecDepth 100000 in
theorem lifted (os : Os) (started : os.Started) (H : Type) (enc : TypeId × Value → H) :
    ReturnsInHanded {} Tryd.checked os 7 .any (fun w args => (Rows.ruleRangeSpec.pre enc Tryd.prog Tryd.f7 [] false w args ∧ laidMetH Tryd.prog laidC w) ∧ sizedMet enc Tryd.prog Tryd.f7 (OpenSpec.ofChange Rows.ruleRangeSpec) false w args) (Rows.ruleRangeSpec.post enc Tryd.prog Tryd.f7 false true false false) := by
  refine returnsInHanded_of_change_and (C := Tryd.checked) (X := fun w _ => laidMetH Tryd.prog laidC w) (fun _ _ _ hh h => h.of_heap hh) own started (by kernel_rfl) Tryd.func7
    (ChangeSpec.witness_shaped (enc := enc) (C := Tryd.checked) (os := os) (X := fun w _ => laidMetH Tryd.prog laidC w) false (World.doorLaid Tryd.prog 400 os) #[.agg #[.int .i64 0, .bool false, .string ⟨#[]⟩, .int .i64 0, .bool false, .string ⟨#[]⟩, .bool false, .int .i64 0, .int .i64 0, .int .i64 0, .int .i64 0, .int .i64 0, .int .i64 0, .int .i64 0, .int .i64 0, .int .i64 0, .int .i64 0], .int .i64 0] 8 rfl (World.shaped_of_RefB (by kernel_rfl) (by kernel_rfl)) (by kernel_rfl) (by kernel_rfl) (by kernel_rfl) (door_met os _)) ?_
  intro W base args ds gs before hval0 hW _ _ hL _
  have hval : ∀ (j : Nat) t v, Tryd.f7.params[j]? = some t → args[j]? = some v → Value.okWide Tryd.prog W .any base t v := hval0
  have hW' := hW
  obtain ⟨p, q, hA0, hV, rfl, hfz, hnd⟩ := hW
  have hA : DataW.TrodAll enc Tryd.prog W 0 (fun _ => true) true Tryd.f7.params.toList args.toList ds p := hA0
  rw [Tryd.params7] at hA hval
  obtain ⟨v0, vs0, d0, ds0, p0, q0, hargs, rfl, rfl, h0, r0⟩ := trodAll_cons hA
  obtain ⟨v1, vs1, d1, ds1, p1, q1, rfl, rfl, rfl, h1, r1⟩ := trodAll_cons r0
  obtain ⟨rfl, rfl, rfl⟩ := trodAll_nil r1
  obtain rfl : args = #[v0, v1] := by cases args; simp_all
  obtain ⟨rfl, rfl⟩ := trodVars_none hV
  obtain ⟨x0, rfl, fo0, fd0, ns0, nd0, ft0, fe0⟩ := open_rul (hval 0 27 v0 rfl rfl) h0
  obtain ⟨a1, rfl, rfl, rfl, w1⟩ := open_int Tryd.underlying2 (hval 1 2 v1 rfl rfl) h1
  clear hA0 hval0
  refine (walk x0 a1 fo0 fd0 ns0 nd0 ft0 fe0 w1 W (tab_of_laid hL)).mono fun e W' ⟨he, hg⟩ => ?_
  subst he
  exact ⟨_, rfl, post_up laidOut readable rfl hW' (fun _ _ _ => (trodAll_cons_mk (shut_bool Tryd.underlying4 _) trodAll_mk0)) rfl rfl
    hg (ok_one (by kernel_rfl) rfl (okWide_bool_mk Tryd.underlying4 _))⟩

theorem over : Rows.ruleRangeRow.holds Tryd.pinned (OpenSpec.ofChange Rows.ruleRangeSpec) :=
  OpenClaim.holds_of_wide 7 Tryd.f7 rfl rfl rfl rfl rfl rfl rfl ⟨rfl, rfl, rfl, rfl, rfl⟩ rfl rfl rfl rfl rfl (by kernel_rfl) Tryd.func7 (by kernel_rfl)
    (of_decide_eq_true (by kernel_rfl)) (by unfold Func.isWrapper; first | (rw [if_pos (by decide +kernel)]; kernel_rfl) | (rw [if_neg (by decide +kernel)]; exact ⟨rfl, rfl⟩))
    (fun os started H enc _ => lifted os started H enc)

set_option maxRecDepth 100000 in
theorem proved : Rows.RuleRangeCardSaid :=
  Claim7.holds_tied_plain_at .later [] [.data] true _ false
    over (fun _ h => by cases h) (by kernel_rfl) (fun _ h => by cases h) ruleRange_row_tie rfl ⟨rfl, rfl⟩ (by kernel_rfl) rfl
    (fun f fn hf hfn => by
      obtain rfl : f = 7 := Option.some.inj ((show Tryd.prog.funcNamed "longcase/longcaselaw09.RuleRange" = some 7 by kernel_rfl).symm.trans hf) |>.symm
      obtain rfl : fn = Tryd.f7 := (Option.some.inj (Tryd.func7.symm.trans hfn)).symm
      exact ⟨by kernel_rfl, fun j t ht => by
        rw [Tryd.params7] at ht
        have hm : t ∈ [27, 2] := by simpa using Array.mem_of_getElem? ht
        have hall : ([27, 2].all fun u => !Tryd.prog.wantsStandIn u) = true := by kernel_rfl
        exact (show Tryd.prog.wantsStandIn t = false by simpa using List.all_eq_true.1 hall t hm)⟩)
    (by kernel_rfl)
end Go.Proofs.YtbneokgeochinaaDoor.ruleRange
