/-
  RuleShift is proved: for every rule, offset and year the statement answers true: a rule whose two kinds are ahead by so much more changes so much earlier. Conditions: the tied card's own (the listed variable, the lengths of months, as the text of the program lays it).
-/
import Derived.Test.YtbneokgeochinaaDoorLcShown9
import Derived.Test.YtbneokgeochinaaDoorLcPs8
import Derived.Test.YtbneokgeochinaaDoorLcOpC
import Derived.Test.YtbneokgeochinaaDoorTie
import Derived.Test.YtbneokgeochinaaDoorCards
import Derived.WalkKit
import Derived.ProofKit
import Derived.OpenShut
import Derived.LaidMore
import Derived.Stop.Joined
import Derived.SevenTiedAt
namespace Go.Proofs.YtbneokgeochinaaDoor.ruleShift
open Go.ChangeShapes Go.WideShapes Go.ChangeAt Go.RowKit Lc
set_option linter.unusedVariables false

theorem own : ownKnob Tryd.prog.godebug = none := by kernel_rfl

theorem ru0_l : rA ru0 = #[.int .i64 0, .bool false, .string ⟨#[]⟩, .int .i64 0, .bool false, .string ⟨#[]⟩, .bool false, .int .i64 0, .int .i64 0, .int .i64 0, .int .i64 0, .int .i64 0, .int .i64 0, .int .i64 0, .int .i64 0, .int .i64 0, .int .i64 0] := rfl
/-- The rule whose kinds are ahead by so much more. -/
def shR (r : Ru) (k : Int) : Ru := ⟨⟨IntKind.i64.wrap (r.std.off + k), r.std.dst, r.std.name⟩, ⟨IntKind.i64.wrap (r.dst.off + k), r.dst.dst, r.dst.name⟩, r.both, r.st, r.en⟩
theorem tu_no {r : Ru} {y : Int} (h : okT r y = false) : tuE r y = 1 ∧ tuS r y = 0 ∧ tuN r y = 0 := by
  unfold tuE tuS tuN
  rw [h]
  exact ⟨rfl, rfl, rfl⟩
theorem tu_yes {r : Ru} {y : Int} (h : okT r y = true) : tuE r y = 0 ∧ tuS r y = tnS r y ∧ tuN r y = tnE r y := by
  unfold tuE tuS tuN
  rw [h]
  exact ⟨rfl, rfl, rfl⟩
theorem shift_cases (r : Ru) (k y : Int) (h1 : -1000 ≤ k) (h2 : k ≤ 1000) :
    (tuE r y = 0 ∧ tuE (shR r k) y = 0 ∧ IntKind.i64.wrap (tuS r y - tuS (shR r k) y) = k ∧ IntKind.i64.wrap (tuN r y - tuN (shR r k) y) = k) ∨
    (tuE r y = 0 ∧ tuE (shR r k) y = 1 ∧ tuS (shR r k) y = 0 ∧ tuN (shR r k) y = 0) ∨
    (tuE r y = 1 ∧ tuS r y = 0 ∧ tuN r y = 0 ∧ tuE (shR r k) y = 0) ∨
    (tuE r y = 1 ∧ tuS r y = 0 ∧ tuN r y = 0 ∧ tuE (shR r k) y = 1 ∧ tuS (shR r k) y = 0 ∧ tuN (shR r k) y = 0) := by
  cases a : okT r y <;> cases b : okT (shR r k) y
  · obtain ⟨a1, a2, a3⟩ := tu_no a
    obtain ⟨b1, b2, b3⟩ := tu_no b
    exact .inr (.inr (.inr ⟨a1, a2, a3, b1, b2, b3⟩))
  · obtain ⟨a1, a2, a3⟩ := tu_no a
    exact .inr (.inr (.inl ⟨a1, a2, a3, (tu_yes b).1⟩))
  · obtain ⟨b1, b2, b3⟩ := tu_no b
    exact .inr (.inl ⟨(tu_yes a).1, b1, b2, b3⟩)
  · obtain ⟨a1, a2, a3⟩ := tu_yes a
    obtain ⟨b1, b2, b3⟩ := tu_yes b
    refine .inl ⟨a1, b1, ?_, ?_⟩
    all_goals
      first | rw [a2, b2] | rw [a3, b3]
    all_goals
      obtain ⟨hr, hb, _⟩ := okT_parts a
      obtain ⟨o1, o2, z⟩ := ru_parts hr
      obtain ⟨_, _, o3, o4⟩ := z hb
      have e1 : IntKind.i64.wrap (r.std.off + k) = r.std.off + k := IntWalk.i64_in _ (by omega)
      have e2 : IntKind.i64.wrap (r.dst.off + k) = r.dst.off + k := IntWalk.i64_in _ (by omega)
      first | unfold tnS shR | unfold tnE shR
      simp only [e1, e2]
      first
        | (rw [show dayC y r.st * 86400 + r.st.tm - r.std.off - (dayC y r.st * 86400 + r.st.tm - (r.std.off + k)) = k by omega]; exact IntWalk.i64_in _ (by omega))
        | (rw [show dayC y r.en * 86400 + r.en.tm - r.dst.off - (dayC y r.en * 86400 + r.en.tm - (r.dst.off + k)) = k by omega]; exact IntWalk.i64_in _ (by omega))

set_option maxHeartbeats 4000000 in
set_option maxRecDepth 100000 in
theorem walk (x0 : Ru) (a1 : Int) (a2 : Int) (fo0 : fitB x0.std.off = true) (fd0 : fitB x0.dst.off = true) (ns0 : x0.std.name.length ≤ maxLen) (nd0 : x0.dst.name.length ≤ maxLen) (ft0 : fitB x0.st.tm = true) (fe0 : fitB x0.en.tm = true) (w1 : (Lit.int .i64 a1).wf = true) (w2 : (Lit.int .i64 a2).wf = true) (w : World) (T : Tab w) :
    Calls Tryd.prog 9 #[.agg (rA x0), .int .i64 a1, .int .i64 a2] w fun e w' => e = .returned (.bool true) ∧ Up w w' := by
  have SH := Lib.hid (fun w T => shown_any w T)
  have B0 := Lib.hid (Bk.new w (rA x0) 27 (by decide))
  have U0 := Lib.hid (Up.alloc w (.cells (rA x0) 27))
  have TT := Lib.hid T
  clear T
  have rs : ∀ r, (rA r).size = 17 := fun r => rfl
  obtain ⟨k, hk⟩ : ∃ k, a1.tmod 1001 = k := ⟨_, rfl⟩
  have tb := tmod_lt a1 1001 (by decide)
  rw [hk] at tb
  have kb : -1000 ≤ k ∧ k ≤ 1000 := by omega
  have HC := shift_cases x0 k a2 kb.1 kb.2
  have TP := Lib.hid (fun w T => turnsP_any x0 a2 w T ns0 nd0)
  obtain ⟨S, hS⟩ : ∃ S, shR x0 k = S := ⟨_, rfl⟩
  have HS : Hid (∀ V b T, Bk V b (rA x0) T → Bk ((V.setCell ⟨b, 0, none⟩ (.int .i64 (IntKind.i64.wrap (x0.std.off + k)))).setCell ⟨b, 3, none⟩ (.int .i64 (IntKind.i64.wrap (x0.dst.off + k)))) b (rA S) T) := Lib.hid (fun V b T h => by rw [← hS]; exact (h.set 0 _).set 3 _)
  have TS := Lib.hid (fun w T => turnsP_any S a2 w T (by rw [← hS]; exact ns0) (by rw [← hS]; exact nd0))
  rw [hS] at HC
  clear hS tb kb
  generalize tuS x0 a2 = v1 at *
  generalize tuN x0 a2 = v2 at *
  generalize tuE x0 a2 = e1 at *
  generalize tuS S a2 = v3 at *
  generalize tuN S a2 = v4 at *
  generalize tuE S a2 = e2 at *
  obtain ⟨o1, ho1⟩ : ∃ o, IntKind.i64.wrap (x0.std.off + k) = o := ⟨_, rfl⟩
  obtain ⟨o2, ho2⟩ : ∃ o, IntKind.i64.wrap (x0.dst.off + k) = o := ⟨_, rfl⟩
  rw [ho1, ho2] at HS
  rcases HC with ⟨rfl, rfl, x1, x2⟩ | ⟨rfl, rfl, rfl, rfl⟩ | ⟨rfl, rfl, rfl, rfl⟩ | ⟨rfl, rfl, rfl, rfl, rfl, rfl⟩
  · go_enter Tryd.func9, Tryd.ntmps9
    go_wp2_with fail
    refine (SH.out _ (Tab.up TT.out U0.out)).mono ?_; rintro e w1 ⟨rfl, u1⟩
    have B1 := Lib.hid (B0.out.up u1)
    have U1 := Lib.hid (U0.out.trans u1)
    clear u1 B0 U0 SH
    have z1 := Bk.new w1 (rA ru0) 27 (by decide)
    have ST := st_cells (r := x0) z1
    have b2 := putR_bk (r := x0) z1
    have v2' := putR_up (r := x0) (Up.alloc w1 (.cells (rA ru0) 27)) (Nat.le_refl _)
    rw [ru0_l] at ST b2 v2'
    clear z1
    have bb := Lib.hid b2
    have vv := Lib.hid v2'
    clear b2 v2'
    generalize hP : PutR _ w1.heap.size x0 = w2 at *
    clear hP
    go_upto_region 3 with (fail)
    refine wp_region_lit ?_
    refine wpList_ld rfl 3 w.heap.size x0 _ rfl B1.out rfl ?_
    go_upto_region 4 with (fail)
    clear ST
    have B2 := Lib.hid (B1.out.up vv.out)
    have U2 := Lib.hid (U1.out.trans vv.out)
    have lt : w.heap.size ≠ w1.heap.size := by have := B1.out.lt; omega
    have le : w.heap.size ≤ w1.heap.size := U1.out.size
    have q0 : w2.cell? ⟨w.heap.size, 0, none⟩ = some (.int .i64 x0.std.off) := B2.out.cell 0
    have q3 : w2.cell? ⟨w.heap.size, 3, none⟩ = some (.int .i64 x0.dst.off) := B2.out.cell 3
    have p0 : w2.cell? ⟨w1.heap.size, 0, none⟩ = some (.int .i64 x0.std.off) := bb.out.cell 0
    have p3 : w2.cell? ⟨w1.heap.size, 3, none⟩ = some (.int .i64 x0.dst.off) := bb.out.cell 3
    have f0 : w2.frozen? ⟨w1.heap.size, 0, none⟩ = false := bb.out.frozen 0
    have f3 : w2.frozen? ⟨w1.heap.size, 3, none⟩ = false := bb.out.frozen 3
    have B3 : Hid (Bk ((w2.setCell ⟨w1.heap.size, 0, none⟩ (.int .i64 o1)).setCell ⟨w1.heap.size, 3, none⟩ (.int .i64 o2)) w.heap.size (rA x0) 27) := Lib.hid ⟨by rw [Below.heap_setCell _ _ _ _ lt, Below.heap_setCell _ _ _ _ lt]; exact B2.out.1, by decide⟩
    have C3 := Lib.hid (HS.out _ _ _ bb.out)
    have U3 : Hid (Up w ((w2.setCell ⟨w1.heap.size, 0, none⟩ (.int .i64 o1)).setCell ⟨w1.heap.size, 3, none⟩ (.int .i64 o2))) := Lib.hid (up_setw (up_setw U2.out le 0 _) le 3 _)
    go_upto_region 6 with (fail)
    clear q0 q3 p0 p3 f0 f3 B1 B2 U1 U2 bb vv lt le
    generalize hV : (w2.setCell ⟨w1.heap.size, 0, none⟩ (.int .i64 o1)).setCell ⟨w1.heap.size, 3, none⟩ (.int .i64 o2) = V at *
    clear hV
    refine wp_region_lit ?_
    refine wpList_ld rfl 3 w.heap.size x0 _ rfl B3.out rfl ?_
    go_wp2_with fail
    refine (TP.out _ (Tab.up TT.out U3.out)).mono ?_; rintro e w4 ⟨rfl, u1⟩
    have C4 := Lib.hid (C3.out.up u1)
    have U4 := Lib.hid (U3.out.trans u1)
    clear u1 B3 C3 U3 TP
    go_upto_region 7 with (fail)
    refine wp_region_lit ?_
    refine wpList_ld rfl 8 w1.heap.size S _ rfl C4.out rfl ?_
    go_wp2_with fail
    refine (TS.out _ (Tab.up TT.out U4.out)).mono ?_; rintro e w5 ⟨rfl, u1⟩
    have U5 := Lib.hid (U4.out.trans u1)
    clear u1 C4 U4 TS
    go_wp2_with fail
    go_ret
    exact ⟨ret_b (by simp), U5.out⟩
  · go_enter Tryd.func9, Tryd.ntmps9
    go_wp2_with fail
    refine (SH.out _ (Tab.up TT.out U0.out)).mono ?_; rintro e w1 ⟨rfl, u1⟩
    have B1 := Lib.hid (B0.out.up u1)
    have U1 := Lib.hid (U0.out.trans u1)
    clear u1 B0 U0 SH
    have z1 := Bk.new w1 (rA ru0) 27 (by decide)
    have ST := st_cells (r := x0) z1
    have b2 := putR_bk (r := x0) z1
    have v2' := putR_up (r := x0) (Up.alloc w1 (.cells (rA ru0) 27)) (Nat.le_refl _)
    rw [ru0_l] at ST b2 v2'
    clear z1
    have bb := Lib.hid b2
    have vv := Lib.hid v2'
    clear b2 v2'
    generalize hP : PutR _ w1.heap.size x0 = w2 at *
    clear hP
    go_upto_region 3 with (fail)
    refine wp_region_lit ?_
    refine wpList_ld rfl 3 w.heap.size x0 _ rfl B1.out rfl ?_
    go_upto_region 4 with (fail)
    clear ST
    have B2 := Lib.hid (B1.out.up vv.out)
    have U2 := Lib.hid (U1.out.trans vv.out)
    have lt : w.heap.size ≠ w1.heap.size := by have := B1.out.lt; omega
    have le : w.heap.size ≤ w1.heap.size := U1.out.size
    have q0 : w2.cell? ⟨w.heap.size, 0, none⟩ = some (.int .i64 x0.std.off) := B2.out.cell 0
    have q3 : w2.cell? ⟨w.heap.size, 3, none⟩ = some (.int .i64 x0.dst.off) := B2.out.cell 3
    have p0 : w2.cell? ⟨w1.heap.size, 0, none⟩ = some (.int .i64 x0.std.off) := bb.out.cell 0
    have p3 : w2.cell? ⟨w1.heap.size, 3, none⟩ = some (.int .i64 x0.dst.off) := bb.out.cell 3
    have f0 : w2.frozen? ⟨w1.heap.size, 0, none⟩ = false := bb.out.frozen 0
    have f3 : w2.frozen? ⟨w1.heap.size, 3, none⟩ = false := bb.out.frozen 3
    have B3 : Hid (Bk ((w2.setCell ⟨w1.heap.size, 0, none⟩ (.int .i64 o1)).setCell ⟨w1.heap.size, 3, none⟩ (.int .i64 o2)) w.heap.size (rA x0) 27) := Lib.hid ⟨by rw [Below.heap_setCell _ _ _ _ lt, Below.heap_setCell _ _ _ _ lt]; exact B2.out.1, by decide⟩
    have C3 := Lib.hid (HS.out _ _ _ bb.out)
    have U3 : Hid (Up w ((w2.setCell ⟨w1.heap.size, 0, none⟩ (.int .i64 o1)).setCell ⟨w1.heap.size, 3, none⟩ (.int .i64 o2))) := Lib.hid (up_setw (up_setw U2.out le 0 _) le 3 _)
    go_upto_region 6 with (fail)
    clear q0 q3 p0 p3 f0 f3 B1 B2 U1 U2 bb vv lt le
    generalize hV : (w2.setCell ⟨w1.heap.size, 0, none⟩ (.int .i64 o1)).setCell ⟨w1.heap.size, 3, none⟩ (.int .i64 o2) = V at *
    clear hV
    refine wp_region_lit ?_
    refine wpList_ld rfl 3 w.heap.size x0 _ rfl B3.out rfl ?_
    go_wp2_with fail
    refine (TP.out _ (Tab.up TT.out U3.out)).mono ?_; rintro e w4 ⟨rfl, u1⟩
    have C4 := Lib.hid (C3.out.up u1)
    have U4 := Lib.hid (U3.out.trans u1)
    clear u1 B3 C3 U3 TP
    go_upto_region 7 with (fail)
    refine wp_region_lit ?_
    refine wpList_ld rfl 8 w1.heap.size S _ rfl C4.out rfl ?_
    go_wp2_with fail
    refine (TS.out _ (Tab.up TT.out U4.out)).mono ?_; rintro e w5 ⟨rfl, u1⟩
    have U5 := Lib.hid (U4.out.trans u1)
    clear u1 C4 U4 TS
    go_wp2_with fail
    go_ret
    exact ⟨ret_b (by simp), U5.out⟩
  · go_enter Tryd.func9, Tryd.ntmps9
    go_wp2_with fail
    refine (SH.out _ (Tab.up TT.out U0.out)).mono ?_; rintro e w1 ⟨rfl, u1⟩
    have B1 := Lib.hid (B0.out.up u1)
    have U1 := Lib.hid (U0.out.trans u1)
    clear u1 B0 U0 SH
    have z1 := Bk.new w1 (rA ru0) 27 (by decide)
    have ST := st_cells (r := x0) z1
    have b2 := putR_bk (r := x0) z1
    have v2' := putR_up (r := x0) (Up.alloc w1 (.cells (rA ru0) 27)) (Nat.le_refl _)
    rw [ru0_l] at ST b2 v2'
    clear z1
    have bb := Lib.hid b2
    have vv := Lib.hid v2'
    clear b2 v2'
    generalize hP : PutR _ w1.heap.size x0 = w2 at *
    clear hP
    go_upto_region 3 with (fail)
    refine wp_region_lit ?_
    refine wpList_ld rfl 3 w.heap.size x0 _ rfl B1.out rfl ?_
    go_upto_region 4 with (fail)
    clear ST
    have B2 := Lib.hid (B1.out.up vv.out)
    have U2 := Lib.hid (U1.out.trans vv.out)
    have lt : w.heap.size ≠ w1.heap.size := by have := B1.out.lt; omega
    have le : w.heap.size ≤ w1.heap.size := U1.out.size
    have q0 : w2.cell? ⟨w.heap.size, 0, none⟩ = some (.int .i64 x0.std.off) := B2.out.cell 0
    have q3 : w2.cell? ⟨w.heap.size, 3, none⟩ = some (.int .i64 x0.dst.off) := B2.out.cell 3
    have p0 : w2.cell? ⟨w1.heap.size, 0, none⟩ = some (.int .i64 x0.std.off) := bb.out.cell 0
    have p3 : w2.cell? ⟨w1.heap.size, 3, none⟩ = some (.int .i64 x0.dst.off) := bb.out.cell 3
    have f0 : w2.frozen? ⟨w1.heap.size, 0, none⟩ = false := bb.out.frozen 0
    have f3 : w2.frozen? ⟨w1.heap.size, 3, none⟩ = false := bb.out.frozen 3
    have B3 : Hid (Bk ((w2.setCell ⟨w1.heap.size, 0, none⟩ (.int .i64 o1)).setCell ⟨w1.heap.size, 3, none⟩ (.int .i64 o2)) w.heap.size (rA x0) 27) := Lib.hid ⟨by rw [Below.heap_setCell _ _ _ _ lt, Below.heap_setCell _ _ _ _ lt]; exact B2.out.1, by decide⟩
    have C3 := Lib.hid (HS.out _ _ _ bb.out)
    have U3 : Hid (Up w ((w2.setCell ⟨w1.heap.size, 0, none⟩ (.int .i64 o1)).setCell ⟨w1.heap.size, 3, none⟩ (.int .i64 o2))) := Lib.hid (up_setw (up_setw U2.out le 0 _) le 3 _)
    go_upto_region 6 with (fail)
    clear q0 q3 p0 p3 f0 f3 B1 B2 U1 U2 bb vv lt le
    generalize hV : (w2.setCell ⟨w1.heap.size, 0, none⟩ (.int .i64 o1)).setCell ⟨w1.heap.size, 3, none⟩ (.int .i64 o2) = V at *
    clear hV
    refine wp_region_lit ?_
    refine wpList_ld rfl 3 w.heap.size x0 _ rfl B3.out rfl ?_
    go_wp2_with fail
    refine (TP.out _ (Tab.up TT.out U3.out)).mono ?_; rintro e w4 ⟨rfl, u1⟩
    have C4 := Lib.hid (C3.out.up u1)
    have U4 := Lib.hid (U3.out.trans u1)
    clear u1 B3 C3 U3 TP
    go_upto_region 7 with (fail)
    refine wp_region_lit ?_
    refine wpList_ld rfl 8 w1.heap.size S _ rfl C4.out rfl ?_
    go_wp2_with fail
    refine (TS.out _ (Tab.up TT.out U4.out)).mono ?_; rintro e w5 ⟨rfl, u1⟩
    have U5 := Lib.hid (U4.out.trans u1)
    clear u1 C4 U4 TS
    go_wp2_with fail
    go_ret
    exact ⟨ret_b (by simp), U5.out⟩
  · go_enter Tryd.func9, Tryd.ntmps9
    go_wp2_with fail
    refine (SH.out _ (Tab.up TT.out U0.out)).mono ?_; rintro e w1 ⟨rfl, u1⟩
    have B1 := Lib.hid (B0.out.up u1)
    have U1 := Lib.hid (U0.out.trans u1)
    clear u1 B0 U0 SH
    have z1 := Bk.new w1 (rA ru0) 27 (by decide)
    have ST := st_cells (r := x0) z1
    have b2 := putR_bk (r := x0) z1
    have v2' := putR_up (r := x0) (Up.alloc w1 (.cells (rA ru0) 27)) (Nat.le_refl _)
    rw [ru0_l] at ST b2 v2'
    clear z1
    have bb := Lib.hid b2
    have vv := Lib.hid v2'
    clear b2 v2'
    generalize hP : PutR _ w1.heap.size x0 = w2 at *
    clear hP
    go_upto_region 3 with (fail)
    refine wp_region_lit ?_
    refine wpList_ld rfl 3 w.heap.size x0 _ rfl B1.out rfl ?_
    go_upto_region 4 with (fail)
    clear ST
    have B2 := Lib.hid (B1.out.up vv.out)
    have U2 := Lib.hid (U1.out.trans vv.out)
    have lt : w.heap.size ≠ w1.heap.size := by have := B1.out.lt; omega
    have le : w.heap.size ≤ w1.heap.size := U1.out.size
    have q0 : w2.cell? ⟨w.heap.size, 0, none⟩ = some (.int .i64 x0.std.off) := B2.out.cell 0
    have q3 : w2.cell? ⟨w.heap.size, 3, none⟩ = some (.int .i64 x0.dst.off) := B2.out.cell 3
    have p0 : w2.cell? ⟨w1.heap.size, 0, none⟩ = some (.int .i64 x0.std.off) := bb.out.cell 0
    have p3 : w2.cell? ⟨w1.heap.size, 3, none⟩ = some (.int .i64 x0.dst.off) := bb.out.cell 3
    have f0 : w2.frozen? ⟨w1.heap.size, 0, none⟩ = false := bb.out.frozen 0
    have f3 : w2.frozen? ⟨w1.heap.size, 3, none⟩ = false := bb.out.frozen 3
    have B3 : Hid (Bk ((w2.setCell ⟨w1.heap.size, 0, none⟩ (.int .i64 o1)).setCell ⟨w1.heap.size, 3, none⟩ (.int .i64 o2)) w.heap.size (rA x0) 27) := Lib.hid ⟨by rw [Below.heap_setCell _ _ _ _ lt, Below.heap_setCell _ _ _ _ lt]; exact B2.out.1, by decide⟩
    have C3 := Lib.hid (HS.out _ _ _ bb.out)
    have U3 : Hid (Up w ((w2.setCell ⟨w1.heap.size, 0, none⟩ (.int .i64 o1)).setCell ⟨w1.heap.size, 3, none⟩ (.int .i64 o2))) := Lib.hid (up_setw (up_setw U2.out le 0 _) le 3 _)
    go_upto_region 6 with (fail)
    clear q0 q3 p0 p3 f0 f3 B1 B2 U1 U2 bb vv lt le
    generalize hV : (w2.setCell ⟨w1.heap.size, 0, none⟩ (.int .i64 o1)).setCell ⟨w1.heap.size, 3, none⟩ (.int .i64 o2) = V at *
    clear hV
    refine wp_region_lit ?_
    refine wpList_ld rfl 3 w.heap.size x0 _ rfl B3.out rfl ?_
    go_wp2_with fail
    refine (TP.out _ (Tab.up TT.out U3.out)).mono ?_; rintro e w4 ⟨rfl, u1⟩
    have C4 := Lib.hid (C3.out.up u1)
    have U4 := Lib.hid (U3.out.trans u1)
    clear u1 B3 C3 U3 TP
    go_upto_region 7 with (fail)
    refine wp_region_lit ?_
    refine wpList_ld rfl 8 w1.heap.size S _ rfl C4.out rfl ?_
    go_wp2_with fail
    refine (TS.out _ (Tab.up TT.out U4.out)).mono ?_; rintro e w5 ⟨rfl, u1⟩
    have U5 := Lib.hid (U4.out.trans u1)
    clear u1 C4 U4 TS
    go_wp2_with fail
    go_ret
    exact ⟨ret_b (by simp), U5.out⟩

theorem readable : ∀ t ∈ Tryd.f9.params.toList, Tryd.prog.readableRec t = true ∧ t < Tryd.prog.types.size := by
  rw [Tryd.params9]
  intro t ht
  have hall : ([27, 3, 3].all fun u => Tryd.prog.readableRec u && decide (u < Tryd.prog.types.size)) = true := by kernel_rfl
  have := List.all_eq_true.1 hall t (by simpa using ht)
  simpa using this

set_option maxRecDepth 100000 in
theorem lifted (os : Os) (started : os.Started) (H : Type) (enc : TypeId × Value → H) :
    ReturnsInHanded {} Tryd.checked os 9 .any (fun w args => (Rows.ruleShiftSpec.pre enc Tryd.prog Tryd.f9 [] false w args ∧ laidMetH Tryd.prog laidC w) ∧ sizedMet enc Tryd.prog Tryd.f9 (OpenSpec.ofChange Rows.ruleShiftSpec) false w args) (Rows.ruleShiftSpec.post enc Tryd.prog Tryd.f9 false true false false) := by
  refine returnsInHanded_of_change_and (C := Tryd.checked) (X := fun w _ => laidMetH Tryd.prog laidC w) (fun _ _ _ hh h => h.of_heap hh) own started (by kernel_rfl) Tryd.func9
    (ChangeSpec.witness_shaped (enc := enc) (C := Tryd.checked) (os := os) (X := fun w _ => laidMetH Tryd.prog laidC w) false (World.doorLaid Tryd.prog 400 os) #[.agg #[.int .i64 0, .bool false, .string ⟨#[]⟩, .int .i64 0, .bool false, .string ⟨#[]⟩, .bool false, .int .i64 0, .int .i64 0, .int .i64 0, .int .i64 0, .int .i64 0, .int .i64 0, .int .i64 0, .int .i64 0, .int .i64 0, .int .i64 0], .int .i64 0, .int .i64 0] 8 rfl (World.shaped_of_RefB (by kernel_rfl) (by kernel_rfl)) (by kernel_rfl) (by kernel_rfl) (by kernel_rfl) (door_met os _)) ?_
  intro W base args ds gs before hval0 hW _ _ hL _
  have hval : ∀ (j : Nat) t v, Tryd.f9.params[j]? = some t → args[j]? = some v → Value.okWide Tryd.prog W .any base t v := hval0
  have hW' := hW
  obtain ⟨p, q, hA0, hV, rfl, hfz, hnd⟩ := hW
  have hA : DataW.TrodAll enc Tryd.prog W 0 (fun _ => true) true Tryd.f9.params.toList args.toList ds p := hA0
  rw [Tryd.params9] at hA hval
  obtain ⟨v0, vs0, d0, ds0, p0, q0, hargs, rfl, rfl, h0, r0⟩ := trodAll_cons hA
  obtain ⟨v1, vs1, d1, ds1, p1, q1, rfl, rfl, rfl, h1, r1⟩ := trodAll_cons r0
  obtain ⟨v2, vs2, d2, ds2, p2, q2, rfl, rfl, rfl, h2, r2⟩ := trodAll_cons r1
  obtain ⟨rfl, rfl, rfl⟩ := trodAll_nil r2
  obtain rfl : args = #[v0, v1, v2] := by cases args; simp_all
  obtain ⟨rfl, rfl⟩ := trodVars_none hV
  obtain ⟨x0, rfl, fo0, fd0, ns0, nd0, ft0, fe0⟩ := open_rul (hval 0 27 v0 rfl rfl) h0
  obtain ⟨a1, rfl, rfl, rfl, w1⟩ := open_int Tryd.underlying3 (hval 1 3 v1 rfl rfl) h1
  obtain ⟨a2, rfl, rfl, rfl, w2⟩ := open_int Tryd.underlying3 (hval 2 3 v2 rfl rfl) h2
  clear hA0 hval0
  refine (walk x0 a1 a2 fo0 fd0 ns0 nd0 ft0 fe0 w1 w2 W (tab_of_laid hL)).mono fun e W' ⟨he, hg⟩ => ?_
  subst he
  exact ⟨_, rfl, post_up laidOut readable rfl hW' (fun _ _ _ => (trodAll_cons_mk (shut_bool Tryd.underlying4 _) trodAll_mk0)) rfl rfl
    hg (ok_one (by kernel_rfl) rfl (okWide_bool_mk Tryd.underlying4 _))⟩

theorem over : Rows.ruleShiftRow.holds Tryd.pinned (OpenSpec.ofChange Rows.ruleShiftSpec) :=
  OpenClaim.holds_of_wide 9 Tryd.f9 rfl rfl rfl rfl rfl rfl rfl ⟨rfl, rfl, rfl, rfl, rfl⟩ rfl rfl rfl rfl rfl (by kernel_rfl) Tryd.func9 (by kernel_rfl)
    (of_decide_eq_true (by kernel_rfl)) (by unfold Func.isWrapper; first | (rw [if_pos (by decide +kernel)]; kernel_rfl) | (rw [if_neg (by decide +kernel)]; exact ⟨rfl, rfl⟩))
    (fun os started H enc _ => lifted os started H enc)

set_option maxRecDepth 100000 in
theorem proved : Rows.RuleShiftCardSaid :=
  Claim7.holds_tied_plain_at .later [] [.data] true _ false
    over (fun _ h => by cases h) (by kernel_rfl) (fun _ h => by cases h) ruleShift_row_tie rfl ⟨rfl, rfl⟩ (by kernel_rfl) rfl
    (fun f fn hf hfn => by
      obtain rfl : f = 9 := Option.some.inj ((show Tryd.prog.funcNamed "longcase/longcaselaw09.RuleShift" = some 9 by kernel_rfl).symm.trans hf) |>.symm
      obtain rfl : fn = Tryd.f9 := (Option.some.inj (Tryd.func9.symm.trans hfn)).symm
      exact ⟨by kernel_rfl, fun j t ht => by
        rw [Tryd.params9] at ht
        have hm : t ∈ [27, 3, 3] := by simpa using Array.mem_of_getElem? ht
        have hall : ([27, 3, 3].all fun u => !Tryd.prog.wantsStandIn u) = true := by kernel_rfl
        exact (show Tryd.prog.wantsStandIn t = false by simpa using List.all_eq_true.1 hall t hm)⟩)
    (by kernel_rfl)
end Go.Proofs.YtbneokgeochinaaDoor.ruleShift
