/-
  The document's own answer of layer 9: a year's turns.
-/
import Derived.Test.YtbneokgeochinaaDoorLcRyE
import Derived.Test.YtbneokgeochinaaDoorLcRy1
import Derived.Test.YtbneokgeochinaaDoorLcDb
import Derived.Test.YtbneokgeochinaaDoorLcPu0
import Derived.BigQuiet
import Derived.Deep.Cut
import Derived.Deep.QuietTactic
namespace Go.Proofs.YtbneokgeochinaaDoor
open Go.ChangeShapes Go.WideShapes Go.ChangeAt Go.RowKit Go.Sort Lc

set_option maxRecDepth 100000 in
set_option maxHeartbeats 8000000 in
theorem dturns_no (r : Ru) (y : Int) (w : World) (n1 : r.std.name.length ≤ maxLen) (n2 : r.dst.name.length ≤ maxLen) (h : okT r y = false) :
    Calls Tryd.prog 15 #[.agg (rA r), .int .i64 y] w fun e w' => e = .returned (.tuple #[.int .i64 0, .int .i64 0, .bool false]) ∧ Up w w' := by
  have B0 := Lib.hid (Bk.new w (rA r) 27 (by decide))
  have U0 := Lib.hid (Up.alloc w (.cells (rA r) 27))
  have RI : ∀ w, _ := fun w => dright_any r true w n1 n2
  have Y : ∀ w, _ := fun w => dyear_any y w
  unfold okT at h
  obtain ⟨Q, hQ⟩ : ∃ Q, rightB r true = Q := ⟨_, rfl⟩
  rw [hQ] at RI h
  clear hQ
  obtain ⟨Z, hZ⟩ : ∃ Z, yrB y = Z := ⟨_, rfl⟩
  rw [hZ] at Y h
  clear hZ
  cases Q
  · skip
    go_enter Tryd.func15, Tryd.ntmps15
    go_upto_region 1 with (fail)
    refine wp_region_lit ?_
    refine wpList_ld rfl 2 w.heap.size r _ rfl B0.out rfl ?_
    go_wp2_with fail
    refine (RI _).mono ?_; rintro e w1 ⟨rfl, u1⟩
    have B1 := Lib.hid (B0.out.up u1)
    have U1 := Lib.hid (U0.out.trans u1)
    clear u1 B0 U0 RI
    go_wp2_with fail
    exact bodyPost_ret (v := .tuple #[.int .i64 0, .int .i64 0, .bool false]) (by simp [results, Tryd.results15, go_sem]) rfl ⟨rfl, U1.out⟩
  · by_cases hb : r.both = true
    · cases Z
      · skip
        go_enter Tryd.func15, Tryd.ntmps15
        go_upto_region 1 with (fail)
        refine wp_region_lit ?_
        refine wpList_ld rfl 2 w.heap.size r _ rfl B0.out rfl ?_
        go_wp2_with fail
        refine (RI _).mono ?_; rintro e w1 ⟨rfl, u1⟩
        have B1 := Lib.hid (B0.out.up u1)
        have U1 := Lib.hid (U0.out.trans u1)
        clear u1 B0 U0 RI
        have q6 : w1.cell? ⟨w.heap.size, 6, none⟩ = some (.bool true) := by rw [← hb]; exact B1.out.cell 6
        go_wp2_with fail
        refine (Y _).mono ?_; rintro e w2 ⟨rfl, rfl⟩
        go_wp2_with fail
        exact bodyPost_ret (v := .tuple #[.int .i64 0, .int .i64 0, .bool false]) (by simp [results, Tryd.results15, go_sem]) rfl ⟨rfl, U1.out⟩
      · rw [hb] at h; cases h
    · rw [Bool.not_eq_true] at hb
      go_enter Tryd.func15, Tryd.ntmps15
      go_upto_region 1 with (fail)
      refine wp_region_lit ?_
      refine wpList_ld rfl 2 w.heap.size r _ rfl B0.out rfl ?_
      go_wp2_with fail
      refine (RI _).mono ?_; rintro e w1 ⟨rfl, u1⟩
      have B1 := Lib.hid (B0.out.up u1)
      have U1 := Lib.hid (U0.out.trans u1)
      clear u1 B0 U0 RI
      have q6 : w1.cell? ⟨w.heap.size, 6, none⟩ = some (.bool false) := by rw [← hb]; exact B1.out.cell 6
      go_wp2_with fail
      exact bodyPost_ret (v := .tuple #[.int .i64 0, .int .i64 0, .bool false]) (by simp [results, Tryd.results15, go_sem]) rfl ⟨rfl, U1.out⟩
set_option maxRecDepth 100000 in
set_option maxHeartbeats 8000000 in
theorem dturns_yes (r : Ru) (y : Int) (w : World) (n1 : r.std.name.length ≤ maxLen) (n2 : r.dst.name.length ≤ maxLen) (h : okT r y = true) :
    Calls Tryd.prog 15 #[.agg (rA r), .int .i64 y] w fun e w' => e = .returned (.tuple #[.int .i64 (tnS r y), .int .i64 (tnE r y), .bool true]) ∧ Up w w' := by
  have B0 := Lib.hid (Bk.new w (rA r) 27 (by decide))
  have U0 := Lib.hid (Up.alloc w (.cells (rA r) 27))
  have RI : ∀ w, _ := fun w => dright_any r true w n1 n2
  have Y : ∀ w, _ := fun w => dyear_any y w
  obtain ⟨hr, hb, hy⟩ := okT_parts h
  rw [hr] at RI
  rw [hy] at Y
  obtain ⟨o1, o2, z⟩ := ru_parts hr
  obtain ⟨sc, ec, o3, o4⟩ := z hb
  have t1 := changeB_tm sc
  have t2 := changeB_tm ec
  obtain ⟨y1, y2⟩ := yrB_parts hy
  have nb := ny_rng y1 y2
  have db1 := dayC_bd (y := y) sc
  have db2 := dayC_bd (y := y) ec
  have DS : ∀ w, Calls Tryd.prog 13 #[.int .i64 y, .agg #[.int .i64 r.st.how, .int .i64 r.st.n, .int .i64 r.st.wk, .int .i64 r.st.wd, .int .i64 r.st.tm]] w _ := fun w => dday_yes y r.st w (by unfold okY; rw [sc, hy]; rfl)
  have DE : ∀ w, Calls Tryd.prog 13 #[.int .i64 y, .agg #[.int .i64 r.en.how, .int .i64 r.en.n, .int .i64 r.en.wk, .int .i64 r.en.wd, .int .i64 r.en.tm]] w _ := fun w => dday_yes y r.en w (by unfold okY; rw [ec, hy]; rfl)
  have ES : Hid (tnS r y = dayC y r.st * 86400 + r.st.tm - r.std.off) := Lib.hid rfl
  have EE : Hid (tnE r y = dayC y r.en * 86400 + r.en.tm - r.dst.off) := Lib.hid rfl
  rw [ES.out, EE.out]
  clear ES EE z hr hy h sc ec
  generalize dayC y r.st = A at *
  generalize dayC y r.en = E at *
  go_enter Tryd.func15, Tryd.ntmps15
  go_upto_region 1 with (fail)
  refine wp_region_lit ?_
  refine wpList_ld rfl 2 w.heap.size r _ rfl B0.out rfl ?_
  go_wp2_with fail
  refine (RI _).mono ?_; rintro e w1 ⟨rfl, u1⟩
  have B1 := Lib.hid (B0.out.up u1)
  have U1 := Lib.hid (U0.out.trans u1)
  clear u1 B0 U0 RI
  have q6 : w1.cell? ⟨w.heap.size, 6, none⟩ = some (.bool true) := by rw [← hb]; exact B1.out.cell 6
  have q7 : w1.cell? ⟨w.heap.size, 7, none⟩ = some (.int .i64 r.st.how) := B1.out.cell 7
  have q8 : w1.cell? ⟨w.heap.size, 8, none⟩ = some (.int .i64 r.st.n) := B1.out.cell 8
  have q9 : w1.cell? ⟨w.heap.size, 9, none⟩ = some (.int .i64 r.st.wk) := B1.out.cell 9
  have q10 : w1.cell? ⟨w.heap.size, 10, none⟩ = some (.int .i64 r.st.wd) := B1.out.cell 10
  have q11 : w1.cell? ⟨w.heap.size, 11, none⟩ = some (.int .i64 r.st.tm) := B1.out.cell 11
  go_wp2_with fail
  refine (Y _).mono ?_; rintro e w2 ⟨rfl, rfl⟩
  go_wp2_with fail
  refine (DS _).mono ?_; rintro e w2 ⟨rfl, u2⟩
  clear q6 q7 q8 q9 q10 q11
  have B2 := Lib.hid (B1.out.up u2)
  have U2 := Lib.hid (U1.out.trans u2)
  clear u2 B1 U1 DS
  have q12 : w2.cell? ⟨w.heap.size, 12, none⟩ = some (.int .i64 r.en.how) := B2.out.cell 12
  have q13 : w2.cell? ⟨w.heap.size, 13, none⟩ = some (.int .i64 r.en.n) := B2.out.cell 13
  have q14 : w2.cell? ⟨w.heap.size, 14, none⟩ = some (.int .i64 r.en.wk) := B2.out.cell 14
  have q15 : w2.cell? ⟨w.heap.size, 15, none⟩ = some (.int .i64 r.en.wd) := B2.out.cell 15
  have q16 : w2.cell? ⟨w.heap.size, 16, none⟩ = some (.int .i64 r.en.tm) := B2.out.cell 16
  go_wp2_with fail
  refine (DE _).mono ?_; rintro e w3 ⟨rfl, u3⟩
  clear q12 q13 q14 q15 q16
  have B3 := Lib.hid (B2.out.up u3)
  have U3 := Lib.hid (U2.out.trans u3)
  clear u3 B2 U2 DE
  have q0 : w3.cell? ⟨w.heap.size, 0, none⟩ = some (.int .i64 r.std.off) := B3.out.cell 0
  have q3 : w3.cell? ⟨w.heap.size, 3, none⟩ = some (.int .i64 r.dst.off) := B3.out.cell 3
  have q11 : w3.cell? ⟨w.heap.size, 11, none⟩ = some (.int .i64 r.st.tm) := B3.out.cell 11
  have q16 : w3.cell? ⟨w.heap.size, 16, none⟩ = some (.int .i64 r.en.tm) := B3.out.cell 16
  have x1 : IntKind.i64.wrap (A * 86400) = A * 86400 := IntWalk.i64_in _ (by omega)
  have x2 : IntKind.i64.wrap (A * 86400 + r.st.tm) = A * 86400 + r.st.tm := IntWalk.i64_in _ (by omega)
  have x3 : IntKind.i64.wrap (A * 86400 + r.st.tm - r.std.off) = A * 86400 + r.st.tm - r.std.off := IntWalk.i64_in _ (by omega)
  have x4 : IntKind.i64.wrap (E * 86400) = E * 86400 := IntWalk.i64_in _ (by omega)
  have x5 : IntKind.i64.wrap (E * 86400 + r.en.tm) = E * 86400 + r.en.tm := IntWalk.i64_in _ (by omega)
  have x6 : IntKind.i64.wrap (E * 86400 + r.en.tm - r.dst.off) = E * 86400 + r.en.tm - r.dst.off := IntWalk.i64_in _ (by omega)
  go_wp2_with fail
  go_quiet (fail)
  go_wp2_with fail
  exact bodyPost_ret (v := .tuple #[.int .i64 (A * 86400 + r.st.tm - r.std.off), .int .i64 (E * 86400 + r.en.tm - r.dst.off), .bool true]) (by simp [results, Tryd.results15, go_sem]) rfl ⟨rfl, U3.out.trans (Up.drewN _ _)⟩
theorem dturns_any (r : Ru) (y : Int) (w : World) (n1 : r.std.name.length ≤ maxLen) (n2 : r.dst.name.length ≤ maxLen) :
    Calls Tryd.prog 15 #[.agg (rA r), .int .i64 y] w fun e w' => e = .returned (.tuple #[.int .i64 (if okT r y = true then tnS r y else 0), .int .i64 (if okT r y = true then tnE r y else 0), .bool (okT r y)]) ∧ Up w w' := by
  cases h : okT r y
  · rw [if_neg (by decide), if_neg (by decide)]; exact dturns_no r y w n1 n2 h
  · rw [if_pos rfl, if_pos rfl]; exact dturns_yes r y w n1 n2 h
end Go.Proofs.YtbneokgeochinaaDoor
