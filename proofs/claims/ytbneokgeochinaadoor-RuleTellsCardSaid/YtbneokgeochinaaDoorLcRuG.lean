/-
  Package rule: the kind that is in force at a moment (At).
-/
import Derived.Test.YtbneokgeochinaaDoorLcRuF
import Derived.Test.YtbneokgeochinaaDoorLcRi
namespace Go.Proofs.YtbneokgeochinaaDoor
open Go.ChangeShapes Go.WideShapes Go.ChangeAt Go.RowKit Go.Sort Lc

theorem kind_len {k : Kd} {d : Bool} (h : kindB k d = true) : k.name.length ≤ 100 := by
  unfold kindB nameB at h
  simp only [Bool.and_eq_true, decide_eq_true_eq] at h
  omega
theorem right_lens {r : Ru} (h : rightB r true = true) : r.std.name.length ≤ 100 ∧ (r.both = true → r.dst.name.length ≤ 100) := by
  unfold rightB at h
  rw [Bool.and_eq_true] at h
  refine ⟨kind_len h.1, fun hb => ?_⟩
  rw [hb, if_pos rfl] at h
  simp only [Bool.and_eq_true] at h
  exact kind_len h.2.1.1
set_option maxRecDepth 100000 in
set_option maxHeartbeats 8000000 in
theorem at_wrong (r : Ru) (t : Int) (w : World) (n1 : r.std.name.length ≤ maxLen) (n2 : r.dst.name.length ≤ maxLen) (hr : rightB r true = false) :
    Calls Tryd.prog 16 #[.agg (rA r), .int .i64 t] w fun e w' => e = .returned (.tuple #[.agg (kA kd0), .int .i64 1]) ∧ Up w w' := by
  have B0 := Lib.hid ((Bk.new w (rA r) 27 (by decide)).up (Up.alloc (w.alloc (.cells (rA r) 27)) (.cells #[.int .i64 0, .bool false, .string ⟨#[]⟩] 23)))
  have Z0 : Hid (Bk ((w.alloc (.cells (rA r) 27)).alloc (.cells #[.int .i64 0, .bool false, .string ⟨#[]⟩] 23)) (w.heap.size + 1) #[.int .i64 0, .bool false, .string ⟨#[]⟩] 23) := Lib.hid (by have := Bk.new (w.alloc (.cells (rA r) 27)) #[.int .i64 0, .bool false, .string ⟨#[]⟩] 23 (by decide); rw [World.size_alloc] at this; exact this)
  have U0 := Lib.hid ((Up.alloc w (.cells (rA r) 27)).trans (Up.alloc (w.alloc (.cells (rA r) 27)) (.cells #[.int .i64 0, .bool false, .string ⟨#[]⟩] 23)))
  have RI : ∀ w, _ := fun w => right_any r true w n1 n2
  rw [hr] at RI
  go_enter Tryd.func16, Tryd.ntmps16
  go_upto_region 1 with (fail)
  generalize World.alloc (World.alloc w _) _ = W0 at *
  refine wp_region_lit ?_
  refine wpList_ld rfl 2 w.heap.size r _ rfl B0.out rfl ?_
  go_wp2_with fail
  refine (RI _).mono ?_; rintro e w1 ⟨rfl, u1⟩
  have B1 := Lib.hid (B0.out.up u1)
  have Z1 := Lib.hid (Z0.out.up u1)
  have U1 := Lib.hid (U0.out.trans u1)
  clear u1 B0 Z0 U0 RI
  have s0 : w1.frozen? ⟨w.heap.size + 1, 0, none⟩ = false := Z1.out.frozen 0
  have s1 : w1.frozen? ⟨w.heap.size + 1, 1, none⟩ = false := Z1.out.frozen 1
  have s2 : w1.frozen? ⟨w.heap.size + 1, 2, none⟩ = false := Z1.out.frozen 2
  have t0 : w1.cell? ⟨w.heap.size + 1, 0, none⟩ = some (.int .i64 0) := Z1.out.cell 0
  have t1 : w1.cell? ⟨w.heap.size + 1, 1, none⟩ = some (.bool false) := Z1.out.cell 1
  have t2 : w1.cell? ⟨w.heap.size + 1, 2, none⟩ = some (.string ⟨#[]⟩) := Z1.out.cell 2
  have UO := fun v0 v1 v2 => up_setw (up_setw (up_setw U1.out (k := w.heap.size + 1) (by omega) 0 v0) (k := w.heap.size + 1) (by omega) 1 v1) (k := w.heap.size + 1) (by omega) 2 v2
  go_wp2_with fail
  exact bodyPost_ret (v := .tuple #[.agg #[.int .i64 0, .bool false, .string ⟨#[]⟩], .int .i64 1]) (by simp [results, Tryd.results16, go_sem, t0, t1, t2]) rfl ⟨rfl, UO _ _ _⟩
set_option maxRecDepth 100000 in
set_option maxHeartbeats 8000000 in
theorem at_one (r : Ru) (t : Int) (w : World) (n1 : r.std.name.length ≤ maxLen) (n2 : r.dst.name.length ≤ maxLen) (hr : rightB r true = true) (hb : r.both = false) :
    Calls Tryd.prog 16 #[.agg (rA r), .int .i64 t] w fun e w' => e = .returned (.tuple #[.agg (kA r.std), .int .i64 0]) ∧ Up w w' := by
  have hl := (right_lens hr).1
  have SE : ∀ w, Calls Tryd.prog 35 #[.agg #[.int .i64 r.std.off, .bool r.std.dst, .string (tx r.std.name)]] w fun e w' => e = .returned (.agg #[.int .i64 r.std.off, .bool r.std.dst, .string (tx r.std.name)]) ∧ Up w w' := fun w => separate_any r.std w hl
  have B0 := Lib.hid ((Bk.new w (rA r) 27 (by decide)).up (Up.alloc (w.alloc (.cells (rA r) 27)) (.cells #[.int .i64 0, .bool false, .string ⟨#[]⟩] 23)))
  have Z0 : Hid (Bk ((w.alloc (.cells (rA r) 27)).alloc (.cells #[.int .i64 0, .bool false, .string ⟨#[]⟩] 23)) (w.heap.size + 1) #[.int .i64 0, .bool false, .string ⟨#[]⟩] 23) := Lib.hid (by have := Bk.new (w.alloc (.cells (rA r) 27)) #[.int .i64 0, .bool false, .string ⟨#[]⟩] 23 (by decide); rw [World.size_alloc] at this; exact this)
  have U0 := Lib.hid ((Up.alloc w (.cells (rA r) 27)).trans (Up.alloc (w.alloc (.cells (rA r) 27)) (.cells #[.int .i64 0, .bool false, .string ⟨#[]⟩] 23)))
  have RI : ∀ w, _ := fun w => right_any r true w n1 n2
  rw [hr] at RI
  go_enter Tryd.func16, Tryd.ntmps16
  go_upto_region 1 with (fail)
  generalize World.alloc (World.alloc w _) _ = W0 at *
  refine wp_region_lit ?_
  refine wpList_ld rfl 2 w.heap.size r _ rfl B0.out rfl ?_
  go_wp2_with fail
  refine (RI _).mono ?_; rintro e w1 ⟨rfl, u1⟩
  have B1 := Lib.hid (B0.out.up u1)
  have Z1 := Lib.hid (Z0.out.up u1)
  have U1 := Lib.hid (U0.out.trans u1)
  clear u1 B0 Z0 U0 RI
  have q6 : w1.cell? ⟨w.heap.size, 6, none⟩ = some (.bool false) := by rw [← hb]; exact B1.out.cell 6
  have q0 : w1.cell? ⟨w.heap.size, 0, none⟩ = some (.int .i64 r.std.off) := B1.out.cell 0
  have q1 : w1.cell? ⟨w.heap.size, 1, none⟩ = some (.bool r.std.dst) := B1.out.cell 1
  have q2 : w1.cell? ⟨w.heap.size, 2, none⟩ = some (.string (tx r.std.name)) := B1.out.cell 2
  go_wp2_with fail
  refine (SE _).mono ?_; rintro e w5 ⟨rfl, u5⟩
  have Z5 := Lib.hid (Z1.out.up u5)
  have U5 := Lib.hid (U1.out.trans u5)
  clear u5
  have s0 : w5.frozen? ⟨w.heap.size + 1, 0, none⟩ = false := Z5.out.frozen 0
  have s1 : w5.frozen? ⟨w.heap.size + 1, 1, none⟩ = false := Z5.out.frozen 1
  have s2 : w5.frozen? ⟨w.heap.size + 1, 2, none⟩ = false := Z5.out.frozen 2
  have t0 : w5.cell? ⟨w.heap.size + 1, 0, none⟩ = some (.int .i64 0) := Z5.out.cell 0
  have t1 : w5.cell? ⟨w.heap.size + 1, 1, none⟩ = some (.bool false) := Z5.out.cell 1
  have t2 : w5.cell? ⟨w.heap.size + 1, 2, none⟩ = some (.string ⟨#[]⟩) := Z5.out.cell 2
  have UO := fun v0 v1 v2 => up_setw (up_setw (up_setw U5.out (k := w.heap.size + 1) (by omega) 0 v0) (k := w.heap.size + 1) (by omega) 1 v1) (k := w.heap.size + 1) (by omega) 2 v2
  go_wp2_with fail
  exact bodyPost_ret (v := .tuple #[.agg #[.int .i64 r.std.off, .bool r.std.dst, .string (tx r.std.name)], .int .i64 0]) (by simp [results, Tryd.results16, go_sem, t0, t1, t2]) rfl ⟨rfl, UO _ _ _⟩
set_option maxRecDepth 100000 in
set_option maxHeartbeats 8000000 in
theorem at_far (r : Ru) (t : Int) (w : World) (n1 : r.std.name.length ≤ maxLen) (n2 : r.dst.name.length ≤ maxLen) (ft : fitB t = true) (hr : rightB r true = true) (hb : r.both = true) (hd : t / 86400 < ny (-2147483648) ∨ ny 2147483648 ≤ t / 86400) :
    Calls Tryd.prog 16 #[.agg (rA r), .int .i64 t] w fun e w' => e = .returned (.tuple #[.agg (kA kd0), .int .i64 2]) ∧ Up w w' := by
  have B0 := Lib.hid ((Bk.new w (rA r) 27 (by decide)).up (Up.alloc (w.alloc (.cells (rA r) 27)) (.cells #[.int .i64 0, .bool false, .string ⟨#[]⟩] 23)))
  have Z0 : Hid (Bk ((w.alloc (.cells (rA r) 27)).alloc (.cells #[.int .i64 0, .bool false, .string ⟨#[]⟩] 23)) (w.heap.size + 1) #[.int .i64 0, .bool false, .string ⟨#[]⟩] 23) := Lib.hid (by have := Bk.new (w.alloc (.cells (rA r) 27)) #[.int .i64 0, .bool false, .string ⟨#[]⟩] 23 (by decide); rw [World.size_alloc] at this; exact this)
  have U0 := Lib.hid ((Up.alloc w (.cells (rA r) 27)).trans (Up.alloc (w.alloc (.cells (rA r) 27)) (.cells #[.int .i64 0, .bool false, .string ⟨#[]⟩] 23)))
  have RI : ∀ w, _ := fun w => right_any r true w n1 n2
  rw [hr] at RI
  have DV := fun w => div_yes t 86400 w (by decide) ft (by decide)
  have DT := fun w => date_no (t / 86400) w hd
  clear hr hd
  generalize t / 86400 = D at *
  generalize t % 86400 = D2 at *
  go_enter Tryd.func16, Tryd.ntmps16
  go_upto_region 1 with (fail)
  generalize World.alloc (World.alloc w _) _ = W0 at *
  refine wp_region_lit ?_
  refine wpList_ld rfl 2 w.heap.size r _ rfl B0.out rfl ?_
  go_wp2_with fail
  refine (RI _).mono ?_; rintro e w1 ⟨rfl, u1⟩
  have B1 := Lib.hid (B0.out.up u1)
  have Z1 := Lib.hid (Z0.out.up u1)
  have U1 := Lib.hid (U0.out.trans u1)
  clear u1 B0 Z0 U0 RI
  have q6 : w1.cell? ⟨w.heap.size, 6, none⟩ = some (.bool true) := by rw [← hb]; exact B1.out.cell 6
  go_wp2_with fail
  refine (DV _).mono ?_; rintro e w2 ⟨rfl, d2⟩
  have u2 := Up.of_dr d2
  go_wp2_with fail
  refine (DT _).mono ?_; rintro e w3 ⟨rfl, d3⟩
  have u3 := u2.trans (Up.of_dr d3)
  have Z3 := Lib.hid (Z1.out.up u3)
  have U3 := Lib.hid (U1.out.trans u3)
  clear d2 d3 u2 u3
  have s0 : w3.frozen? ⟨w.heap.size + 1, 0, none⟩ = false := Z3.out.frozen 0
  have s1 : w3.frozen? ⟨w.heap.size + 1, 1, none⟩ = false := Z3.out.frozen 1
  have s2 : w3.frozen? ⟨w.heap.size + 1, 2, none⟩ = false := Z3.out.frozen 2
  have t0 : w3.cell? ⟨w.heap.size + 1, 0, none⟩ = some (.int .i64 0) := Z3.out.cell 0
  have t1 : w3.cell? ⟨w.heap.size + 1, 1, none⟩ = some (.bool false) := Z3.out.cell 1
  have t2 : w3.cell? ⟨w.heap.size + 1, 2, none⟩ = some (.string ⟨#[]⟩) := Z3.out.cell 2
  have UO := fun v0 v1 v2 => up_setw (up_setw (up_setw U3.out (k := w.heap.size + 1) (by omega) 0 v0) (k := w.heap.size + 1) (by omega) 1 v1) (k := w.heap.size + 1) (by omega) 2 v2
  go_wp2_with fail
  exact bodyPost_ret (v := .tuple #[.agg #[.int .i64 0, .bool false, .string ⟨#[]⟩], .int .i64 2]) (by simp [results, Tryd.results16, go_sem, t0, t1, t2]) rfl ⟨rfl, UO _ _ _⟩
set_option maxRecDepth 100000 in
set_option maxHeartbeats 8000000 in
theorem at_in (r : Ru) (t : Int) (w : World) (T : Tab w) (n1 : r.std.name.length ≤ maxLen) (n2 : r.dst.name.length ≤ maxLen) (ft : fitB t = true) (hr : rightB r true = true) (hb : r.both = true) (y m d : Int) (hd : rdB y m d = true) (hn : dayI y m d = t / 86400) :
    Calls Tryd.prog 16 #[.agg (rA r), .int .i64 t] w fun e w' => e = .returned (.tuple #[.agg (kA (if inDst r t y = true then r.dst else r.std)), .int .i64 0]) ∧ Up w w' := by
  have hls := right_lens hr
  obtain ⟨y1, y2, _, _⟩ := rd_true.1 hd
  have hy : yrB y = true := by unfold yrB inB; simp [y1, y2]
  have B0 := Lib.hid ((Bk.new w (rA r) 27 (by decide)).up (Up.alloc (w.alloc (.cells (rA r) 27)) (.cells #[.int .i64 0, .bool false, .string ⟨#[]⟩] 23)))
  have Z0 : Hid (Bk ((w.alloc (.cells (rA r) 27)).alloc (.cells #[.int .i64 0, .bool false, .string ⟨#[]⟩] 23)) (w.heap.size + 1) #[.int .i64 0, .bool false, .string ⟨#[]⟩] 23) := Lib.hid (by have := Bk.new (w.alloc (.cells (rA r) 27)) #[.int .i64 0, .bool false, .string ⟨#[]⟩] 23 (by decide); rw [World.size_alloc] at this; exact this)
  have U0 := Lib.hid ((Up.alloc w (.cells (rA r) 27)).trans (Up.alloc (w.alloc (.cells (rA r) 27)) (.cells #[.int .i64 0, .bool false, .string ⟨#[]⟩] 23)))
  have RI : ∀ w, _ := fun w => right_any r true w n1 n2
  rw [hr] at RI
  have DV := fun w => div_yes t 86400 w (by decide) ft (by decide)
  have DT := fun w T => date_yes (t / 86400) y m d w T hd hn
  have ID := Lib.hid (fun w T => inDst_any r y t w T hr hb hy)
  have t0 := Lib.hid (T.up U0.out)
  obtain ⟨S1, hS1⟩ : ∃ S1, inDst r t y = S1 := ⟨_, rfl⟩
  rw [hS1] at ID ⊢
  clear hr hd hS1 hy hn T y1 y2
  generalize t / 86400 = D at *
  generalize t % 86400 = D2 at *
  go_enter Tryd.func16, Tryd.ntmps16
  go_upto_region 1 with (fail)
  generalize World.alloc (World.alloc w _) _ = W0 at *
  refine wp_region_lit ?_
  refine wpList_ld rfl 2 w.heap.size r _ rfl B0.out rfl ?_
  go_wp2_with fail
  refine (RI _).mono ?_; rintro e w1 ⟨rfl, u1⟩
  have B1 := Lib.hid (B0.out.up u1)
  have Z1 := Lib.hid (Z0.out.up u1)
  have U1 := Lib.hid (U0.out.trans u1)
  have tb1 := Lib.hid (t0.out.up u1)
  clear u1 B0 Z0 U0 RI t0
  have q6 : w1.cell? ⟨w.heap.size, 6, none⟩ = some (.bool true) := by rw [← hb]; exact B1.out.cell 6
  go_wp2_with fail
  refine (DV _).mono ?_; rintro e w2 ⟨rfl, d2⟩
  have u2 := Up.of_dr d2
  have tb2 := Lib.hid (tb1.out.up u2)
  go_wp2_with fail
  refine (DT _ tb2.out).mono ?_; rintro e w3 ⟨rfl, d3⟩
  have u3 := u2.trans (Up.of_dr d3)
  have tb3 := Lib.hid (tb1.out.up u3)
  have B3 := Lib.hid (B1.out.up u3)
  have Z3 := Lib.hid (Z1.out.up u3)
  have U3 := Lib.hid (U1.out.trans u3)
  clear d2 d3 u2 u3 tb1 tb2 B1 Z1 U1 q6 DV DT
  go_upto_region 9 with (fail)
  refine wp_region_lit ?_
  refine wpList_ld rfl 2 w.heap.size r _ rfl B3.out rfl ?_
  go_wp2_with fail
  refine (ID.out _ tb3.out).mono ?_; rintro e w4 ⟨rfl, u4⟩
  have B4 := Lib.hid (B3.out.up u4)
  have Z4 := Lib.hid (Z3.out.up u4)
  have U4 := Lib.hid (U3.out.trans u4)
  clear u4 B3 Z3 U3 ID tb3
  cases S1
  · skip
    have hl := hls.1
    have SE : ∀ w, Calls Tryd.prog 35 #[.agg #[.int .i64 r.std.off, .bool r.std.dst, .string (tx r.std.name)]] w fun e w' => e = .returned (.agg #[.int .i64 r.std.off, .bool r.std.dst, .string (tx r.std.name)]) ∧ Up w w' := fun w => separate_any r.std w hl
    have q0 : w4.cell? ⟨w.heap.size, 0, none⟩ = some (.int .i64 r.std.off) := B4.out.cell 0
    have q1 : w4.cell? ⟨w.heap.size, 1, none⟩ = some (.bool r.std.dst) := B4.out.cell 1
    have q2 : w4.cell? ⟨w.heap.size, 2, none⟩ = some (.string (tx r.std.name)) := B4.out.cell 2
    go_wp2_with fail
    refine (SE _).mono ?_; rintro e w5 ⟨rfl, u5⟩
    have Z5 := Lib.hid (Z4.out.up u5)
    have U5 := Lib.hid (U4.out.trans u5)
    clear u5
    have s0 : w5.frozen? ⟨w.heap.size + 1, 0, none⟩ = false := Z5.out.frozen 0
    have s1 : w5.frozen? ⟨w.heap.size + 1, 1, none⟩ = false := Z5.out.frozen 1
    have s2 : w5.frozen? ⟨w.heap.size + 1, 2, none⟩ = false := Z5.out.frozen 2
    have t0 : w5.cell? ⟨w.heap.size + 1, 0, none⟩ = some (.int .i64 0) := Z5.out.cell 0
    have t1 : w5.cell? ⟨w.heap.size + 1, 1, none⟩ = some (.bool false) := Z5.out.cell 1
    have t2 : w5.cell? ⟨w.heap.size + 1, 2, none⟩ = some (.string ⟨#[]⟩) := Z5.out.cell 2
    have UO := fun v0 v1 v2 => up_setw (up_setw (up_setw U5.out (k := w.heap.size + 1) (by omega) 0 v0) (k := w.heap.size + 1) (by omega) 1 v1) (k := w.heap.size + 1) (by omega) 2 v2
    go_wp2_with fail
    exact bodyPost_ret (v := .tuple #[.agg #[.int .i64 r.std.off, .bool r.std.dst, .string (tx r.std.name)], .int .i64 0]) (by simp [results, Tryd.results16, go_sem, t0, t1, t2]) rfl ⟨rfl, UO _ _ _⟩
  · skip
    have hl := hls.2 hb
    have SE : ∀ w, Calls Tryd.prog 35 #[.agg #[.int .i64 r.dst.off, .bool r.dst.dst, .string (tx r.dst.name)]] w fun e w' => e = .returned (.agg #[.int .i64 r.dst.off, .bool r.dst.dst, .string (tx r.dst.name)]) ∧ Up w w' := fun w => separate_any r.dst w hl
    have q3 : w4.cell? ⟨w.heap.size, 3, none⟩ = some (.int .i64 r.dst.off) := B4.out.cell 3
    have q4 : w4.cell? ⟨w.heap.size, 4, none⟩ = some (.bool r.dst.dst) := B4.out.cell 4
    have q5 : w4.cell? ⟨w.heap.size, 5, none⟩ = some (.string (tx r.dst.name)) := B4.out.cell 5
    go_wp2_with fail
    refine (SE _).mono ?_; rintro e w5 ⟨rfl, u5⟩
    have Z5 := Lib.hid (Z4.out.up u5)
    have U5 := Lib.hid (U4.out.trans u5)
    clear u5
    have s0 : w5.frozen? ⟨w.heap.size + 1, 0, none⟩ = false := Z5.out.frozen 0
    have s1 : w5.frozen? ⟨w.heap.size + 1, 1, none⟩ = false := Z5.out.frozen 1
    have s2 : w5.frozen? ⟨w.heap.size + 1, 2, none⟩ = false := Z5.out.frozen 2
    have t0 : w5.cell? ⟨w.heap.size + 1, 0, none⟩ = some (.int .i64 0) := Z5.out.cell 0
    have t1 : w5.cell? ⟨w.heap.size + 1, 1, none⟩ = some (.bool false) := Z5.out.cell 1
    have t2 : w5.cell? ⟨w.heap.size + 1, 2, none⟩ = some (.string ⟨#[]⟩) := Z5.out.cell 2
    have UO := fun v0 v1 v2 => up_setw (up_setw (up_setw U5.out (k := w.heap.size + 1) (by omega) 0 v0) (k := w.heap.size + 1) (by omega) 1 v1) (k := w.heap.size + 1) (by omega) 2 v2
    go_wp2_with fail
    exact bodyPost_ret (v := .tuple #[.agg #[.int .i64 r.dst.off, .bool r.dst.dst, .string (tx r.dst.name)], .int .i64 0]) (by simp [results, Tryd.results16, go_sem, t0, t1, t2]) rfl ⟨rfl, UO _ _ _⟩
/-! ### What At answers, case by case -/
/-- The kind K and the error E that At tells. -/
def AtS (r : Ru) (t : Int) (K : Kd) (E : Int) : Prop :=
  (rightB r true = false ∧ K = kd0 ∧ E = 1) ∨
  (rightB r true = true ∧ r.both = false ∧ K = r.std ∧ E = 0) ∨
  (rightB r true = true ∧ r.both = true ∧ (t / 86400 < ny (-2147483648) ∨ ny 2147483648 ≤ t / 86400) ∧ K = kd0 ∧ E = 2) ∨
  (rightB r true = true ∧ r.both = true ∧ ∃ y m d, rdB y m d = true ∧ dayI y m d = t / 86400 ∧ K = (if inDst r t y = true then r.dst else r.std) ∧ E = 0)
theorem at_ex (r : Ru) (t : Int) : ∃ K E, AtS r t K E := by
  unfold AtS
  cases hr : rightB r true
  · exact ⟨_, _, .inl ⟨rfl, rfl, rfl⟩⟩
  · cases hb : r.both
    · exact ⟨_, _, .inr (.inl ⟨rfl, rfl, rfl, rfl⟩)⟩
    · by_cases hd : t / 86400 < ny (-2147483648) ∨ ny 2147483648 ≤ t / 86400
      · exact ⟨_, _, .inr (.inr (.inl ⟨rfl, rfl, hd, rfl, rfl⟩))⟩
      · obtain ⟨y, m, d, h1, h2⟩ := date_ex (n := t / 86400) (by omega) (by omega)
        exact ⟨_, _, .inr (.inr (.inr ⟨rfl, rfl, y, m, d, h1, h2, rfl, rfl⟩))⟩
theorem at_of {r : Ru} {t : Int} {K : Kd} {E : Int} (h : AtS r t K E) (w : World) (T : Tab w) (n1 : r.std.name.length ≤ maxLen) (n2 : r.dst.name.length ≤ maxLen) (ft : fitB t = true) :
    Calls Tryd.prog 16 #[.agg (rA r), .int .i64 t] w fun e w' => e = .returned (.tuple #[.agg (kA K), .int .i64 E]) ∧ Up w w' := by
  rcases h with ⟨hr, rfl, rfl⟩ | ⟨hr, hb, rfl, rfl⟩ | ⟨hr, hb, hd, rfl, rfl⟩ | ⟨hr, hb, y, m, d, hd, hn, rfl, rfl⟩
  · exact at_wrong r t w n1 n2 hr
  · exact at_one r t w n1 n2 hr hb
  · exact at_far r t w n1 n2 ft hr hb hd
  · exact at_in r t w T n1 n2 ft hr hb y m d hd hn
end Go.Proofs.YtbneokgeochinaaDoor
