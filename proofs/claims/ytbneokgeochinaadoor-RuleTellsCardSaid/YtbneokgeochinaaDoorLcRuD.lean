/-
  Package rule: Turns; the last of some moments (last); a kind with a name of its own (separate).
-/
import Derived.Test.YtbneokgeochinaaDoorLcRuC
import Derived.Test.YtbneokgeochinaaDoorLcPu0
import Derived.Test.YtbneokgeochinaaDoorLcClo
import Derived.BigQuiet
import Derived.Deep.Cut
import Derived.Deep.QuietTactic
namespace Go.Proofs.YtbneokgeochinaaDoor
open Go.ChangeShapes Go.WideShapes Go.ChangeAt Go.RowKit Go.Sort Lc

theorem okT_no {r : Ru} {y : Int} (h : okT r y = false) : rightB r true = false ∨ (rightB r true = true ∧ r.both = false) ∨ (rightB r true = true ∧ r.both = true ∧ yrB y = false) := by
  unfold okT at h
  cases a : rightB r true
  · exact .inl rfl
  · cases b : r.both
    · exact .inr (.inl ⟨rfl, rfl⟩)
    · rw [a, b] at h; exact .inr (.inr ⟨rfl, rfl, h⟩)
def tuE (r : Ru) (y : Int) : Int := if okT r y = true then 0 else 1
def tuS (r : Ru) (y : Int) : Int := if okT r y = true then tnS r y else 0
def tuN (r : Ru) (y : Int) : Int := if okT r y = true then tnE r y else 0
set_option maxRecDepth 100000 in
set_option maxHeartbeats 8000000 in
theorem turnsP_any (r : Ru) (y : Int) (w : World) (T : Tab w) (n1 : r.std.name.length ≤ maxLen) (n2 : r.dst.name.length ≤ maxLen) :
    Calls Tryd.prog 14 #[.agg (rA r), .int .i64 y] w fun e w' => e = .returned (.tuple #[.int .i64 (tuS r y), .int .i64 (tuN r y), .int .i64 (tuE r y)]) ∧ Up w w' := by
  have B0 := Lib.hid (Bk.new w (rA r) 27 (by decide))
  have U0 := Lib.hid (Up.alloc w (.cells (rA r) 27))
  have t0 := Lib.hid (T.up U0.out)
  have RI : ∀ w, _ := fun w => right_any r true w n1 n2
  have Y := Lib.hid (fun V T => isYear_any y V T)
  have TN := Lib.hid (fun h V T => turns_any r y V T h)
  clear T
  unfold tuS tuN tuE
  cases hok : okT r y
  · rw [if_neg (by decide), if_neg (by decide), if_neg (by decide)]
    clear TN
    rcases okT_no hok with hr | ⟨hr, hb⟩ | ⟨hr, hb, hy⟩
    · rw [hr] at RI
      clear hok
      go_enter Tryd.func14, Tryd.ntmps14
      go_upto_region 1 with (fail)
      refine wp_region_lit ?_
      refine wpList_ld rfl 2 w.heap.size r _ rfl B0.out rfl ?_
      go_wp2_with fail
      refine (RI _).mono ?_; rintro e w1 ⟨rfl, u1⟩
      go_wp2_with fail
      go_ret3
      exact ⟨rfl, U0.out.trans u1⟩
    · rw [hr] at RI
      clear hok
      go_enter Tryd.func14, Tryd.ntmps14
      go_upto_region 1 with (fail)
      refine wp_region_lit ?_
      refine wpList_ld rfl 2 w.heap.size r _ rfl B0.out rfl ?_
      go_wp2_with fail
      refine (RI _).mono ?_; rintro e w1 ⟨rfl, u1⟩
      have B1 := Lib.hid (B0.out.up u1)
      have q6 : w1.cell? ⟨w.heap.size, 6, none⟩ = some (.bool false) := by rw [← hb]; exact B1.out.cell 6
      go_wp2_with fail
      go_ret3
      exact ⟨rfl, U0.out.trans u1⟩
    · rw [hr] at RI
      rw [hy] at Y
      clear hok
      go_enter Tryd.func14, Tryd.ntmps14
      go_upto_region 1 with (fail)
      refine wp_region_lit ?_
      refine wpList_ld rfl 2 w.heap.size r _ rfl B0.out rfl ?_
      go_wp2_with fail
      refine (RI _).mono ?_; rintro e w1 ⟨rfl, u1⟩
      have B1 := Lib.hid (B0.out.up u1)
      have t1 := Lib.hid (t0.out.up u1)
      have q6 : w1.cell? ⟨w.heap.size, 6, none⟩ = some (.bool true) := by rw [← hb]; exact B1.out.cell 6
      go_wp2_with fail
      refine (Y.out _ t1.out).mono ?_; rintro e w2 ⟨rfl, rfl⟩
      go_wp2_with fail
      go_ret3
      exact ⟨rfl, U0.out.trans u1⟩
  · rw [if_pos rfl, if_pos rfl]
    obtain ⟨hr, hb, hy⟩ := okT_parts hok
    have TY := Lib.hid (TN.out hok)
    rw [hr] at RI
    rw [hy] at Y
    clear hok TN
    generalize tnS r y = A at *
    generalize tnE r y = E at *
    go_enter Tryd.func14, Tryd.ntmps14
    go_upto_region 1 with (fail)
    refine wp_region_lit ?_
    refine wpList_ld rfl 2 w.heap.size r _ rfl B0.out rfl ?_
    go_wp2_with fail
    refine (RI _).mono ?_; rintro e w1 ⟨rfl, u1⟩
    have B1 := Lib.hid (B0.out.up u1)
    have t1 := Lib.hid (t0.out.up u1)
    have U1 := Lib.hid (U0.out.trans u1)
    clear u1 B0 U0 RI t0
    have q6 : w1.cell? ⟨w.heap.size, 6, none⟩ = some (.bool true) := by rw [← hb]; exact B1.out.cell 6
    go_wp2_with fail
    refine (Y.out _ t1.out).mono ?_; rintro e w2 ⟨rfl, rfl⟩
    go_upto_region 3 with (fail)
    refine wp_region_lit ?_
    refine wpList_ld rfl 2 w.heap.size r _ rfl B1.out rfl ?_
    go_wp2_with fail
    refine (TY.out _ t1.out).mono ?_; rintro e w2 ⟨rfl, u2⟩
    go_wp2_with fail
    go_ret3
    exact ⟨rfl, U1.out.trans u2⟩
/-- A slice that reads as these numbers. -/
def Rn (w : World) (A : Option Addr) (l : List Int) : Prop :=
  0 < l.length → ∃ b, A = some ⟨b, 0, none⟩ ∧ ∀ i, i < l.length → w.cell? ⟨b, i, none⟩ = some (.int .i64 (l.getD i 0))
theorem Rn.up {w w' : World} {A : Option Addr} {l : List Int} (h : Rn w A l) (u : Up w w') : Rn w' A l := fun h0 => by
  obtain ⟨b, e, hc⟩ := h h0
  exact ⟨b, e, fun i hi => u.cell (hc i hi)⟩
def laV (l : List Int) (t : Int) : Int := (lastP l t).getD 0
def laB (l : List Int) (t : Int) : Bool := (lastP l t).isSome
theorem last_snoc (l : List Int) (x t : Int) : lastP (l ++ [x]) t = if x ≤ t then some x else lastP l t := by
  unfold lastP
  rw [List.reverse_append]
  simp only [List.reverse_cons, List.reverse_nil, List.nil_append, List.singleton_append, List.find?_cons]
  by_cases h : x ≤ t
  · simp [h]
  · simp [h]
theorem take_next {l : List Int} {k : Nat} (h : k < l.length) : l.take (k + 1) = l.take k ++ [l.getD k 0] := by
  rw [List.take_add_one]
  simp [List.getD, h]
theorem last_step {l : List Int} {k : Nat} (t : Int) (h : k < l.length) : lastP (l.take (k + 1)) t = if l.getD k 0 ≤ t then some (l.getD k 0) else lastP (l.take k) t := by
  rw [take_next h, last_snoc]
set_option maxRecDepth 100000 in
set_option maxHeartbeats 4000000 in
theorem last_any (l : List Int) (t : Int) (A : Option Addr) (c : Nat) (w : World) (h : Rn w A l) (hl : l.length ≤ 1000) :
    Calls Tryd.prog 57 #[.slice A l.length c, .int .i64 t] w fun e w' => e = .returned (.tuple #[.int .i64 (laV l t), .bool (laB l t)]) ∧ w = w' := by
  have HS := Lib.hid (fun k => @last_step l k t)
  have TA : Hid (lastP (l.take l.length) t = lastP l t) := Lib.hid (by rw [List.take_length])
  unfold Rn at h
  obtain ⟨n, hn⟩ : ∃ n, l.length = n := ⟨_, rfl⟩
  rw [hn] at HS h hl TA ⊢
  have H0 := Lib.hid h
  clear h
  go_enter Tryd.func57, Tryd.ntmps57
  go_wp2_with fail
  go_loop [6] (fun i => ∃ k : Nat, k ≤ n ∧ i = .int .i64 ((k : Int) - 1) ∧ lastP (l.take k) t = lastP l t) (fun i => (intOf i + 1).toNat)
  case atStart => exact ⟨n, Nat.le_refl _, rfl, TA.out⟩
  case round =>
    obtain ⟨k, k1, rfl, hk⟩ := hrel
    cases k with
    | zero =>
      have HK := Lib.hid hk
      clear hk
      go_wp2_with fail
      go_ret2
      have e : lastP l t = none := by rw [← HK.out]; rfl
      exact ⟨by unfold laV laB; rw [e]; rfl, rfl⟩
    | succ k =>
      have S := HS.out k (by omega)
      rw [hk] at S
      obtain ⟨b, rfl, hc⟩ := H0.out (by omega)
      have hcell := hc k (by omega)
      clear hk hc HS TA H0
      rw [show ((k + 1 : Nat) : Int) - 1 = (k : Int) by omega]
      have kn : (k : Int) < (n : Int) := by omega
      obtain ⟨x, hx⟩ : ∃ x, l.getD k 0 = x := ⟨_, rfl⟩
      rw [hx] at S hcell
      clear hx
      by_cases g : x ≤ t
      · rw [if_pos g] at S
        have HE := Lib.hid S
        have g' : decide (x ≤ t) = true := by simpa using g
        clear S g
        go_wp2_with fail
        go_ret2
        exact ⟨by unfold laV laB; rw [HE.out]; rfl, rfl⟩
      · rw [if_neg g] at S
        have HE := Lib.hid S
        have g' : decide (x ≤ t) = false := by simpa using g
        clear S g
        go_wp2_with fail
        go_round
        case rel => exact ⟨k, by omega, rfl, HE.out.symm⟩
        case measure => simp [intOf]
theorem up_setw {w V : World} (h : Up w V) {k : Nat} (hk : w.heap.size ≤ k) (o : Nat) (u : Value) : Up w (V.setCell ⟨k, o, none⟩ u) :=
  ⟨h.os, h.tape, h.output, by rw [World.size_setCell]; exact h.size, fun j hj => by
    rw [Below.heap_setCell _ _ _ _ (show j ≠ k by omega)]; exact h.block j hj⟩
set_option maxRecDepth 100000 in
theorem separate_any (k : Kd) (w : World) (h : k.name.length ≤ 100) : Calls Tryd.prog 35 #[.agg (kA k)] w fun e w' => e = .returned (.agg (kA k)) ∧ Up w w' := by
  have B0 := Lib.hid ((Bk.new w (kA k) 23 (by decide)).up (Up.alloc (w.alloc (.cells (kA k) 23)) (.cells #[.int .i64 0, .bool false, .string ⟨#[]⟩] 23)))
  have Z0 : Hid (Bk ((w.alloc (.cells (kA k) 23)).alloc (.cells #[.int .i64 0, .bool false, .string ⟨#[]⟩] 23)) (w.heap.size + 1) #[.int .i64 0, .bool false, .string ⟨#[]⟩] 23) := Lib.hid (by have := Bk.new (w.alloc (.cells (kA k) 23)) #[.int .i64 0, .bool false, .string ⟨#[]⟩] 23 (by decide); rw [World.size_alloc] at this; exact this)
  have U0 := Lib.hid ((Up.alloc w (.cells (kA k) 23)).trans (Up.alloc (w.alloc (.cells (kA k) 23)) (.cells #[.int .i64 0, .bool false, .string ⟨#[]⟩] 23)))
  have sz := tx_size k.name
  have C := fun w => clone_any (tx k.name) w (by omega)
  obtain ⟨o, d, nm⟩ := k
  unfold kA at *
  simp only at *
  clear sz h
  go_enter Tryd.func35, Tryd.ntmps35
  go_wp2_with fail
  refine (C _).mono ?_; rintro e w1 ⟨rfl, u1⟩
  have B1 := Lib.hid (B0.out.up u1)
  have Z1 := Lib.hid (Z0.out.up u1)
  have U1 := Lib.hid (U0.out.trans u1)
  clear u1 B0 Z0 U0 C
  have q0 : w1.cell? ⟨w.heap.size, 0, none⟩ = some (.int .i64 o) := B1.out.cell 0
  have q1 : w1.cell? ⟨w.heap.size, 1, none⟩ = some (.bool d) := B1.out.cell 1
  have q2 : w1.cell? ⟨w.heap.size, 2, none⟩ = some (.string (tx nm)) := B1.out.cell 2
  have f2 : w1.frozen? ⟨w.heap.size, 2, none⟩ = false := B1.out.frozen 2
  have s0 : w1.frozen? ⟨w.heap.size + 1, 0, none⟩ = false := Z1.out.frozen 0
  have s1 : w1.frozen? ⟨w.heap.size + 1, 1, none⟩ = false := Z1.out.frozen 1
  have s2 : w1.frozen? ⟨w.heap.size + 1, 2, none⟩ = false := Z1.out.frozen 2
  have t0 : w1.cell? ⟨w.heap.size + 1, 0, none⟩ = some (.int .i64 0) := Z1.out.cell 0
  have t1 : w1.cell? ⟨w.heap.size + 1, 1, none⟩ = some (.bool false) := Z1.out.cell 1
  have t2 : w1.cell? ⟨w.heap.size + 1, 2, none⟩ = some (.string ⟨#[]⟩) := Z1.out.cell 2
  have UO := fun v2 v0 v1 v3 => up_setw (up_setw (up_setw (up_setw U1.out (k := w.heap.size) (by omega) 2 v2) (k := w.heap.size + 1) (by omega) 0 v0) (k := w.heap.size + 1) (by omega) 1 v1) (k := w.heap.size + 1) (by omega) 2 v3
  go_wp2_with fail
  exact bodyPost_ret (v := .agg #[.int .i64 o, .bool d, .string (tx nm)]) (by simp [results, Tryd.results35, go_sem, t0, t1, t2]) rfl ⟨rfl, UO _ _ _ _⟩
end Go.Proofs.YtbneokgeochinaaDoor
