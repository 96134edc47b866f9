/-
  The document's own answer of layer 9: days that are weekdays of a month, found day by day.
-/
import Derived.Test.YtbneokgeochinaaDoorLcRyD
import Derived.BigQuiet
namespace Go.Proofs.YtbneokgeochinaaDoor
open Go.ChangeShapes Go.WideShapes Go.ChangeAt Go.RowKit Go.Sort Lc

set_option maxRecDepth 100000 in
set_option maxHeartbeats 8000000 in
theorem dday_3 (y n wk wd t : Int) (w : World) (h : okY y ⟨3, n, wk, wd, t⟩ = true) : Calls Tryd.prog 13 #[.int .i64 y, .agg (cA ⟨3, n, wk, wd, t⟩)] w fun e w' => e = .returned (.tuple #[.int .i64 (dayC y ⟨3, n, wk, wd, t⟩), .bool true]) ∧ Up w w' := by
  have B0 := Lib.hid (Cb.bk (Bk.new w (cA ⟨3, n, wk, wd, t⟩) 25 (by decide)))
  have U0 := Lib.hid (Up.alloc w (.cells (cA ⟨3, n, wk, wd, t⟩) 25))
  obtain ⟨hc, y1, y2, pp⟩ := okY_parts h
  have C : ∀ w, _ := fun w => dchange_any ⟨3, n, wk, wd, t⟩ true w
  rw [hc] at C
  have Y : ∀ w, _ := fun w => dyear_any y w
  have hy : yrB y = true := by unfold yrB inB; simp [y1, y2]
  rw [hy] at Y
  have F : ∀ w, _ := fun w => refDays_yes y 1 1 w (day_fits y1 y2 (by decide) (by have := len_pos y (m := 1) (by decide) (by decide); omega))
  rw [dayI_1] at F
  have L : ∀ w, _ := fun w => refLeap_any y w
  have N : ∀ w, _ := fun w => refLength_any y n w
  have nb := ny_rng y1 y2
  have lb := len_bd y n
  clear hy hc h
  obtain ⟨n1, n2, k1, k2, d1, d2⟩ : 1 ≤ n ∧ n ≤ 12 ∧ 1 ≤ wk ∧ wk ≤ 5 ∧ 0 ≤ wd ∧ wd ≤ 6 := by simp only at pp; omega
  clear pp
  rw [dayC_3]
  have D : Hid (∀ d, 1 ≤ d → d ≤ lenI y n → ∀ w, Calls Tryd.prog 29 #[.int .i64 y, .int .i64 n, .int .i64 d] w fun e w' => e = .returned (.int .i64 (dayI y n d)) ∧ w = w') := Lib.hid (fun d a b w => refDays_yes y n d w (day_fits y1 y2 a b))
  have W : Hid (∀ d, 1 ≤ d → d ≤ lenI y n → ∀ w, Calls Tryd.prog 32 #[.int .i64 (dayI y n d)] w fun e w' => e = .returned (.int .i64 (wdI (dayI y n d))) ∧ w = w') := Lib.hid (fun d a b w => by
    have r := day_range (day_fits (m := n) y1 y2 a b)
    rw [ny_first, ny_last] at r
    exact refWeekday_any _ w (fitB_true.2 (by omega)))
  have hf := wkF_bd y n wd
  have IS := Lib.hid (fun d => wk_is y n d wd d1 d2)
  have EN := Lib.hid (fun d a b c e => wk_end (y := y) (m := n) (wk := wk) (wd := wd) (d := d) n1 n2 k1 k2 a b c e)
  have ll := len_pos y n1 n2
  obtain ⟨f, hF⟩ : ∃ f, wkF y n wd = f := ⟨_, rfl⟩
  rw [hF] at hf IS EN
  clear hF
  have LZ : lastI y n f 0 = 0 := rfl
  generalize dayI y n (wkD y n wk wd) = A at *
  generalize ny y = NY at *
  generalize lenI y n = len at *
  unfold cA at *
  simp only at *
  obtain ⟨c0, c1, c2, c3, c4⟩ := B0.out
  simp only at c0 c1 c2 c3 c4
  go_enter Tryd.func13, Tryd.ntmps13
  go_wp2_with fail
  refine (C _).mono ?_; rintro e w1 ⟨rfl, u1⟩
  clear c0 c1 c2 c3 c4
  have B1 := Lib.hid (B0.out.up u1)
  obtain ⟨c0, c1, c2, c3, c4⟩ := B1.out
  simp only at c0 c1 c2 c3 c4
  have U1 := Lib.hid (U0.out.trans u1)
  clear u1 B0 U0
  go_wp2_with (first | (go_at_call 28; refine (Y _).mono ?_; rintro e w' ⟨rfl, rfl⟩) | (go_at_call 29; refine (F _).mono ?_; rintro e w' ⟨rfl, rfl⟩) | (go_at_call 30; refine (L _).mono ?_; rintro e w' ⟨rfl, rfl⟩) | (go_at_call 31; refine (N _).mono ?_; rintro e w' ⟨rfl, rfl⟩))
  clear C Y F L N
  go_loopw [11, 12, 13] (fun s l d wr => ∃ k : Int, 1 ≤ k ∧ k ≤ len + 1 ∧ s = .int .i64 (seenI f k) ∧ l = .int .i64 (lastI y n f (seenI f k)) ∧ d = .int .i64 k ∧ seenI f k ≤ wk ∧ Up w1 wr) (fun _ _ d _ => (40 - intOf d).toNat)
  case atStart => exact ⟨1, by omega, by omega, by rw [seen_1 hf.1 hf.2], by rw [seen_1 hf.1 hf.2]; rfl, rfl, by rw [seen_1 hf.1 hf.2]; omega, Up.refl _⟩
  case round =>
    obtain ⟨k, e1, e2, rfl, rfl, rfl, e3, ur⟩ := hrel
    clear c0 c1 c2 c3 c4
    obtain ⟨c0, c1, c2, c3, c4⟩ := B1.out.up ur
    simp only at c0 c1 c2 c3 c4
    have sp := seen_pos hf.1 hf.2 e1
    have UR := Lib.hid (U1.out.trans ur)
    by_cases g : k ≤ len ∧ seenI f k < wk
    · obtain ⟨g1, g2⟩ := g
      have DK := D.out k e1 g1
      have WK := W.out k e1 g1
      have is := IS.out k
      by_cases hw : (k - f) % 7 = 0
      · obtain ⟨s1, s2⟩ := seen_yes hw
        rw [is.2 hw] at WK
        have HS := Lib.hid s1
        have HL : Hid (lastI y n f (seenI f (k + 1)) = dayI y n k) := Lib.hid (by rw [s1]; unfold lastI; rw [if_neg (by omega)]; congr 1; omega)
        clear is hw s1 s2 D W IS EN LZ
        generalize lastI y n f (seenI f k) = la0 at *
        generalize seenI f k = s at *
        generalize dayI y n k = X at *
        have q1 : decide (k ≤ len) = true := by simpa using g1
        have q2 : decide (s < wk) = true := by simpa using g2
        go_wp2_with fail
        refine (DK _).mono ?_; rintro e w' ⟨rfl, rfl⟩
        go_wp2_with fail
        have k3 := cell_regrown c3
        have Q1 := quiet_up (w := wr) (fun V _ => same_up (WK V))
        refine wp_region_quiet_below (by kernel_rfl) (by kernel_rfl) ?_
        repeat (quiet_step (first | (with_reducible exact Q1 _ _)))
        refine wpQuiet_nil ?_
        rintro _ ⟨⟨dq, osq⟩, rfl⟩
        have UG := up_grown wr dq osq
        have U2 := ur.trans UG
        clear k3 Q1 WK DK UG c0 c1 c2 c3 c4 ur UR
        generalize grow (redrawn wr dq) osq = w2 at *
        go_wp2_with fail
        go_round
        case rel => exact ⟨k + 1, by omega, by omega, by rw [HS.out], by rw [HL.out], rfl, by rw [HS.out]; omega, U2⟩
        case measure => simp [intOf]; omega
      · have s1 := seen_no hw
        have ne : (wdI (dayI y n k) == wd) = false := by
          rw [beq_eq_false_iff_ne]; exact fun z => hw (is.1 z)
        have HS := Lib.hid s1
        clear is hw s1 D W IS EN LZ
        generalize wdI (dayI y n k) = v at *
        generalize seenI f k = s at *
        have q1 : decide (k ≤ len) = true := by simpa using g1
        have q2 : decide (s < wk) = true := by simpa using g2
        go_wp2_with fail
        refine (DK _).mono ?_; rintro e w' ⟨rfl, rfl⟩
        go_wp2_with fail
        have k3 := cell_regrown c3
        have Q1 := quiet_up (w := wr) (fun V _ => same_up (WK V))
        refine wp_region_quiet_below (by kernel_rfl) (by kernel_rfl) ?_
        repeat (quiet_step (first | (with_reducible exact Q1 _ _)))
        refine wpQuiet_nil ?_
        rintro _ ⟨⟨dq, osq⟩, rfl⟩
        have UG := up_grown wr dq osq
        have U2 := ur.trans UG
        clear k3 Q1 WK DK UG c0 c1 c2 c3 c4 ur UR
        generalize grow (redrawn wr dq) osq = w2 at *
        go_wp2_with fail
        go_round
        case rel => exact ⟨k + 1, by omega, by omega, by rw [HS.out], by rw [HS.out], rfl, by rw [HS.out]; omega, U2⟩
        case measure => simp [intOf]; omega
    · have ea := EN.out k e1 e2 e3 (by omega)
      subst ea
      clear EN D W IS LZ
      by_cases g1 : k ≤ len
      · have q1 : decide (k ≤ len) = true := by simpa using g1
        have q2 : decide (seenI f k < wk) = false := by simp; omega
        clear g
        go_wp2_with fail
        exact bodyPost_ret (v := .tuple #[.int .i64 (lastI y n f (seenI f k)), .bool true]) (by simp [results, Tryd.results13, go_sem]) rfl ⟨rfl, UR.out⟩
      · have q1 : decide (k ≤ len) = false := by simpa using g1
        clear g
        go_wp2_with fail
        exact bodyPost_ret (v := .tuple #[.int .i64 (lastI y n f (seenI f k)), .bool true]) (by simp [results, Tryd.results13, go_sem]) rfl ⟨rfl, UR.out⟩
theorem dday_yes (y : Int) (c : Ch) (w : World) (h : okY y c = true) : Calls Tryd.prog 13 #[.int .i64 y, .agg (cA c)] w fun e w' => e = .returned (.tuple #[.int .i64 (dayC y c), .bool true]) ∧ Up w w' := by
  obtain ⟨_, _, _, pp⟩ := okY_parts h
  rcases pp with p | p | p
  · exact dday_12 y c w h (.inl p.1)
  · exact dday_12 y c w h (.inr p.1)
  · obtain ⟨h0, n, k, d, t⟩ := c
    obtain rfl : h0 = 3 := p.1
    exact dday_3 y n k d t w h
theorem dday_any (y : Int) (c : Ch) (w : World) : Calls Tryd.prog 13 #[.int .i64 y, .agg (cA c)] w fun e w' => e = .returned (.tuple #[.int .i64 (if okY y c = true then dayC y c else 0), .bool (okY y c)]) ∧ Up w w' := by
  cases h : okY y c
  · rw [if_neg (by decide)]; exact dday_no y c w h
  · rw [if_pos rfl]; exact dday_yes y c w h
end Go.Proofs.YtbneokgeochinaaDoor
