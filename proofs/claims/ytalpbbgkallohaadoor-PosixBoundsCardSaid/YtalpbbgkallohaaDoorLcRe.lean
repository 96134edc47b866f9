/-
  What a reader takes: two digits, clocks, offsets, times.
-/
import Derived.Test.YtalpbbgkallohaaDoorLcRd
import Derived.Test.YtalpbbgkallohaaDoorLcPx2
namespace Go.Proofs.YtalpbbgkallohaaDoor
open Go.ChangeShapes Go.WideShapes Go.ChangeAt Go.RowKit Lc

theorem number_no {b : Nat} {wide : Bool} {most : Nat} {l : List UInt8} {w : World} (h : In w b l wide) (hm : most ≤ 3) (hm1 : 1 ≤ most) (q : numP most l = none) :
    Calls Tryd.prog 73 #[.pointer (some ⟨b, 0, none⟩), .int .i64 most] w fun e w' => e = .panicked pn4 ∧ Gb b w w' := by
  have := number_any b wide most l w h hm hm1
  rw [q] at this; exact this
theorem number_yes {b : Nat} {wide : Bool} {most : Nat} {l t : List UInt8} {n : Int} {w : World} (h : In w b l wide) (hm : most ≤ 3) (hm1 : 1 ≤ most) (q : numP most l = some (n, t)) :
    Calls Tryd.prog 73 #[.pointer (some ⟨b, 0, none⟩), .int .i64 most] w fun e w' => e = .returned (.int .i64 n) ∧ In w' b t wide ∧ Gb b w w' := by
  have := number_any b wide most l w h hm hm1
  rw [q] at this; exact this
theorem numP_bd {most : Nat} {l t : List UInt8} {n : Int} (hm : most ≤ 3) (q : numP most l = some (n, t)) : 0 ≤ n ∧ n < 1000 ∧ t.length ≤ l.length := by
  obtain ⟨d, rfl, ha, _, hl, _, rfl⟩ := numP_some q
  have := val_bd _ d rfl ha
  have h3 : (10 : Int) ^ d.length ≤ 10 ^ 3 := by
    have : 10 ^ d.length ≤ 10 ^ 3 := Nat.pow_le_pow_right (by decide) (by omega)
    exact_mod_cast this
  exact ⟨this.1, by omega, by simp⟩
theorem pairP_bd {l t : List UInt8} {n : Int} (q : pairP l = some (n, t)) : 0 ≤ n ∧ n ≤ 59 := by
  obtain ⟨d, _, _, _, _, _, h1, h2⟩ := pairP_some q
  exact ⟨h1, h2⟩
theorem clockP_bd {dg : Nat} {l t : List UInt8} {x : Int} (hd : dg ≤ 3) (q : clockP dg l = some (x, t)) : 0 ≤ x ∧ x < 3600000 := by
  obtain ⟨_, _, h0, h1, _⟩ := clockP_some q
  have h3 : (10 : Int) ^ dg ≤ 10 ^ 3 := by
    have : 10 ^ dg ≤ 10 ^ 3 := Nat.pow_le_pow_right (by decide) hd
    exact_mod_cast this
  exact ⟨h0, by omega⟩
theorem signedP_bd {dg : Nat} {l t : List UInt8} {x : Int} (hd : dg ≤ 3) (q : signedP dg l = some (x, t)) : -3600000 < x ∧ x < 3600000 := by
  obtain ⟨_, _, _, h1, _⟩ := signedP_some q
  have h3 : 10 ^ dg ≤ 10 ^ 3 := Nat.pow_le_pow_right (by decide) hd
  omega

set_option maxRecDepth 100000 in
set_option maxHeartbeats 4000000 in
theorem pair_any (b : Nat) (wide : Bool) (l : List UInt8) (w : World) (h : In w b l wide) :
    Calls Tryd.prog 85 #[.pointer (some ⟨b, 0, none⟩)] w fun e w' => An b wide w ((pairP l).map fun x => (Value.int .i64 x.1, x.2)) e w' := by
  obtain ⟨R, hR⟩ : ∃ R, (pairP l).map (fun x => (Value.int .i64 x.1, x.2)) = R := ⟨_, rfl⟩
  rw [hR]
  have HR := Lib.hid hR
  clear hR
  have cc0 := h.c0; have cd0 := h.c1; have cf0 := h.f0
  have hl := h.2
  have ll := tx_size l
  go_enter Tryd.func85, Tryd.ntmps85
  go_wp2_with fail
  cases h1 : numP 2 l with
  | none =>
    refine (number_no h (by decide) (by decide) h1).mono ?_
    rintro e w1 ⟨rfl, g1⟩
    go_wp2_with fail
    have hres : pairP l = none := by unfold pairP; simp only [h1]
    rw [← HR.out, hres]
    exact ⟨rfl, rfl, g1⟩
  | some x1 =>
    obtain ⟨n, t⟩ := x1
    have nb := numP_bd (by decide) h1
    have tl := tx_size t
    have ht := nb.2.2
    refine (number_yes h (by decide) (by decide) h1).mono ?_
    rintro e w1 ⟨rfl, i1, g1⟩
    have cc1 := i1.c0; have cd1 := i1.c1; have cf1 := i1.f0
    have wl : wrap64 ((l.length : Int) - (t.length : Int)) = (l.length : Int) - (t.length : Int) := wrap_fit (fitB_true.2 (by omega))
    have e2 : ((l.length : Int) - (t.length : Int) = 2) ↔ l.length - t.length = 2 := by omega
    by_cases c1 : l.length - t.length = 2
    · have c1' : (l.length : Int) - (t.length : Int) = 2 := e2.2 c1
      by_cases c2 : n ≤ 59
      · have hres : pairP l = some (n, t) := by unfold pairP; simp only [h1]; rw [if_pos ⟨c1, c2⟩]
        have c2' : decide (59 < n) = false := by simp; omega
        clear e2 c1 h1
        generalize tx l = s at *
        generalize tx t = s' at *
        go_wp2_with fail
        refine (refuse_no _).mono ?_
        rintro e w2 ⟨rfl, rfl⟩
        go_wp2_with fail
        go_ret
        rw [← HR.out, hres]
        exact ⟨rfl, i1, g1⟩
      · have hres : pairP l = none := by unfold pairP; simp only [h1]; rw [if_neg (fun x => c2 x.2)]
        have c2' : decide (59 < n) = true := by simp; omega
        clear e2 c1 h1
        go_wp2_with fail
        refine (refuse_yes _).mono ?_
        rintro e w2 ⟨rfl, rfl⟩
        go_wp2_with fail
        rw [← HR.out, hres]
        exact ⟨rfl, rfl, g1⟩
    · have hres : pairP l = none := by unfold pairP; simp only [h1]; rw [if_neg (fun x => c1 x.1)]
      have c1' : ¬ (l.length : Int) - (t.length : Int) = 2 := fun x => c1 (e2.1 x)
      clear e2 c1 h1
      go_wp2_with fail
      refine (refuse_yes _).mono ?_
      rintro e w2 ⟨rfl, rfl⟩
      go_wp2_with fail
      rw [← HR.out, hres]
      exact ⟨rfl, rfl, g1⟩
theorem pair_no {b : Nat} {wide : Bool} {l : List UInt8} {w : World} (h : In w b l wide) (q : pairP l = none) :
    Calls Tryd.prog 85 #[.pointer (some ⟨b, 0, none⟩)] w fun e w' => e = .panicked pn4 ∧ Gb b w w' := by
  have := pair_any b wide l w h
  rw [q] at this; exact this
theorem pair_yes {b : Nat} {wide : Bool} {l t : List UInt8} {x : Int} {w : World} (h : In w b l wide) (q : pairP l = some (x, t)) :
    Calls Tryd.prog 85 #[.pointer (some ⟨b, 0, none⟩)] w fun e w' => e = .returned (.int .i64 x) ∧ In w' b t wide ∧ Gb b w w' := by
  have := pair_any b wide l w h
  rw [q] at this; exact this

set_option maxRecDepth 100000 in
set_option maxHeartbeats 4000000 in
theorem clock_any (b : Nat) (wide : Bool) (dg : Nat) (l : List UInt8) (w : World) (h : In w b l wide) (hd : dg ≤ 3) (hd1 : 1 ≤ dg) :
    Calls Tryd.prog 78 #[.pointer (some ⟨b, 0, none⟩), .int .i64 dg] w fun e w' => An b wide w ((clockP dg l).map fun x => (Value.int .i64 x.1, x.2)) e w' := by
  obtain ⟨R, hR⟩ : ∃ R, (clockP dg l).map (fun x => (Value.int .i64 x.1, x.2)) = R := ⟨_, rfl⟩
  rw [hR]
  have HR := Lib.hid hR
  clear hR
  have cc0 := h.c0; have cd0 := h.c1; have cf0 := h.f0
  go_enter Tryd.func78, Tryd.ntmps78
  go_wp2_with fail
  cases h1 : numP dg l with
  | none =>
    refine (number_no h hd hd1 h1).mono ?_
    rintro e w1 ⟨rfl, g1⟩
    go_wp2_with fail
    have hres : clockP dg l = none := by unfold clockP; simp only [h1]
    rw [← HR.out, hres]
    exact ⟨rfl, rfl, g1⟩
  | some x1 =>
    obtain ⟨n, t1⟩ := x1
    have nb := numP_bd hd h1
    have ww1 : wrap64 (n * 3600) = n * 3600 := wrap_fit (fitB_true.2 (by omega))
    refine (number_yes h hd hd1 h1).mono ?_
    rintro e w1 ⟨rfl, i1, g1⟩
    have cc1 := i1.c0; have cd1 := i1.c1; have cf1 := i1.f0
    go_wp2_with fail
    cases h2 : takeP 58 t1 with
    | none =>
      refine (takes_no b wide 58 t1 w1 i1 h2).mono ?_
      rintro e w2 ⟨rfl, i2, g2⟩
      have cc2 := i2.c0; have cd2 := i2.c1; have cf2 := i2.f0
      go_wp2_with fail
      have hres : clockP dg l = some (n * 3600, t1) := by unfold clockP; simp only [h1, h2]
      go_ret
      rw [← HR.out, hres]
      exact ⟨rfl, i2, (g1.trans g2)⟩
    | some t2 =>
      refine (takes_yes b wide 58 t1 t2 w1 i1 h2).mono ?_
      rintro e w2 ⟨rfl, i2, g2⟩
      have cc2 := i2.c0; have cd2 := i2.c1; have cf2 := i2.f0
      go_wp2_with fail
      cases h3 : pairP t2 with
      | none =>
        refine (pair_no i2 h3).mono ?_
        rintro e w3 ⟨rfl, g3⟩
        go_wp2_with fail
        have hres : clockP dg l = none := by unfold clockP; simp only [h1, h2, h3]
        rw [← HR.out, hres]
        exact ⟨rfl, rfl, ((g1.trans g2).trans g3)⟩
      | some x3 =>
        obtain ⟨m, t3⟩ := x3
        have mb := pairP_bd h3
        have ww2 : wrap64 (m * 60) = m * 60 := wrap_fit (fitB_true.2 (by omega))
        have ww3 : wrap64 (n * 3600 + m * 60) = n * 3600 + m * 60 := wrap_fit (fitB_true.2 (by omega))
        refine (pair_yes i2 h3).mono ?_
        rintro e w3 ⟨rfl, i3, g3⟩
        have cc3 := i3.c0; have cd3 := i3.c1; have cf3 := i3.f0
        go_wp2_with fail
        cases h4 : takeP 58 t3 with
        | none =>
          refine (takes_no b wide 58 t3 w3 i3 h4).mono ?_
          rintro e w4 ⟨rfl, i4, g4⟩
          have cc4 := i4.c0; have cd4 := i4.c1; have cf4 := i4.f0
          go_wp2_with fail
          have hres : clockP dg l = some (n * 3600 + m * 60, t3) := by unfold clockP; simp only [h1, h2, h3, h4]
          go_ret
          rw [← HR.out, hres]
          exact ⟨rfl, i4, (((g1.trans g2).trans g3).trans g4)⟩
        | some t4 =>
          refine (takes_yes b wide 58 t3 t4 w3 i3 h4).mono ?_
          rintro e w4 ⟨rfl, i4, g4⟩
          have cc4 := i4.c0; have cd4 := i4.c1; have cf4 := i4.f0
          go_wp2_with fail
          cases h5 : pairP t4 with
          | none =>
            refine (pair_no i4 h5).mono ?_
            rintro e w5 ⟨rfl, g5⟩
            go_wp2_with fail
            have hres : clockP dg l = none := by unfold clockP; simp only [h1, h2, h3, h4, h5]
            rw [← HR.out, hres]
            exact ⟨rfl, rfl, ((((g1.trans g2).trans g3).trans g4).trans g5)⟩
          | some x5 =>
            obtain ⟨s, t5⟩ := x5
            have sb := pairP_bd h5
            have ww4 : wrap64 (n * 3600 + m * 60 + s) = n * 3600 + m * 60 + s := wrap_fit (fitB_true.2 (by omega))
            refine (pair_yes i4 h5).mono ?_
            rintro e w5 ⟨rfl, i5, g5⟩
            have cc5 := i5.c0; have cd5 := i5.c1; have cf5 := i5.f0
            go_wp2_with fail
            have hres : clockP dg l = some (n * 3600 + m * 60 + s, t5) := by unfold clockP; simp only [h1, h2, h3, h4, h5]
            go_ret
            rw [← HR.out, hres]
            exact ⟨rfl, i5, ((((g1.trans g2).trans g3).trans g4).trans g5)⟩
theorem clock_no {b : Nat} {wide : Bool} {dg : Nat} {l : List UInt8} {w : World} (h : In w b l wide) (hd : dg ≤ 3) (hd1 : 1 ≤ dg) (q : clockP dg l = none) :
    Calls Tryd.prog 78 #[.pointer (some ⟨b, 0, none⟩), .int .i64 dg] w fun e w' => e = .panicked pn4 ∧ Gb b w w' := by
  have := clock_any b wide dg l w h hd hd1
  rw [q] at this; exact this
theorem clock_yes {b : Nat} {wide : Bool} {dg : Nat} {l t : List UInt8} {x : Int} {w : World} (h : In w b l wide) (hd : dg ≤ 3) (hd1 : 1 ≤ dg) (q : clockP dg l = some (x, t)) :
    Calls Tryd.prog 78 #[.pointer (some ⟨b, 0, none⟩), .int .i64 dg] w fun e w' => e = .returned (.int .i64 x) ∧ In w' b t wide ∧ Gb b w w' := by
  have := clock_any b wide dg l w h hd hd1
  rw [q] at this; exact this

set_option maxRecDepth 100000 in
set_option maxHeartbeats 4000000 in
theorem signed_any (b : Nat) (wide : Bool) (dg : Nat) (l : List UInt8) (w : World) (h : In w b l wide) (hd : dg ≤ 3) (hd1 : 1 ≤ dg) :
    Calls Tryd.prog 71 #[.pointer (some ⟨b, 0, none⟩), .int .i64 dg] w fun e w' => An b wide w ((signedP dg l).map fun x => (Value.int .i64 x.1, x.2)) e w' := by
  obtain ⟨R, hR⟩ : ∃ R, (signedP dg l).map (fun x => (Value.int .i64 x.1, x.2)) = R := ⟨_, rfl⟩
  rw [hR]
  have HR := Lib.hid hR
  clear hR
  have cc0 := h.c0; have cd0 := h.c1; have cf0 := h.f0
  go_enter Tryd.func71, Tryd.ntmps71
  go_wp2_with fail
  cases h1 : takeP 45 l with
  | some t1 =>
    refine (takes_yes b wide 45 l t1 w h h1).mono ?_
    rintro e w1 ⟨rfl, i1, g1⟩
    have cc1 := i1.c0; have cd1 := i1.c1; have cf1 := i1.f0
    go_wp2_with fail
    cases h2 : clockP dg t1 with
    | none =>
      refine (clock_no i1 hd hd1 h2).mono ?_
      rintro e w2 ⟨rfl, g2⟩
      go_wp2_with fail
      have hres : signedP dg l = none := by unfold signedP; simp only [h1, h2]
      rw [← HR.out, hres]
      exact ⟨rfl, rfl, (g1.trans g2)⟩
    | some x2 =>
      obtain ⟨x, t2⟩ := x2
      have xb := clockP_bd hd h2
      have ww1 : wrap64 (-x) = -x := wrap_fit (fitB_true.2 (by omega))
      refine (clock_yes i1 hd hd1 h2).mono ?_
      rintro e w2 ⟨rfl, i2, g2⟩
      have cc2 := i2.c0; have cd2 := i2.c1; have cf2 := i2.f0
      go_wp2_with fail
      have hres : signedP dg l = some (-x, t2) := by unfold signedP; simp only [h1, h2]
      go_ret
      rw [← HR.out, hres]
      exact ⟨rfl, i2, (g1.trans g2)⟩
  | none =>
    refine (takes_no b wide 45 l w h h1).mono ?_
    rintro e w1 ⟨rfl, i1, g1⟩
    have cc1 := i1.c0; have cd1 := i1.c1; have cf1 := i1.f0
    go_wp2_with fail
    cases h3 : takeP 43 l with
    | some t3 =>
      refine (takes_yes b wide 43 l t3 w1 i1 h3).mono ?_
      rintro e w2 ⟨rfl, i2, g2⟩
      have cc2 := i2.c0; have cd2 := i2.c1; have cf2 := i2.f0
      go_wp2_with fail
      cases h4 : clockP dg t3 with
      | none =>
        refine (clock_no i2 hd hd1 h4).mono ?_
        rintro e w3 ⟨rfl, g3⟩
        go_wp2_with fail
        have hres : signedP dg l = none := by unfold signedP; simp only [h1, h3, h4]
        rw [← HR.out, hres]
        exact ⟨rfl, rfl, ((g1.trans g2).trans g3)⟩
      | some x4 =>
        obtain ⟨x, t4⟩ := x4
        refine (clock_yes i2 hd hd1 h4).mono ?_
        rintro e w3 ⟨rfl, i3, g3⟩
        have cc3 := i3.c0; have cd3 := i3.c1; have cf3 := i3.f0
        go_wp2_with fail
        have hres : signedP dg l = some (x, t4) := by unfold signedP; simp only [h1, h3, h4]
        go_ret
        rw [← HR.out, hres]
        exact ⟨rfl, i3, ((g1.trans g2).trans g3)⟩
    | none =>
      refine (takes_no b wide 43 l w1 i1 h3).mono ?_
      rintro e w2 ⟨rfl, i2, g2⟩
      have cc2 := i2.c0; have cd2 := i2.c1; have cf2 := i2.f0
      go_wp2_with fail
      cases h4 : clockP dg l with
      | none =>
        refine (clock_no i2 hd hd1 h4).mono ?_
        rintro e w3 ⟨rfl, g3⟩
        go_wp2_with fail
        have hres : signedP dg l = none := by unfold signedP; simp only [h1, h3, h4]
        rw [← HR.out, hres]
        exact ⟨rfl, rfl, ((g1.trans g2).trans g3)⟩
      | some x4 =>
        obtain ⟨x, t4⟩ := x4
        refine (clock_yes i2 hd hd1 h4).mono ?_
        rintro e w3 ⟨rfl, i3, g3⟩
        have cc3 := i3.c0; have cd3 := i3.c1; have cf3 := i3.f0
        go_wp2_with fail
        have hres : signedP dg l = some (x, t4) := by unfold signedP; simp only [h1, h3, h4]
        go_ret
        rw [← HR.out, hres]
        exact ⟨rfl, i3, ((g1.trans g2).trans g3)⟩
theorem signed_no {b : Nat} {wide : Bool} {dg : Nat} {l : List UInt8} {w : World} (h : In w b l wide) (hd : dg ≤ 3) (hd1 : 1 ≤ dg) (q : signedP dg l = none) :
    Calls Tryd.prog 71 #[.pointer (some ⟨b, 0, none⟩), .int .i64 dg] w fun e w' => e = .panicked pn4 ∧ Gb b w w' := by
  have := signed_any b wide dg l w h hd hd1
  rw [q] at this; exact this
theorem signed_yes {b : Nat} {wide : Bool} {dg : Nat} {l t : List UInt8} {x : Int} {w : World} (h : In w b l wide) (hd : dg ≤ 3) (hd1 : 1 ≤ dg) (q : signedP dg l = some (x, t)) :
    Calls Tryd.prog 71 #[.pointer (some ⟨b, 0, none⟩), .int .i64 dg] w fun e w' => e = .returned (.int .i64 x) ∧ In w' b t wide ∧ Gb b w w' := by
  have := signed_any b wide dg l w h hd hd1
  rw [q] at this; exact this

set_option maxRecDepth 100000 in
set_option maxHeartbeats 4000000 in
theorem off_any (b : Nat) (wide : Bool) (l : List UInt8) (w : World) (h : In w b l wide) :
    Calls Tryd.prog 64 #[.pointer (some ⟨b, 0, none⟩)] w fun e w' => An b wide w ((offP l).map fun x => (Value.int .i64 x.1, x.2)) e w' := by
  obtain ⟨R, hR⟩ : ∃ R, (offP l).map (fun x => (Value.int .i64 x.1, x.2)) = R := ⟨_, rfl⟩
  rw [hR]
  have HR := Lib.hid hR
  clear hR
  have cc0 := h.c0; have cd0 := h.c1; have cf0 := h.f0
  go_enter Tryd.func64, Tryd.ntmps64
  go_wp2_with fail
  cases h1 : signedP 2 l with
  | none =>
    refine (signed_no h (by decide) (by decide) h1).mono ?_
    rintro e w1 ⟨rfl, g1⟩
    go_wp2_with fail
    have hres : offP l = none := by unfold offP; simp only [h1]
    rw [← HR.out, hres]
    exact ⟨rfl, rfl, g1⟩
  | some x1 =>
    obtain ⟨x, t1⟩ := x1
    have xb := signedP_bd (by decide) h1
    have ww1 : wrap64 (-x) = -x := wrap_fit (fitB_true.2 (by omega))
    refine (signed_yes h (by decide) (by decide) h1).mono ?_
    rintro e w1 ⟨rfl, i1, g1⟩
    have cc1 := i1.c0; have cd1 := i1.c1; have cf1 := i1.f0
    go_wp2_with fail
    have hres : offP l = some (-x, t1) := by unfold offP; simp only [h1]
    go_ret
    rw [← HR.out, hres]
    exact ⟨rfl, i1, g1⟩
theorem off_no {b : Nat} {wide : Bool} {l : List UInt8} {w : World} (h : In w b l wide) (q : offP l = none) :
    Calls Tryd.prog 64 #[.pointer (some ⟨b, 0, none⟩)] w fun e w' => e = .panicked pn4 ∧ Gb b w w' := by
  have := off_any b wide l w h
  rw [q] at this; exact this
theorem off_yes {b : Nat} {wide : Bool} {l t : List UInt8} {x : Int} {w : World} (h : In w b l wide) (q : offP l = some (x, t)) :
    Calls Tryd.prog 64 #[.pointer (some ⟨b, 0, none⟩)] w fun e w' => e = .returned (.int .i64 x) ∧ In w' b t wide ∧ Gb b w w' := by
  have := off_any b wide l w h
  rw [q] at this; exact this

set_option maxRecDepth 100000 in
set_option maxHeartbeats 4000000 in
theorem time_any (b : Nat) (wide : Bool) (l : List UInt8) (w : World) (h : In w b l wide) :
    Calls Tryd.prog 74 #[.pointer (some ⟨b, 0, none⟩)] w fun e w' => An b wide w ((timeP wide l).map fun x => (Value.int .i64 x.1, x.2)) e w' := by
  obtain ⟨R, hR⟩ : ∃ R, (timeP wide l).map (fun x => (Value.int .i64 x.1, x.2)) = R := ⟨_, rfl⟩
  rw [hR]
  have HR := Lib.hid hR
  clear hR
  have cc0 := h.c0; have cd0 := h.c1; have cf0 := h.f0
  cases wide
  · have ht : timeP false l = clockP 2 l := by unfold timeP; simp
    go_enter Tryd.func74, Tryd.ntmps74
    go_wp2_with fail
    cases h1 : clockP 2 l with
    | none =>
      rw [h1] at ht
      refine (clock_no h (by decide) (by decide) h1).mono ?_
      rintro e w1 ⟨rfl, g1⟩
      go_wp2_with fail
      rw [← HR.out, ht]
      exact ⟨rfl, rfl, g1⟩
    | some x1 =>
      obtain ⟨x, t1⟩ := x1
      rw [h1] at ht
      refine (clock_yes h (by decide) (by decide) h1).mono ?_
      rintro e w1 ⟨rfl, i1, g1⟩
      go_wp2_with fail
      go_ret
      rw [← HR.out, ht]
      exact ⟨rfl, i1, g1⟩
  · have ht : timeP true l = signedP 3 l := by unfold timeP; simp
    go_enter Tryd.func74, Tryd.ntmps74
    go_wp2_with fail
    cases h1 : signedP 3 l with
    | none =>
      rw [h1] at ht
      refine (signed_no h (by decide) (by decide) h1).mono ?_
      rintro e w1 ⟨rfl, g1⟩
      go_wp2_with fail
      rw [← HR.out, ht]
      exact ⟨rfl, rfl, g1⟩
    | some x1 =>
      obtain ⟨x, t1⟩ := x1
      rw [h1] at ht
      refine (signed_yes h (by decide) (by decide) h1).mono ?_
      rintro e w1 ⟨rfl, i1, g1⟩
      go_wp2_with fail
      go_ret
      rw [← HR.out, ht]
      exact ⟨rfl, i1, g1⟩
theorem time_no {b : Nat} {wide : Bool} {l : List UInt8} {w : World} (h : In w b l wide) (q : timeP wide l = none) :
    Calls Tryd.prog 74 #[.pointer (some ⟨b, 0, none⟩)] w fun e w' => e = .panicked pn4 ∧ Gb b w w' := by
  have := time_any b wide l w h
  rw [q] at this; exact this
theorem time_yes {b : Nat} {wide : Bool} {l t : List UInt8} {x : Int} {w : World} (h : In w b l wide) (q : timeP wide l = some (x, t)) :
    Calls Tryd.prog 74 #[.pointer (some ⟨b, 0, none⟩)] w fun e w' => e = .returned (.int .i64 x) ∧ In w' b t wide ∧ Gb b w w' := by
  have := time_any b wide l w h
  rw [q] at this; exact this

end Go.Proofs.YtalpbbgkallohaaDoor
