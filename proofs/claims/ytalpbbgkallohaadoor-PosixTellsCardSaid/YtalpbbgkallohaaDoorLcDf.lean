/-
  The document's own answer of layer 8: Print.
-/
import Derived.Test.YtalpbbgkallohaaDoorLcDe
import Derived.Test.YtalpbbgkallohaaDoorLcPu
namespace Go.Proofs.YtalpbbgkallohaaDoor
open Go.ChangeShapes Go.WideShapes Go.ChangeAt Go.RowKit Go.Sort Lc

theorem rule_eq (a b c d e f : List UInt8) : tx (a ++ (b ++ (c ++ (d ++ (44 :: (e ++ 44 :: f)))))) = tx a ++ tx b ++ tx c ++ tx d ++ ⟨#[44]⟩ ++ tx e ++ ⟨#[44]⟩ ++ tx f := by
  rw [lit_tx]; simp only [tx_append]; simp
theorem rule_eq' (a b c e f : List UInt8) : tx (a ++ (b ++ (c ++ ([] ++ (44 :: (e ++ 44 :: f)))))) = tx a ++ tx b ++ tx c ++ ⟨#[44]⟩ ++ tx e ++ ⟨#[44]⟩ ++ tx f := by
  rw [lit_tx]; simp only [tx_append]; simp
theorem rule_eq1 (a b : List UInt8) : tx (a ++ (b ++ [])) = tx a ++ tx b := by rw [tx_append]; simp
theorem sz_le {l : List UInt8} {n : Nat} (h : l.length ≤ n) : (tx l).size ≤ n := by rw [tx_size]; exact h
set_option maxRecDepth 100000 in
set_option maxHeartbeats 4000000 in
theorem dprint_one (r : Ru) (wide : Bool) (w : World) (hr : rightB r wide = true) (hb : r.both = false) : Calls Tryd.prog 17 #[.agg (rA r)] w fun e w' => e = .returned (.string (tx (ruleT r))) ∧ Up w w' := by
  have B0 := Lib.hid (Rb.bk (Bk.new w (rA r) 27 (by decide)))
  have U0 := Lib.hid (Up.alloc w (.cells (rA r) 27))
  unfold rightB at hr
  rw [Bool.and_eq_true] at hr
  obtain ⟨hsd, hn, o1, o2⟩ := kindB_parts hr.1
  have nl := nameB_parts hn
  have N1 := fun w => same_up (dnamed_any r.std.name w (by omega))
  have H1 := fun w => dhours_any (-r.std.off) w (by omega) (by omega)
  have z1 := sz_le (nameT_le hn)
  have z2 := sz_le (clockT_le (n := -r.std.off) (k := 2) (by decide) (by omega))
  have E := rule_eq1 (nameT r.std.name) (clockT (-r.std.off))
  unfold ruleT
  rw [hb, if_neg (by decide), E]
  obtain ⟨⟨so, sd, sn⟩, ⟨dO, dd, dn⟩, b, ⟨a1, a2, a3, a4, a5⟩, ⟨b1, b2, b3, b4, b5⟩⟩ := r
  simp only [rA] at *
  subst hb
  subst hsd
  clear hr hn nl E
  generalize tx (nameT sn) = x1 at *
  generalize tx (clockT (-so)) = x2 at *
  have f1 : ¬ 9223372036854775807 < x1.size + x2.size := by omega
  have wn : IntKind.i64.wrap (-so) = -so := IntWalk.i64_in _ (by omega)
  obtain ⟨⟨c0, c1, c2⟩, ⟨c3, c4, c5⟩, c6, ⟨c7, c8, c9, d0, d1⟩, d2, d3, d4, d5, d6⟩ := B0.out
  simp only at c0 c1 c2 c3 c4 c5 c6 c7 c8 c9 d0 d1 d2 d3 d4 d5 d6
  go_enter Tryd.func17, Tryd.ntmps17
  go_wp2_with fail
  generalize w.alloc _ = W at *
  have k0 := cell_regrown c0; have k2 := cell_regrown c2
  have Q1 := quiet_up (w := W) (fun V _ => N1 V)
  have Q2 := quiet_up (w := W) (fun V _ => H1 V)
  refine wp_region_quiet_below (by kernel_rfl) (by kernel_rfl) ?_
  repeat (quiet_step (first | (with_reducible exact Q1 _ _) | (with_reducible exact Q2 _ _)))
  refine wpQuiet_nil ?_
  rintro _ ⟨⟨dq, osq⟩, rfl⟩
  have UG := up_grown W dq osq
  clear k0 k2 Q1 Q2 N1 H1 c0 c1 c2 c3 c4 c5 c6 c7 c8 c9 d0 d1 d2 d3 d4 d5 d6
  obtain ⟨⟨c0, c1, c2⟩, ⟨c3, c4, c5⟩, c6, ⟨c7, c8, c9, d0, d1⟩, d2, d3, d4, d5, d6⟩ := B0.out.up UG
  simp only at c0 c1 c2 c3 c4 c5 c6 c7 c8 c9 d0 d1 d2 d3 d4 d5 d6
  have U2 := Lib.hid (U0.out.trans UG)
  clear UG
  generalize grow (redrawn W dq) osq = w2 at *
  go_wp2_with fail
  go_ret
  exact ⟨rfl, U2.out⟩
set_option maxRecDepth 100000 in
set_option maxHeartbeats 8000000 in
theorem dprint_two (r : Ru) (wide : Bool) (w : World) (hr : rightB r wide = true) (hb : r.both = true) : Calls Tryd.prog 17 #[.agg (rA r)] w fun e w' => e = .returned (.string (tx (ruleT r))) ∧ Up w w' := by
  have B0 := Lib.hid (Rb.bk (Bk.new w (rA r) 27 (by decide)))
  have U0 := Lib.hid (Up.alloc w (.cells (rA r) 27))
  unfold rightB at hr
  rw [hb] at hr
  simp only [if_true, Bool.and_eq_true] at hr
  obtain ⟨hk, ⟨hd, ha⟩, he⟩ := hr
  obtain ⟨hsd, hn, o1, o2⟩ := kindB_parts hk
  obtain ⟨hdd, hm, o3, o4⟩ := kindB_parts hd
  have nl := nameB_parts hn
  have ml := nameB_parts hm
  have N1 := fun w => same_up (dnamed_any r.std.name w (by omega))
  have H1 := fun w => dhours_any (-r.std.off) w (by omega) (by omega)
  have N2 := fun w => same_up (dnamed_any r.dst.name w (by omega))
  have H2 := fun w => dhours_any (-r.dst.off) w (by omega) (by omega)
  have C1 := fun w => dchT_any r.st w (by unfold changeB at ha; rw [Bool.and_eq_true] at ha; exact ha.1) (by unfold changeB at ha; rw [Bool.and_eq_true] at ha; have := timeB_bd ha.2; omega)
  have C2 := fun w => dchT_any r.en w (by unfold changeB at he; rw [Bool.and_eq_true] at he; exact he.1) (by unfold changeB at he; rw [Bool.and_eq_true] at he; have := timeB_bd he.2; omega)
  have z1 := sz_le (nameT_le hn)
  have z2 := sz_le (clockT_le (n := -r.std.off) (k := 2) (by decide) (by omega))
  have z3 := sz_le (nameT_le hm)
  have z4 := sz_le (clockT_le (n := -r.dst.off) (k := 2) (by decide) (by omega))
  have z5 := sz_le (changeT_le ha)
  have z6 := sz_le (changeT_le he)
  unfold ruleT restT
  rw [hb, if_pos rfl]
  have E := rule_eq (nameT r.std.name) (clockT (-r.std.off)) (nameT r.dst.name) (clockT (-r.dst.off)) (changeT r.st) (changeT r.en)
  have E' := rule_eq' (nameT r.std.name) (clockT (-r.std.off)) (nameT r.dst.name) (changeT r.st) (changeT r.en)
  have ab : Hid (changeB r.st wide = true) := ha
  clear ha he nl ml hn hm hk hd ab
  have C1' := C1; have C2' := C2
  obtain ⟨⟨so, sd, sn⟩, ⟨dO, dd, dn⟩, b, ⟨a1, a2, a3, a4, a5⟩, ⟨b1, b2, b3, b4, b5⟩⟩ := r
  simp only [rA, cA] at *
  subst hb
  subst hsd
  subst hdd
  clear C1' C2'
  have w1 : wrap64 (so + 3600) = so + 3600 := wrap_fit (fitB_true.2 (by omega))
  have wn : IntKind.i64.wrap (-so) = -so := IntWalk.i64_in _ (by omega)
  by_cases cc : dO = so + 3600
  · rw [if_pos cc, E']
    clear E E' H2 z4
    subst cc
    generalize tx (nameT sn) = x1 at *
    generalize tx (clockT (-so)) = x2 at *
    generalize tx (nameT dn) = x3 at *
    generalize tx (changeT { how := a1, n := a2, wk := a3, wd := a4, tm := a5 }) = x5 at *
    generalize tx (changeT { how := b1, n := b2, wk := b3, wd := b4, tm := b5 }) = x6 at *
    have f0 : ¬ 9223372036854775807 < x1.size + x2.size := by omega
    have f1 : ¬ 9223372036854775807 < x1.size + x2.size + x3.size := by omega
    have f2 : ¬ 9223372036854775807 < x1.size + x2.size + x3.size + 1 := by omega
    have f3 : ¬ 9223372036854775807 < x1.size + x2.size + x3.size + 1 + x5.size := by omega
    have f4 : ¬ 9223372036854775807 < x1.size + x2.size + x3.size + 1 + x5.size + 1 := by omega
    have f5 : ¬ 9223372036854775807 < x1.size + x2.size + x3.size + 1 + x5.size + 1 + x6.size := by omega
    obtain ⟨⟨c0, c1, c2⟩, ⟨c3, c4, c5⟩, c6, ⟨c7, c8, c9, d0, d1⟩, d2, d3, d4, d5, d6⟩ := B0.out
    simp only at c0 c1 c2 c3 c4 c5 c6 c7 c8 c9 d0 d1 d2 d3 d4 d5 d6
    go_enter Tryd.func17, Tryd.ntmps17
    go_wp2_with fail
    generalize w.alloc _ = W at *
    have k0 := cell_regrown c0
    have k2 := cell_regrown c2
    have Q1 := quiet_up (w := W) (fun V _ => N1 V)
    have Q2 := quiet_up (w := W) (fun V _ => H1 V)
    refine wp_region_quiet_below (by kernel_rfl) (by kernel_rfl) ?_
    repeat (quiet_step (first | (with_reducible exact Q1 _ _) | (with_reducible exact Q2 _ _)))
    refine wpQuiet_nil ?_
    rintro _ ⟨⟨dq, osq⟩, rfl⟩
    have UG := up_grown W dq osq
    clear k0 k2 Q1 Q2
    clear N1 H1
    clear c0 c1 c2 c3 c4 c5 c6 c7 c8 c9 d0 d1 d2 d3 d4 d5 d6
    have B1 := Lib.hid (B0.out.up UG)
    have U1 := Lib.hid (U0.out.trans UG)
    clear UG B0 U0
    generalize grow (redrawn W dq) osq = W1 at *
    obtain ⟨⟨c0, c1, c2⟩, ⟨c3, c4, c5⟩, c6, ⟨c7, c8, c9, d0, d1⟩, d2, d3, d4, d5, d6⟩ := B1.out
    simp only at c0 c1 c2 c3 c4 c5 c6 c7 c8 c9 d0 d1 d2 d3 d4 d5 d6
    go_wp2_with fail
    refine (N2 _).mono ?_; rintro e W2 ⟨rfl, u2⟩
    have B2 := Lib.hid (B1.out.up u2)
    have U2 := Lib.hid (U1.out.trans u2)
    clear u2 B1 U1 N2
    clear c0 c1 c2 c3 c4 c5 c6 c7 c8 c9 d0 d1 d2 d3 d4 d5 d6
    obtain ⟨⟨c0, c1, c2⟩, ⟨c3, c4, c5⟩, c6, ⟨c7, c8, c9, d0, d1⟩, d2, d3, d4, d5, d6⟩ := B2.out
    simp only at c0 c1 c2 c3 c4 c5 c6 c7 c8 c9 d0 d1 d2 d3 d4 d5 d6
    go_wp2_with fail
    have k0 := cell_regrown c7
    have k1 := cell_regrown c8
    have k2 := cell_regrown c9
    have k3 := cell_regrown d0
    have k4 := cell_regrown d1
    have k5 := cell_regrown d2
    have k6 := cell_regrown d3
    have k7 := cell_regrown d4
    have k8 := cell_regrown d5
    have k9 := cell_regrown d6
    have Q1 := quiet_up (w := W2) (fun V _ => C1 V)
    have Q2 := quiet_up (w := W2) (fun V _ => C2 V)
    refine wp_region_quiet_below (by kernel_rfl) (by kernel_rfl) ?_
    repeat (quiet_step (first | (with_reducible exact Q1 _ _) | (with_reducible exact Q2 _ _)))
    refine wpQuiet_nil ?_
    rintro _ ⟨⟨dq, osq⟩, rfl⟩
    have UG := up_grown W2 dq osq
    clear k0 k1 k2 k3 k4 k5 k6 k7 k8 k9 Q1 Q2
    clear C1 C2
    clear c0 c1 c2 c3 c4 c5 c6 c7 c8 c9 d0 d1 d2 d3 d4 d5 d6
    have UF := Lib.hid (U2.out.trans UG)
    clear UG
    generalize grow (redrawn W2 dq) osq = W9 at *
    go_wp2_with fail
    go_ret
    exact ⟨rfl, UF.out⟩
  · rw [if_neg cc, E]
    clear E E'
    generalize tx (nameT sn) = x1 at *
    generalize tx (clockT (-so)) = x2 at *
    generalize tx (nameT dn) = x3 at *
    generalize tx (clockT (-dO)) = x4 at *
    generalize tx (changeT { how := a1, n := a2, wk := a3, wd := a4, tm := a5 }) = x5 at *
    generalize tx (changeT { how := b1, n := b2, wk := b3, wd := b4, tm := b5 }) = x6 at *
    have f0 : ¬ 9223372036854775807 < x1.size + x2.size := by omega
    have f1 : ¬ 9223372036854775807 < x1.size + x2.size + x3.size := by omega
    have f2 : ¬ 9223372036854775807 < x1.size + x2.size + x3.size + x4.size := by omega
    have f3 : ¬ 9223372036854775807 < x1.size + x2.size + x3.size + x4.size + 1 := by omega
    have f4 : ¬ 9223372036854775807 < x1.size + x2.size + x3.size + x4.size + 1 + x5.size := by omega
    have f5 : ¬ 9223372036854775807 < x1.size + x2.size + x3.size + x4.size + 1 + x5.size + 1 := by omega
    have f6 : ¬ 9223372036854775807 < x1.size + x2.size + x3.size + x4.size + 1 + x5.size + 1 + x6.size := by omega
    obtain ⟨⟨c0, c1, c2⟩, ⟨c3, c4, c5⟩, c6, ⟨c7, c8, c9, d0, d1⟩, d2, d3, d4, d5, d6⟩ := B0.out
    simp only at c0 c1 c2 c3 c4 c5 c6 c7 c8 c9 d0 d1 d2 d3 d4 d5 d6
    go_enter Tryd.func17, Tryd.ntmps17
    go_wp2_with fail
    generalize w.alloc _ = W at *
    have k0 := cell_regrown c0
    have k2 := cell_regrown c2
    have Q1 := quiet_up (w := W) (fun V _ => N1 V)
    have Q2 := quiet_up (w := W) (fun V _ => H1 V)
    refine wp_region_quiet_below (by kernel_rfl) (by kernel_rfl) ?_
    repeat (quiet_step (first | (with_reducible exact Q1 _ _) | (with_reducible exact Q2 _ _)))
    refine wpQuiet_nil ?_
    rintro _ ⟨⟨dq, osq⟩, rfl⟩
    have UG := up_grown W dq osq
    clear k0 k2 Q1 Q2
    clear N1 H1
    clear c0 c1 c2 c3 c4 c5 c6 c7 c8 c9 d0 d1 d2 d3 d4 d5 d6
    have B1 := Lib.hid (B0.out.up UG)
    have U1 := Lib.hid (U0.out.trans UG)
    clear UG B0 U0
    generalize grow (redrawn W dq) osq = W1 at *
    obtain ⟨⟨c0, c1, c2⟩, ⟨c3, c4, c5⟩, c6, ⟨c7, c8, c9, d0, d1⟩, d2, d3, d4, d5, d6⟩ := B1.out
    simp only at c0 c1 c2 c3 c4 c5 c6 c7 c8 c9 d0 d1 d2 d3 d4 d5 d6
    go_wp2_with fail
    refine (N2 _).mono ?_; rintro e W2 ⟨rfl, u2⟩
    have B2 := Lib.hid (B1.out.up u2)
    have U2 := Lib.hid (U1.out.trans u2)
    clear u2 B1 U1 N2
    clear c0 c1 c2 c3 c4 c5 c6 c7 c8 c9 d0 d1 d2 d3 d4 d5 d6
    obtain ⟨⟨c0, c1, c2⟩, ⟨c3, c4, c5⟩, c6, ⟨c7, c8, c9, d0, d1⟩, d2, d3, d4, d5, d6⟩ := B2.out
    simp only at c0 c1 c2 c3 c4 c5 c6 c7 c8 c9 d0 d1 d2 d3 d4 d5 d6
    go_wp2_with fail
    refine (H2 _).mono ?_; rintro e W3 ⟨rfl, u3⟩
    have B3 := Lib.hid (B2.out.up u3)
    have U3 := Lib.hid (U2.out.trans u3)
    clear u3 B2 U2 H2
    clear c0 c1 c2 c3 c4 c5 c6 c7 c8 c9 d0 d1 d2 d3 d4 d5 d6
    obtain ⟨⟨c0, c1, c2⟩, ⟨c3, c4, c5⟩, c6, ⟨c7, c8, c9, d0, d1⟩, d2, d3, d4, d5, d6⟩ := B3.out
    simp only at c0 c1 c2 c3 c4 c5 c6 c7 c8 c9 d0 d1 d2 d3 d4 d5 d6
    go_wp2_with fail
    have k0 := cell_regrown c7
    have k1 := cell_regrown c8
    have k2 := cell_regrown c9
    have k3 := cell_regrown d0
    have k4 := cell_regrown d1
    have k5 := cell_regrown d2
    have k6 := cell_regrown d3
    have k7 := cell_regrown d4
    have k8 := cell_regrown d5
    have k9 := cell_regrown d6
    have Q1 := quiet_up (w := W3) (fun V _ => C1 V)
    have Q2 := quiet_up (w := W3) (fun V _ => C2 V)
    refine wp_region_quiet_below (by kernel_rfl) (by kernel_rfl) ?_
    repeat (quiet_step (first | (with_reducible exact Q1 _ _) | (with_reducible exact Q2 _ _)))
    refine wpQuiet_nil ?_
    rintro _ ⟨⟨dq, osq⟩, rfl⟩
    have UG := up_grown W3 dq osq
    clear k0 k1 k2 k3 k4 k5 k6 k7 k8 k9 Q1 Q2
    clear C1 C2
    clear c0 c1 c2 c3 c4 c5 c6 c7 c8 c9 d0 d1 d2 d3 d4 d5 d6
    have UF := Lib.hid (U3.out.trans UG)
    clear UG
    generalize grow (redrawn W3 dq) osq = W9 at *
    go_wp2_with fail
    go_ret
    exact ⟨rfl, UF.out⟩
theorem dprint_any (r : Ru) (wide : Bool) (w : World) (hr : rightB r wide = true) : Calls Tryd.prog 17 #[.agg (rA r)] w fun e w' => e = .returned (.string (tx (ruleT r))) ∧ Up w w' := by
  cases hb : r.both
  · exact dprint_one r wide w hr hb
  · exact dprint_two r wide w hr hb
end Go.Proofs.YtalpbbgkallohaaDoor
