/-
  Package rule: what is in force among three years' turns (inDst).
-/
import Derived.Test.YtbneokgeochinaaDoorLcRuE
namespace Go.Proofs.YtbneokgeochinaaDoor
open Go.ChangeShapes Go.WideShapes Go.ChangeAt Go.RowKit Go.Sort Lc

theorem pIn_parts (r : Ru) (t y : Int) : pIn r t y =
    if laB ((yrs y).map (tnS r)) t = false ∧ laB ((yrs y).map (tnE r)) t = false then decide (((yrs y).map (tnE r)).getD 0 0 < ((yrs y).map (tnS r)).getD 0 0)
    else (laB ((yrs y).map (tnS r)) t && (!laB ((yrs y).map (tnE r)) t || decide (laV ((yrs y).map (tnE r)) t ≤ laV ((yrs y).map (tnS r)) t))) := by
  unfold pIn laB laV
  cases lastP ((yrs y).map (tnS r)) t <;> cases lastP ((yrs y).map (tnE r)) t <;> simp
theorem yrs_pos {y : Int} (hy : yrB y = true) : 0 < (yrs y).length := by
  have : y ∈ yrs y := by unfold yrs; rw [List.mem_filter]; exact ⟨by simp, hy⟩
  exact List.length_pos_of_mem this
theorem yrs_len (y : Int) : (yrs y).length ≤ 3 := yrk_len y 3
set_option maxRecDepth 100000 in
set_option maxHeartbeats 8000000 in
theorem inDst_any (r : Ru) (y t : Int) (w : World) (T : Tab w) (hr : rightB r true = true) (hb : r.both = true) (hy : yrB y = true) :
    Calls Tryd.prog 37 #[.agg (rA r), .int .i64 y, .int .i64 t] w fun e w' => e = .returned (.bool (inDst r t y)) ∧ Up w w' := by
  have B0 := Lib.hid (Bk.new w (rA r) 27 (by decide))
  have U0 := Lib.hid (Up.alloc w (.cells (rA r) 27))
  have AR := around_any r y _ (T.up U0.out) hr hb hy
  rw [← pIn_eq hr hb hy, pIn_parts]
  have n0 := yrs_pos hy
  have n3 := yrs_len y
  clear T hr hb hy
  have LS := Lib.hid (fun A c w h => last_any ((yrs y).map (tnS r)) t A c w h (by rw [List.length_map]; omega))
  have LE := Lib.hid (fun A c w h => last_any ((yrs y).map (tnE r)) t A c w h (by rw [List.length_map]; omega))
  have es : ((yrs y).map (tnS r)).length = (yrs y).length := List.length_map ..
  have ee : ((yrs y).map (tnE r)).length = (yrs y).length := List.length_map ..
  unfold ArP at AR
  generalize (yrs y).map (tnS r) = S at *
  generalize (yrs y).map (tnE r) = E at *
  generalize (yrs y).length = n at *
  rw [es] at LS
  rw [ee] at LE
  generalize laB S t = sb at *
  generalize laV S t = sv at *
  generalize laB E t = eb at *
  generalize laV E t = ev at *
  obtain ⟨R, hR⟩ : ∃ R, (if sb = false ∧ eb = false then decide (E.getD 0 0 < S.getD 0 0) else (sb && (!eb || decide (ev ≤ sv)))) = R := ⟨_, rfl⟩
  rw [hR]
  have HR := Lib.hid hR
  clear hR
  go_enter Tryd.func37, Tryd.ntmps37
  go_upto_region 1 with (fail)
  refine wp_region_lit ?_
  refine wpList_ld rfl 3 w.heap.size r _ rfl B0.out rfl ?_
  go_wp2_with fail
  refine AR.mono ?_; rintro e w1 ⟨A, c, A', c', rfl, RS, RE, u1⟩
  have U1 := Lib.hid (U0.out.trans u1)
  have HS := Lib.hid RS
  have HE := Lib.hid RE
  have LS1 := Lib.hid (LS.out A c w1 RS)
  have LE1 := Lib.hid (LE.out A' c' w1 RE)
  clear u1 RS RE LS LE AR B0 U0
  go_wp2_with fail
  refine LS1.out.mono ?_; rintro e w2 ⟨rfl, rfl⟩
  go_wp2_with fail
  refine LE1.out.mono ?_; rintro e w2 ⟨rfl, rfl⟩
  clear LS1 LE1
  cases sb
  · cases eb
    · obtain ⟨b, rfl, hc⟩ := HS.out (by omega)
      obtain ⟨b', rfl, hc'⟩ := HE.out (by omega)
      have c0 := hc 0 (by omega)
      have c1 := hc' 0 (by omega)
      have np : (0 : Int) < (n : Int) := by omega
      clear hc hc' HS HE es ee
      generalize S.getD 0 0 = S0 at *
      generalize E.getD 0 0 = E0 at *
      go_wp2_with fail
      go_quiet (fail)
      go_wp2_with fail
      go_ret
      exact ⟨ret_b (by rw [← HR.out]; simp), U1.out.trans (Up.drewN _ _)⟩
    · go_wp2_with fail
      go_ret
      exact ⟨ret_b (by rw [← HR.out]; simp), U1.out⟩
  · cases eb
    · go_wp2_with fail
      go_ret
      exact ⟨ret_b (by rw [← HR.out]; simp), U1.out⟩
    · go_wp2_with fail
      go_ret
      exact ⟨ret_b (by rw [← HR.out]; simp), U1.out⟩
end Go.Proofs.YtbneokgeochinaaDoor
