/-
  The document's file: Right.
-/
import Derived.Test.YtaljddoenjgbfaaGreatLcTzG
import Derived.Test.YtaljddoenjgbfaaGreatLcTzX
import Derived.Test.YtaljddoenjgbfaaGreatLcRf3
import Derived.BigQuiet
namespace Go.Proofs.YtaljddoenjgbfaaGreat
open Go.ChangeShapes Go.WideShapes Go.ChangeAt Go.RowKit Go.Sort Lc

set_option maxRecDepth 100000 in
theorem nol_yes {s : ByteArray} (h : ∀ j, j < s.size → (tx s).getD j 0 ≠ 10) : nol s = true := by
  unfold nol
  rw [Bool.not_eq_true', List.contains_eq_mem, decide_eq_false_iff_not]
  intro hm
  obtain ⟨j, hj, e⟩ := List.getElem_of_mem hm
  have hj' : j < s.size := by rw [← tx_len]; exact hj
  exact h j hj' (by rw [List.getD_eq_getElem?_getD, List.getElem?_eq_getElem hj, Option.getD_some]; exact e)
set_option maxRecDepth 100000 in
theorem nol_no {s : ByteArray} {m : Nat} (h : m < s.size) (e : (tx s).getD m 0 = 10) : nol s = false := by
  unfold nol
  have hj : m < (tx s).length := by rw [tx_len]; exact h
  rw [List.getD_eq_getElem?_getD, List.getElem?_eq_getElem hj, Option.getD_some] at e
  rw [Bool.not_eq_false', List.contains_eq_mem, decide_eq_true_eq, ← e]
  exact List.getElem_mem hj
set_option maxRecDepth 100000 in
set_option maxHeartbeats 4000000 in
theorem dright7_any (v : Value) (f : Fil) (w : World) (hs : FlR w v f) :
    Calls Tryz.prog 8 #[v] w fun e w' => e = .returned (.bool (rightF f)) ∧ Up w w' := by
  obtain ⟨A0, n0, c0, A1, n1, c1, A2, n2, c2, A3, n3, c3, A4, n4, c4, rfl, hb⟩ := hs.form
  have UA := Lib.hid (Up.alloc w (.cells #[.int .i64 f.ver, .slice A0 n0 c0, .slice A1 n1 c1, .slice A2 n2 c2, .slice A3 n3 c3, .slice A4 n4 c4, .string f.foot] 39))
  have X0 := Lib.hid (Bx7.new w (.int .i64 f.ver) (.slice A0 n0 c0) (.slice A1 n1 c1) (.slice A2 n2 c2) (.slice A3 n3 c3) (.slice A4 n4 c4) (.string f.foot) 39)
  have E := Lib.hid (show rightF f = (decide (1 ≤ f.ver) && decide (f.ver ≤ 4) && rightB f.blk (mz f.ver) f.ver && rfB f.foot f.ver) from rfl)
  have K1 := Lib.hid (fun W (u : Up w W) => dright_any _ f.blk (mz f.ver) f.ver W (hb.up u))
  obtain ⟨r, hr⟩ : ∃ r, rightF f = r := ⟨_, rfl⟩
  rw [hr] at E ⊢
  generalize f.blk = x at *
  generalize f.ver = ver at *
  generalize f.foot = ft at *
  clear hb hs hr
  go_enter Tryz.func8, Tryz.ntmps8
  go_upto_region 1 with (fail)
  have lw : w.heap.size < (w.alloc (.cells #[.int .i64 ver, .slice A0 n0 c0, .slice A1 n1 c1, .slice A2 n2 c2, .slice A3 n3 c3, .slice A4 n4 c4, .string ft] 39)).heap.size := by simp
  generalize w.alloc (.cells #[.int .i64 ver, .slice A0 n0 c0, .slice A1 n1 c1, .slice A2 n2 c2, .slice A3 n3 c3, .slice A4 n4 c4, .string ft] 39) = W at *
  generalize w.heap.size = B at *
  obtain ⟨x0, x1, x2, x3, x4, x5, x6⟩ := X0.out
  by_cases h1 : ver < 1
  · have hf : Hid (r = false) := by unfold Hid; rw [E.out, decide_eq_false (show ¬ 1 ≤ ver by omega)]; rfl
    go_wp2_with fail
    go_ret
    exact ⟨ret_b hf.out.symm, UA.out⟩
  by_cases h4 : 4 < ver
  · have hf : Hid (r = false) := by unfold Hid; rw [E.out, decide_eq_false (show ¬ ver ≤ 4 by omega)]; simp
    go_wp2_with fail
    go_ret
    exact ⟨ret_b hf.out.symm, UA.out⟩
  have E2 : Hid (r = (rightB x (mz ver) ver && rfB ft ver)) := by
    unfold Hid; rw [E.out, decide_eq_true (show 1 ≤ ver by omega), decide_eq_true (show ver ≤ 4 by omega)]; rfl
  have HS : (ft.toList.isEmpty = true ∧ Hid (decide (ft.size = 0) = true)) ∨ (ft.toList.isEmpty = false ∧ Hid (decide (ft.size = 0) = false)) := by
    rw [rfoot_size]
    cases decide (ft.size = 0)
    · exact .inr ⟨rfl, Lib.hid rfl⟩
    · exact .inl ⟨rfl, Lib.hid rfl⟩
  have HM : Hid (mz ver = if ver = 1 then 4 else 8) := rfl
  clear E
  by_cases hv : ver = 1
  · subst hv
    rcases HS with ⟨e1, e2⟩ | ⟨e1, e2⟩
    · have z0 : ft.size = 0 := by have := e2.out; simpa using this
      have HR : Hid (r = rightB x 4 1) := by
        unfold Hid; rw [E2.out, HM.out, if_pos rfl]; unfold rfB; rw [if_pos rfl, e2.out, Bool.and_true]
      rw [HM.out, if_pos rfl] at K1
      generalize rightB x 4 1 = q at *
      clear E2 HM e2
      go_wp2_with fail
      go_loopw [3] (fun i wr => i = .int .i64 0 ∧ wr = W) (fun _ _ => 0)
      case atStart => exact ⟨rfl, rfl⟩
      case round =>
        obtain ⟨rfl, rfl⟩ := hrel
        have z1 : ¬ (0 : Int) < (ft.size : Int) := by omega
        go_wp2_with fail
        refine (K1.out _ UA.out).mono ?_; rintro e w1 ⟨rfl, u1⟩
        go_wp2_with fail
        go_ret
        exact ⟨ret_b HR.out.symm, UA.out.trans u1⟩
    · have hf : Hid (r = false) := by
        unfold Hid; rw [E2.out]; unfold rfB; rw [if_pos rfl, e2.out, Bool.and_false]
      clear E2 HM e2
      go_wp2_with fail
      go_ret
      exact ⟨ret_b hf.out.symm, UA.out⟩
  · by_cases hl : 100 < ft.size
    · have hf : Hid (r = false) := by
        unfold Hid; rw [E2.out]; unfold rfB; rw [if_neg hv, decide_eq_false (show ¬ ft.size ≤ 100 by omega)]; simp
      clear E2 HM HS
      have hl' : (100 : Int) < (ft.size : Int) := by omega
      go_wp2_with fail
      go_ret
      exact ⟨ret_b hf.out.symm, UA.out⟩
    · have HR : Hid (r = (rightB x 8 ver && nol ft)) := by
        unfold Hid; rw [E2.out, HM.out, if_neg hv]; unfold rfB; rw [if_neg hv, decide_eq_true (show ft.size ≤ 100 by omega), Bool.true_and]
      rw [HM.out, if_neg hv] at K1
      generalize rightB x 8 ver = q at *
      clear E2 HM HS
      go_wp2_with fail
      go_loopw [3] (fun i wr => ∃ k : Nat, k ≤ ft.size ∧ i = .int .i64 k ∧ wr = W ∧ ∀ j, j < k → (tx ft).getD j 0 ≠ 10) (fun i _ => ft.size - (intOf i).toNat)
      case atStart => exact ⟨0, Nat.zero_le _, rfl, rfl, fun j hj => absurd hj (Nat.not_lt_zero j)⟩
      case round =>
        obtain ⟨k, hk, rfl, rfl, hz⟩ := hrel
        have HZ := Lib.hid hz
        clear hz
        by_cases hlt : k < ft.size
        · by_cases hx : (tx ft).getD k 0 = 10
          · have hf : Hid (r = false) := by unfold Hid; rw [HR.out, nol_no hlt hx, Bool.and_false]
            have hx2 : ((ft[k].toNat : Int) == 10) = true := by rw [← tx_at hlt, hx]; rfl
            clear HZ HR hx
            go_wp2_with fail
            go_ret
            exact ⟨ret_b hf.out.symm, UA.out⟩
          · have hx2 : ((ft[k].toNat : Int) == 10) = false := by
              rw [tx_at hlt] at hx
              rw [beq_eq_false_iff_ne]
              intro h
              exact hx (UInt8.toNat_inj.1 (by show ft[k].toNat = 10; omega))
            have HX := Lib.hid hx
            clear hx
            go_wp2_with fail
            go_roundw
            case rel => exact ⟨k + 1, by omega, by go_num, by trivial, fun j hj => by
              rcases Nat.lt_or_ge j k with h | h
              · exact HZ.out j h
              · have : j = k := by omega
                rw [this]; exact HX.out⟩
            case measure => simp [intOf]; omega
        · have hks : k = ft.size := by omega
          subst hks
          replace HR : Hid (r = q) := by unfold Hid; rw [HR.out, nol_yes HZ.out, Bool.and_true]
          clear HZ
          go_wp2_with fail
          refine (K1.out _ UA.out).mono ?_; rintro e w1 ⟨rfl, u1⟩
          go_wp2_with fail
          go_ret
          exact ⟨ret_b HR.out.symm, UA.out.trans u1⟩
end Go.Proofs.YtaljddoenjgbfaaGreat
