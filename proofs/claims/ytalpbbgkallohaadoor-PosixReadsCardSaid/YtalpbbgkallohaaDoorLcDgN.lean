/-
  The document's own answer of layer 8: clocks at a place (narrow times).
-/
import Derived.Test.YtalpbbgkallohaaDoorLcDg1
namespace Go.Proofs.YtalpbbgkallohaaDoor
open Go.ChangeShapes Go.WideShapes Go.ChangeAt Go.RowKit Lc

set_option maxRecDepth 100000 in
set_option maxHeartbeats 16000000 in
theorem timeN_0 (L T0 : List UInt8) (k : Nat) (w : World) (R1 R2 : Int) (hL : L.length ≤ 100000) (hK : k ≤ L.length) (hT : L.drop k = T0) (H : Hid (R1 = valP (clockD 2 24 T0) ∧ R2 = endP L (clockD 2 24 T0))) :
    Calls Tryd.prog 34 #[.string (tx L), .int .i64 (k : Int), .bool false, .bool false] w fun e w' => e = .returned (.tuple #[.int .i64 R1, .int .i64 R2]) ∧ w = w' := by
  have hsz := tx_size L
  go_enter Tryd.func34, Tryd.ntmps34
  go_wp2_with fail
  cases h1 : numD 2 T0 with
  | none =>
    refine (ddig_no (L := L) (k := k) (most := 2) _ _ (by omega) rfl hL hK (by decide) (by rw [hT]; exact h1) _).mono ?_; rintro e w' ⟨rfl, rfl⟩
    go_wp2_with fail
    have hres : clockD 2 24 T0 = none := by unfold clockD; simp only [h1]
    refine bodyPost_ret (v := .tuple #[.int .i64 (0), .int .i64 (-1)]) (by simp [results, Tryd.results34, go_sem]) rfl ⟨?_, rfl⟩
    rw [H.out.1, H.out.2, hres]; rfl
  | some x1 =>
    obtain ⟨n, t0⟩ := x1
    have nb := numD_bd (by decide) h1
    obtain ⟨j, hj, hjl, hjt, D⟩ := ddig_yes (L := L) (k := k) (most := 2) (k : Int) 2 (by omega) rfl hL hK (by decide) (by rw [hT]; exact h1)
    refine (D _).mono ?_; rintro e w' ⟨rfl, rfl⟩
    clear D
    by_cases c1 : 24 < n
    · go_wp2_with fail
      have hres : clockD 2 24 T0 = none := by unfold clockD; simp only [h1]; rw [if_pos (by omega)]
      refine bodyPost_ret (v := .tuple #[.int .i64 (0), .int .i64 (-1)]) (by simp [results, Tryd.results34, go_sem]) rfl ⟨?_, rfl⟩
      rw [H.out.1, H.out.2, hres]; rfl
    · cases h_j : takeP 58 t0 with
      | none =>
        rcases t0 with _ | ⟨y, t0'⟩
        · have pn := at_nil hjt
          go_wp2_with fail
          have hres : clockD 2 24 T0 = some (n * 3600, []) := by unfold clockD; simp only [h1, h_j]; rw [if_neg (by omega)]
          refine bodyPost_ret (v := .tuple #[.int .i64 (n * 3600), .int .i64 (j)]) (by simp [results, Tryd.results34, go_sem]) rfl ⟨?_, rfl⟩
          rw [H.out.1, H.out.2, hres, endP_at hjl hjt]; rfl
        · obtain ⟨p1, p2, p3⟩ := at_cons hjt
          have hs := hs_at hjt
          have ny : ¬ (y.toNat : Int) = 58 := ne_i h_j
          clear p2 p3
          go_wp2_with fail
          have hres : clockD 2 24 T0 = some (n * 3600, y :: t0') := by unfold clockD; simp only [h1, h_j]; rw [if_neg (by omega)]
          refine bodyPost_ret (v := .tuple #[.int .i64 (n * 3600), .int .i64 (j)]) (by simp [results, Tryd.results34, go_sem]) rfl ⟨?_, rfl⟩
          rw [H.out.1, H.out.2, hres, endP_at hjl hjt]; rfl
      | some t0_ =>
        obtain ⟨p1, p2, p3⟩ := at_cons (hjt.trans (takeP_some h_j))
        have hs := hs_at (hjt.trans (takeP_some h_j))
        clear p2 p3
        cases h3 : pairD t0_ with
        | none =>
          go_wp2_with fail
          refine (dsixty_no hL (hjt.trans (takeP_some h_j)) h3 _).mono ?_; rintro e w' ⟨rfl, rfl⟩
          go_wp2_with fail
          have hres : clockD 2 24 T0 = none := by unfold clockD; simp only [h1, h_j, h3]; rw [if_neg (by omega)]
          refine bodyPost_ret (v := .tuple #[.int .i64 (0), .int .i64 (-1)]) (by simp [results, Tryd.results34, go_sem]) rfl ⟨?_, rfl⟩
          rw [H.out.1, H.out.2, hres]; rfl
        | some x2 =>
          obtain ⟨m, t2⟩ := x2
          have mb := pairD_bd h3
          obtain ⟨j2, hj2, hjl2, hjt2, S⟩ := dsixty_yes hL (hjt.trans (takeP_some h_j)) h3
          go_wp2_with fail
          refine (S _).mono ?_; rintro e w' ⟨rfl, rfl⟩
          clear S hs
          cases h_j2 : takeP 58 t2 with
          | none =>
            rcases t2 with _ | ⟨y, t2'⟩
            · have pn := at_nil hjt2
              go_wp2_with fail
              have hres : clockD 2 24 T0 = some (n * 3600 + 60 * m, []) := by unfold clockD; simp only [h1, h_j, h3, h_j2]; rw [if_neg (by omega)]
              refine bodyPost_ret (v := .tuple #[.int .i64 (n * 3600 + 60 * m), .int .i64 (j2)]) (by simp [results, Tryd.results34, go_sem]) rfl ⟨?_, rfl⟩
              rw [H.out.1, H.out.2, hres, endP_at hjl2 hjt2]; rfl
            · obtain ⟨p1, p2, p3⟩ := at_cons hjt2
              have hs := hs_at hjt2
              have ny : ¬ (y.toNat : Int) = 58 := ne_i h_j2
              clear p2 p3
              go_wp2_with fail
              have hres : clockD 2 24 T0 = some (n * 3600 + 60 * m, y :: t2') := by unfold clockD; simp only [h1, h_j, h3, h_j2]; rw [if_neg (by omega)]
              refine bodyPost_ret (v := .tuple #[.int .i64 (n * 3600 + 60 * m), .int .i64 (j2)]) (by simp [results, Tryd.results34, go_sem]) rfl ⟨?_, rfl⟩
              rw [H.out.1, H.out.2, hres, endP_at hjl2 hjt2]; rfl
          | some t2_ =>
            obtain ⟨p1, p2, p3⟩ := at_cons (hjt2.trans (takeP_some h_j2))
            have hs := hs_at (hjt2.trans (takeP_some h_j2))
            clear p2 p3
            cases h5 : pairD t2_ with
            | none =>
              go_wp2_with fail
              refine (dsixty_no hL (hjt2.trans (takeP_some h_j2)) h5 _).mono ?_; rintro e w' ⟨rfl, rfl⟩
              go_wp2_with fail
              have hres : clockD 2 24 T0 = none := by unfold clockD; simp only [h1, h_j, h3, h_j2, h5]; rw [if_neg (by omega)]
              refine bodyPost_ret (v := .tuple #[.int .i64 (0), .int .i64 (-1)]) (by simp [results, Tryd.results34, go_sem]) rfl ⟨?_, rfl⟩
              rw [H.out.1, H.out.2, hres]; rfl
            | some x3 =>
              obtain ⟨q, t4⟩ := x3
              have qb := pairD_bd h5
              obtain ⟨j4, hj4, hjl4, hjt4, S⟩ := dsixty_yes hL (hjt2.trans (takeP_some h_j2)) h5
              go_wp2_with fail
              refine (S _).mono ?_; rintro e w' ⟨rfl, rfl⟩
              go_wp2_with fail
              have hres : clockD 2 24 T0 = some (n * 3600 + 60 * m + q, t4) := by unfold clockD; simp only [h1, h_j, h3, h_j2, h5]; rw [if_neg (by omega)]
              refine bodyPost_ret (v := .tuple #[.int .i64 (n * 3600 + 60 * m + q), .int .i64 (j4)]) (by simp [results, Tryd.results34, go_sem]) rfl ⟨?_, rfl⟩
              rw [H.out.1, H.out.2, hres, endP_at hjl4 hjt4]; rfl
theorem dtime_n (L : List UInt8) (k : Nat) (w : World) (hL : L.length ≤ 100000) (hk : k ≤ L.length) :
    Calls Tryd.prog 34 #[.string (tx L), .int .i64 (k : Int), .bool false, .bool false] w fun e w' => e = .returned (.tuple #[.int .i64 (valP (anyD false false (L.drop k))), .int .i64 (endP L (anyD false false (L.drop k)))]) ∧ w = w' :=
  timeN_0 L _ k w _ _ hL hk rfl (Lib.hid ⟨rfl, rfl⟩)
end Go.Proofs.YtalpbbgkallohaaDoor
