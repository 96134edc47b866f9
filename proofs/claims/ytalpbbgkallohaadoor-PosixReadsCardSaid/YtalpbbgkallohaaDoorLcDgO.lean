/-
  The document's own answer of layer 8: clocks at a place (offsets).
-/
import Derived.Test.YtalpbbgkallohaaDoorLcDg1
namespace Go.Proofs.YtalpbbgkallohaaDoor
open Go.ChangeShapes Go.WideShapes Go.ChangeAt Go.RowKit Lc

set_option maxRecDepth 100000 in
set_option maxHeartbeats 16000000 in
theorem timeO_0 (L : List UInt8) (k : Nat) (w : World) (R1 R2 : Int) (hL : L.length ≤ 100000) (hK : k ≤ L.length) (hl : L.drop k = []) (H : Hid (R1 = valP (clockD 2 24 []) ∧ R2 = endP L (clockD 2 24 []))) :
    Calls Tryd.prog 34 #[.string (tx L), .int .i64 (k : Int), .bool true, .bool false] w fun e w' => e = .returned (.tuple #[.int .i64 R1, .int .i64 R2]) ∧ w = w' := by
  have hsz := tx_size L
  have pn := at_nil hl
  have h1 : numD 2 [] = none := rfl
  go_enter Tryd.func34, Tryd.ntmps34
  go_wp2_with fail
  refine (ddig_no (L := L) (k := k) (most := 2) _ _ (by omega) rfl hL hK (by decide) (by rw [hl]; exact h1) _).mono ?_; rintro e w' ⟨rfl, rfl⟩
  go_wp2_with fail
  have hres : clockD 2 24 [] = none := by unfold clockD; simp only [h1]
  refine bodyPost_ret (v := .tuple #[.int .i64 (0), .int .i64 (-1)]) (by simp [results, Tryd.results34, go_sem]) rfl ⟨?_, rfl⟩
  rw [H.out.1, H.out.2, hres]; rfl
set_option maxRecDepth 100000 in
set_option maxHeartbeats 16000000 in
theorem timeO_1 (L t : List UInt8) (k : Nat) (w : World) (R1 R2 : Int) (hL : L.length ≤ 100000) (hl : L.drop k = 45 :: t) (H : Hid (R1 = -valP (clockD 2 24 t) ∧ R2 = endP L (clockD 2 24 t))) :
    Calls Tryd.prog 34 #[.string (tx L), .int .i64 (k : Int), .bool true, .bool false] w fun e w' => e = .returned (.tuple #[.int .i64 R1, .int .i64 R2]) ∧ w = w' := by
  have hsz := tx_size L
  obtain ⟨p1, p2, p3⟩ := at_cons hl
  have hs0 := hs_at hl
  clear p2
  have hT := p3
  have hK : k + 1 ≤ L.length := p1
  go_enter Tryd.func34, Tryd.ntmps34
  go_wp2_with fail
  cases h1 : numD 2 t with
  | none =>
    refine (ddig_no (L := L) (k := k + 1) (most := 2) _ _ (by omega) rfl hL hK (by decide) (by rw [hT]; exact h1) _).mono ?_; rintro e w' ⟨rfl, rfl⟩
    go_wp2_with fail
    have hres : clockD 2 24 t = none := by unfold clockD; simp only [h1]
    refine bodyPost_ret (v := .tuple #[.int .i64 (0), .int .i64 (-1)]) (by simp [results, Tryd.results34, go_sem]) rfl ⟨?_, rfl⟩
    rw [H.out.1, H.out.2, hres]; rfl
  | some x1 =>
    obtain ⟨n, t0⟩ := x1
    have nb := numD_bd (by decide) h1
    obtain ⟨j, hj, hjl, hjt, D⟩ := ddig_yes (L := L) (k := k + 1) (most := 2) ((k : Int) + 1) 2 (by omega) rfl hL hK (by decide) (by rw [hT]; exact h1)
    refine (D _).mono ?_; rintro e w' ⟨rfl, rfl⟩
    clear D
    by_cases c1 : 24 < n
    · go_wp2_with fail
      have hres : clockD 2 24 t = none := by unfold clockD; simp only [h1]; rw [if_pos (by omega)]
      refine bodyPost_ret (v := .tuple #[.int .i64 (0), .int .i64 (-1)]) (by simp [results, Tryd.results34, go_sem]) rfl ⟨?_, rfl⟩
      rw [H.out.1, H.out.2, hres]; rfl
    · cases h_j : takeP 58 t0 with
      | none =>
        rcases t0 with _ | ⟨y, t0'⟩
        · have pn := at_nil hjt
          go_wp2_with fail
          have hres : clockD 2 24 t = some (n * 3600, []) := by unfold clockD; simp only [h1, h_j]; rw [if_neg (by omega)]
          refine bodyPost_ret (v := .tuple #[.int .i64 (-(n * 3600)), .int .i64 (j)]) (by simp [results, Tryd.results34, go_sem]) rfl ⟨?_, rfl⟩
          rw [H.out.1, H.out.2, hres, endP_at hjl hjt]; rfl
        · obtain ⟨p1, p2, p3⟩ := at_cons hjt
          have hs := hs_at hjt
          have ny : ¬ (y.toNat : Int) = 58 := ne_i h_j
          clear p2 p3
          go_wp2_with fail
          have hres : clockD 2 24 t = some (n * 3600, y :: t0') := by unfold clockD; simp only [h1, h_j]; rw [if_neg (by omega)]
          refine bodyPost_ret (v := .tuple #[.int .i64 (-(n * 3600)), .int .i64 (j)]) (by simp [results, Tryd.results34, go_sem]) rfl ⟨?_, rfl⟩
          rw [H.out.1, H.out.2, hres, endP_at hjl hjt]; rfl
      | some t0_ =>
        obtain ⟨p1, p2, p3⟩ := at_cons (hjt.trans (takeP_some h_j))
        have hs := hs_at (hjt.trans (takeP_some h_j))
        clear p2 p3
        cases h3 : pairD t0_ with
        | none =>
          go_wp2_with fail
          refine (dsixty_no hL (hjt.trans (takeP_some h_j)) h3 _).mono ?_; rintro e w' ⟨rfl, rfl⟩
          go_wp2_with fail
          have hres : clockD 2 24 t = none := by unfold clockD; simp only [h1, h_j, h3]; rw [if_neg (by omega)]
          refine bodyPost_ret (v := .tuple #[.int .i64 (0), .int .i64 (-1)]) (by simp [results, Tryd.results34, go_sem]) rfl ⟨?_, rfl⟩
          rw [H.out.1, H.out.2, hres]; rfl
        | some x2 =>
          obtain ⟨m, t2⟩ := x2
          have mb := pairD_bd h3
          obtain ⟨j2, hj2, hjl2, hjt2, S⟩ := dsixty_yes hL (hjt.trans (takeP_some h_j)) h3
          go_wp2_with fail
          refine (S _).mono ?_; rintro e w' ⟨rfl, rfl⟩
          clear S hs
          cases h_j2 : takeP 58 t2 with
          | none =>
            rcases t2 with _ | ⟨y, t2'⟩
            · have pn := at_nil hjt2
              go_wp2_with fail
              have hres : clockD 2 24 t = some (n * 3600 + 60 * m, []) := by unfold clockD; simp only [h1, h_j, h3, h_j2]; rw [if_neg (by omega)]
              refine bodyPost_ret (v := .tuple #[.int .i64 (-(n * 3600 + 60 * m)), .int .i64 (j2)]) (by simp [results, Tryd.results34, go_sem]) rfl ⟨?_, rfl⟩
              rw [H.out.1, H.out.2, hres, endP_at hjl2 hjt2]; rfl
            · obtain ⟨p1, p2, p3⟩ := at_cons hjt2
              have hs := hs_at hjt2
              have ny : ¬ (y.toNat : Int) = 58 := ne_i h_j2
              clear p2 p3
              go_wp2_with fail
              have hres : clockD 2 24 t = some (n * 3600 + 60 * m, y :: t2') := by unfold clockD; simp only [h1, h_j, h3, h_j2]; rw [if_neg (by omega)]
              refine bodyPost_ret (v := .tuple #[.int .i64 (-(n * 3600 + 60 * m)), .int .i64 (j2)]) (by simp [results, Tryd.results34, go_sem]) rfl ⟨?_, rfl⟩
              rw [H.out.1, H.out.2, hres, endP_at hjl2 hjt2]; rfl
          | some t2_ =>
            obtain ⟨p1, p2, p3⟩ := at_cons (hjt2.trans (takeP_some h_j2))
            have hs := hs_at (hjt2.trans (takeP_some h_j2))
            clear p2 p3
            cases h5 : pairD t2_ with
            | none =>
              go_wp2_with fail
              refine (dsixty_no hL (hjt2.trans (takeP_some h_j2)) h5 _).mono ?_; rintro e w' ⟨rfl, rfl⟩
              go_wp2_with fail
              have hres : clockD 2 24 t = none := by unfold clockD; simp only [h1, h_j, h3, h_j2, h5]; rw [if_neg (by omega)]
              refine bodyPost_ret (v := .tuple #[.int .i64 (0), .int .i64 (-1)]) (by simp [results, Tryd.results34, go_sem]) rfl ⟨?_, rfl⟩
              rw [H.out.1, H.out.2, hres]; rfl
            | some x3 =>
              obtain ⟨q, t4⟩ := x3
              have qb := pairD_bd h5
              obtain ⟨j4, hj4, hjl4, hjt4, S⟩ := dsixty_yes hL (hjt2.trans (takeP_some h_j2)) h5
              go_wp2_with fail
              refine (S _).mono ?_; rintro e w' ⟨rfl, rfl⟩
              go_wp2_with fail
              have hres : clockD 2 24 t = some (n * 3600 + 60 * m + q, t4) := by unfold clockD; simp only [h1, h_j, h3, h_j2, h5]; rw [if_neg (by omega)]
              refine bodyPost_ret (v := .tuple #[.int .i64 (-(n * 3600 + 60 * m + q)), .int .i64 (j4)]) (by simp [results, Tryd.results34, go_sem]) rfl ⟨?_, rfl⟩
              rw [H.out.1, H.out.2, hres, endP_at hjl4 hjt4]; rfl
set_option maxRecDepth 100000 in
set_option maxHeartbeats 16000000 in
theorem timeO_2 (L t : List UInt8) (k : Nat) (w : World) (R1 R2 : Int) (hL : L.length ≤ 100000) (hl : L.drop k = 43 :: t) (H : Hid (R1 = valP (clockD 2 24 t) ∧ R2 = endP L (clockD 2 24 t))) :
    Calls Tryd.prog 34 #[.string (tx L), .int .i64 (k : Int), .bool true, .bool false] w fun e w' => e = .returned (.tuple #[.int .i64 R1, .int .i64 R2]) ∧ w = w' := by
  have hsz := tx_size L
  obtain ⟨p1, p2, p3⟩ := at_cons hl
  have hs0 := hs_at hl
  clear p2
  have hT := p3
  have hK : k + 1 ≤ L.length := p1
  go_enter Tryd.func34, Tryd.ntmps34
  go_wp2_with fail
  cases h1 : numD 2 t with
  | none =>
    refine (ddig_no (L := L) (k := k + 1) (most := 2) _ _ (by omega) rfl hL hK (by decide) (by rw [hT]; exact h1) _).mono ?_; rintro e w' ⟨rfl, rfl⟩
    go_wp2_with fail
    have hres : clockD 2 24 t = none := by unfold clockD; simp only [h1]
    refine bodyPost_ret (v := .tuple #[.int .i64 (0), .int .i64 (-1)]) (by simp [results, Tryd.results34, go_sem]) rfl ⟨?_, rfl⟩
    rw [H.out.1, H.out.2, hres]; rfl
  | some x1 =>
    obtain ⟨n, t0⟩ := x1
    have nb := numD_bd (by decide) h1
    obtain ⟨j, hj, hjl, hjt, D⟩ := ddig_yes (L := L) (k := k + 1) (most := 2) ((k : Int) + 1) 2 (by omega) rfl hL hK (by decide) (by rw [hT]; exact h1)
    refine (D _).mono ?_; rintro e w' ⟨rfl, rfl⟩
    clear D
    by_cases c1 : 24 < n
    · go_wp2_with fail
      have hres : clockD 2 24 t = none := by unfold clockD; simp only [h1]; rw [if_pos (by omega)]
      refine bodyPost_ret (v := .tuple #[.int .i64 (0), .int .i64 (-1)]) (by simp [results, Tryd.results34, go_sem]) rfl ⟨?_, rfl⟩
      rw [H.out.1, H.out.2, hres]; rfl
    · cases h_j : takeP 58 t0 with
      | none =>
        rcases t0 with _ | ⟨y, t0'⟩
        · have pn := at_nil hjt
          go_wp2_with fail
          have hres : clockD 2 24 t = some (n * 3600, []) := by unfold clockD; simp only [h1, h_j]; rw [if_neg (by omega)]
          refine bodyPost_ret (v := .tuple #[.int .i64 (n * 3600), .int .i64 (j)]) (by simp [results, Tryd.results34, go_sem]) rfl ⟨?_, rfl⟩
          rw [H.out.1, H.out.2, hres, endP_at hjl hjt]; rfl
        · obtain ⟨p1, p2, p3⟩ := at_cons hjt
          have hs := hs_at hjt
          have ny : ¬ (y.toNat : Int) = 58 := ne_i h_j
          clear p2 p3
          go_wp2_with fail
          have hres : clockD 2 24 t = some (n * 3600, y :: t0') := by unfold clockD; simp only [h1, h_j]; rw [if_neg (by omega)]
          refine bodyPost_ret (v := .tuple #[.int .i64 (n * 3600), .int .i64 (j)]) (by simp [results, Tryd.results34, go_sem]) rfl ⟨?_, rfl⟩
          rw [H.out.1, H.out.2, hres, endP_at hjl hjt]; rfl
      | some t0_ =>
        obtain ⟨p1, p2, p3⟩ := at_cons (hjt.trans (takeP_some h_j))
        have hs := hs_at (hjt.trans (takeP_some h_j))
        clear p2 p3
        cases h3 : pairD t0_ with
        | none =>
          go_wp2_with fail
          refine (dsixty_no hL (hjt.trans (takeP_some h_j)) h3 _).mono ?_; rintro e w' ⟨rfl, rfl⟩
          go_wp2_with fail
          have hres : clockD 2 24 t = none := by unfold clockD; simp only [h1, h_j, h3]; rw [if_neg (by omega)]
          refine bodyPost_ret (v := .tuple #[.int .i64 (0), .int .i64 (-1)]) (by simp [results, Tryd.results34, go_sem]) rfl ⟨?_, rfl⟩
          rw [H.out.1, H.out.2, hres]; rfl
        | some x2 =>
          obtain ⟨m, t2⟩ := x2
          have mb := pairD_bd h3
          obtain ⟨j2, hj2, hjl2, hjt2, S⟩ := dsixty_yes hL (hjt.trans (takeP_some h_j)) h3
          go_wp2_with fail
          refine (S _).mono ?_; rintro e w' ⟨rfl, rfl⟩
          clear S hs
          cases h_j2 : takeP 58 t2 with
          | none =>
            rcases t2 with _ | ⟨y, t2'⟩
            · have pn := at_nil hjt2
              go_wp2_with fail
              have hres : clockD 2 24 t = some (n * 3600 + 60 * m, []) := by unfold clockD; simp only [h1, h_j, h3, h_j2]; rw [if_neg (by omega)]
              refine bodyPost_ret (v := .tuple #[.int .i64 (n * 3600 + 60 * m), .int .i64 (j2)]) (by simp [results, Tryd.results34, go_sem]) rfl ⟨?_, rfl⟩
              rw [H.out.1, H.out.2, hres, endP_at hjl2 hjt2]; rfl
            · obtain ⟨p1, p2, p3⟩ := at_cons hjt2
              have hs := hs_at hjt2
              have ny : ¬ (y.toNat : Int) = 58 := ne_i h_j2
              clear p2 p3
              go_wp2_with fail
              have hres : clockD 2 24 t = some (n * 3600 + 60 * m, y :: t2') := by unfold clockD; simp only [h1, h_j, h3, h_j2]; rw [if_neg (by omega)]
              refine bodyPost_ret (v := .tuple #[.int .i64 (n * 3600 + 60 * m), .int .i64 (j2)]) (by simp [results, Tryd.results34, go_sem]) rfl ⟨?_, rfl⟩
              rw [H.out.1, H.out.2, hres, endP_at hjl2 hjt2]; rfl
          | some t2_ =>
            obtain ⟨p1, p2, p3⟩ := at_cons (hjt2.trans (takeP_some h_j2))
            have hs := hs_at (hjt2.trans (takeP_some h_j2))
            clear p2 p3
            cases h5 : pairD t2_ with
            | none =>
              go_wp2_with fail
              refine (dsixty_no hL (hjt2.trans (takeP_some h_j2)) h5 _).mono ?_; rintro e w' ⟨rfl, rfl⟩
              go_wp2_with fail
              have hres : clockD 2 24 t = none := by unfold clockD; simp only [h1, h_j, h3, h_j2, h5]; rw [if_neg (by omega)]
              refine bodyPost_ret (v := .tuple #[.int .i64 (0), .int .i64 (-1)]) (by simp [results, Tryd.results34, go_sem]) rfl ⟨?_, rfl⟩
              rw [H.out.1, H.out.2, hres]; rfl
            | some x3 =>
              obtain ⟨q, t4⟩ := x3
              have qb := pairD_bd h5
              obtain ⟨j4, hj4, hjl4, hjt4, S⟩ := dsixty_yes hL (hjt2.trans (takeP_some h_j2)) h5
              go_wp2_with fail
              refine (S _).mono ?_; rintro e w' ⟨rfl, rfl⟩
              go_wp2_with fail
              have hres : clockD 2 24 t = some (n * 3600 + 60 * m + q, t4) := by unfold clockD; simp only [h1, h_j, h3, h_j2, h5]; rw [if_neg (by omega)]
              refine bodyPost_ret (v := .tuple #[.int .i64 (n * 3600 + 60 * m + q), .int .i64 (j4)]) (by simp [results, Tryd.results34, go_sem]) rfl ⟨?_, rfl⟩
              rw [H.out.1, H.out.2, hres, endP_at hjl4 hjt4]; rfl
set_option maxRecDepth 100000 in
set_option maxHeartbeats 16000000 in
theorem timeO_3 (L t : List UInt8) (c : UInt8) (k : Nat) (w : World) (R1 R2 : Int) (hL : L.length ≤ 100000) (hK : k ≤ L.length) (hl : L.drop k = c :: t) (n1 : ¬ (c.toNat : Int) = 45) (n2 : ¬ (c.toNat : Int) = 43) (H : Hid (R1 = valP (clockD 2 24 (c :: t)) ∧ R2 = endP L (clockD 2 24 (c :: t)))) :
    Calls Tryd.prog 34 #[.string (tx L), .int .i64 (k : Int), .bool true, .bool false] w fun e w' => e = .returned (.tuple #[.int .i64 R1, .int .i64 R2]) ∧ w = w' := by
  have hsz := tx_size L
  obtain ⟨p1, p2, p3⟩ := at_cons hl
  have hs0 := hs_at hl
  have n1' : ((c.toNat : Int) == 45) = false := by simpa using n1
  have n2' : ((c.toNat : Int) == 43) = false := by simpa using n2
  clear p2 p3 n1 n2
  have hT := hl
  go_enter Tryd.func34, Tryd.ntmps34
  go_wp2_with fail
  cases h1 : numD 2 (c :: t) with
  | none =>
    refine (ddig_no (L := L) (k := k) (most := 2) _ _ (by omega) rfl hL hK (by decide) (by rw [hT]; exact h1) _).mono ?_; rintro e w' ⟨rfl, rfl⟩
    go_wp2_with fail
    have hres : clockD 2 24 (c :: t) = none := by unfold clockD; simp only [h1]
    refine bodyPost_ret (v := .tuple #[.int .i64 (0), .int .i64 (-1)]) (by simp [results, Tryd.results34, go_sem]) rfl ⟨?_, rfl⟩
    rw [H.out.1, H.out.2, hres]; rfl
  | some x1 =>
    obtain ⟨n, t0⟩ := x1
    have nb := numD_bd (by decide) h1
    obtain ⟨j, hj, hjl, hjt, D⟩ := ddig_yes (L := L) (k := k) (most := 2) (k : Int) 2 (by omega) rfl hL hK (by decide) (by rw [hT]; exact h1)
    refine (D _).mono ?_; rintro e w' ⟨rfl, rfl⟩
    clear D
    by_cases c1 : 24 < n
    · go_wp2_with fail
      have hres : clockD 2 24 (c :: t) = none := by unfold clockD; simp only [h1]; rw [if_pos (by omega)]
      refine bodyPost_ret (v := .tuple #[.int .i64 (0), .int .i64 (-1)]) (by simp [results, Tryd.results34, go_sem]) rfl ⟨?_, rfl⟩
      rw [H.out.1, H.out.2, hres]; rfl
    · cases h_j : takeP 58 t0 with
      | none =>
        rcases t0 with _ | ⟨y, t0'⟩
        · have pn := at_nil hjt
          go_wp2_with fail
          have hres : clockD 2 24 (c :: t) = some (n * 3600, []) := by unfold clockD; simp only [h1, h_j]; rw [if_neg (by omega)]
          refine bodyPost_ret (v := .tuple #[.int .i64 (n * 3600), .int .i64 (j)]) (by simp [results, Tryd.results34, go_sem]) rfl ⟨?_, rfl⟩
          rw [H.out.1, H.out.2, hres, endP_at hjl hjt]; rfl
        · obtain ⟨p1, p2, p3⟩ := at_cons hjt
          have hs := hs_at hjt
          have ny : ¬ (y.toNat : Int) = 58 := ne_i h_j
          clear p2 p3
          go_wp2_with fail
          have hres : clockD 2 24 (c :: t) = some (n * 3600, y :: t0') := by unfold clockD; simp only [h1, h_j]; rw [if_neg (by omega)]
          refine bodyPost_ret (v := .tuple #[.int .i64 (n * 3600), .int .i64 (j)]) (by simp [results, Tryd.results34, go_sem]) rfl ⟨?_, rfl⟩
          rw [H.out.1, H.out.2, hres, endP_at hjl hjt]; rfl
      | some t0_ =>
        obtain ⟨p1, p2, p3⟩ := at_cons (hjt.trans (takeP_some h_j))
        have hs := hs_at (hjt.trans (takeP_some h_j))
        clear p2 p3
        cases h3 : pairD t0_ with
        | none =>
          go_wp2_with fail
          refine (dsixty_no hL (hjt.trans (takeP_some h_j)) h3 _).mono ?_; rintro e w' ⟨rfl, rfl⟩
          go_wp2_with fail
          have hres : clockD 2 24 (c :: t) = none := by unfold clockD; simp only [h1, h_j, h3]; rw [if_neg (by omega)]
          refine bodyPost_ret (v := .tuple #[.int .i64 (0), .int .i64 (-1)]) (by simp [results, Tryd.results34, go_sem]) rfl ⟨?_, rfl⟩
          rw [H.out.1, H.out.2, hres]; rfl
        | some x2 =>
          obtain ⟨m, t2⟩ := x2
          have mb := pairD_bd h3
          obtain ⟨j2, hj2, hjl2, hjt2, S⟩ := dsixty_yes hL (hjt.trans (takeP_some h_j)) h3
          go_wp2_with fail
          refine (S _).mono ?_; rintro e w' ⟨rfl, rfl⟩
          clear S hs
          cases h_j2 : takeP 58 t2 with
          | none =>
            rcases t2 with _ | ⟨y, t2'⟩
            · have pn := at_nil hjt2
              go_wp2_with fail
              have hres : clockD 2 24 (c :: t) = some (n * 3600 + 60 * m, []) := by unfold clockD; simp only [h1, h_j, h3, h_j2]; rw [if_neg (by omega)]
              refine bodyPost_ret (v := .tuple #[.int .i64 (n * 3600 + 60 * m), .int .i64 (j2)]) (by simp [results, Tryd.results34, go_sem]) rfl ⟨?_, rfl⟩
              rw [H.out.1, H.out.2, hres, endP_at hjl2 hjt2]; rfl
            · obtain ⟨p1, p2, p3⟩ := at_cons hjt2
              have hs := hs_at hjt2
              have ny : ¬ (y.toNat : Int) = 58 := ne_i h_j2
              clear p2 p3
              go_wp2_with fail
              have hres : clockD 2 24 (c :: t) = some (n * 3600 + 60 * m, y :: t2') := by unfold clockD; simp only [h1, h_j, h3, h_j2]; rw [if_neg (by omega)]
              refine bodyPost_ret (v := .tuple #[.int .i64 (n * 3600 + 60 * m), .int .i64 (j2)]) (by simp [results, Tryd.results34, go_sem]) rfl ⟨?_, rfl⟩
              rw [H.out.1, H.out.2, hres, endP_at hjl2 hjt2]; rfl
          | some t2_ =>
            obtain ⟨p1, p2, p3⟩ := at_cons (hjt2.trans (takeP_some h_j2))
            have hs := hs_at (hjt2.trans (takeP_some h_j2))
            clear p2 p3
            cases h5 : pairD t2_ with
            | none =>
              go_wp2_with fail
              refine (dsixty_no hL (hjt2.trans (takeP_some h_j2)) h5 _).mono ?_; rintro e w' ⟨rfl, rfl⟩
              go_wp2_with fail
              have hres : clockD 2 24 (c :: t) = none := by unfold clockD; simp only [h1, h_j, h3, h_j2, h5]; rw [if_neg (by omega)]
              refine bodyPost_ret (v := .tuple #[.int .i64 (0), .int .i64 (-1)]) (by simp [results, Tryd.results34, go_sem]) rfl ⟨?_, rfl⟩
              rw [H.out.1, H.out.2, hres]; rfl
            | some x3 =>
              obtain ⟨q, t4⟩ := x3
              have qb := pairD_bd h5
              obtain ⟨j4, hj4, hjl4, hjt4, S⟩ := dsixty_yes hL (hjt2.trans (takeP_some h_j2)) h5
              go_wp2_with fail
              refine (S _).mono ?_; rintro e w' ⟨rfl, rfl⟩
              go_wp2_with fail
              have hres : clockD 2 24 (c :: t) = some (n * 3600 + 60 * m + q, t4) := by unfold clockD; simp only [h1, h_j, h3, h_j2, h5]; rw [if_neg (by omega)]
              refine bodyPost_ret (v := .tuple #[.int .i64 (n * 3600 + 60 * m + q), .int .i64 (j4)]) (by simp [results, Tryd.results34, go_sem]) rfl ⟨?_, rfl⟩
              rw [H.out.1, H.out.2, hres, endP_at hjl4 hjt4]; rfl
theorem dtime_o (L : List UInt8) (k : Nat) (w : World) (hL : L.length ≤ 100000) (hk : k ≤ L.length) :
    Calls Tryd.prog 34 #[.string (tx L), .int .i64 (k : Int), .bool true, .bool false] w fun e w' => e = .returned (.tuple #[.int .i64 (valP (anyD true false (L.drop k))), .int .i64 (endP L (anyD true false (L.drop k)))]) ∧ w = w' := by
  rcases hl : L.drop k with _ | ⟨c, t⟩
  · exact timeO_0 L k w _ _ hL hk hl (Lib.hid ⟨by rw [any_else _ _ rfl rfl]; rfl, by rw [any_else _ _ rfl rfl]; rfl⟩)
  by_cases cm : c = 45
  · subst cm
    have am := any_minus false t
    exact timeO_1 L t k w _ _ hL hl (Lib.hid ⟨am.1, am.2 L⟩)
  by_cases cp : c = 43
  · subst cp
    exact timeO_2 L t k w _ _ hL hl (Lib.hid ⟨by rw [any_plus]; rfl, by rw [any_plus]; rfl⟩)
  have e1 : takeP 45 (c :: t) = none := takeP_no (NoC.cons _ cm)
  have e2 : takeP 43 (c :: t) = none := takeP_no (NoC.cons _ cp)
  exact timeO_3 L t c k w _ _ hL hk hl (ne_i e1) (ne_i e2) (Lib.hid ⟨by rw [any_else _ _ e1 e2]; rfl, by rw [any_else _ _ e1 e2]; rfl⟩)
end Go.Proofs.YtalpbbgkallohaaDoor
