/-
  The document's own answer of layer 8: minutes, and clocks, at a place.
-/
import Derived.Test.YtalpbbgkallohaaDoorLcDd
import Derived.Test.YtalpbbgkallohaaDoorLcQui
namespace Go.Proofs.YtalpbbgkallohaaDoor
open Go.ChangeShapes Go.WideShapes Go.ChangeAt Go.RowKit Lc

theorem ddig_no {L : List UInt8} {k most : Nat} (i m : Int) (hi : i = (k : Int)) (hm : m = (most : Int)) (hL : L.length ≤ 100000) (hk : k ≤ L.length) (h3 : most ≤ 3) (q : numD most (L.drop k) = none) (w : World) :
    Calls Tryd.prog 50 #[.string (tx L), .int .i64 i, .int .i64 m] w fun e w' => e = .returned (.tuple #[.int .i64 0, .int .i64 (-1)]) ∧ w = w' := by
  subst hi; subst hm; exact ddigits_no most w hL hk h3 q
theorem ddig_yes {L t : List UInt8} {k most : Nat} {n : Int} (i m : Int) (hi : i = (k : Int)) (hm : m = (most : Int)) (hL : L.length ≤ 100000) (hk : k ≤ L.length) (h3 : most ≤ 3) (q : numD most (L.drop k) = some (n, t)) :
    ∃ j : Nat, k < j ∧ j ≤ L.length ∧ L.drop j = t ∧ ∀ w, Calls Tryd.prog 50 #[.string (tx L), .int .i64 i, .int .i64 m] w fun e w' => e = .returned (.tuple #[.int .i64 n, .int .i64 (j : Int)]) ∧ w = w' := by
  subst hi; subst hm; exact ddigits_yes most hL hk h3 q
theorem hs_at {L t : List UInt8} {k : Nat} {c : UInt8} (h : L.drop k = c :: t) : ∀ h, (tx L)[k]'h = c := fun h' => by rw [tx_get, (at_cons h).2.1]
theorem ne_i {y x : UInt8} {t : List UInt8} (h : takeP x (y :: t) = none) : ¬ (y.toNat : Int) = (x.toNat : Int) := fun e => by
  have h1 : y = x := UInt8.toNat_inj.1 (by omega)
  subst h1
  rw [takeP_yes] at h; cases h
def valP (o : Option (Int × List UInt8)) : Int := match o with | none => 0 | some (x, _) => x
def endP (L : List UInt8) (o : Option (Int × List UInt8)) : Int := match o with | none => -1 | some (_, t) => (L.length : Int) - (t.length : Int)
theorem endP_at {L t : List UInt8} {j : Nat} {x : Int} (hj : j ≤ L.length) (h : L.drop j = t) : endP L (some (x, t)) = (j : Int) := by
  subst h; simp only [endP, List.length_drop]; omega

set_option maxRecDepth 100000 in
set_option maxHeartbeats 4000000 in
theorem dsixty_no {L t : List UInt8} {k : Nat} (hL : L.length ≤ 100000) (h : L.drop k = 58 :: t) (q : pairD t = none) (w : World) :
    Calls Tryd.prog 51 #[.string (tx L), .int .i64 (k : Int)] w fun e w' => e = .returned (.tuple #[.int .i64 0, .int .i64 (-1)]) ∧ w = w' := by
  obtain ⟨hk, hc, ht⟩ := at_cons h
  have hsz := tx_size L
  have hs := hs_at h
  have tl : t.length = L.length - (k + 1) := by rw [← ht, List.length_drop]
  by_cases c : L.length ≤ k + 2
  · go_enter Tryd.func51, Tryd.ntmps51
    go_wp2_with fail
    exact bodyPost_ret (v := .tuple #[.int .i64 0, .int .i64 (-1)]) (by simp [results, Tryd.results51, go_sem]) rfl ⟨rfl, rfl⟩
  · cases h1 : numD 2 t with
    | none =>
      have D := ddig_no (L := L) (k := k + 1) (most := 2) ((k : Int) + 1) 2 (by omega) rfl hL (by omega) (by decide) (by rw [ht]; exact h1)
      go_enter Tryd.func51, Tryd.ntmps51
      go_wp2_with fail
      refine (D _).mono ?_; rintro e w' ⟨rfl, rfl⟩
      go_wp2_with fail
      exact bodyPost_ret (v := .tuple #[.int .i64 0, .int .i64 (-1)]) (by simp [results, Tryd.results51, go_sem]) rfl ⟨rfl, rfl⟩
    | some x =>
      obtain ⟨n, u⟩ := x
      obtain ⟨j, hj, hjl, hju, D⟩ := ddig_yes (L := L) (k := k + 1) (most := 2) ((k : Int) + 1) 2 (by omega) rfl hL (by omega) (by decide) (by rw [ht]; exact h1)
      have ul : u.length = L.length - j := by rw [← hju, List.length_drop]
      unfold pairD at q
      simp only [h1] at q
      have q' : ¬ (j = k + 3 ∧ n ≤ 59) := fun z => by rw [if_pos ⟨by omega, z.2⟩] at q; cases q
      clear q
      by_cases c2 : j = k + 3
      · have c3 : 59 < n := by omega
        subst c2
        go_enter Tryd.func51, Tryd.ntmps51
        go_wp2_with fail
        refine (D _).mono ?_; rintro e w' ⟨rfl, rfl⟩
        go_wp2_with fail
        exact bodyPost_ret (v := .tuple #[.int .i64 0, .int .i64 (-1)]) (by simp [results, Tryd.results51, go_sem]) rfl ⟨rfl, rfl⟩
      · have c3 : ¬ (j : Int) = (k : Int) + 3 := by omega
        go_enter Tryd.func51, Tryd.ntmps51
        go_wp2_with fail
        refine (D _).mono ?_; rintro e w' ⟨rfl, rfl⟩
        go_wp2_with fail
        exact bodyPost_ret (v := .tuple #[.int .i64 0, .int .i64 (-1)]) (by simp [results, Tryd.results51, go_sem]) rfl ⟨rfl, rfl⟩
set_option maxRecDepth 100000 in
set_option maxHeartbeats 4000000 in
theorem dsixty_yes {L t u : List UInt8} {k : Nat} {n : Int} (hL : L.length ≤ 100000) (h : L.drop k = 58 :: t) (q : pairD t = some (n, u)) :
    ∃ j : Nat, k < j ∧ j ≤ L.length ∧ L.drop j = u ∧ ∀ w, Calls Tryd.prog 51 #[.string (tx L), .int .i64 (k : Int)] w fun e w' => e = .returned (.tuple #[.int .i64 n, .int .i64 (j : Int)]) ∧ w = w' := by
  obtain ⟨hk, hc, ht⟩ := at_cons h
  have hsz := tx_size L
  have hs := hs_at h
  have tl : t.length = L.length - (k + 1) := by rw [← ht, List.length_drop]
  unfold pairD at q
  split at q
  · cases q
  · rename_i n' u' h1
    split at q
    · rename_i c
      simp only [Option.some.injEq, Prod.mk.injEq] at q
      obtain ⟨rfl, rfl⟩ := q
      obtain ⟨j, hj, hjl, hju, D⟩ := ddig_yes (L := L) (k := k + 1) (most := 2) ((k : Int) + 1) 2 (by omega) rfl hL (by omega) (by decide) (by rw [ht]; exact h1)
      have ul : u'.length = L.length - j := by rw [← hju, List.length_drop]
      have ej : (j : Int) = (k : Int) + 3 := by omega
      have c0 : ¬ L.length ≤ k + 2 := by omega
      have c2 := c.2
      refine ⟨j, by omega, hjl, hju, fun w => ?_⟩
      rw [ej] at D ⊢
      clear c ul tl hju ej
      go_enter Tryd.func51, Tryd.ntmps51
      go_wp2_with fail
      refine (D _).mono ?_; rintro e w' ⟨rfl, rfl⟩
      go_wp2_with fail
      exact bodyPost_ret (v := .tuple #[.int .i64 n', .int .i64 ((k : Int) + 3)]) (by simp [results, Tryd.results51, go_sem]) rfl ⟨rfl, rfl⟩
    · cases q

theorem any_minus (W : Bool) (t : List UInt8) : valP (anyD true W (45 :: t)) = -valP (anyD false W t) ∧ ∀ L, endP L (anyD true W (45 :: t)) = endP L (anyD false W t) := by
  have : ∀ dg most, signedD dg most (45 :: t) = match clockD dg most t with | none => none | some (x, u) => some (-x, u) := fun dg most => by unfold signedD; simp only [takeP_yes]; cases clockD dg most t <;> rfl
  unfold anyD
  cases W <;> simp only [if_true, Bool.false_eq_true, if_false, this]
  · cases clockD 2 24 t <;> simp [valP, endP]
  · cases clockD 3 167 t <;> simp [valP, endP]
theorem any_plus (W : Bool) (t : List UInt8) : anyD true W (43 :: t) = anyD false W t := by
  have : ∀ dg most, signedD dg most (43 :: t) = clockD dg most t := fun dg most => by unfold signedD; rw [takeP_no (NoC.cons _ (by decide))]; simp only [takeP_yes]
  unfold anyD
  cases W <;> simp only [if_true, Bool.false_eq_true, if_false, this]
theorem any_else (W : Bool) (t : List UInt8) (h1 : takeP 45 t = none) (h2 : takeP 43 t = none) : anyD true W t = anyD false W t := by
  have : ∀ dg most, signedD dg most t = clockD dg most t := fun dg most => by unfold signedD; simp only [h1, h2]
  unfold anyD
  cases W <;> simp only [if_true, Bool.false_eq_true, if_false, this]
theorem any_wide (W : Bool) (t : List UInt8) : anyD false W t = if W then clockD 3 167 t else clockD 2 24 t := rfl
end Go.Proofs.YtalpbbgkallohaaDoor
