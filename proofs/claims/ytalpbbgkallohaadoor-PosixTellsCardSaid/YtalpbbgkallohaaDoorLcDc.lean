/-
  The document's own answer of layer 8: numbers, clocks, names, changes, rules as texts.
-/
import Derived.Test.YtalpbbgkallohaaDoorLcDa
import Derived.Test.YtalpbbgkallohaaDoorLcWrT
import Derived.Laws.BytesArg
import Derived.Lib.QuietBelow
namespace Go.Proofs.YtalpbbgkallohaaDoor
open Go.ChangeShapes Go.WideShapes Go.ChangeAt Go.RowKit Go.Sort Lc

theorem conv_1 (w : World) (a : Int) : (convert 46 9 (.slice (some ⟨w.heap.size, 0, none⟩) 1 1)).run Tryd.prog (w.alloc (.cells #[.int .u8 a] 5)) = .ok (.string (tx [UInt8.ofNat a.toNat])) (w.alloc (.cells #[.int .u8 a] 5)) := by
  have h := run_convert_bytes_arg (P := Tryd.prog) (w.alloc (.cells #[.int .u8 a] 5)) 46 5 Tryd.underlying46 Tryd.underlying5 w.heap.size 0 1 1 [a] rfl (fun i hi => by
    obtain rfl : i = 0 := by omega
    simp) 9 Tryd.underlying9
  rw [h]; rfl
theorem conv_2 (w : World) (a b : Int) : (convert 46 9 (.slice (some ⟨w.heap.size, 0, none⟩) 2 2)).run Tryd.prog (w.alloc (.cells #[.int .u8 a, .int .u8 b] 5)) = .ok (.string (tx [UInt8.ofNat a.toNat, UInt8.ofNat b.toNat])) (w.alloc (.cells #[.int .u8 a, .int .u8 b] 5)) := by
  have h := run_convert_bytes_arg (P := Tryd.prog) (w.alloc (.cells #[.int .u8 a, .int .u8 b] 5)) 46 5 Tryd.underlying46 Tryd.underlying5 w.heap.size 0 2 2 [a, b] rfl (fun i hi => by
    rcases (show i = 0 ∨ i = 1 by omega) with rfl | rfl <;> simp) 9 Tryd.underlying9
  rw [h]; rfl
theorem conv_3 (w : World) (a b c : Int) : (convert 46 9 (.slice (some ⟨w.heap.size, 0, none⟩) 3 3)).run Tryd.prog (w.alloc (.cells #[.int .u8 a, .int .u8 b, .int .u8 c] 5)) = .ok (.string (tx [UInt8.ofNat a.toNat, UInt8.ofNat b.toNat, UInt8.ofNat c.toNat])) (w.alloc (.cells #[.int .u8 a, .int .u8 b, .int .u8 c] 5)) := by
  have h := run_convert_bytes_arg (P := Tryd.prog) (w.alloc (.cells #[.int .u8 a, .int .u8 b, .int .u8 c] 5)) 46 5 Tryd.underlying46 Tryd.underlying5 w.heap.size 0 3 3 [a, b, c] rfl (fun i hi => by
    rcases (show i = 0 ∨ i = 1 ∨ i = 2 by omega) with rfl | rfl | rfl <;> simp) 9 Tryd.underlying9
  rw [h]; rfl

theorem ret_s {a b : ByteArray} (h : a = b) : Ending.returned (.string a) = .returned (.string b) := by rw [h]
/-- A number by two digits. -/
theorem two_is {n : Int} (h0 : 0 ≤ n) (h1 : n < 100) : [UInt8.ofNat (48 + n / 10).toNat, UInt8.ofNat (48 + n % 10).toNat] = two n := by
  unfold two
  by_cases c : n < 10
  · rw [if_pos c, dec_1 h0 c, show (48 + n / 10).toNat = 48 by omega, show (48 + n % 10).toNat = 48 + n.toNat by omega]; rfl
  · rw [if_neg c]
    have e := Lib.decDigits_two (i := n.toNat) (by omega) (by omega)
    unfold dec
    rw [e, show (48 + n / 10).toNat = 48 + n.toNat / 10 by omega, show (48 + n % 10).toNat = 48 + n.toNat % 10 by omega]; rfl
theorem dec_snoc (n : Nat) (h : ¬ n < 10) : dec (n : Int) = dec ((n / 10 : Nat) : Int) ++ [UInt8.ofNat (48 + (n : Int) % 10).toNat] := by
  unfold dec
  rw [Int.toNat_natCast, Int.toNat_natCast, Lib.decDigits, dif_neg h, show (48 + (n : Int) % 10).toNat = 48 + n % 10 by omega]
theorem dec_sing (n : Nat) (h : n < 10) : dec (n : Int) = [UInt8.ofNat (48 + (n : Int) % 10).toNat] := by
  rw [dec_1 (by omega) (by omega), show (48 + (n : Int) % 10).toNat = 48 + (n : Int).toNat by omega]

set_option maxRecDepth 100000 in
set_option maxHeartbeats 2000000 in
theorem dnum_any : ∀ (n : Nat) (w : World), n < 100000 → Calls Tryd.prog 46 #[.int .i64 (n : Int)] w fun e w' => e = .returned (.string (tx (dec (n : Int)))) ∧ Up w w' := by
  intro n
  induction n using Nat.strongRecOn with
  | _ n ih =>
    intro w hn
    have CV := conv_1 w (48 + (n : Int) % 10)
    have u0 := Lib.hid (Up.alloc w (.cells #[.int .u8 (48 + (n : Int) % 10)] 5))
    by_cases c : n < 10
    · rw [dec_sing n c]
      generalize UInt8.ofNat (48 + (n : Int) % 10).toNat = x at *
      clear ih
      go_enter Tryd.func46, Tryd.ntmps46
      go_wp2_with fail
      go_ret
      exact ⟨rfl, u0.out⟩
    · rw [dec_snoc n c]
      have IH := fun w => ih (n / 10) (by omega) w (by omega)
      have dl := dec_le (n := ((n / 10 : Nat) : Int)) (k := 5) (by decide) (by omega)
      have ap := tx_append (dec ((n / 10 : Nat) : Int)) [UInt8.ofNat (48 + (n : Int) % 10).toNat]
      have s1 := tx_size (dec ((n / 10 : Nat) : Int))
      have s2 := tx_size [UInt8.ofNat (48 + (n : Int) % 10).toNat]
      rw [show ((n / 10 : Nat) : Int) = (n : Int) / 10 by omega] at *
      generalize dec ((n : Int) / 10) = d at *
      generalize UInt8.ofNat (48 + (n : Int) % 10).toNat = x at *
      clear ih
      go_enter Tryd.func46, Tryd.ntmps46
      go_wp2_with fail
      refine (IH _).mono ?_
      rintro e w' ⟨rfl, u1⟩
      have ov : ¬ 9223372036854775807 < (tx d).size + (tx [x]).size := by rw [s1, s2]; simp; omega
      go_wp2_with fail
      go_ret
      exact ⟨ret_s ap, u0.out.trans u1⟩
set_option maxRecDepth 100000 in
set_option maxHeartbeats 2000000 in
theorem dtwo_any (n : Int) (w : World) (h0 : 0 ≤ n) (h1 : n < 100) : Calls Tryd.prog 47 #[.int .i64 n] w fun e w' => e = .returned (.string (tx (two n))) ∧ Up w w' := by
  have CV := conv_2 w (48 + n / 10) (48 + n % 10)
  rw [two_is h0 h1] at CV
  have u0 := Lib.hid (Up.alloc w (.cells #[.int .u8 (48 + n / 10), .int .u8 (48 + n % 10)] 5))
  have e1 : n.tdiv 10 = n / 10 := tdiv_pos h0
  have e2 : n.tmod 10 = n % 10 := tmod_pos h0
  go_enter Tryd.func47, Tryd.ntmps47
  go_wp2_with fail
  go_ret
  exact ⟨rfl, u0.out⟩

theorem dnum_int (n : Int) (w : World) (h0 : 0 ≤ n) (h1 : n < 100000) : Calls Tryd.prog 46 #[.int .i64 n] w fun e w' => e = .returned (.string (tx (dec n))) ∧ Up w w' := by
  have := dnum_any n.toNat w (by omega)
  rw [show (n.toNat : Int) = n by omega] at this
  exact this
/-- What is told behind the hours. -/
def minT (n : Int) : List UInt8 := if n % 3600 = 0 then [] else 58 :: two (n % 3600 / 60)
def secT (n : Int) : List UInt8 := if n % 60 = 0 then [] else 58 :: two (n % 60)
theorem clockU_is (n : Int) : clockU n = dec (n / 3600) ++ (minT n ++ secT n) := rfl
theorem app5 (s a b c : List UInt8) : tx s ++ tx a = tx (s ++ a) ∧ tx s ++ tx a ++ ⟨#[58]⟩ ++ tx b = tx (s ++ (a ++ (58 :: b))) ∧ tx s ++ tx a ++ ⟨#[58]⟩ ++ tx b ++ ⟨#[58]⟩ ++ tx c = tx (s ++ (a ++ ((58 :: b) ++ (58 :: c)))) := by
  have e : (⟨#[58]⟩ : ByteArray) = tx [58] := rfl
  rw [e]
  refine ⟨tx_append _ _, ?_, ?_⟩
  · simp only [tx_append]; simp
  · simp only [tx_append]; simp
set_option maxRecDepth 100000 in
set_option maxHeartbeats 4000000 in
theorem dhours_any (n : Int) (w : World) (h0 : -1000000 < n) (h1 : n < 1000000) : Calls Tryd.prog 30 #[.int .i64 n] w fun e w' => e = .returned (.string (tx (clockT n))) ∧ Up w w' := by
  by_cases c : n < 0
  · have e0 : clockT n = [45] ++ clockU (-n) := by unfold clockT; rw [if_pos c]; rfl
    rw [e0]
    obtain ⟨m, rfl⟩ : ∃ m, n = -m := ⟨-n, by omega⟩
    rw [Int.neg_neg] at *
    have t1 : m.tdiv 3600 = m / 3600 := tdiv_pos (by omega)
    have t2 : m.tmod 3600 = m % 3600 := tmod_pos (by omega)
    have t3 : m.tmod 60 = m % 60 := tmod_pos (by omega)
    have t4 : m.tdiv 60 = m / 60 := tdiv_pos (by omega)
    have t5 : (m / 60).tmod 60 = m / 60 % 60 := tmod_pos (by omega)
    have t6 : m % 3600 / 60 = m / 60 % 60 := by omega
    have N0 := fun w => dnum_int (m / 3600) w (by omega) (by omega)
    have M0 := fun w => dtwo_any (m / 60 % 60) w (by omega) (by omega)
    have S0 := fun w => dtwo_any (m % 60) w (by omega) (by omega)
    have z0 := tx_size (dec (m / 3600))
    have z0' := dec_le (n := m / 3600) (k := 3) (by decide) (by omega)
    have z1 := tx_size (two (m / 60 % 60))
    rw [two_len (by omega) (by omega)] at z1
    have z2 := tx_size (two (m % 60))
    rw [two_len (by omega) (by omega)] at z2
    have EE := Lib.hid (app5 [45] (dec (m / 3600)) (two (m / 60 % 60)) (two (m % 60)))
    rw [clockU_is]
    unfold minT secT
    rw [t6]
    generalize tx (dec (m / 3600)) = x0 at *
    generalize tx (two (m / 60 % 60)) = x1 at *
    generalize tx (two (m % 60)) = x2 at *
    obtain ⟨E1, E2, E3⟩ := EE.out
    have E1 := Lib.hid E1; have E2 := Lib.hid E2; have E3 := Lib.hid E3
    clear EE e0
    have f0 : ¬ 9223372036854775807 < 1 + x0.size + 1 := by omega
    have f2 : ¬ 9223372036854775807 < 1 + x0.size + 1 + 2 := by omega
    have g2 : ¬ 9223372036854775807 < 1 + x0.size + 3 := by omega
    have f3 : ¬ 9223372036854775807 < 1 + x0.size + 1 + 2 + 1 := by omega
    have g3 : ¬ 9223372036854775807 < 1 + x0.size + 4 := by omega
    have f4 : ¬ 9223372036854775807 < 1 + x0.size + 1 + 2 + 1 + 2 := by omega
    have g4 : ¬ 9223372036854775807 < 1 + x0.size + 6 := by omega
    have f5 : ¬ 9223372036854775807 < 1 + x0.size := by omega
    by_cases c1 : m % 3600 = 0
    · have c2 : m % 60 = 0 := by omega
      rw [if_pos c1, if_pos c2, List.append_nil, List.append_nil, ← E1.out]
      go_enter Tryd.func30, Tryd.ntmps30
      go_wp2_with fail
      refine (N0 _).mono ?_; rintro e w1 ⟨rfl, u1⟩
      go_wp2_with fail
      go_ret
      exact ⟨rfl, u1⟩
    · by_cases c2 : m % 60 = 0
      · rw [if_neg c1, if_pos c2, List.append_nil, ← E2.out]
        go_enter Tryd.func30, Tryd.ntmps30
        go_wp2_with fail
        refine (N0 _).mono ?_; rintro e w1 ⟨rfl, u1⟩
        go_wp2_with fail
        refine (M0 _).mono ?_; rintro e w2 ⟨rfl, u2⟩
        go_wp2_with fail
        go_ret
        exact ⟨rfl, u1.trans u2⟩
      · rw [if_neg c1, if_neg c2, ← E3.out]
        go_enter Tryd.func30, Tryd.ntmps30
        go_wp2_with fail
        refine (N0 _).mono ?_; rintro e w1 ⟨rfl, u1⟩
        go_wp2_with fail
        refine (M0 _).mono ?_; rintro e w2 ⟨rfl, u2⟩
        go_wp2_with fail
        refine (S0 _).mono ?_; rintro e w3 ⟨rfl, u3⟩
        go_wp2_with fail
        go_ret
        exact ⟨rfl, (u1.trans u2).trans u3⟩
  · have e0 : clockT n = [] ++ clockU n := by unfold clockT; rw [if_neg c]; rfl
    rw [e0]
    have c' : 0 ≤ n := by omega
    have t1 : n.tdiv 3600 = n / 3600 := tdiv_pos (by omega)
    have t2 : n.tmod 3600 = n % 3600 := tmod_pos (by omega)
    have t3 : n.tmod 60 = n % 60 := tmod_pos (by omega)
    have t4 : n.tdiv 60 = n / 60 := tdiv_pos (by omega)
    have t5 : (n / 60).tmod 60 = n / 60 % 60 := tmod_pos (by omega)
    have t6 : n % 3600 / 60 = n / 60 % 60 := by omega
    have N0 := fun w => dnum_int (n / 3600) w (by omega) (by omega)
    have M0 := fun w => dtwo_any (n / 60 % 60) w (by omega) (by omega)
    have S0 := fun w => dtwo_any (n % 60) w (by omega) (by omega)
    have z0 := tx_size (dec (n / 3600))
    have z0' := dec_le (n := n / 3600) (k := 3) (by decide) (by omega)
    have z1 := tx_size (two (n / 60 % 60))
    rw [two_len (by omega) (by omega)] at z1
    have z2 := tx_size (two (n % 60))
    rw [two_len (by omega) (by omega)] at z2
    have EE := Lib.hid (app5 [] (dec (n / 3600)) (two (n / 60 % 60)) (two (n % 60)))
    rw [clockU_is]
    unfold minT secT
    rw [t6]
    generalize tx (dec (n / 3600)) = x0 at *
    generalize tx (two (n / 60 % 60)) = x1 at *
    generalize tx (two (n % 60)) = x2 at *
    obtain ⟨E1, E2, E3⟩ := EE.out
    have E1 := Lib.hid E1; have E2 := Lib.hid E2; have E3 := Lib.hid E3
    clear EE e0
    have f0 : ¬ 9223372036854775807 < x0.size + 1 := by omega
    have f2 : ¬ 9223372036854775807 < x0.size + 1 + 2 := by omega
    have g2 : ¬ 9223372036854775807 < x0.size + 3 := by omega
    have f3 : ¬ 9223372036854775807 < x0.size + 1 + 2 + 1 := by omega
    have g3 : ¬ 9223372036854775807 < x0.size + 4 := by omega
    have f4 : ¬ 9223372036854775807 < x0.size + 1 + 2 + 1 + 2 := by omega
    have g4 : ¬ 9223372036854775807 < x0.size + 6 := by omega
    have f5 : ¬ 9223372036854775807 < x0.size := by omega
    by_cases c1 : n % 3600 = 0
    · have c2 : n % 60 = 0 := by omega
      rw [if_pos c1, if_pos c2, List.append_nil, List.append_nil, ← E1.out]
      go_enter Tryd.func30, Tryd.ntmps30
      go_wp2_with fail
      refine (N0 _).mono ?_; rintro e w1 ⟨rfl, u1⟩
      go_wp2_with fail
      go_ret
      exact ⟨ret_s (by rw [show tx [] = (⟨#[]⟩ : ByteArray) from rfl]), u1⟩
    · by_cases c2 : n % 60 = 0
      · rw [if_neg c1, if_pos c2, List.append_nil, ← E2.out]
        go_enter Tryd.func30, Tryd.ntmps30
        go_wp2_with fail
        refine (N0 _).mono ?_; rintro e w1 ⟨rfl, u1⟩
        go_wp2_with fail
        refine (M0 _).mono ?_; rintro e w2 ⟨rfl, u2⟩
        go_wp2_with fail
        go_ret
        exact ⟨ret_s (by rw [show tx [] = (⟨#[]⟩ : ByteArray) from rfl]), u1.trans u2⟩
      · rw [if_neg c1, if_neg c2, ← E3.out]
        go_enter Tryd.func30, Tryd.ntmps30
        go_wp2_with fail
        refine (N0 _).mono ?_; rintro e w1 ⟨rfl, u1⟩
        go_wp2_with fail
        refine (M0 _).mono ?_; rintro e w2 ⟨rfl, u2⟩
        go_wp2_with fail
        refine (S0 _).mono ?_; rintro e w3 ⟨rfl, u3⟩
        go_wp2_with fail
        go_ret
        exact ⟨ret_s (by rw [show tx [] = (⟨#[]⟩ : ByteArray) from rfl]), (u1.trans u2).trans u3⟩

set_option maxRecDepth 100000 in
set_option maxHeartbeats 4000000 in
theorem dnamed_any (l : List UInt8) (w : World) (hl : l.length ≤ 100000) : Calls Tryd.prog 29 #[.string (tx l)] w fun e w' => e = .returned (.string (tx (nameT l))) ∧ w = w' := by
  have P := fun w => dplain_any l w (by unfold maxLen; omega)
  have z := tx_size l
  have ee : (⟨#[60]⟩ : ByteArray) ++ tx l ++ ⟨#[62]⟩ = tx (60 :: (l ++ [62])) := by
    rw [show (⟨#[60]⟩ : ByteArray) = tx [60] from rfl, show (⟨#[62]⟩ : ByteArray) = tx [62] from rfl, tx_append, tx_append]; simp
  unfold nameT
  have EE := Lib.hid ee
  clear ee
  have f1 : ¬ 9223372036854775807 < 1 + l.length := by omega
  have f2 : ¬ 9223372036854775807 < 1 + l.length + 1 := by omega
  cases h : l.all isL
  · rw [if_neg (by simp), ← EE.out]
    rw [h] at P
    generalize tx l = s at *
    clear h
    go_enter Tryd.func29, Tryd.ntmps29
    go_wp2_with fail
    refine (P _).mono ?_; rintro e w1 ⟨rfl, rfl⟩
    go_wp2_with fail
    go_ret
    exact ⟨rfl, rfl⟩
  · rw [if_pos rfl]
    rw [h] at P
    clear h
    go_enter Tryd.func29, Tryd.ntmps29
    go_wp2_with fail
    refine (P _).mono ?_; rintro e w1 ⟨rfl, rfl⟩
    go_wp2_with fail
    go_ret
    exact ⟨rfl, rfl⟩
end Go.Proofs.YtalpbbgkallohaaDoor
