/-
  What digits of package clock does: the digits of a number, with its sign.
-/
import Derived.Test.YtdmobmblkbmkhaaDoorLcItoa
import Derived.Test.YtdmobmblkbmkhaaDoorLcTxt
import Derived.RegionTactic
namespace Go.Proofs.YtdmobmblkbmkhaaDoor
open Go.ChangeShapes Go.WideShapes Go.ChangeAt Go.RowKit Lc

theorem itoa_neg {n : Int} (h : n < 0) : Lib.itoa n = 45 :: Lib.decDigits n.natAbs := if_pos h
theorem itoa_pos {n : Int} (h : 0 ≤ n) : Lib.itoa n = Lib.decDigits n.toNat := if_neg (by omega)
theorem ret_s {a b : ByteArray} (h : a = b) : Ending.returned (.string a) = .returned (.string b) := by rw [h]

set_option maxHeartbeats 400000 in
/-- A number from 0 to 99 by two digits: nothing is made. -/
theorem digits_2 (n : Int) (w : World) (h1 : 0 ≤ n) (h2 : n < 100) : Calls Tryd.prog 24 #[.int .i64 n, .int .i64 2] w fun e w' => e = .returned (.string (dgB n 2)) ∧ w = w' := by
  have I := fun w => itoa_small n.toNat w (by omega)
  rw [show ((n.toNat : Nat) : Int) = n by omega] at I
  have l1 := dec_pos n.toNat
  have l2 := dec_2 (n := n.toNat) (by omega)
  have E := Lib.hid (dgB_pos h1 2)
  have RD := fun c h => rep_dec n.toNat 2 c h
  have R := Lib.hid RD; clear RD
  have R0 : ∀ w, Calls Tryd.prog 39 #[.string ⟨#[48]⟩, .int .i64 (max 0 0)] w _ := fun w => repeat_0 ⟨#[48]⟩ w
  have R1 : ∀ w, Calls Tryd.prog 39 #[.string ⟨#[48]⟩, .int .i64 (max 0 1)] w _ := fun w => repeat_1 ⟨#[48]⟩ w
  by_cases c : (Lib.decDigits n.toNat).length = 1
  · have Q := Lib.hid (R.out 1 (by omega))
    have lx : (Lib.decDigits n.toNat).toArray.size = 1 := by simpa using c
    generalize Lib.decDigits n.toNat = l at *
    go_enter Tryd.func24, Tryd.ntmps24
    go_wp2_with fail
    refine (I _).mono ?_; rintro e w' ⟨rfl, rfl⟩
    go_wp2_with fail
    refine (R1 _).mono ?_; rintro e w' ⟨rfl, rfl⟩
    go_wp2_with fail
    go_ret
    exact ⟨ret_s (by rw [E.out, ← Q.out]; rfl), rfl⟩
  · have Q := Lib.hid (R.out 0 (by omega))
    have c2 : (Lib.decDigits n.toNat).length = 2 := by omega
    have lx : (Lib.decDigits n.toNat).toArray.size = 2 := by simpa using c2
    clear c
    generalize Lib.decDigits n.toNat = l at *
    go_enter Tryd.func24, Tryd.ntmps24
    go_wp2_with fail
    refine (I _).mono ?_; rintro e w' ⟨rfl, rfl⟩
    go_wp2_with fail
    refine (R0 _).mono ?_; rintro e w' ⟨rfl, rfl⟩
    go_wp2_with fail
    go_ret
    exact ⟨ret_s (by rw [E.out, ← Q.out]; rfl), rfl⟩

theorem cut1 (l : List UInt8) : (ByteArray.mk (45 :: l).toArray).extract 1 (l.length + 1) = ⟨l.toArray⟩ := by
  apply ByteArray.ext
  rw [ByteArray.data_extract]
  simp
set_option maxHeartbeats 400000 in
/-- A year by four digits. -/
theorem digits_4 (n : Int) (w : World) (T : Tabs w) (h1 : -10000000000 < n) (h2 : n < 10000000000) : Calls Tryd.prog 24 #[.int .i64 n, .int .i64 4] w fun e w' => e = .returned (.string (dgB n 4)) ∧ Up w w' := by
  have I := itoa_any n w T (fitB_true.2 (by omega))
  clear T
  have l1 := dec_pos n.natAbs
  have l2 := dec_len (n := n.natAbs) (by omega)
  have R := Lib.hid (rep_dec n.natAbs 4 _ rfl)
  have RP : ∀ w, _ := fun w => repeat_any ⟨#[48]⟩ (4 - (Lib.decDigits n.natAbs).length) w (by omega) (by show 1 * _ ≤ _; omega)
  rw [show ((4 - (Lib.decDigits n.natAbs).length : Nat) : Int) = max 0 (4 - ((Lib.decDigits n.natAbs).length : Int)) by omega] at RP
  rw [show (⟨#[48]⟩ : ByteArray).data.toList = [48] from rfl] at RP
  have zl : (⟨(Lib.repeatL [48] (4 - (Lib.decDigits n.natAbs).length)).toArray⟩ : ByteArray).size ≤ 4 := by
    show (Lib.repeatL [48] (4 - (Lib.decDigits n.natAbs).length)).toArray.size ≤ 4
    rw [List.size_toArray, Lib.repeatL_length]; simp
  by_cases c : n < 0
  · rw [itoa_neg c] at I
    have E := Lib.hid (show dgB n 4 = ⟨#[45]⟩ ++ dgU n.natAbs 4 by unfold dgB; rw [sgB_neg c])
    generalize Lib.decDigits n.natAbs = l at *
    generalize (⟨(Lib.repeatL [48] (4 - l.length)).toArray⟩ : ByteArray) = z at *
    go_enter Tryd.func24, Tryd.ntmps24
    go_wp2_with fail
    refine I.mono ?_; rintro e w1 ⟨rfl, u1⟩
    clear I
    go_wp2_with fail
    go_region
    rw [cut1]
    go_wp2_with fail
    refine (RP _).mono ?_; rintro e w2 ⟨rfl, u2⟩
    clear RP
    go_wp2_with fail
    go_ret
    exact ⟨ret_s (by rw [E.out, ← R.out, ByteArray.append_assoc]), (u1.drewN' 1).trans u2⟩
  · have c' : 0 ≤ n := by omega
    rw [itoa_pos c', show n.toNat = n.natAbs by omega] at I
    have E := Lib.hid (show dgB n 4 = ⟨#[]⟩ ++ dgU n.natAbs 4 by unfold dgB; rw [sgB_pos c'])
    generalize Lib.decDigits n.natAbs = l at *
    generalize (⟨(Lib.repeatL [48] (4 - l.length)).toArray⟩ : ByteArray) = z at *
    clear c
    go_enter Tryd.func24, Tryd.ntmps24
    go_wp2_with fail
    refine I.mono ?_; rintro e w1 ⟨rfl, u1⟩
    clear I
    go_wp2_with fail
    refine (RP _).mono ?_; rintro e w2 ⟨rfl, u2⟩
    clear RP
    go_wp2_with fail
    go_ret
    exact ⟨ret_s (by rw [E.out, ← R.out, ByteArray.append_assoc]), u1.trans u2⟩
end Go.Proofs.YtdmobmblkbmkhaaDoor
