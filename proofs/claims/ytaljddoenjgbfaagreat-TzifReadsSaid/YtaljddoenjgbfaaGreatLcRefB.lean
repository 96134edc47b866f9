/-
  What the document's own Put and Uint do (longcaseref04), in the same plain words.
-/
import Derived.Test.YtaljddoenjgbfaaGreatLcMb
namespace Go.Proofs.YtaljddoenjgbfaaGreat
open Go.ChangeShapes Go.WideShapes Go.ChangeAt Go.RowKit Lc

set_option maxRecDepth 100000 in
set_option maxHeartbeats 1000000 in
theorem refPut_any (A : Option Addr) (l : List UInt8) (c : Nat) (size n : Int) (w : World) (hs : l.length + 8 ≤ 140737488355328) (wz : (Lit.int .i64 size).wf = true) (n0 : 0 ≤ n) (hr : Rd w A l) :
    Calls Tryz.prog 49 #[.slice A l.length c, .int .i64 size, .int .u64 n] w fun e w' => ∃ v', e = .returned v' ∧ Ow w' w.heap.size v' (l ++ beB (putM size) n.toNat) ∧ Up w w' := by
  have hz := bounds_i64 wz
  have R := Lib.hid hr
  clear hr wz
  go_enter Tryz.func49, Tryz.ntmps49
  go_wp2_with (at_builtin; refine wpList_append_bytes _ rfl _ _ rfl w.heap.size _ [] rfl (Ow.empty w _ (Nat.le_refl _)) A l _ c rfl rfl (R.out.up (Up.alloc _ _)) (by simp; omega) (by simp) ?_)
  intro v w1 ho0 hg hat
  have ho : Ow w1 w.heap.size v l := by simpa using ho0
  have hu : Up w w1 := (Up.alloc w _).grown hg (by intro k hk; simp [Value.ownBlock] at hk; omega)
  clear ho0 hg hat R
  go_wp2_with fail
  obtain ⟨M, HP⟩ : ∃ M, Hid (putM size = M) := ⟨_, rfl⟩
  have HM : Hid (M = (min size 8).toNat) := HP.out.symm
  have hx0 : -9223372036854775808 ≤ min size 8 := by omega
  have hx8 : min size 8 ≤ 8 := by omega
  generalize min size 8 = x at HM hx0 hx8
  have hM8 : M ≤ 8 := by rw [HM.out]; omega
  go_loopw [7, 8] (fun v i wr => ∃ x : Int, -9223372036854775808 ≤ x ∧ x ≤ 8 ∧ x.toNat ≤ M ∧ i = .int .i64 x ∧ Ow wr w.heap.size v (l ++ (beB M n.toNat).take (M - x.toNat)) ∧ Up w wr) (fun _ i _ => (intOf i).toNat)
  case atStart => exact ⟨x, hx0, hx8, by rw [HM.out]; exact Nat.le_refl _, rfl, by rw [HM.out, Nat.sub_self, List.take_zero, List.append_nil]; exact ho, hu⟩
  case round =>
    clear ho hu HM hx0 hx8
    obtain ⟨y, y0, y8, yM, rfl, ho, hu⟩ := hrel
    have HO := Lib.hid ho
    have HU := Lib.hid hu
    clear ho hu
    by_cases hp : 0 < y
    · obtain ⟨k, rfl⟩ : ∃ k : Nat, y = (k : Int) + 1 := ⟨(y - 1).toNat, by omega⟩
      have hk : k + 1 ≤ M := by omega
      have HT : Hid ((beB M n.toNat).take (M - k) = (beB M n.toNat).take (M - ((k : Int) + 1).toNat) ++ [UInt8.ofNat (n.toNat / 256 ^ k)]) := by
        have := beB_take M n.toNat (M - (k + 1)) (by omega)
        rw [show M - (k + 1) + 1 = M - k by omega, show M - 1 - (M - (k + 1)) = k by omega] at this
        rw [show ((k : Int) + 1).toNat = k + 1 by omega]; exact this
      go_wp2_with (at_builtin; refine wpList_append_bytes _ rfl _ _ rfl w.heap.size _ _ rfl (HO.out.up (Up.alloc _ _)) (some ⟨wr.heap.size, 0, none⟩) [UInt8.ofNat (n.toNat / 256 ^ k)] 1 1 rfl rfl (Rd.one _ _ _ _ ?e1) ?e2 ?e3 ?_)
      case e1 =>
        first
        | exact put_byte n0 k
        | (rw [show (8 * ((k : Int) + 1) - 8).toNat = 8 * k by omega]; exact put_byte n0 k)
      case e2 => simp only [List.length_append, List.length_take, beB_len, List.length_cons, List.length_nil]; omega
      case e3 => have := HU.out.size; simp; omega
      intro v' w1 ho hg hat
      have HO' : Hid (Ow w1 w.heap.size v' (l ++ (beB M n.toNat).take (M - (k : Int).toNat))) := by
        refine Lib.hid ?_
        have hT := HT.out
        rw [show ((k : Int) + 1).toNat = k + 1 by omega] at hT
        rw [show ((k : Int)).toNat = k by omega, hT]; exact ho
      have HU' : Hid (Up w w1) := (HU.out.alloc' _).grown hg HO.out.block
      clear ho hg hat HO HU HT
      go_wp2_with fail
      go_roundw
      case rel => exact ⟨k, by omega, by omega, by omega, by go_num, HO'.out, HU'.out⟩
      case measure => simp [intOf]
    · go_wp2_with fail
      go_ret
      refine ⟨_, rfl, ?_, HU.out⟩
      have := HO.out
      rw [show y.toNat = 0 by omega, Nat.sub_zero, List.take_of_length_le (by rw [beB_len]; exact Nat.le_refl _)] at this
      rw [HP.out]; exact this

set_option maxRecDepth 100000 in
set_option maxHeartbeats 1000000 in
theorem refUint_at (b o n c a k : Nat) (L : List UInt8) (w : World) (hc : n ≤ c) (hcm : c ≤ maxLen) (h1 : 1 ≤ k) (h8 : k ≤ 8) (h : a + k ≤ n) (hL : L.length = k)
    (hr : ∀ i, i < k → w.cell? ⟨b, o + (a + i), none⟩ = some (.int .u8 (L.getD i 0).toNat)) :
    Calls Tryz.prog 55 #[.slice (some ⟨b, o, none⟩) n c, .int .i64 a, .int .i64 k] w fun e w' => e = .returned (.tuple #[.int .u64 (beN L), .bool true]) ∧ w = w' := by
  unfold maxLen at hcm
  have R := Lib.hid hr
  have HL := Lib.hid hL
  clear hr hL
  have a1 : ¬ (n : Int) - (k : Int) < (a : Int) := by omega
  go_enter Tryz.func55, Tryz.ntmps55
  go_wp2_with fail
  go_loop [8, 9] (fun n i => ∃ j : Nat, j ≤ k ∧ i = .int .i64 j ∧ n = .int .u64 (beN (L.take j))) (fun _ i => k - (intOf i).toNat)
  case atStart => exact ⟨0, Nat.zero_le _, rfl, rfl⟩
  case round =>
    obtain ⟨j, hj, rfl, rfl⟩ := hrel
    by_cases hlt : j < k
    · have hs := beN_snoc_take L j (by rw [HL.out]; exact hlt)
      have hb : beN (L.take j) < 72057594037927936 := beN_take_lt L j 7 (by omega)
      have hc := R.out j hlt
      have hx := (L.getD j 0).toNat_lt
      generalize (L.getD j 0).toNat = x at hs hc hx
      have HS : Hid (beN (L.take (j + 1)) = beN (L.take j) * 256 + x) := hs
      clear hs
      generalize beN (L.take j) = N at hb HS
      go_wp2_with fail
      go_round
      case rel =>
        exact ⟨j + 1, by omega, by go_num, by rw [HS.out]; congr 1⟩
      case measure => simp [intOf]; omega
    · have e : j = k := by omega
      subst e
      go_wp2_with fail
      go_ret2
      exact ⟨rtIB (by rw [List.take_of_length_le (by rw [HL.out]; exact Nat.le_refl _)]), rfl⟩
set_option maxRecDepth 100000 in
theorem refUint_yes (A : Option Addr) (l : List UInt8) (c a k : Nat) (w : World) (hc : l.length ≤ c) (hcm : c ≤ maxLen) (h1 : 1 ≤ k) (h8 : k ≤ 8) (h : a + k ≤ l.length) (hr : Rd w A l) :
    Calls Tryz.prog 55 #[.slice A l.length c, .int .i64 a, .int .i64 k] w fun e w' => e = .returned (.tuple #[.int .u64 (beN ((l.drop a).take k)), .bool true]) ∧ w = w' := by
  obtain ⟨b, o, rfl, hcell⟩ := hr (by omega)
  refine refUint_at b o l.length c a k ((l.drop a).take k) w hc hcm h1 h8 h (by rw [List.length_take, List.length_drop]; omega) fun i hi => ?_
  rw [hcell (a + i) (by omega)]
  simp [List.getD, List.getElem?_take_of_lt hi]
end Go.Proofs.YtaljddoenjgbfaaGreat
