/-
  The program's block: tellLeaps, tellJumps.
-/
import Derived.Test.YtoijaananjlfpaaLcBkT
namespace Go.Proofs.Ytoijaananjlfpaa
open Go.ChangeShapes Go.WideShapes Go.ChangeAt Go.RowKit Lc

theorem low_byte (n : Int) : IntKind.u8.wrap n = (loB n).toNat := by
  rw [IntKind.wrap_u8]; unfold loB; simp; omega
set_option maxHeartbeats 1000000 in
theorem tleaps_any (w0 w : World) (u : Up w0 w) (v : Value) (l : List UInt8) (A : Option Addr) (ls : List Lep) (c z : Nat) (hz : z = 4 ∨ z = 8) (ho : Ow w w0.heap.size v l) (hl : l.length ≤ 500000) (hq : ls.length ≤ 10000) (ra : Rc w0 A (lc ls)) :
    Calls Try.prog 30 #[v, .slice A ls.length c, .int .i64 z] w fun e w' => ∃ v', e = .returned v' ∧ Ow w' w0.heap.size v' (l ++ tlB z ls) ∧ Up w0 w' := by
  have RA := Lib.hid ra
  have HO := Lib.hid ho
  have HU := Lib.hid u
  have HZ := Lib.hid hz
  have hz8 : z ≤ 8 := by omega
  clear ra ho u hz
  obtain ⟨q, hq'⟩ : ∃ q, ls.length = q := ⟨_, rfl⟩
  simp only [hq'] at hq ⊢
  have HQ := Lib.hid hq'
  clear hq'
  go_enter Try.func30, Try.ntmps30
  go_wp2
  go_loopw [0, 11] (fun v i wr => ∃ k : Nat, k ≤ q ∧ i = .int .i64 k ∧ Ow wr w0.heap.size v (l ++ tlB z (ls.take k)) ∧ Up w0 wr) (fun _ i _ => q - (intOf i).toNat)
  case atStart => exact ⟨0, Nat.zero_le _, rfl, by rw [List.take_zero]; simpa [tlB] using HO.out, HU.out⟩
  case round =>
    clear HO HU
    obtain ⟨k, hk, rfl, ho, hu⟩ := hrel
    have HO := Lib.hid ho
    have HU := Lib.hid hu
    clear ho hu
    by_cases hlt : k < q
    · obtain ⟨b, o, rfl, c1, c2⟩ := (RA.out.up HU.out).lep (i := k) (by rw [HQ.out]; exact hlt)
      have HT : Hid (l ++ tlB z (ls.take (k + 1)) = l ++ tlB z (ls.take k) ++ beB z (un (ls.getD k l0).t) ++ beB 4 (un (ls.getD k l0).c)) := Lib.hid (by unfold tlB; rw [fm_take _ ls l0 (by rw [HQ.out]; exact hlt), List.append_assoc, List.append_assoc])
      have HLn : (l ++ tlB z (ls.take k)).length ≤ 620000 := by
        rw [List.length_append, tlB_len, List.length_take]
        have h1 : min k ls.length * (z + 4) ≤ 10000 * 12 := Nat.mul_le_mul (by omega) (by omega)
        omega
      obtain ⟨lt, e1⟩ : ∃ x, Hid ((ls.getD k l0).t = x) := ⟨_, rfl⟩
      obtain ⟨lk, e2⟩ : ∃ x, Hid ((ls.getD k l0).c = x) := ⟨_, rfl⟩
      rw [e1.out] at c1 HT
      rw [e2.out] at c2 HT
      generalize hL : l ++ tlB z (ls.take k) = L at *
      have HL := Lib.hid hL
      clear hL
      obtain ⟨wa, hwa⟩ : ∃ wa, wa = wr.alloc (.cells #[.int .i64 lt, .int .i64 lk] 67) := ⟨_, rfl⟩
      have OA : Hid (Ow wa w0.heap.size u0 L) := Lib.hid (by rw [hwa]; exact HO.out.up (Up.alloc _ _))
      have UA : Hid (Up w0 wa) := Lib.hid (by rw [hwa]; exact HU.out.alloc' _)
      have CA : Hid (wa.cell? ⟨wr.heap.size, 1, none⟩ = some (.int .i64 lk)) := Lib.hid (by rw [hwa]; simp)
      have HW := Lib.hid hwa
      clear hwa
      go_wp2_with fail
      rw [← HW.out]
      refine (tell_any w0.heap.size wa u0 L z HZ.out lt UA.out.size OA.out (by omega)).mono ?_
      rintro e w1 ⟨v1, rfl, ho1, hg1, _⟩
      have c3 := gb_cell hg1 CA.out (HO.out.ne (Nat.le_refl _))
      have U1 := Lib.hid (UA.out.grown hg1 OA.out.block)
      have O1 := Lib.hid ho1
      clear hg1 ho1 OA UA CA HW
      go_wp2_with fail
      refine (tell_any w0.heap.size w1 v1 (L ++ beB z (un lt)) 4 (.inl rfl) lk U1.out.size O1.out (by rw [List.length_append, beB_len]; omega)).mono ?_
      rintro e w2 ⟨v2, rfl, ho2, hg2, _⟩
      have U2 := Lib.hid (U1.out.grown hg2 O1.out.block)
      have O2 : Hid (Ow w2 w0.heap.size v2 (l ++ tlB z (ls.take (k + 1)))) := Lib.hid (by rw [HT.out]; exact ho2)
      clear hg2 ho2 O1 U1 HT c3
      go_wp2
      go_roundw
      case rel => exact ⟨k + 1, by omega, by go_num, O2.out, U2.out⟩
      case measure => simp [intOf]; omega
    · have hkq : k = q := by omega
      subst hkq
      have HO' : Hid (Ow wr w0.heap.size u0 (l ++ tlB z ls)) := Lib.hid (by have := HO.out; rw [List.take_of_length_le (by rw [HQ.out]; exact Nat.le_refl _)] at this; exact this)
      clear HO
      go_wp2
      go_ret
      exact ⟨_, rfl, HO'.out, HU.out⟩

set_option maxHeartbeats 1000000 in
theorem tjumps_any (w0 w : World) (u : Up w0 w) (v : Value) (l : List UInt8) (A : Option Addr) (js : List Jmp) (c z : Nat) (hz : z = 4 ∨ z = 8) (ho : Ow w w0.heap.size v l) (hl : l.length ≤ 500000) (hq : js.length ≤ 10000) (ra : Rc w0 A (jc js)) :
    Calls Try.prog 28 #[v, .slice A js.length c, .int .i64 z] w fun e w' => ∃ v', e = .returned v' ∧ Ow w' w0.heap.size v' (l ++ mtB z js ++ mjB js) ∧ Up w0 w' := by
  have RA := Lib.hid ra
  have HO := Lib.hid ho
  have HU := Lib.hid u
  have HZ := Lib.hid hz
  have hz8 : z ≤ 8 := by omega
  clear ra ho u hz
  obtain ⟨q, hq'⟩ : ∃ q, js.length = q := ⟨_, rfl⟩
  simp only [hq'] at hq ⊢
  have HQ := Lib.hid hq'
  clear hq'
  go_enter Try.func28, Try.ntmps28
  go_wp2
  go_loopw [0, 13] (fun v i wr => ∃ k : Nat, k ≤ q ∧ i = .int .i64 k ∧ Ow wr w0.heap.size v (l ++ mtB z (js.take k)) ∧ Up w0 wr) (fun _ i _ => q - (intOf i).toNat)
  case atStart => exact ⟨0, Nat.zero_le _, rfl, by rw [List.take_zero]; simpa [mtB] using HO.out, HU.out⟩
  case round =>
    clear HO HU
    obtain ⟨k, hk, rfl, ho, hu⟩ := hrel
    have HO := Lib.hid ho
    have HU := Lib.hid hu
    clear ho hu
    by_cases hlt : k < q
    · obtain ⟨b, o, rfl, hc⟩ := (RA.out.up HU.out).jmp (i := k) (by rw [HQ.out]; exact hlt)
      obtain ⟨c1, c2⟩ := hc k (by rw [HQ.out]; exact hlt)
      clear hc
      have HT : Hid (l ++ mtB z (js.take (k + 1)) = l ++ mtB z (js.take k) ++ beB z (un (js.getD k j0).t)) := Lib.hid (by unfold mtB; rw [fm_take _ js j0 (by rw [HQ.out]; exact hlt), List.append_assoc])
      have HLn : (l ++ mtB z (js.take k)).length ≤ 580000 := by
        rw [List.length_append, mtB_len, List.length_take]
        have h1 : min k js.length * z ≤ 10000 * 8 := Nat.mul_le_mul (by omega) (by omega)
        omega
      obtain ⟨lt, e1⟩ : ∃ x, Hid ((js.getD k j0).t = x) := ⟨_, rfl⟩
      obtain ⟨lk, e2⟩ : ∃ x, Hid ((js.getD k j0).k = x) := ⟨_, rfl⟩
      rw [e1.out] at c1 HT
      rw [e2.out] at c2
      generalize hL : l ++ mtB z (js.take k) = L at *
      have HL := Lib.hid hL
      clear hL
      obtain ⟨wa, hwa⟩ : ∃ wa, wa = wr.alloc (.cells #[.int .i64 lt, .int .i64 lk] 54) := ⟨_, rfl⟩
      have OA : Hid (Ow wa w0.heap.size u0 L) := Lib.hid (by rw [hwa]; exact HO.out.up (Up.alloc _ _))
      have UA : Hid (Up w0 wa) := Lib.hid (by rw [hwa]; exact HU.out.alloc' _)
      have HW := Lib.hid hwa
      clear hwa
      go_wp2_with fail
      rw [← HW.out]
      refine (tell_any w0.heap.size wa u0 L z HZ.out lt UA.out.size OA.out (by omega)).mono ?_
      rintro e w1 ⟨v1, rfl, ho1, hg1, _⟩
      have U1 := Lib.hid (UA.out.grown hg1 OA.out.block)
      have O1 : Hid (Ow w1 w0.heap.size v1 (l ++ mtB z (js.take (k + 1)))) := Lib.hid (by rw [HT.out]; exact ho1)
      clear hg1 ho1 OA UA HW HT
      go_wp2
      go_roundw
      case rel => exact ⟨k + 1, by omega, by go_num, O1.out, U1.out⟩
      case measure => simp [intOf]; omega
    · have hkq : k = q := by omega
      subst hkq
      have HO' : Hid (Ow wr w0.heap.size u0 (l ++ mtB z js)) := Lib.hid (by have := HO.out; rw [List.take_of_length_le (by rw [HQ.out]; exact Nat.le_refl _)] at this; exact this)
      have HLn : (l ++ mtB z js).length ≤ 580000 := by
        rw [List.length_append, mtB_len, HQ.out]
        have h1 : k * z ≤ 10000 * 8 := Nat.mul_le_mul (by omega) (by omega)
        omega
      clear HO
      obtain ⟨L, hL⟩ : ∃ L, l ++ mtB z js = L := ⟨_, rfl⟩
      rw [hL] at HO' HLn
      have HL0 := Lib.hid hL
      clear hL
      have HU0 := HU
      have HOL := HO'
      clear HU HO'
      go_wp2
      go_loopw [0, 25] (fun v i wr => ∃ j : Nat, j ≤ k ∧ i = .int .i64 j ∧ Ow wr w0.heap.size v (L ++ mjB (js.take j)) ∧ Up w0 wr) (fun _ i _ => k - (intOf i).toNat)
      case atStart => exact ⟨0, Nat.zero_le _, rfl, by rw [List.take_zero]; simpa [mjB] using HOL.out, HU0.out⟩
      case round =>
        clear HU0 HOL
        obtain ⟨j, hj, rfl, ho, hu⟩ := hrel
        have HO := Lib.hid ho
        have HU := Lib.hid hu
        clear ho hu
        by_cases hlt2 : j < k
        · obtain ⟨b, o, rfl, hc⟩ := (RA.out.up HU.out).jmp (i := j) (by rw [HQ.out]; exact hlt2)
          obtain ⟨c1, c2⟩ := hc j (by rw [HQ.out]; exact hlt2)
          clear hc
          have HT : Hid (L ++ mjB (js.take (j + 1)) = L ++ mjB (js.take j) ++ [loB (js.getD j j0).k]) := Lib.hid (by unfold mjB; rw [mp_take _ js j0 (by rw [HQ.out]; exact hlt2), List.append_assoc])
          have HLn2 : (L ++ mjB (js.take j)).length ≤ 600000 := by
            rw [List.length_append, mjB_len, List.length_take]; omega
          obtain ⟨lt, e1⟩ : ∃ x, Hid ((js.getD j j0).t = x) := ⟨_, rfl⟩
          obtain ⟨lk, e2⟩ : ∃ x, Hid ((js.getD j j0).k = x) := ⟨_, rfl⟩
          rw [e1.out] at c1
          rw [e2.out] at c2 HT
          generalize hL : L ++ mjB (js.take j) = M at *
          have HL := Lib.hid hL
          clear hL
          go_wp2_with (at_builtin; refine wpList_append_bytes _ rfl _ _ rfl w0.heap.size _ M rfl ((HO.out.up (Up.alloc _ _)).up (Up.alloc _ _)) (some ⟨wr.heap.size + 1, 0, none⟩) [loB lk] 1 1 rfl rfl ?e1 ?e2 ?e3 ?_)
          case e1 =>
            have h := Rd.one (wr.alloc (.cells #[.int .i64 lt, .int .i64 lk] 54)) (lk % 256) (loB lk) 5 (by have := low_byte lk; rw [IntKind.wrap_u8] at this; exact this)
            simpa using h
          case e2 => simp only [List.length_cons, List.length_nil]; omega
          case e3 => have := HU.out.size; simp; omega
          intro v2 w2 ho2 hg2 _
          have HU2 := Lib.hid (((HU.out.alloc' _).alloc' _).grown hg2 HO.out.block)
          have HO2 : Hid (Ow w2 w0.heap.size v2 (L ++ mjB (js.take (j + 1)))) := Lib.hid (by rw [HT.out]; exact ho2)
          clear ho2 hg2 HT HL
          go_wp2
          go_roundw
          case rel => exact ⟨j + 1, by omega, by go_num, HO2.out, HU2.out⟩
          case measure => simp [intOf]; omega
        · have hjq : j = k := by omega
          subst hjq
          have HO' : Hid (Ow wr w0.heap.size u0 (l ++ mtB z js ++ mjB js)) := Lib.hid (by have := HO.out; rw [List.take_of_length_le (by rw [HQ.out]; exact Nat.le_refl _)] at this; rw [HL0.out]; exact this)
          clear HO
          go_wp2
          go_ret
          exact ⟨_, rfl, HO'.out, HU.out⟩
end Go.Proofs.Ytoijaananjlfpaa
