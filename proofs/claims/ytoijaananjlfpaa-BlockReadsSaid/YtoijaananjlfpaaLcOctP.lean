/-
  The program's octets: Put.
-/
import Derived.Test.YtoijaananjlfpaaLcByt
import Derived.Lib.SliceRun
namespace Go.Proofs.Ytoijaananjlfpaa
open Go.ChangeShapes Go.WideShapes Go.ChangeAt Go.RowKit Lc

/-- A slice against nil. -/
theorem eql_nil (w : World) (A : Option Addr) (n c n' c' : Nat) : (binOp .eql 33 (.slice A n c) (.slice none n' c')).run Try.prog w = .ok (.bool A.isNone) w := by
  exact Lib.run_eql_slice_nil w _ _ A n c n' c' Try.underlying33

set_option maxHeartbeats 1000000 in
theorem clone_any (A : Option Addr) (l : List UInt8) (c : Nat) (w : World) (hs : l.length ≤ 140737488355328) (hr : Rd w A l) :
    Calls Try.prog 62 #[.slice A l.length c] w fun e w' => ∃ v', e = .returned v' ∧ Ow w' w.heap.size v' l ∧ Up w w' := by
  have q := eql_nil
  rcases A with _ | p
  · have hl : l = [] := by
      rcases Nat.eq_zero_or_pos l.length with h0 | h0
      · exact List.eq_nil_of_length_eq_zero h0
      · obtain ⟨b, o, e, _⟩ := hr h0; cases e
    subst hl
    go_enter Try.func62, Try.ntmps62
    go_wp2
    go_ret
    exact ⟨_, rfl, Ow.nil _ _, Up.refl _⟩
  · have R := Lib.hid hr
    clear hr
    go_enter Try.func62, Try.ntmps62
    go_wp2_with (at_builtin; refine wpList_append_bytes _ rfl _ _ rfl w.heap.size _ [] rfl (Ow.empty w _ (Nat.le_refl _)) (some p) l _ c rfl rfl (R.out.up (Up.alloc _ _)) (by simpa using hs) (by simp) ?_)
    intro v' w1 ho hg hat
    go_wp2
    go_ret
    refine ⟨v', rfl, by simpa using ho, (Up.alloc w _).grown hg ?_⟩
    intro k hk
    simp [Value.ownBlock] at hk
    omega

/-- So many bytes are put. -/
def putM (size : Int) : Nat := (min size 8).toNat

theorem Rd.one (w : World) (x : Int) (b : UInt8) (t : TypeId) (h : x = b.toNat) : Rd (w.alloc (.cells #[.int .u8 x] t)) (some ⟨w.heap.size, 0, none⟩) [b] := by
  subst h
  exact Rd.new w [b] _ t rfl

theorem put_byte {n : Int} (n0 : 0 ≤ n) (k : Nat) : n / 2 ^ (8 * k) % 256 = ((UInt8.ofNat (n.toNat / 256 ^ k)).toNat : Int) := by
  obtain ⟨N, rfl⟩ := Int.eq_ofNat_of_zero_le n0
  have e : (2 : Int) ^ (8 * k) = ((256 ^ k : Nat) : Int) := by rw [Int.pow_mul]; norm_cast
  rw [e]
  simp
set_option maxHeartbeats 1000000 in
theorem put_any (A : Option Addr) (l : List UInt8) (c : Nat) (size n : Int) (w : World) (hs : l.length + 8 ≤ 140737488355328) (wz : (Lit.int .i64 size).wf = true) (n0 : 0 ≤ n) (hr : Rd w A l) :
    Calls Try.prog 57 #[.slice A l.length c, .int .i64 size, .int .u64 n] w fun e w' => ∃ v', e = .returned v' ∧ Ow w' w.heap.size v' (l ++ beB (putM size) n.toNat) ∧ Up w w' := by
  have hz := bounds_i64 wz
  have C := Lib.hid (clone_any A l c w (by omega) hr)
  clear hr wz
  go_enter Try.func57, Try.ntmps57
  go_wp2_with (go_at_call 62; refine C.out.mono ?_; rintro e w' ⟨v, rfl, ho, hu⟩)
  obtain ⟨M, HP⟩ : ∃ M, Hid (putM size = M) := ⟨_, rfl⟩
  have HM : Hid (M = (min size 8).toNat) := HP.out.symm
  have hx0 : -9223372036854775808 ≤ min size 8 := by omega
  have hx8 : min size 8 ≤ 8 := by omega
  generalize min size 8 = x at HM hx0 hx8
  have hM8 : M ≤ 8 := by rw [HM.out]; omega
  go_loopw [7, 8] (fun v i wr => ∃ x : Int, -9223372036854775808 ≤ x ∧ x ≤ 8 ∧ x.toNat ≤ M ∧ i = .int .i64 x ∧ Ow wr w.heap.size v (l ++ (beB M n.toNat).take (M - x.toNat)) ∧ Up w wr) (fun _ i _ => (intOf i).toNat)
  case atStart => exact ⟨x, hx0, hx8, by rw [HM.out]; exact Nat.le_refl _, rfl, by rw [HM.out, Nat.sub_self, List.take_zero, List.append_nil]; exact ho, hu⟩
  case round =>
    clear ho hu HM hx0 hx8
    obtain ⟨y, y0, y8, yM, rfl, ho, hu⟩ := hrel
    have HO := Lib.hid ho
    have HU := Lib.hid hu
    clear ho hu
    by_cases hp : 0 < y
    · obtain ⟨k, rfl⟩ : ∃ k : Nat, y = (k : Int) + 1 := ⟨(y - 1).toNat, by omega⟩
      have hk : k + 1 ≤ M := by omega
      have HT : Hid ((beB M n.toNat).take (M - k) = (beB M n.toNat).take (M - ((k : Int) + 1).toNat) ++ [UInt8.ofNat (n.toNat / 256 ^ k)]) := by
        have := beB_take M n.toNat (M - (k + 1)) (by omega)
        rw [show M - (k + 1) + 1 = M - k by omega, show M - 1 - (M - (k + 1)) = k by omega] at this
        rw [show ((k : Int) + 1).toNat = k + 1 by omega]; exact this
      go_wp2_with (at_builtin; refine wpList_append_bytes _ rfl _ _ rfl w.heap.size _ _ rfl (HO.out.up (Up.alloc _ _)) (some ⟨wr.heap.size, 0, none⟩) [UInt8.ofNat (n.toNat / 256 ^ k)] 1 1 rfl rfl (Rd.one _ _ _ _ ?e1) ?e2 ?e3 ?_)
      case e1 => exact put_byte n0 k
      case e2 => simp only [List.length_append, List.length_take, beB_len, List.length_cons, List.length_nil]; omega
      case e3 => have := HU.out.size; simp; omega
      intro v' w1 ho hg hat
      have HO' : Hid (Ow w1 w.heap.size v' (l ++ (beB M n.toNat).take (M - (k : Int).toNat))) := by
        refine Lib.hid ?_
        have hT := HT.out
        rw [show ((k : Int) + 1).toNat = k + 1 by omega] at hT
        rw [show ((k : Int)).toNat = k by omega, hT]; exact ho
      have HU' : Hid (Up w w1) := (HU.out.alloc' _).grown hg HO.out.block
      clear ho hg hat HO HU HT
      go_wp2
      go_roundw
      case rel => exact ⟨k, by omega, by omega, by omega, by go_num, HO'.out, HU'.out⟩
      case measure => simp [intOf]
    · go_wp2
      go_ret
      refine ⟨_, rfl, ?_, HU.out⟩
      have := HO.out
      rw [show y.toNat = 0 by omega, Nat.sub_zero, List.take_of_length_le (by rw [beB_len]; exact Nat.le_refl _)] at this
      rw [HP.out]; exact this
end Go.Proofs.Ytoijaananjlfpaa
