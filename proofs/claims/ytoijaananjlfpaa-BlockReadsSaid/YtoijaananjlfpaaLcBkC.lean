/-
  strings.Contains of a byte 0.
-/
import Derived.Test.YtoijaananjlfpaaLcBk1
import Derived.Lib.IndexAny
namespace Go.Proofs.Ytoijaananjlfpaa
open Go.ChangeShapes Go.WideShapes Go.ChangeAt Go.RowKit Lc

theorem ibyte_any (s : ByteArray) (w : World) : Calls Try.prog 66 #[.string s, .int .u8 0] w fun e w' => e = .returned (.int .i64 (Lib.indexByte s.data.toList 0)) ∧ w = w' := by
  have R := Lib.hid (Lib.run_indexByteString (P := Try.prog) s 0 w)
  go_enter Try.func66, Try.ntmps66
  go_wp2
  rw [run_callFunc_extern Try.func72 (by kernel_rfl) (by kernel_rfl) (by kernel_rfl) (e := Extern.BytealgIndexByte.indexByte) (by kernel_rfl), R.out]
  simp only [Result.andThen]
  rw [Oper.upon_value]
  go_wp2
  go_ret
  exact ⟨rfl, rfl⟩
set_option maxRecDepth 100000 in
theorem sindex_any (s : ByteArray) (w : World) : Calls Try.prog 63 #[.string s, .string ⟨#[0]⟩] w fun e w' => e = .returned (.int .i64 (Lib.indexByte s.data.toList 0)) ∧ w = w' := by
  have C := fun w => ibyte_any s w
  by_cases h : ([0] == s.toList) = true
  · have hx : Lib.indexByte s.data.toList 0 = 0 := by
      have h1 : s.toList = [0] := by simpa using (beq_iff_eq.1 h).symm
      rw [ByteArray.toList_eq] at h1
      rw [h1]; rfl
    rw [hx]
    go_enter Try.func63, Try.ntmps63
    go_wp2
    go_ret
    exact ⟨rfl, rfl⟩
  · have h' : ([0] == s.toList) = false := by simpa using h
    clear h
    generalize Lib.indexByte s.data.toList 0 = x at *
    go_enter Try.func63, Try.ntmps63
    go_wp2_with (go_at_call 66; refine (C _).mono ?_; rintro e w' ⟨rfl, rfl⟩)
    go_ret
    exact ⟨rfl, rfl⟩
theorem index0_any (s : ByteArray) (w : World) : Calls Try.prog 58 #[.string s, .string ⟨#[0]⟩] w fun e w' => e = .returned (.int .i64 (Lib.indexByte s.data.toList 0)) ∧ w = w' := by
  have C := fun w => sindex_any s w
  generalize Lib.indexByte s.data.toList 0 = x at *
  go_enter Try.func58, Try.ntmps58
  go_wp2_with (go_at_call 63; refine (C _).mono ?_; rintro e w' ⟨rfl, rfl⟩)
  go_ret
  exact ⟨rfl, rfl⟩
theorem contains0_any (s : ByteArray) (w : World) : Calls Try.prog 49 #[.string s, .string ⟨#[0]⟩] w fun e w' => e = .returned (.bool (!noz s)) ∧ w = w' := by
  have C := fun w => index0_any s w
  have E := Lib.hid (show (!noz s) = decide (0 ≤ Lib.indexByte s.data.toList 0) by
    unfold noz; rw [Bool.not_not]; exact Lib.contains_iff_indexByte _ _)
  generalize Lib.indexByte s.data.toList 0 = x at *
  generalize (!noz s) = r at *
  go_enter Try.func49, Try.ntmps49
  go_wp2_with (go_at_call 58; refine (C _).mono ?_; rintro e w' ⟨rfl, rfl⟩)
  go_ret
  exact ⟨ret_b E.out.symm, rfl⟩
end Go.Proofs.Ytoijaananjlfpaa
