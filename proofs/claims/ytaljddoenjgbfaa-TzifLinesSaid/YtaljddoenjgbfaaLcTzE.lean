/-
  The program's file: strings.Contains of a line end; momentSize, rightFooter, Right.
-/
import Derived.Test.YtaljddoenjgbfaaLcTz0
import Derived.Test.YtaljddoenjgbfaaLcMc
import Derived.Test.YtaljddoenjgbfaaLcMm
namespace Go.Proofs.Ytaljddoenjgbfaa
open Go.ChangeShapes Go.WideShapes Go.ChangeAt Go.RowKit Lc

/-- A text without a line end. -/
def nol (s : ByteArray) : Bool := !(tx s).contains 10
set_option maxRecDepth 100000 in
theorem ibyteL (s : ByteArray) (w : World) : Calls Try.prog 70 #[.string s, .int .u8 10] w fun e w' => e = .returned (.int .i64 (Lib.indexByte s.data.toList 10)) ∧ w = w' := by
  have R := Lib.hid (Lib.run_indexByteString (P := Try.prog) s 10 w)
  go_enter Try.func70, Try.ntmps70
  go_wp2
  rw [run_callFunc_extern Try.func85 (by kernel_rfl) (by kernel_rfl) (by kernel_rfl) (e := Extern.BytealgIndexByte.indexByte) (by kernel_rfl), R.out]
  simp only [Result.andThen]
  rw [Oper.upon_value]
  go_wp2
  go_ret
  exact ⟨rfl, rfl⟩
set_option maxRecDepth 100000 in
theorem sindexL (s : ByteArray) (w : World) : Calls Try.prog 55 #[.string s, .string ⟨#[10]⟩] w fun e w' => e = .returned (.int .i64 (Lib.indexByte s.data.toList 10)) ∧ w = w' := by
  have C := fun w => ibyteL s w
  by_cases h : ([10] == s.toList) = true
  · have hx : Lib.indexByte s.data.toList 10 = 0 := by
      have h1 : s.toList = [10] := by simpa using (beq_iff_eq.1 h).symm
      rw [ByteArray.toList_eq] at h1
      rw [h1]; rfl
    rw [hx]
    go_enter Try.func55, Try.ntmps55
    go_wp2
    go_ret
    exact ⟨rfl, rfl⟩
  · have h' : ([10] == s.toList) = false := by simpa using h
    clear h
    generalize Lib.indexByte s.data.toList 10 = x at *
    go_enter Try.func55, Try.ntmps55
    go_wp2_with (go_at_call 70; refine (C _).mono ?_; rintro e w' ⟨rfl, rfl⟩)
    go_ret
    exact ⟨rfl, rfl⟩
set_option maxRecDepth 100000 in
theorem indexL_any (s : ByteArray) (w : World) : Calls Try.prog 41 #[.string s, .string ⟨#[10]⟩] w fun e w' => e = .returned (.int .i64 (Lib.indexByte s.data.toList 10)) ∧ w = w' := by
  have C := fun w => sindexL s w
  generalize Lib.indexByte s.data.toList 10 = x at *
  go_enter Try.func41, Try.ntmps41
  go_wp2_with (go_at_call 55; refine (C _).mono ?_; rintro e w' ⟨rfl, rfl⟩)
  go_ret
  exact ⟨rfl, rfl⟩
set_option maxRecDepth 100000 in
theorem containsL_any (s : ByteArray) (w : World) : Calls Try.prog 32 #[.string s, .string ⟨#[10]⟩] w fun e w' => e = .returned (.bool (!nol s)) ∧ w = w' := by
  have C := fun w => indexL_any s w
  have E := Lib.hid (show (!nol s) = decide (0 ≤ Lib.indexByte s.data.toList 10) by
    unfold nol; rw [Bool.not_not]; exact Lib.contains_iff_indexByte _ _)
  generalize Lib.indexByte s.data.toList 10 = x at *
  generalize (!nol s) = r at *
  go_enter Try.func32, Try.ntmps32
  go_wp2_with (go_at_call 41; refine (C _).mono ?_; rintro e w' ⟨rfl, rfl⟩)
  go_ret
  exact ⟨ret_b E.out.symm, rfl⟩

/-- A moment's size, by version. -/
def mz (v : Int) : Int := if v = 1 then 4 else 8
set_option maxRecDepth 100000 in
theorem msize_any (v : Int) (w : World) : Calls Try.prog 18 #[.int .i64 v] w fun e w' => e = .returned (.int .i64 (mz v)) ∧ w = w' := by
  unfold mz
  by_cases h : v = 1
  · rw [if_pos h]; subst h
    go_enter Try.func18, Try.ntmps18
    go_wp2
    go_ret
    exact ⟨rfl, rfl⟩
  · rw [if_neg h]
    have h' : (v == 1) = false := by simpa using h
    go_enter Try.func18, Try.ntmps18
    go_wp2
    go_ret
    exact ⟨rfl, rfl⟩
/-- A right footer. -/
def rfB (s : ByteArray) (v : Int) : Bool := if v = 1 then decide (s.size = 0) else decide (s.size ≤ 100) && nol s
set_option maxRecDepth 100000 in
theorem rfoot_size {s : ByteArray} : s.toList.isEmpty = decide (s.size = 0) := by
  rw [ByteArray.toList_eq]
  have e : s.data.toList.length = s.size := by rw [Array.length_toList]; rfl
  cases h : s.data.toList with
  | nil => rw [h] at e; simp at e; simp [← e]
  | cons a l => rw [h] at e; simp at e; simp [← e]
set_option maxRecDepth 100000 in
theorem rightf_any (s : ByteArray) (v : Int) (w : World) : Calls Try.prog 19 #[.string s, .int .i64 v] w fun e w' => e = .returned (.bool (rfB s v)) ∧ w = w' := by
  unfold rfB
  by_cases h : v = 1
  · rw [if_pos h]; subst h
    have e := Lib.hid (rfoot_size (s := s))
    go_enter Try.func19, Try.ntmps19
    go_wp2
    go_ret
    exact ⟨ret_b e.out, rfl⟩
  · rw [if_neg h]
    have h' : (v == 1) = false := by simpa using h
    have C := fun w => containsL_any s w
    clear h
    by_cases g : s.size ≤ 100
    · have g' : (s.size : Int) ≤ 100 := by omega
      rw [show decide (s.size ≤ 100) = true by simpa using g, Bool.true_and]
      generalize nol s = r at *
      go_enter Try.func19, Try.ntmps19
      go_wp2_with (go_at_call 32; refine (C _).mono ?_; rintro e w' ⟨rfl, rfl⟩)
      go_ret
      exact ⟨by simp, rfl⟩
    · have g' : ¬ (s.size : Int) ≤ 100 := by omega
      rw [show decide (s.size ≤ 100) = false by simpa using g, Bool.false_and]
      go_enter Try.func19, Try.ntmps19
      go_wp2_with fail
      go_ret
      exact ⟨rfl, rfl⟩
end Go.Proofs.Ytaljddoenjgbfaa
