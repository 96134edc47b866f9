/-
  The program's file: strings.Contains of a line end; momentSize, rightFooter, Right.
-/
import Derived.Test.YtaljddoenjgbfaaGreatLcTz0
import Derived.Test.YtaljddoenjgbfaaGreatLcMc
import Derived.Test.YtaljddoenjgbfaaGreatLcMm
namespace Go.Proofs.YtaljddoenjgbfaaGreat
open Go.ChangeShapes Go.WideShapes Go.ChangeAt Go.RowKit Lc

/-- A text without a line end. -/
def nol (s : ByteArray) : Bool := !(tx s).contains 10
set_option maxRecDepth 100000 in
theorem ibyteL (s : ByteArray) (w : World) : Calls Tryz.prog 83 #[.string s, .int .u8 10] w fun e w' => e = .returned (.int .i64 (Lib.indexByte s.data.toList 10)) ∧ w = w' := by
  have R := Lib.hid (Lib.run_indexByteString (P := Tryz.prog) s 10 w)
  go_enter Tryz.func83, Tryz.ntmps83
  go_wp2
  rw [run_callFunc_extern Tryz.func98 (by kernel_rfl) (by kernel_rfl) (by kernel_rfl) (e := Extern.BytealgIndexByte.indexByte) (by kernel_rfl), R.out]
  simp only [Result.andThen]
  rw [Oper.upon_value]
  go_wp2
  go_ret
  exact ⟨rfl, rfl⟩
set_option maxRecDepth 100000 in
theorem sindexL (s : ByteArray) (w : World) : Calls Tryz.prog 68 #[.string s, .string ⟨#[10]⟩] w fun e w' => e = .returned (.int .i64 (Lib.indexByte s.data.toList 10)) ∧ w = w' := by
  have C := fun w => ibyteL s w
  by_cases h : ([10] == s.toList) = true
  · have hx : Lib.indexByte s.data.toList 10 = 0 := by
      have h1 : s.toList = [10] := by simpa using (beq_iff_eq.1 h).symm
      rw [ByteArray.toList_eq] at h1
      rw [h1]; rfl
    rw [hx]
    go_enter Tryz.func68, Tryz.ntmps68
    go_wp2
    go_ret
    exact ⟨rfl, rfl⟩
  · have h' : ([10] == s.toList) = false := by simpa using h
    clear h
    generalize Lib.indexByte s.data.toList 10 = x at *
    go_enter Tryz.func68, Tryz.ntmps68
    go_wp2_with (go_at_call 83; refine (C _).mono ?_; rintro e w' ⟨rfl, rfl⟩)
    go_ret
    exact ⟨rfl, rfl⟩
set_option maxRecDepth 100000 in
theorem indexL_any (s : ByteArray) (w : World) : Calls Tryz.prog 48 #[.string s, .string ⟨#[10]⟩] w fun e w' => e = .returned (.int .i64 (Lib.indexByte s.data.toList 10)) ∧ w = w' := by
  have C := fun w => sindexL s w
  generalize Lib.indexByte s.data.toList 10 = x at *
  go_enter Tryz.func48, Tryz.ntmps48
  go_wp2_with (go_at_call 68; refine (C _).mono ?_; rintro e w' ⟨rfl, rfl⟩)
  go_ret
  exact ⟨rfl, rfl⟩
set_option maxRecDepth 100000 in
theorem containsL_any (s : ByteArray) (w : World) : Calls Tryz.prog 34 #[.string s, .string ⟨#[10]⟩] w fun e w' => e = .returned (.bool (!nol s)) ∧ w = w' := by
  have C := fun w => indexL_any s w
  have E := Lib.hid (show (!nol s) = decide (0 ≤ Lib.indexByte s.data.toList 10) by
    unfold nol; rw [Bool.not_not]; exact Lib.contains_iff_indexByte _ _)
  generalize Lib.indexByte s.data.toList 10 = x at *
  generalize (!nol s) = r at *
  go_enter Tryz.func34, Tryz.ntmps34
  go_wp2_with (go_at_call 48; refine (C _).mono ?_; rintro e w' ⟨rfl, rfl⟩)
  go_ret
  exact ⟨ret_b E.out.symm, rfl⟩

/-- A moment's size, by version. -/
def mz (v : Int) : Int := if v = 1 then 4 else 8
set_option maxRecDepth 100000 in
theorem msize_any (v : Int) (w : World) : Calls Tryz.prog 18 #[.int .i64 v] w fun e w' => e = .returned (.int .i64 (mz v)) ∧ w = w' := by
  unfold mz
  by_cases h : v = 1
  · rw [if_pos h]; subst h
    go_enter Tryz.func18, Tryz.ntmps18
    go_wp2
    go_ret
    exact ⟨rfl, rfl⟩
  · rw [if_neg h]
    have h' : (v == 1) = false := by simpa using h
    go_enter Tryz.func18, Tryz.ntmps18
    go_wp2
    go_ret
    exact ⟨rfl, rfl⟩
/-- A right footer. -/
def rfB (s : ByteArray) (v : Int) : Bool := if v = 1 then decide (s.size = 0) else decide (s.size ≤ 100) && nol s
set_option maxRecDepth 100000 in
theorem rfoot_size {s : ByteArray} : s.toList.isEmpty = decide (s.size = 0) := by
  rw [ByteArray.toList_eq]
  have e : s.data.toList.length = s.size := by rw [Array.length_toList]; rfl
  cases h : s.data.toList with
  | nil => rw [h] at e; simp at e; simp [← e]
  | cons a l => rw [h] at e; simp at e; simp [← e]
set_option maxRecDepth 100000 in
theorem rightf_any (s : ByteArray) (v : Int) (w : World) : Calls Tryz.prog 19 #[.string s, .int .i64 v] w fun e w' => e = .returned (.bool (rfB s v)) ∧ w = w' := by
  unfold rfB
  by_cases h : v = 1
  · rw [if_pos h]; subst h
    have e := Lib.hid (rfoot_size (s := s))
    go_enter Tryz.func19, Tryz.ntmps19
    go_wp2
    go_ret
    exact ⟨ret_b e.out, rfl⟩
  · rw [if_neg h]
    have h' : (v == 1) = false := by simpa using h
    have C := fun w => containsL_any s w
    clear h
    by_cases g : s.size ≤ 100
    · have g' : (s.size : Int) ≤ 100 := by omega
      rw [show decide (s.size ≤ 100) = true by simpa using g, Bool.true_and]
      generalize nol s = r at *
      go_enter Tryz.func19, Tryz.ntmps19
      go_wp2_with (go_at_call 34; refine (C _).mono ?_; rintro e w' ⟨rfl, rfl⟩)
      go_ret
      exact ⟨by simp, rfl⟩
    · have g' : ¬ (s.size : Int) ≤ 100 := by omega
      rw [show decide (s.size ≤ 100) = false by simpa using g, Bool.false_and]
      go_enter Tryz.func19, Tryz.ntmps19
      go_wp2_with fail
      go_ret
      exact ⟨rfl, rfl⟩
end Go.Proofs.YtaljddoenjgbfaaGreat
