/-
  What the document's own Decode does (longcaseref05), in the same plain words.
-/
import Derived.Test.YtaljddoenjgbfaaGreatLcMh
import Derived.Test.YtaljddoenjgbfaaGreatLcHdrI
import Derived.Test.YtaljddoenjgbfaaGreatLcRefB
import Derived.Test.YtaljddoenjgbfaaGreatLcMs
namespace Go.Proofs.YtaljddoenjgbfaaGreat
open Go.ChangeShapes Go.WideShapes Go.ChangeAt Go.RowKit Lc

/-- A new block of zeroes. -/
abbrev rzero (w : World) : World := w.alloc (.cells #[.int .i64 0, .int .i64 0, .int .i64 0, .int .i64 0, .int .i64 0, .int .i64 0, .int .i64 0] 60)
set_option maxRecDepth 100000 in
set_option maxHeartbeats 1000000 in
theorem refDecode_short (A : Option Addr) (l : List UInt8) (c : Nat) (w : World) (h : l.length < 44) :
    Calls Tryz.prog 40 #[.slice A l.length c] w fun e w' => e = .returned (.tuple #[hv 0 0 0 0 0 0 0, .int .i64 5]) ∧ Up w w' := by
  go_enter Tryz.func40, Tryz.ntmps40
  go_wp2_with fail
  refine bodyPost_ret (v := .tuple #[hv 0 0 0 0 0 0 0, .int .i64 5]) (by simp [results, Tryz.results40, go_sem]) rfl ?_
  exact ⟨rfl, Up.alloc _ _⟩

set_option maxRecDepth 100000 in
set_option maxHeartbeats 1000000 in
theorem refDecode_form (A : Option Addr) (l : List UInt8) (c : Nat) (w : World) (hc : l.length ≤ c) (h : 44 ≤ l.length) (hr : Rd w A l) (hz : l.take 4 ≠ tz) :
    Calls Tryz.prog 40 #[.slice A l.length c] w fun e w' => e = .returned (.tuple #[hv 0 0 0 0 0 0 0, .int .i64 4]) ∧ Up w w' := by
  obtain ⟨b, o, rfl, _⟩ := hr (by omega)
  have V1 := convert_at (rzero w) b o 4 c (l.take 4) (by rw [List.length_take]; omega) ((hr.up (Up.alloc w _)).take 4)
  have hne : ((str (l.take 4)).toList == [84, 90, 105, 102]) = false := str_ne hz
  generalize str (l.take 4) = z at *
  go_enter Tryz.func40, Tryz.ntmps40
  go_wp2_with fail
  refine bodyPost_ret (v := .tuple #[hv 0 0 0 0 0 0 0, .int .i64 4]) (by simp [results, Tryz.results40, go_sem]) rfl ?_
  exact ⟨rfl, Up.alloc _ _⟩

set_option maxRecDepth 100000 in
theorem vers_none {b : UInt8} (h0 : ¬ b.toNat = 0) (h : b.toNat < 50 ∨ 52 < b.toNat) : versI b = 0 := by
  have n0 : ¬ b = 0 := fun e => h0 (by rw [e]; rfl)
  have n2 : ¬ b = 50 := fun e => by rw [e] at h; revert h; decide
  have n3 : ¬ b = 51 := fun e => by rw [e] at h; revert h; decide
  have n4 : ¬ b = 52 := fun e => by rw [e] at h; revert h; decide
  unfold versI; simp [n0, n2, n3, n4]
set_option maxRecDepth 100000 in
theorem vers_some {b : UInt8} (h1 : 50 ≤ b.toNat) (h2 : b.toNat ≤ 52) : versI b = (b.toNat : Int) - 48 := by
  have : b.toNat = 50 ∨ b.toNat = 51 ∨ b.toNat = 52 := by omega
  rcases this with h | h | h
  · obtain rfl : b = 50 := UInt8.toNat_inj.1 h; rfl
  · obtain rfl : b = 51 := UInt8.toNat_inj.1 h; rfl
  · obtain rfl : b = 52 := UInt8.toNat_inj.1 h; rfl
set_option maxRecDepth 100000 in
theorem raw_none {l : List UInt8} (h : versI (l.getD 4 0) = 0) : rawB l = false := by
  cases e : rawB l with
  | false => rfl
  | true => have := rightH_true.1 e; omega
set_option maxRecDepth 100000 in
theorem refCount (A : Option Addr) (l : List UInt8) (c k : Nat) (K : Int) (w : World) (hc : l.length ≤ c) (hcm : c ≤ maxLen) (h : 44 ≤ l.length) (hk : k < 6) (hr : Rd w A l) (hK : K = ((20 + 4 * k : Nat) : Int)) :
    Calls Tryz.prog 55 #[.slice A l.length c, .int .i64 K, .int .i64 4] w fun e w' => e = .returned (.tuple #[.int .u64 (cntI l k), .bool true]) ∧ w = w' := by
  subst hK
  exact refUint_yes A l c (20 + 4 * k) 4 w hc hcm (by omega) (by omega) (by omega) hr
/-- The first k numbers. -/
def cnts (l : List UInt8) (k : Nat) : List Int := (List.range k).map (cntI l)
set_option maxRecDepth 100000 in
theorem cnts_len (l : List UInt8) (k : Nat) : (cnts l k).length = k := by simp [cnts]
set_option maxRecDepth 100000 in
theorem cnts_succ (l : List UInt8) (k : Nat) : cnts l k ++ [cntI l k] = cnts l (k + 1) := by simp [cnts, List.range_succ]
set_option maxRecDepth 100000 in
theorem cnts_get (l : List UInt8) (k i : Nat) (h : i < k) : (cnts l k).getD i 0 = cntI l i := by simp [cnts, List.getD, h]

set_option maxRecDepth 100000 in
set_option maxHeartbeats 2000000 in
theorem refDecode_vers (A : Option Addr) (l : List UInt8) (c : Nat) (w : World) (hc : l.length ≤ c) (h : 44 ≤ l.length) (hr : Rd w A l) (hz : l.take 4 = tz) (h0 : ¬ (l.getD 4 0).toNat = 0) (hw : (l.getD 4 0).toNat < 50 ∨ 52 < (l.getD 4 0).toNat) :
    Calls Tryz.prog 40 #[.slice A l.length c] w fun e w' => e = .returned (.tuple #[hv 0 0 0 0 0 0 0, .int .i64 4]) ∧ Up w w' := by
  obtain ⟨b, o, rfl, hcell⟩ := hr (by omega)
  have c4 := ((Up.alloc w (.cells #[.int .i64 0, .int .i64 0, .int .i64 0, .int .i64 0, .int .i64 0, .int .i64 0, .int .i64 0] 60)).alloc' (.cells #[.int .i64 1, .int .i64 0, .int .i64 0, .int .i64 0, .int .i64 0, .int .i64 0, .int .i64 0] 60)).cell (hcell 4 (by omega))
  have V1 := convert_at (rzero w) b o 4 c (l.take 4) (by rw [List.length_take]; omega) ((hr.up (Up.alloc w _)).take 4)
  have heq : ((str (l.take 4)).toList == [84, 90, 105, 102]) = true := str_eq hz
  clear hcell hr hz
  generalize str (l.take 4) = z at *
  generalize (l.getD 4 0).toNat = x at *
  by_cases h1 : x < 50
  · go_enter Tryz.func40, Tryz.ntmps40
    go_wp2_with fail
    refine bodyPost_ret (v := .tuple #[hv 0 0 0 0 0 0 0, .int .i64 4]) (by simp [results, Tryz.results40, go_sem]) rfl ?_
    exact ⟨rfl, (Up.alloc _ _).alloc' _⟩
  · have h2 : 52 < x := by omega
    go_enter Tryz.func40, Tryz.ntmps40
    go_wp2_with fail
    refine bodyPost_ret (v := .tuple #[hv 0 0 0 0 0 0 0, .int .i64 4]) (by simp [results, Tryz.results40, go_sem]) rfl ?_
    exact ⟨rfl, (Up.alloc _ _).alloc' _⟩
end Go.Proofs.YtaljddoenjgbfaaGreat
