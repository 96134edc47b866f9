/-
  That what must be in any case of octets is: the law's own opening look answers true.
-/
import Derived.Test.YtdhlcnmiibfhgaaLcOctI
import Derived.Test.YtdhlcnmiibfhgaaLcOctP
import Derived.Test.YtdhlcnmiibfhgaaLcOctN
import Derived.Lib.SlBytesConst
namespace Go.Proofs.Ytdhlcnmiibfhgaa
open Go.ChangeShapes Go.WideShapes Go.ChangeAt Go.RowKit Lc

theorem Rd.mark (w : World) (l : List UInt8) (cs : Array Value) (t : TypeId) (fr : Nat × Nat) (h : cs.toList = bc l) : Rd (w.alloc (.cells cs t fr)) (some ⟨w.heap.size, 0, none⟩) l := fun h0 => by
  refine ⟨w.heap.size, 0, rfl, fun i hi => ?_⟩
  have e : cs[i]? = some (.int .u8 (l.getD i 0).toNat) := by rw [← bc_get hi, ← h]; simp
  rw [Nat.zero_add, World.cell?_alloc_mark, e]
theorem convert_const (w : World) (C : Array Value) (n c : Nat) : (convert 22 22 (.slice (some ⟨w.heap.size, 0, none⟩) n c)).run Try.prog (w.alloc (.cells C 5)) = .ok (.slice (some ⟨w.heap.size, 0, none⟩) n c) (w.alloc (.cells C 5 (C.size, C.size + 1))) :=
  Lib.run_convert_bytes_const w _ _ C n c Try.underlying22 Try.underlying5

theorem le_max {n : Nat} (h : n ≤ 4096) : n ≤ maxLen := by unfold maxLen; omega
theorem sh1 (A : Option Addr) (w : World) (h : Rd w A [255, 254]) : Calls Try.prog 9 #[.slice A 2 2, .int .i64 0, .int .i64 2] w fun e w' => e = .returned (.tuple #[.int .i64 (-2), .bool true]) ∧ w = w' := by
  have C := int_yes A [255, 254] 2 0 2 w (by decide) (le_max (by decide)) (by decide) (by decide) (by decide) h
  rw [show sgI 2 (beN ((([255, 254] : List UInt8).drop 0).take 2)) = -2 by decide +kernel] at C
  exact C
theorem sh2 (A : Option Addr) (w : World) (h : Rd w A [1, 2, 3]) : Calls Try.prog 11 #[.slice A 3 3, .int .i64 1, .int .i64 2] w fun e w' => e = .returned (.tuple #[.int .u64 515, .bool true]) ∧ w = w' := by
  have C := uint_yes A [1, 2, 3] 3 1 2 w (by decide) (le_max (by decide)) (by decide) (by decide) (by decide) h
  rw [show beN ((([1, 2, 3] : List UInt8).drop 1).take 2) = 515 by decide +kernel] at C
  exact C
theorem sh3 (A : Option Addr) (w : World) (h : Rd w A [97, 98, 0, 99]) : Calls Try.prog 10 #[.slice A 4 4, .int .i64 1] w fun e w' => e = .returned (.tuple #[.string ⟨#[98]⟩, .bool true]) ∧ w = w' :=
  name_yes A [97, 98, 0, 99] 4 1 1 w (by decide) (le_max (by decide)) (by decide) h (by decide +kernel)
theorem sh4 (A : Option Addr) (w : World) (h : Rd w A [97, 98]) : Calls Try.prog 10 #[.slice A 2 2, .int .i64 0] w fun e w' => e = .returned (.tuple #[.string ByteArray.empty, .bool false]) ∧ w = w' :=
  name_none A [97, 98] 2 0 w (by decide) (by decide) h (by decide +kernel)
theorem sh5 (w : World) : Calls Try.prog 8 #[.slice none 0 0, .int .i64 2, .int .u64 258] w fun e w' => ∃ v', e = .returned v' ∧ Ow w' w.heap.size v' [1, 2] ∧ Up w w' := by
  have C := put_any none [] 0 2 258 w (by decide) (by decide) (by decide) (Rd.nil _ _)
  rw [show [] ++ beB (putM 2) (258 : Int).toNat = [1, 2] by decide +kernel] at C
  exact C

set_option maxHeartbeats 1000000 in
set_option maxRecDepth 100000 in
theorem shown_any (w : World) : Calls Try.prog 7 #[] w fun e w' => e = .returned (.bool true) ∧ Up w w' := by
  have k := convert_const
  go_enter Try.func7, Try.ntmps7
  go_wp2_with fail
  refine (sh1 _ _ (Rd.new w [255, 254] #[.int .u8 255, .int .u8 254] 5 (by simp [bc]))).mono ?_; rintro e w' ⟨rfl, rfl⟩
  have U1 := Lib.hid (Up.alloc w (.cells #[.int .u8 255, .int .u8 254] 5))
  generalize w.alloc (.cells #[.int .u8 255, .int .u8 254] 5) = w1 at U1 ⊢
  go_wp2_with fail
  refine (sh2 _ _ (Rd.new w1 [1, 2, 3] #[.int .u8 1, .int .u8 2, .int .u8 3] 5 (by simp [bc]))).mono ?_; rintro e w' ⟨rfl, rfl⟩
  have U2 := Lib.hid (U1.out.alloc' (.cells #[.int .u8 1, .int .u8 2, .int .u8 3] 5))
  clear U1
  generalize w1.alloc (.cells #[.int .u8 1, .int .u8 2, .int .u8 3] 5) = w2 at U2 ⊢
  go_wp2_with fail
  refine (sh3 _ _ (Rd.mark w2 [97, 98, 0, 99] #[.int .u8 97, .int .u8 98, .int .u8 0, .int .u8 99] 5 (4, 5) (by simp [bc]))).mono ?_; rintro e w' ⟨rfl, rfl⟩
  have U3 := Lib.hid (U2.out.alloc' (.cells #[.int .u8 97, .int .u8 98, .int .u8 0, .int .u8 99] 5 (4, 5)))
  clear U2
  generalize w2.alloc (.cells #[.int .u8 97, .int .u8 98, .int .u8 0, .int .u8 99] 5 (4, 5)) = w3 at U3 ⊢
  go_wp2_with fail
  refine (sh4 _ _ (Rd.mark w3 [97, 98] #[.int .u8 97, .int .u8 98] 5 (2, 3) (by simp [bc]))).mono ?_; rintro e w' ⟨rfl, rfl⟩
  have U4 := Lib.hid (U3.out.alloc' (.cells #[.int .u8 97, .int .u8 98] 5 (2, 3)))
  clear U3
  generalize w3.alloc (.cells #[.int .u8 97, .int .u8 98] 5 (2, 3)) = w4 at U4 ⊢
  go_wp2_with fail
  refine (sh5 _).mono ?_
  rintro e w5 ⟨v, rfl, ho, hu⟩
  have U5 := Lib.hid (U4.out.trans hu)
  clear U4 hu
  obtain ⟨A, c, rfl, _, _, hr, _⟩ := ho.form
  obtain ⟨b, o, rfl, _⟩ := hr (by decide)
  have V : (convert 22 9 (.slice (some ⟨b, o, none⟩) 2 c)).run Try.prog w5 = .ok (.string ⟨#[1, 2]⟩) w5 := convert_at w5 b o 2 c [1, 2] rfl hr
  clear hr ho
  go_wp2
  go_ret
  exact ⟨rfl, U5.out⟩
end Go.Proofs.Ytdhlcnmiibfhgaa
