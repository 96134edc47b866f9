/-
  One field of a boxed civil time is stored; a number's lowest sixteen bits.
-/
import Derived.Test.YtdmobmblkbmkhaaDoorLcFree
import Derived.Laws.BitsLemmas
namespace Go.Proofs.YtdmobmblkbmkhaaDoor
open Go.ChangeShapes Go.WideShapes Go.ChangeAt Go.RowKit Lc

theorem Box.set1 {w : World} {b : Nat} {y m d h i s : Int} (x : Box w b y m d h i s) (v : Int) : Box (w.setCell ⟨b, 1, none⟩ (.int .i64 v)) b y v d h i s := by
  obtain ⟨c0, c1, c2, c3, c4, c5⟩ := x
  unfold Box; refine ⟨?_, ?_, ?_, ?_, ?_, ?_⟩ <;> simp [go_sem, c0, c1, c2, c3, c4, c5]
theorem Box.set2 {w : World} {b : Nat} {y m d h i s : Int} (x : Box w b y m d h i s) (v : Int) : Box (w.setCell ⟨b, 2, none⟩ (.int .i64 v)) b y m v h i s := by
  obtain ⟨c0, c1, c2, c3, c4, c5⟩ := x
  unfold Box; refine ⟨?_, ?_, ?_, ?_, ?_, ?_⟩ <;> simp [go_sem, c0, c1, c2, c3, c4, c5]
theorem Box.set3 {w : World} {b : Nat} {y m d h i s : Int} (x : Box w b y m d h i s) (v : Int) : Box (w.setCell ⟨b, 3, none⟩ (.int .i64 v)) b y m d v i s := by
  obtain ⟨c0, c1, c2, c3, c4, c5⟩ := x
  unfold Box; refine ⟨?_, ?_, ?_, ?_, ?_, ?_⟩ <;> simp [go_sem, c0, c1, c2, c3, c4, c5]
theorem Box.set4 {w : World} {b : Nat} {y m d h i s : Int} (x : Box w b y m d h i s) (v : Int) : Box (w.setCell ⟨b, 4, none⟩ (.int .i64 v)) b y m d h v s := by
  obtain ⟨c0, c1, c2, c3, c4, c5⟩ := x
  unfold Box; refine ⟨?_, ?_, ?_, ?_, ?_, ?_⟩ <;> simp [go_sem, c0, c1, c2, c3, c4, c5]
theorem Box.set5 {w : World} {b : Nat} {y m d h i s : Int} (x : Box w b y m d h i s) (v : Int) : Box (w.setCell ⟨b, 5, none⟩ (.int .i64 v)) b y m d h i v := by
  obtain ⟨c0, c1, c2, c3, c4, c5⟩ := x
  unfold Box; refine ⟨?_, ?_, ?_, ?_, ?_, ?_⟩ <;> simp [go_sem, c0, c1, c2, c3, c4, c5]

theorem mask16 (a : Int) : ∃ n : Nat, n < 65536 ∧ bits .and .i64 a 65535 = n := by
  refine ⟨(BitVec.ofInt 64 a).toNat &&& 65535, ?_, ?_⟩
  · have := Nat.and_le_right (n := (BitVec.ofInt 64 a).toNat) (m := 65535); omega
  · have l := Nat.and_le_right (n := (BitVec.ofInt 64 a).toNat) (m := 65535)
    show IntKind.i64.wrap (((BitVec.ofInt 64 a &&& BitVec.ofInt 64 65535).toNat : Nat) : Int) = _
    rw [BitVec.toNat_and, show (BitVec.ofInt 64 65535).toNat = 65535 from by decide]
    exact IntWalk.i64_in _ (by omega)
theorem mask5 (a : Int) : (bits .and .i64 a 65535).tmod 5 = 0 ∨ (bits .and .i64 a 65535).tmod 5 = 1 ∨ (bits .and .i64 a 65535).tmod 5 = 2 ∨ (bits .and .i64 a 65535).tmod 5 = 3 ∨ (bits .and .i64 a 65535).tmod 5 = 4 := by
  obtain ⟨n, hn, e⟩ := mask16 a
  rw [e, Int.tmod_eq_emod_of_nonneg (by omega)]; omega

theorem not_right {y m d h i s : Int} (k : m < 1 ∨ 12 < m ∨ d < 1 ∨ 31 < d ∨ h < 0 ∨ 23 < h ∨ i < 0 ∨ 59 < i ∨ s < 0 ∨ 59 < s) : rightC y m d h i s = false := by
  cases q : rightC y m d h i s with
  | false => rfl
  | true =>
    exfalso
    obtain ⟨rb, h1, h2, i1, i2, s1, s2⟩ := rightC_true.1 q
    have a := right_month rb
    have b := right_true.1 rb
    have c := (len_bd y m).2
    omega
end Go.Proofs.YtdmobmblkbmkhaaDoor
