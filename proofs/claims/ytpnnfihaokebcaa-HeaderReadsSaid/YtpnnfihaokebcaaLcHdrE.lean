/-
  The program's header: Encode, in plain words.
-/
import Derived.Test.YtpnnfihaokebcaaLcHdrR
import Derived.Test.YtpnnfihaokebcaaLcOctP
import Derived.Test.YtpnnfihaokebcaaLcRow
import Derived.Test.YtpnnfihaokebcaaLcRep
import Derived.Lib.QuietBelow
namespace Go.Proofs.Ytpnnfihaokebcaa
open Go.ChangeShapes Go.WideShapes Go.ChangeAt Go.RowKit Go.Sort Lc

set_option maxHeartbeats 400000 in
theorem encode_no (v u s l t y c : Int) (w : World) (r : rightH v u s l t y c = false) : Calls Try.prog 12 #[hv v u s l t y c] w fun e w' => e = .returned (.tuple #[.slice none 0 0, .int .i64 1]) ∧ Up w w' := by
  have R := fun w => hright_any v u s l t y c w
  rw [r] at R; clear r
  go_enter Try.func12, Try.ntmps12
  go_wp2_with fail
  refine (R _).mono ?_; rintro e w1 ⟨rfl, u1⟩
  go_wp2_with fail
  go_ret2
  exact ⟨rfl, (Up.alloc _ _).trans u1⟩

/-- The six numbers as bytes. -/
def numB : List Int → List UInt8
  | [] => []
  | n :: r => beB 4 n.toNat ++ numB r
/-- The first twenty bytes. -/
def frontB (v : Int) : List UInt8 := [84, 90, 105, 102, markB v, 0, 0, 0, 0, 0, 0, 0, 0, 0, 0, 0, 0, 0, 0, 0]
/-- A header's bytes. -/
def encB (v u s l t y c : Int) : List UInt8 := frontB v ++ numB [u, s, l, t, y, c]
theorem numB_append (a b : List Int) : numB (a ++ b) = numB a ++ numB b := by
  induction a with
  | nil => rfl
  | cons x a ih => show beB 4 x.toNat ++ numB (a ++ b) = _; rw [ih, ← List.append_assoc]; rfl
theorem numB_len (a : List Int) : (numB a).length = 4 * a.length := by
  induction a with
  | nil => rfl
  | cons x a ih => show (beB 4 x.toNat ++ numB a).length = _; rw [List.length_append, beB_len, ih, List.length_cons]; omega
theorem encB_len (v u s l t y c : Int) : (encB v u s l t y c).length = 44 := by
  unfold encB; rw [List.length_append, numB_len]; rfl

theorem rep15 (w : World) : Calls Try.prog 20 #[.string ⟨#[0]⟩, .int .i64 15] w fun e w' => e = .returned (.string ⟨#[0, 0, 0, 0, 0, 0, 0, 0, 0, 0, 0, 0, 0, 0, 0]⟩) ∧ Up w w' := by
  have C := repeat_any ⟨#[0]⟩ 15 w (by decide) (by decide)
  exact C

/-- Put by four bytes, of a number of a right header. -/
theorem putN (A : Option Addr) (L : List UInt8) (p c : Nat) (n : Int) (w : World) (hp : L.length = p) (hL : p ≤ 44) (n0 : 0 ≤ n) (hr : Rd w A L) :
    Calls Try.prog 21 #[.slice A p c, .int .i64 4, .int .u64 n] w fun e w' => ∃ v', e = .returned v' ∧ Ow w' w.heap.size v' (L ++ beB 4 n.toNat) ∧ Up w w' := by
  subst hp
  exact put_any A L c 4 n w (by omega) (by decide) n0 hr
theorem numB_take (x0 x1 x2 x3 x4 x5 : Int) (k : Nat) (hk : k < 6) : numB ([x0, x1, x2, x3, x4, x5].take (k + 1)) = numB ([x0, x1, x2, x3, x4, x5].take k) ++ beB 4 ([x0, x1, x2, x3, x4, x5].getD k 0).toNat := by
  rw [List.take_succ_eq_append_getElem (by simpa using hk), numB_append]
  congr 1
  show beB 4 _ ++ [] = _
  rw [List.append_nil]
  simp [List.getD, hk]
/-- The row behind k numbers. -/
def rowN (v u s l t y c : Int) (k : Nat) : List UInt8 := frontB v ++ numB ([u, s, l, t, y, c].take k)
theorem rowN_len (v u s l t y c : Int) (k : Nat) (h : k ≤ 6) : (rowN v u s l t y c k).length = 20 + 4 * k := by
  unfold rowN; rw [List.length_append, numB_len, List.length_take]
  show 20 + 4 * min k 6 = _
  omega
theorem rowN_0 (v u s l t y c : Int) : rowN v u s l t y c 0 = frontB v := by
  unfold rowN; rw [List.take_zero]; exact List.append_nil _
theorem rowN_6 (v u s l t y c : Int) : rowN v u s l t y c 6 = encB v u s l t y c := rfl
theorem rowN_succ (v u s l t y c : Int) (k : Nat) (hk : k < 6) : rowN v u s l t y c k ++ beB 4 ([u, s, l, t, y, c].getD k 0).toNat = rowN v u s l t y c (k + 1) := by
  unfold rowN; rw [numB_take _ _ _ _ _ _ k hk, List.append_assoc]

/-- The state of the row: so many bytes, from A on; the call's own, once a number is put. -/
def St (w wr : World) (L : List UInt8) (k : Nat) (x : Value) : Prop := ∃ A c, x = .slice A L.length c ∧ Rd wr A L ∧ (0 < k → Ow wr w.heap.size x L)

set_option maxHeartbeats 2000000 in
theorem encode_yes (v u s l t y c : Int) (w : World) (r : rightH v u s l t y c = true) : Calls Try.prog 12 #[hv v u s l t y c] w fun e w' => ∃ a, e = .returned (.tuple #[a, .int .i64 0]) ∧ Ow w' w.heap.size a (encB v u s l t y c) ∧ Up w w' := by
  have R := fun w => hright_any v u s l t y c w
  have b := rightH_true.1 r
  have M := fun w => mark_any v w b.1 b.2.1
  have OS := of_string
  rw [r] at R; clear r
  obtain ⟨mb, hmb⟩ : ∃ m, m = markB v := ⟨_, rfl⟩
  rw [← hmb] at M
  have FR : Hid (frontB v = [84, 90, 105, 102, mb, 0, 0, 0, 0, 0, 0, 0, 0, 0, 0, 0, 0, 0, 0, 0]) := by rw [hmb]; rfl
  clear hmb
  go_enter Try.func12, Try.ntmps12
  go_wp2_with fail
  have x0 := Lib.hid (HBox.new w v u s l t y c 23)
  refine (R _).mono ?_; rintro e w1 ⟨rfl, u1⟩
  have U1 := Lib.hid ((Up.alloc w (.cells #[.int .i64 v, .int .i64 u, .int .i64 s, .int .i64 l, .int .i64 t, .int .i64 y, .int .i64 c] 23)).trans u1)
  have X1 := Lib.hid (HBox.up x0.out u1)
  clear u1 x0
  obtain ⟨c0, c1, c2, c3, c4, c5, c6⟩ := X1.out
  go_wp2_with fail
  refine (M _).mono ?_; rintro e w' ⟨rfl, rfl⟩
  clear c0 c1 c2 c3 c4 c5 c6
  go_wp2_with fail
  refine (rep15 _).mono ?_; rintro e w2 ⟨rfl, u2⟩
  have U2 := Lib.hid (U1.out.trans u2)
  have X2 := Lib.hid (HBox.up X1.out u2)
  clear u2 U1 X1
  obtain ⟨W, hW⟩ : ∃ W, W = Lib.bytesWorld w2 5 (({ data := #[84, 90, 105, 102] } : ByteArray) ++ { data := #[mb] } ++ { data := #[0, 0, 0, 0, 0, 0, 0, 0, 0, 0, 0, 0, 0, 0, 0] }) := ⟨_, rfl⟩
  have X3 : HBox W w.heap.size v u s l t y c := by rw [hW]; exact X2.out.up (Up.bytes _ _)
  have U3 : Hid (Up w W) := by rw [hW]; exact U2.out.trans (Up.bytes _ _)
  have R3 : Hid (Rd W (some ⟨w2.heap.size, 0, none⟩) (frontB v)) := by
    rw [hW, FR.out]; exact (Bk.bytes w2 _).rd
  obtain ⟨c0, c1, c2, c3, c4, c5, c6⟩ := X3
  rw [hW] at c0 c1 c2 c3 c4 c5 c6
  go_wp2_with fail
  clear c0 c1 c2 c3 c4 c5 c6 OS M R
  rw [← hW]
  clear hW
  generalize grownCap w2 20 0 5 = cap
  obtain ⟨L, hL⟩ : ∃ L : Nat → List UInt8, L = rowN v u s l t y c := ⟨_, rfl⟩
  have LL : Hid (∀ k, k ≤ 6 → (L k).length = 20 + 4 * k) := by rw [hL]; exact rowN_len v u s l t y c
  have LS : Hid (∀ k, k < 6 → L k ++ beB 4 ([u, s, l, t, y, c].getD k 0).toNat = L (k + 1)) := by rw [hL]; exact rowN_succ v u s l t y c
  have L6 : Hid (L 6 = encB v u s l t y c) := by rw [hL]; rfl
  have R3 : Hid (Rd W (some ⟨w2.heap.size, 0, none⟩) (L 0)) := by rw [hL, rowN_0]; exact R3.out
  clear hL FR
  have PP : Hid (∀ k, k < 6 → ∀ (n : Int) (A : Option Addr) (p cp : Nat) (wr : World), (20 + 4 * k = p) → n = [u, s, l, t, y, c].getD k 0 → 0 ≤ n → Rd wr A (L k) → Calls Try.prog 21 #[.slice A p cp, .int .i64 4, .int .u64 n] wr fun e w' => ∃ v', e = .returned v' ∧ Ow w' wr.heap.size v' (L (k + 1)) ∧ Up wr w') := by
    intro k hk n A p cp wr hp hn h0 hr
    have := putN A (L k) p cp n wr (by rw [LL.out k (by omega)]; exact hp) (by omega) h0 hr
    rw [hn, LS.out k hk] at this
    rw [hn]; exact this
  have i0 : ∀ w : World, (Instr.index 46 (.agg #[.int .i64 u, .int .i64 s, .int .i64 l, .int .i64 t, .int .i64 y, .int .i64 c]) (.int .i64 0)).run Try.prog w = .ok (.int .i64 u) w := fun _ => by kernel_rfl
  have i1 : ∀ w : World, (Instr.index 46 (.agg #[.int .i64 u, .int .i64 s, .int .i64 l, .int .i64 t, .int .i64 y, .int .i64 c]) (.int .i64 1)).run Try.prog w = .ok (.int .i64 s) w := fun _ => by kernel_rfl
  have i2 : ∀ w : World, (Instr.index 46 (.agg #[.int .i64 u, .int .i64 s, .int .i64 l, .int .i64 t, .int .i64 y, .int .i64 c]) (.int .i64 2)).run Try.prog w = .ok (.int .i64 l) w := fun _ => by kernel_rfl
  have i3 : ∀ w : World, (Instr.index 46 (.agg #[.int .i64 u, .int .i64 s, .int .i64 l, .int .i64 t, .int .i64 y, .int .i64 c]) (.int .i64 3)).run Try.prog w = .ok (.int .i64 t) w := fun _ => by kernel_rfl
  have i4 : ∀ w : World, (Instr.index 46 (.agg #[.int .i64 u, .int .i64 s, .int .i64 l, .int .i64 t, .int .i64 y, .int .i64 c]) (.int .i64 4)).run Try.prog w = .ok (.int .i64 y) w := fun _ => by kernel_rfl
  have i5 : ∀ w : World, (Instr.index 46 (.agg #[.int .i64 u, .int .i64 s, .int .i64 l, .int .i64 t, .int .i64 y, .int .i64 c]) (.int .i64 5)).run Try.prog w = .ok (.int .i64 c) w := fun _ => by kernel_rfl
  have hu0 : 0 ≤ u ∧ u ≤ 256 := by omega
  have hs0 : 0 ≤ s ∧ s ≤ 256 := by omega
  obtain ⟨_, _, y0, y1, d0, d1, t0, t1, l0, l1, _, _⟩ := b
  obtain ⟨u0, u1⟩ := hu0; obtain ⟨s0, s1⟩ := hs0
  go_loopw [4, 30] (fun x i wr => ∃ k : Nat, k ≤ 6 ∧ i = .int .i64 k ∧ Hid (St w wr (L k) k x) ∧ Hid (Up w wr)) (fun _ i _ => (7 - intOf i).toNat)
  case atStart => exact ⟨0, by omega, rfl, ⟨_, _, by rw [LL.out 0 (by omega)], R3.out, fun h => absurd h (by omega)⟩, U3⟩
  case round =>
    obtain ⟨k, hk, rfl, ⟨A, cp, rfl, hr, hO⟩, U⟩ := hrel
    have HR := Lib.hid hr; have HO := Lib.hid hO
    clear hr hO R3 U3
    rw [LL.out k hk]
    have k7 : k = 0 ∨ k = 1 ∨ k = 2 ∨ k = 3 ∨ k = 4 ∨ k = 5 ∨ k = 6 := by omega
    rcases k7 with rfl | rfl | rfl | rfl | rfl | rfl | rfl
    · go_wp2_with fail
      refine (PP.out 0 (by omega) u _ 20 _ _ rfl rfl (by omega) HR.out).mono ?_; rintro e w4 ⟨v', rfl, ho, hu⟩
      go_wp2_with fail
      go_roundw
      case rel =>
        refine ⟨1, by omega, by go_num, ?_, U.out.trans hu⟩
        have ho := ho.base U.out.size
        obtain ⟨A', c', rfl, _, _, hr, _⟩ := ho.form
        exact ⟨A', c', rfl, hr, fun _ => ho⟩
      case measure => simp [intOf]
    · go_wp2_with fail
      refine (PP.out 1 (by omega) s _ 24 _ _ rfl rfl (by omega) HR.out).mono ?_; rintro e w4 ⟨v', rfl, ho, hu⟩
      go_wp2_with fail
      go_roundw
      case rel =>
        refine ⟨2, by omega, by go_num, ?_, U.out.trans hu⟩
        have ho := ho.base U.out.size
        obtain ⟨A', c', rfl, _, _, hr, _⟩ := ho.form
        exact ⟨A', c', rfl, hr, fun _ => ho⟩
      case measure => simp [intOf]
    · go_wp2_with fail
      refine (PP.out 2 (by omega) l _ 28 _ _ rfl rfl (by omega) HR.out).mono ?_; rintro e w4 ⟨v', rfl, ho, hu⟩
      go_wp2_with fail
      go_roundw
      case rel =>
        refine ⟨3, by omega, by go_num, ?_, U.out.trans hu⟩
        have ho := ho.base U.out.size
        obtain ⟨A', c', rfl, _, _, hr, _⟩ := ho.form
        exact ⟨A', c', rfl, hr, fun _ => ho⟩
      case measure => simp [intOf]
    · go_wp2_with fail
      refine (PP.out 3 (by omega) t _ 32 _ _ rfl rfl (by omega) HR.out).mono ?_; rintro e w4 ⟨v', rfl, ho, hu⟩
      go_wp2_with fail
      go_roundw
      case rel =>
        refine ⟨4, by omega, by go_num, ?_, U.out.trans hu⟩
        have ho := ho.base U.out.size
        obtain ⟨A', c', rfl, _, _, hr, _⟩ := ho.form
        exact ⟨A', c', rfl, hr, fun _ => ho⟩
      case measure => simp [intOf]
    · go_wp2_with fail
      refine (PP.out 4 (by omega) y _ 36 _ _ rfl rfl (by omega) HR.out).mono ?_; rintro e w4 ⟨v', rfl, ho, hu⟩
      go_wp2_with fail
      go_roundw
      case rel =>
        refine ⟨5, by omega, by go_num, ?_, U.out.trans hu⟩
        have ho := ho.base U.out.size
        obtain ⟨A', c', rfl, _, _, hr, _⟩ := ho.form
        exact ⟨A', c', rfl, hr, fun _ => ho⟩
      case measure => simp [intOf]
    · go_wp2_with fail
      refine (PP.out 5 (by omega) c _ 40 _ _ rfl rfl (by omega) HR.out).mono ?_; rintro e w4 ⟨v', rfl, ho, hu⟩
      go_wp2_with fail
      go_roundw
      case rel =>
        refine ⟨6, by omega, by go_num, ?_, U.out.trans hu⟩
        have ho := ho.base U.out.size
        obtain ⟨A', c', rfl, _, _, hr, _⟩ := ho.form
        exact ⟨A', c', rfl, hr, fun _ => ho⟩
      case measure => simp [intOf]
    · go_wp2_with fail
      go_ret2
      have ho := HO.out (by omega)
      rw [LL.out 6 (by omega), L6.out] at ho
      exact ⟨_, rfl, ho, U.out⟩
end Go.Proofs.Ytpnnfihaokebcaa
