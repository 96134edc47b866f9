/-
  What was told is read: a header's bytes, whatever stands in the fifteen, and behind. Plain.
-/
import Derived.Test.YtpnnfihaokebcaaLcHdrD
import Derived.Test.YtpnnfihaokebcaaLcHdrE
namespace Go.Proofs.Ytpnnfihaokebcaa
open Go.ChangeShapes Go.WideShapes Go.ChangeAt Go.RowKit Lc

theorem numB_at : ∀ (L : List Int) (q : List UInt8) (k : Nat), k < L.length → ((numB L ++ q).drop (4 * k)).take 4 = beB 4 (L.getD k 0).toNat
  | [], _, k, h => absurd h (by simp)
  | x :: L, q, 0, _ => by
    show (beB 4 x.toNat ++ numB L ++ q).take 4 = _
    rw [List.append_assoc, List.take_append_of_le_length (by rw [beB_len]; omega), List.take_of_length_le (by rw [beB_len]; omega)]
    rfl
  | x :: L, q, k + 1, h => by
    have e : (beB 4 x.toNat ++ numB L ++ q).drop (4 * (k + 1)) = (numB L ++ q).drop (4 * k) := by
      rw [List.append_assoc, show 4 * (k + 1) = (beB 4 x.toNat).length + 4 * k by rw [beB_len]; omega, ← List.drop_drop, List.drop_left]
    show ((beB 4 x.toNat ++ numB L ++ q).drop (4 * (k + 1))).take 4 = _
    rw [e, numB_at L q k (by simpa using h)]
    rfl
/-- Bytes that begin with a right header's. -/
def IsB (x : List UInt8) (v u s l t y c : Int) : Prop := ∃ p q : List UInt8, p.length = 15 ∧ x = tz ++ (markB v :: p) ++ (numB [u, s, l, t, y, c] ++ q)
theorem isB_drop {x : List UInt8} {v u s l t y c : Int} (h : IsB x v u s l t y c) : ∃ q, x.drop 20 = numB [u, s, l, t, y, c] ++ q := by
  obtain ⟨p, q, hp, rfl⟩ := h
  refine ⟨q, ?_⟩
  rw [show 20 = (tz ++ (markB v :: p)).length by simp [tz, hp], List.drop_left]
theorem isB_cnt {x : List UInt8} {v u s l t y c : Int} (h : IsB x v u s l t y c) (k : Nat) (hk : k < 6) (h0 : 0 ≤ [u, s, l, t, y, c].getD k 0) (h1 : [u, s, l, t, y, c].getD k 0 < 4294967296) : cntI x k = [u, s, l, t, y, c].getD k 0 := by
  obtain ⟨q, e⟩ := isB_drop h
  unfold cntI
  rw [← List.drop_drop, e, numB_at _ q k (by simpa using hk), beN_beB]
  generalize [u, s, l, t, y, c].getD k 0 = n at *
  have : n.toNat < 4294967296 := by omega
  rw [show (256 : Nat) ^ 4 = 4294967296 from rfl, Nat.mod_eq_of_lt this]
  omega
theorem isB_len {x : List UInt8} {v u s l t y c : Int} (h : IsB x v u s l t y c) : 44 ≤ x.length := by
  obtain ⟨p, q, hp, rfl⟩ := h
  have : (numB [u, s, l, t, y, c]).length = 24 := numB_len _
  rw [List.length_append, List.length_append, List.length_append, List.length_cons, hp, this]
  show 44 ≤ 4 + (15 + 1) + (24 + q.length)
  omega
theorem isB_read {x : List UInt8} {v u s l t y c : Int} (h : IsB x v u s l t y c) (r : rightH v u s l t y c = true) : isH x = true ∧ errH x = 0 ∧ decH x = hv v u s l t y c := by
  have b := rightH_true.1 r
  have hlen := isB_len h
  have c0 : cntI x 0 = u := isB_cnt h 0 (by omega) (by show 0 ≤ u; omega) (by show u < _; omega)
  have c1 : cntI x 1 = s := isB_cnt h 1 (by omega) (by show 0 ≤ s; omega) (by show s < _; omega)
  have c2 : cntI x 2 = l := isB_cnt h 2 (by omega) (by show 0 ≤ l; omega) (by show l < _; omega)
  have c3 : cntI x 3 = t := isB_cnt h 3 (by omega) (by show 0 ≤ t; omega) (by show t < _; omega)
  have c4 : cntI x 4 = y := isB_cnt h 4 (by omega) (by show 0 ≤ y; omega) (by show y < _; omega)
  have c5 : cntI x 5 = c := isB_cnt h 5 (by omega) (by show 0 ≤ c; omega) (by show c < _; omega)
  have hv4 : versI (x.getD 4 0) = v := by
    obtain ⟨p, q, hp, rfl⟩ := h
    exact versI_mark b.1 b.2.1
  have ht : x.take 4 = tz := by
    obtain ⟨p, q, hp, rfl⟩ := h
    rfl
  have hraw : rawB x = true := by unfold rawB; rw [hv4, c0, c1, c2, c3, c4, c5]; exact r
  have hi : isH x = true := by rw [isH_raw hlen ht]; exact hraw
  refine ⟨hi, ?_, ?_⟩
  · unfold errH; rw [if_neg (by omega), hi]; rfl
  · unfold decH; rw [hi, hv4, c0, c1, c2, c3, c4, c5]; rfl
theorem isB_enc (v u s l t y c : Int) (q : List UInt8) : IsB (encB v u s l t y c ++ q) v u s l t y c :=
  ⟨List.replicate 15 0, q, rfl, by unfold encB; rw [List.append_assoc]; rfl⟩
end Go.Proofs.Ytpnnfihaokebcaa
