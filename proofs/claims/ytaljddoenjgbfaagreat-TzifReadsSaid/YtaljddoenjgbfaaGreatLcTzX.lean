/-
  Files, plain: what was told is read as it was.
-/
import Derived.Test.YtaljddoenjgbfaaGreatLcTzU
import Derived.Test.YtaljddoenjgbfaaGreatLcTzD
import Derived.Test.YtaljddoenjgbfaaGreatLcMp
namespace Go.Proofs.YtaljddoenjgbfaaGreat
open Go.ChangeShapes Go.WideShapes Go.ChangeAt Go.RowKit Lc

set_option maxRecDepth 100000 in
theorem hv_inj {a b c d e f g a' b' c' d' e' f' g' : Int} (h : hv a b c d e f g = hv a' b' c' d' e' f' g') : a = a' ∧ b = b' ∧ c = c' ∧ d = d' ∧ e = e' ∧ f = f' ∧ g = g' := by
  unfold hv at h
  simpa using h
set_option maxRecDepth 100000 in
/-- A header that is read tells its numbers. -/
theorem isB_nums {x : List UInt8} {v u s l t y c : Int} (h : IsB x v u s l t y c) (r : rightH v u s l t y c = true) : isH x = true ∧ vH x = v ∧ cntI x 0 = u ∧ cntI x 1 = s ∧ cntI x 2 = l ∧ cntI x 3 = t ∧ cntI x 4 = y ∧ cntI x 5 = c := by
  obtain ⟨a, _, b⟩ := isB_read h r
  refine ⟨a, ?_⟩
  unfold decH at b
  rw [a] at b
  exact hv_inj b
set_option maxRecDepth 100000 in
/-- Any header's bytes and a block's behind: what the reading tells. -/
theorem half_read {l : List UInt8} {v u s k t y c : Int} (h : IsB l v u s k t y c) (r : rightH v u s k t y c = true) (z : Int) : isH l = true ∧ vH l = v ∧ hB l z = decE (l.drop 44) v u s k t y c z ∧ hX l z = decX (l.drop 44) v u s k t y c z ∧ hR l z = (l.drop 44).drop (bodyI u s k t y c z).toNat := by
  obtain ⟨a, b, e0, e1, e2, e3, e4, e5⟩ := isB_nums h r
  unfold hB hX hR
  rw [b, e0, e1, e2, e3, e4, e5]
  exact ⟨a, rfl, rfl, rfl, rfl⟩
set_option maxRecDepth 100000 in
theorem part_isB (x : Blk) (z : Nat) (ver : Int) (more : List UInt8) : IsB (partB x z ver ++ more) ver x.ut.length x.sd.length x.ls.length x.js.length x.ks.length (nmB x).length := by
  unfold partB
  rw [List.append_assoc]
  exact isB_enc _ _ _ _ _ _ _ _
set_option maxRecDepth 100000 in
theorem part_drop (x : Blk) (z : Nat) (ver : Int) (more : List UInt8) : (partB x z ver ++ more).drop 44 = encL x z ++ more := by
  unfold partB
  rw [List.append_assoc, ← encB_len ver x.ut.length x.sd.length x.ls.length x.js.length x.ks.length (nmB x).length, List.drop_left]
set_option maxRecDepth 100000 in
theorem part_len (x : Blk) (z : Nat) (ver : Int) : (partB x z ver).length = 44 + (encL x z).length := by
  unfold partB; rw [List.length_append, encB_len]
set_option maxRecDepth 100000 in
/-- What was told of a block is read. -/
theorem part_read {x : Blk} {z : Nat} {ver : Int} (r : rightB x z ver = true) (h1 : 1 ≤ ver) (h4 : ver ≤ 4) (hb : BI x) (more : List UInt8) :
    isH (partB x z ver ++ more) = true ∧ vH (partB x z ver ++ more) = ver ∧ hB (partB x z ver ++ more) z = 0 ∧ hX (partB x z ver ++ more) z = x ∧ hR (partB x z ver ++ more) z = more := by
  obtain ⟨a, b, c, d, e⟩ := half_read (part_isB x z ver more) (hd_right r h1 h4) (z : Int)
  rw [part_drop] at c d e
  obtain ⟨d1, d2⟩ := dec_yes r h1 h4 hb more
  rw [d1] at c
  rw [d2] at d
  rw [enc_body, Int.toNat_natCast, List.drop_left] at e
  exact ⟨a, b, c, d, e⟩
set_option maxRecDepth 100000 in
theorem index_lf_at (s r : List UInt8) (h : s.contains 10 = false) : Go.Lib.indexByte (s ++ 10 :: r) 10 = s.length := by
  induction s with
  | nil => rfl
  | cons a s ih =>
    simp only [List.contains_cons, Bool.or_eq_false_iff] at h
    rw [List.cons_append, Go.Lib.indexByte, ih h.2, if_neg (by have := h.1; simp at this ⊢; exact fun e => this e.symm), if_neg (by simp), List.length_cons]
    omega
set_option maxRecDepth 100000 in
theorem nol_tx {s : ByteArray} (h : nol s = true) : (tx s).contains 10 = false := by unfold nol at h; simpa using h
set_option maxRecDepth 100000 in
theorem tx_len (s : ByteArray) : (tx s).length = s.size := by unfold tx; rw [Array.length_toList]; rfl
set_option maxRecDepth 100000 in
theorem str_tx (s : ByteArray) : str (tx s) = s := by apply ByteArray.ext; unfold tx str; simp
set_option maxRecDepth 100000 in
theorem foot_read {s : ByteArray} (h : nol s = true) (hl : s.size ≤ 100) : footE (10 :: (tx s ++ [10])) = 0 ∧ footT (10 :: (tx s ++ [10])) = s := by
  have e : Go.Lib.indexByte (tx s ++ [10]) 10 = (s.size : Int) := by rw [index_lf_at _ [] (nol_tx h), tx_len]
  unfold footE footT
  rw [show (10 :: (tx s ++ [10])).drop 1 = tx s ++ [10] from rfl, e]
  refine ⟨?_, ?_⟩
  · rw [if_neg (by simp), if_neg (by unfold lf1; simp), if_neg (by omega), if_neg (by rw [List.length_append, tx_len]; simp; omega)]
  · rw [Int.toNat_natCast, ← tx_len s, List.take_left]; exact str_tx s
set_option maxRecDepth 100000 in
theorem foot_parts {s : ByteArray} {v : Int} (h : rfB s v = true) : (v = 1 → s = ⟨#[]⟩) ∧ (v ≠ 1 → s.size ≤ 100 ∧ nol s = true) := by
  unfold rfB at h
  refine ⟨fun hv => ?_, fun hv => ?_⟩
  · rw [if_pos hv] at h
    have : s.size = 0 := by simpa using h
    apply ByteArray.ext
    exact Array.eq_empty_of_size_eq_zero this
  · rw [if_neg hv] at h
    simpa using h
set_option maxRecDepth 100000 in
theorem shB_bi : BI shB := by
  unfold BI
  exact ⟨fun i h => absurd h (Nat.not_lt_zero i), fun i h => absurd h (Nat.not_lt_zero i)⟩
set_option maxRecDepth 100000 in
/-- The two halves of a file of version 2 on. -/
theorem read_enc {f : Fil} (hr : rightF f = true) (hb : BI f.blk) : readE (encF f) = 0 ∧ readF (encF f) = f := by
  obtain ⟨h1, h4, hk, hf⟩ := rightF_parts hr
  obtain ⟨f1, f2⟩ := foot_parts hf
  unfold encF
  by_cases hv : f.ver = 1
  · rw [if_pos hv]
    rw [hv, show mzN 1 = 4 from rfl] at hk
    have P := part_read hk (by omega) (by omega) hb []
    rw [List.append_nil] at P
    obtain ⟨a, b, c, d, e⟩ := P
    refine ⟨?_, ?_⟩
    · unfold readE
      rw [(isH_err a).1, b, if_neg (by simp), if_neg (by simpa using c), if_pos rfl, if_pos (show hR (partB f.blk 4 1) 4 = [] from e)]
    · unfold readF
      rw [b, if_pos rfl]
      obtain ⟨ver, blk, foot⟩ := f
      simp only at hv d f1
      rw [show hX (partB blk 4 1) 4 = blk from d, hv, f1 hv]
  · rw [if_neg hv]
    rw [show mzN f.ver = 8 by unfold mzN; rw [if_neg hv]] at hk
    rw [List.append_assoc]
    obtain ⟨a, b, c, d, e⟩ := part_read (shB_right (ver := f.ver)) h1 h4 shB_bi (partB f.blk 8 f.ver ++ 10 :: (tx f.foot ++ [10]))
    obtain ⟨a2, b2, c2, d2, e2⟩ := part_read hk h1 h4 hb (10 :: (tx f.foot ++ [10]))
    obtain ⟨g1, g2⟩ := foot_read (f2 hv).2 (f2 hv).1
    refine ⟨?_, ?_⟩
    · unfold readE
      rw [(isH_err a).1, b, if_neg (by simp), if_neg (by simpa using c), if_neg hv, show hR _ 4 = _ from e]
      unfold rest2
      rw [(isH_err a2).1, b2, if_neg (by simp), if_neg (by simp), if_neg (by simpa using c2), show hR _ 8 = _ from e2, g1]
    · unfold readF
      rw [b, if_neg hv, show hR _ 4 = _ from e, b2, show hX _ 8 = _ from d2, show hR _ 8 = _ from e2, g2]
set_option maxRecDepth 100000 in
theorem td_enc {f : Fil} (hr : toldB f = true) (hb : BI f.blk) : tdE (encF f) = 0 ∧ tdF (encF f) = f := by
  unfold toldB at hr
  simp only [Bool.and_eq_true, decide_eq_true_eq] at hr
  obtain ⟨a, b⟩ := read_enc hr.1 hb
  have e : tdE (encF f) = 0 := by unfold tdE; rw [if_neg (by omega)]; exact a
  refine ⟨e, ?_⟩
  unfold tdF; rw [if_pos e]; exact b
end Go.Proofs.YtaljddoenjgbfaaGreat
