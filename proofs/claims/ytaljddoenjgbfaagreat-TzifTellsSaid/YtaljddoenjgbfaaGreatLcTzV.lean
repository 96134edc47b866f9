/-
  Files, plain: other versions; files that are cut are short; bytes that are cut off, or have one more, are none; any right first block.
-/
import Derived.Test.YtaljddoenjgbfaaGreatLcTzY
import Derived.Test.YtaljddoenjgbfaaGreatLcBkW
import Derived.Test.YtaljddoenjgbfaaGreatLcFv
namespace Go.Proofs.YtaljddoenjgbfaaGreat
open Go.ChangeShapes Go.WideShapes Go.ChangeAt Go.RowKit Lc

set_option maxRecDepth 100000 in
theorem rl_ver {ls : List Lep} {z a b : Int} (h : rlB ls z a = true) (ha : a ≠ 4) : rlB ls z b = true := by
  unfold rlB at h ⊢
  simp only [Bool.and_eq_true, allB_true] at h ⊢
  refine ⟨h.1, fun i hi => ?_⟩
  have := h.2 i hi
  unfold rlOne idleB at this ⊢
  rw [decide_eq_false ha] at this
  simp only [Bool.false_and, Bool.or_false, Bool.and_eq_true, Bool.or_eq_true] at this ⊢
  exact ⟨this.1, Or.inl this.2⟩
set_option maxRecDepth 100000 in
/-- What is right in a version below 4 is so in each. -/
theorem right_ver {x : Blk} {z a b : Int} (h : rightB x z a = true) (ha : a ≠ 4) : rightB x z b = true := by
  unfold rightB at h ⊢
  simp only [Bool.and_eq_true] at h ⊢
  exact ⟨h.1, rl_ver h.2 ha⟩
set_option maxRecDepth 100000 in
theorem rightF_ver {x : Blk} {s : ByteArray} {v : Int} (h : rightF ⟨2, x, s⟩ = true) (h1 : 2 ≤ v) (h4 : v ≤ 4) : rightF ⟨v, x, s⟩ = true := by
  have ev : mz v = 8 := by unfold mz; rw [if_neg (by omega)]
  unfold rightF at h ⊢
  simp only [Bool.and_eq_true, decide_eq_true_eq] at h ⊢
  rw [ev]
  refine ⟨⟨⟨by omega, h4⟩, right_ver h.1.2 (by decide)⟩, ?_⟩
  have hf := h.2
  unfold rfB at hf ⊢
  rw [if_neg (by decide)] at hf
  rw [if_neg (by omega)]
  exact hf
set_option maxRecDepth 100000 in
theorem rightF_one (x : Blk) (s : ByteArray) : rightF ⟨1, x, s⟩ = (decide (s.size = 0) && rightB x 4 1) := by
  unfold rightF rfB mz
  simp only [if_true]
  rw [Bool.and_comm (decide (s.size = 0))]
  rfl

/-- A file that is not great. -/
def small (f : Fil) : Prop := f.blk.ks.length ≤ 40 ∧ f.blk.js.length ≤ 100 ∧ f.blk.ls.length ≤ 50 ∧ f.blk.sd.length ≤ 40 ∧ f.blk.ut.length ≤ 40 ∧ f.foot.size ≤ 110
set_option maxRecDepth 100000 in
theorem cut110_size (s : ByteArray) : (cut110 s).size ≤ 110 := by
  unfold cut110
  rw [ByteArray.size_extract]; omega
set_option maxRecDepth 100000 in
theorem cutF_small (f : Fil) : small (cutF f) := by
  obtain ⟨a, b, c, d, e⟩ := cut_len f.blk
  exact ⟨a, b, c, d, e, cut110_size _⟩
set_option maxRecDepth 100000 in
theorem encL_small {x : Blk} {z : Nat} {ver : Int} (hz : z = 4 ∨ z = 8) (r : rightB x z ver = true) (h : x.ks.length ≤ 40 ∧ x.js.length ≤ 100 ∧ x.ls.length ≤ 50 ∧ x.sd.length ≤ 40 ∧ x.ut.length ≤ 40) : (encL x z).length ≤ 2400 := by
  obtain ⟨_, hk, _⟩ := right_parts r
  have p3 : (nmB x).length ≤ 256 := (rk_parts hk).2.2.2
  rw [encL_len]
  rcases hz with rfl | rfl <;> omega
set_option maxRecDepth 100000 in
theorem enc_small {f : Fil} (h : small f) (hr : rightF f = true) : (encF f).length ≤ 3000 := by
  obtain ⟨a, b, c, d, e, s⟩ := h
  obtain ⟨_, _, hk, _⟩ := rightF_parts hr
  unfold encF
  by_cases hv : f.ver = 1
  · rw [if_pos hv]
    rw [hv, show mzN 1 = 4 from rfl] at hk
    have := encL_small (Or.inl rfl) hk ⟨a, b, c, d, e⟩
    rw [part_len]; omega
  · rw [if_neg hv]
    rw [show mzN f.ver = 8 by unfold mzN; rw [if_neg hv]] at hk
    have := encL_small (Or.inr rfl) hk ⟨a, b, c, d, e⟩
    rw [List.length_append, List.length_append, part_len, part_len, shB_len', List.length_cons, List.length_append, tx_len]
    simp; omega
set_option maxRecDepth 100000 in
theorem told_small {f : Fil} (h : small f) : toldB f = rightF f := by
  unfold toldB
  cases hr : rightF f
  · rfl
  · rw [decide_eq_true (by have := enc_small h hr; omega)]; rfl
set_option maxRecDepth 100000 in
theorem told_right {f : Fil} (h : toldB f = true) : rightF f = true ∧ (encF f).length ≤ 100000 := by
  unfold toldB at h
  simpa using h

set_option maxRecDepth 100000 in
/-- A part that is cut off. -/
theorem part_cut {x : Blk} {z : Nat} {ver : Int} (r : rightB x z ver = true) (h1 : 1 ≤ ver) (h4 : ver ≤ 4) (more : List UInt8) {n : Nat} (h : n < (partB x z ver).length) :
    errH ((partB x z ver ++ more).take n) = 5 ∨ (errH ((partB x z ver ++ more).take n) = 0 ∧ vH ((partB x z ver ++ more).take n) = ver ∧ hB ((partB x z ver ++ more).take n) z = 5) := by
  by_cases h44 : n < 44
  · left
    unfold errH
    rw [if_pos (by rw [List.length_take]; omega)]
  · right
    rw [part_len] at h
    obtain ⟨m, rfl⟩ : ∃ m, n = 44 + m := ⟨n - 44, by omega⟩
    have e : (partB x z ver ++ more).take (44 + m) = encB ver x.ut.length x.sd.length x.ls.length x.js.length x.ks.length (nmB x).length ++ (encL x z ++ more).take m := by
      unfold partB
      rw [List.append_assoc, ← encB_len ver x.ut.length x.sd.length x.ls.length x.js.length x.ks.length (nmB x).length, List.take_length_add_append]
    rw [e]
    obtain ⟨a, b, c, _, _⟩ := half_read (isB_enc ver x.ut.length x.sd.length x.ls.length x.js.length x.ks.length (nmB x).length ((encL x z ++ more).take m)) (hd_right r h1 h4) (z : Int)
    refine ⟨(isH_err a).1, b, ?_⟩
    rw [c]
    have ed : (encB ver x.ut.length x.sd.length x.ls.length x.js.length x.ks.length (nmB x).length ++ (encL x z ++ more).take m).drop 44 = (encL x z ++ more).take m := by
      rw [← encB_len ver x.ut.length x.sd.length x.ls.length x.js.length x.ks.length (nmB x).length, List.drop_left]
    rw [ed]
    exact (dec_short r h1 h4 _ (by rw [List.length_take]; omega)).1
set_option maxRecDepth 100000 in
theorem idx_no {l : List UInt8} {c : UInt8} (h : l.contains c = false) : Go.Lib.indexByte l c = -1 := by
  induction l with
  | nil => rfl
  | cons a l ih =>
    simp only [List.contains_cons, Bool.or_eq_false_iff] at h
    rw [Go.Lib.indexByte, ih h.2, if_neg (by have := h.1; simp at this ⊢; exact fun e => this e.symm), if_pos (by simp)]
set_option maxRecDepth 100000 in
theorem no_take {l : List UInt8} {c : UInt8} (h : l.contains c = false) (j : Nat) : (l.take j).contains c = false := by
  simp only [List.contains_eq_mem, decide_eq_false_iff_not] at h ⊢
  exact fun m => h (List.mem_of_mem_take m)
set_option maxRecDepth 100000 in
theorem foot_cut {s : ByteArray} (h : nol s = true) {k : Nat} (hk : k < s.size + 2) : footE ((10 :: (tx s ++ [10])).take k) = 5 := by
  cases k with
  | zero => unfold footE; rw [List.take_zero, if_pos rfl]
  | succ j =>
    have e : (10 :: (tx s ++ [10])).take (j + 1) = 10 :: (tx s).take j := by
      rw [List.take_succ_cons, List.take_append_of_le_length (by rw [tx_len]; omega)]
    rw [e]
    unfold footE
    rw [if_neg (by simp), if_neg (by unfold lf1; simp), show (10 :: (tx s).take j).drop 1 = (tx s).take j from rfl, idx_no (no_take (nol_tx h) j), if_pos (by decide)]
set_option maxRecDepth 100000 in
theorem foot_more {s : ByteArray} (h : nol s = true) (m : UInt8) : footE (10 :: (tx s ++ [10]) ++ [m]) = 4 := by
  have e : Go.Lib.indexByte (tx s ++ 10 :: [m]) 10 = (s.size : Int) := by rw [index_lf_at _ [m] (nol_tx h), tx_len]
  have e2 : (10 :: (tx s ++ [10]) ++ [m]).drop 1 = tx s ++ 10 :: [m] := by simp
  unfold footE
  rw [if_neg (by simp), if_neg (by unfold lf1; simp), e2, e, if_neg (by omega), if_pos]
  left
  rw [List.length_append, tx_len]; simp
set_option maxRecDepth 100000 in
/-- With a byte more it is none. -/
theorem read_more {f : Fil} (hr : rightF f = true) (hb : BI f.blk) (m : UInt8) : readE (encF f ++ [m]) = 4 := by
  obtain ⟨h1, h4, hk, hf⟩ := rightF_parts hr
  obtain ⟨f1, f2⟩ := foot_parts hf
  unfold encF
  by_cases hv : f.ver = 1
  · rw [if_pos hv]
    rw [hv, show mzN 1 = 4 from rfl] at hk
    obtain ⟨a, b, c, d, e⟩ := part_read hk (by omega) (by omega) hb [m]
    unfold readE
    rw [(isH_err a).1, b, if_neg (by simp), if_neg (by simpa using c), if_pos rfl, if_neg (by rw [show hR _ 4 = _ from e]; simp)]
  · rw [if_neg hv]
    rw [show mzN f.ver = 8 by unfold mzN; rw [if_neg hv]] at hk
    rw [List.append_assoc, List.append_assoc]
    obtain ⟨a, b, c, d, e⟩ := part_read (shB_right (ver := f.ver)) h1 h4 shB_bi (partB f.blk 8 f.ver ++ (10 :: (tx f.foot ++ [10]) ++ [m]))
    obtain ⟨a2, b2, c2, d2, e2⟩ := part_read hk h1 h4 hb (10 :: (tx f.foot ++ [10]) ++ [m])
    unfold readE
    rw [(isH_err a).1, b, if_neg (by simp), if_neg (by simpa using c), if_neg hv, show hR _ 4 = _ from e]
    unfold rest2
    rw [(isH_err a2).1, b2, if_neg (by simp), if_neg (by simp), if_neg (by simpa using c2), show hR _ 8 = _ from e2, foot_more (f2 hv).2]
set_option maxRecDepth 100000 in
theorem td_more {f : Fil} (hr : toldB f = true) (hb : BI f.blk) (m : UInt8) : tdE (encF f ++ [m]) = 4 := by
  unfold tdE
  split
  · rfl
  · exact read_more (told_right hr).1 hb m
set_option maxRecDepth 100000 in
/-- With less it is too short. -/
theorem read_less {f : Fil} (hr : rightF f = true) (hb : BI f.blk) {n : Nat} (hn : n < (encF f).length) : readE ((encF f).take n) = 5 := by
  obtain ⟨h1, h4, hk, hf⟩ := rightF_parts hr
  obtain ⟨f1, f2⟩ := foot_parts hf
  unfold encF at hn ⊢
  by_cases hv : f.ver = 1
  · rw [if_pos hv] at hn ⊢
    rw [hv, show mzN 1 = 4 from rfl] at hk
    have P := part_cut hk (by omega) (by omega) [] hn
    rw [List.append_nil] at P
    unfold readE
    rcases P with P | ⟨a, b, c⟩
    · rw [P, if_pos (by decide)]
    · rw [a, if_neg (by simp), show hB _ 4 = 5 from c, if_pos (by decide)]
  · rw [if_neg hv] at hn ⊢
    rw [show mzN f.ver = 8 by unfold mzN; rw [if_neg hv]] at hk
    rw [List.append_assoc] at hn ⊢
    by_cases c1 : n < (partB shB 4 f.ver).length
    · have P := part_cut (shB_right (ver := f.ver)) h1 h4 (partB f.blk 8 f.ver ++ 10 :: (tx f.foot ++ [10])) c1
      unfold readE
      rcases P with P | ⟨a, b, c⟩
      · rw [P, if_pos (by decide)]
      · rw [a, if_neg (by simp), show hB _ 4 = 5 from c, if_pos (by decide)]
    · obtain ⟨m, rfl⟩ : ∃ m, n = (partB shB 4 f.ver).length + m := ⟨n - _, (Nat.add_sub_cancel' (Nat.le_of_not_lt c1)).symm⟩
      rw [List.length_append] at hn
      have hm : m < (partB f.blk 8 f.ver ++ 10 :: (tx f.foot ++ [10])).length := by omega
      rw [List.take_length_add_append]
      obtain ⟨a, b, c, d, e⟩ := part_read (shB_right (ver := f.ver)) h1 h4 shB_bi ((partB f.blk 8 f.ver ++ 10 :: (tx f.foot ++ [10])).take m)
      unfold readE
      rw [(isH_err a).1, b, if_neg (by simp), if_neg (by simpa using c), if_neg hv, show hR _ 4 = _ from e]
      unfold rest2
      by_cases c2 : m < (partB f.blk 8 f.ver).length
      · have P := part_cut hk h1 h4 (10 :: (tx f.foot ++ [10])) c2
        rcases P with P | ⟨p1, p2, p3⟩
        · rw [P, if_pos (by decide)]
        · rw [p1, if_neg (by simp), p2, if_neg (by simp), show hB _ 8 = 5 from p3, if_pos (by decide)]
      · obtain ⟨k, rfl⟩ : ∃ k, m = (partB f.blk 8 f.ver).length + k := ⟨m - _, (Nat.add_sub_cancel' (Nat.le_of_not_lt c2)).symm⟩
        rw [List.length_append, List.length_cons, List.length_append, tx_len] at hm
        have hk2 : k < f.foot.size + 2 := by simp at hm; omega
        rw [List.take_length_add_append]
        obtain ⟨a2, b2, c2', d2, e2⟩ := part_read hk h1 h4 hb ((10 :: (tx f.foot ++ [10])).take k)
        rw [(isH_err a2).1, b2, if_neg (by simp), if_neg (by simp), if_neg (by simpa using c2'), show hR _ 8 = _ from e2, foot_cut (f2 hv).2 hk2]
set_option maxRecDepth 100000 in
theorem td_less {f : Fil} (hr : toldB f = true) (hb : BI f.blk) {n : Nat} (hn : n < (encF f).length) : tdE ((encF f).take n) = 5 := by
  have := (told_right hr).2
  unfold tdE
  rw [if_neg (by rw [List.length_take]; omega)]
  exact read_less (told_right hr).1 hb hn
set_option maxRecDepth 100000 in
theorem enc_pos (f : Fil) : 44 ≤ (encF f).length := by
  unfold encF
  split
  · rw [part_len]; omega
  · rw [List.length_append, List.length_append, part_len]; omega

set_option maxRecDepth 100000 in
/-- Another version's header. -/
theorem part_ver (x : Blk) (z : Nat) {v : Int} (h : v ≠ 1) (w : Int) : (partB x z w).set 4 (UInt8.ofNat (48 + v.toNat)) = partB x z v := by
  have e : UInt8.ofNat (48 + v.toNat) = markB v := by unfold markB; rw [if_neg h]
  rw [e]
  unfold partB encB frontB
  rfl
set_option maxRecDepth 100000 in
/-- Any right block in the first one's place. -/
theorem read_first {x : Blk} {f : Fil} (hx : rightB x ((4 : Nat) : Int) 1 = true) (hbx : BI x) (hr : rightF f = true) (hb : BI f.blk) (hv : f.ver ≠ 1) :
    readE (partB x 4 f.ver ++ (encF f).drop 51) = 0 ∧ readF (partB x 4 f.ver ++ (encF f).drop 51) = f := by
  obtain ⟨h1, h4, hk, hf⟩ := rightF_parts hr
  obtain ⟨f1, f2⟩ := foot_parts hf
  have ed : (encF f).drop 51 = partB f.blk 8 f.ver ++ 10 :: (tx f.foot ++ [10]) := by
    unfold encF
    rw [if_neg hv, List.append_assoc]
    have el : (partB shB 4 f.ver).length = 51 := by rw [part_len, shB_len']
    rw [← el, List.drop_left]
  rw [ed]
  rw [show mzN f.ver = 8 by unfold mzN; rw [if_neg hv]] at hk
  obtain ⟨a, b, c, d, e⟩ := part_read (right_ver (b := f.ver) hx (by decide)) h1 h4 hbx (partB f.blk 8 f.ver ++ 10 :: (tx f.foot ++ [10]))
  obtain ⟨a2, b2, c2, d2, e2⟩ := part_read hk h1 h4 hb (10 :: (tx f.foot ++ [10]))
  obtain ⟨g1, g2⟩ := foot_read (f2 hv).2 (f2 hv).1
  refine ⟨?_, ?_⟩
  · unfold readE
    rw [(isH_err a).1, b, if_neg (by simp), if_neg (by simpa using c), if_neg hv, show hR _ 4 = _ from e]
    unfold rest2
    rw [(isH_err a2).1, b2, if_neg (by simp), if_neg (by simp), if_neg (by simpa using c2), show hR _ 8 = _ from e2, g1]
  · unfold readF
    rw [b, if_neg hv, show hR _ 4 = _ from e, b2, show hX _ 8 = _ from d2, show hR _ 8 = _ from e2, g2]
set_option maxRecDepth 100000 in
theorem td_first {x : Blk} {f : Fil} (hx : rightB x ((4 : Nat) : Int) 1 = true) (hbx : BI x) (hr : rightF f = true) (hb : BI f.blk) (hv : f.ver ≠ 1) (hl : (partB x 4 f.ver ++ (encF f).drop 51).length ≤ 100000) :
    tdE (partB x 4 f.ver ++ (encF f).drop 51) = 0 ∧ tdF (partB x 4 f.ver ++ (encF f).drop 51) = f := by
  obtain ⟨a, b⟩ := read_first hx hbx hr hb hv
  have e : tdE (partB x 4 f.ver ++ (encF f).drop 51) = 0 := by unfold tdE; rw [if_neg (by omega)]; exact a
  refine ⟨e, ?_⟩
  unfold tdF; rw [if_pos e]; exact b
end Go.Proofs.YtaljddoenjgbfaaGreat
