/-
  Blocks, plain: what was told is read as it was. Nothing of the program stands here but the parts of what is right.
-/
import Derived.Test.YtoijaananjlfpaaLcBkZ
namespace Go.Proofs.Ytoijaananjlfpaa
open Lc

theorem sg_un {z : Nat} {t : Int} (hz : z = 4 ∨ z = 8) (h : fitZ t z = true) (b0 : -9223372036854775808 ≤ t) (b1 : t ≤ 9223372036854775807) : sgI z (beN (beB z (un t)) : Nat) = t := by
  have h' : z = 8 ∨ (-2147483648 ≤ t ∧ t ≤ 2147483647) := by
    unfold fitZ at h
    simp only [Bool.and_eq_true, Bool.or_eq_true, decide_eq_true_eq] at h
    omega
  rw [beN_beB]
  unfold un
  rcases hz with rfl | rfl
  · have h2 : -2147483648 ≤ t ∧ t ≤ 2147483647 := by omega
    rw [sgI_is (by omega) (by omega) (by omega) (by have : (256 : Int) ^ 4 = 4294967296 := by decide
                                                    have e : (256 : Nat) ^ 4 = 4294967296 := by decide
                                                    rw [this, e]; omega)]
    have e : (256 : Nat) ^ 4 = 4294967296 := by decide
    have e1 : (2 : Int) ^ (8 * 4 - 1) = 2147483648 := by decide
    have e2 : (2 : Int) ^ (8 * 4) = 4294967296 := by decide
    rw [e, e1, e2]
    split <;> omega
  · rw [sgI_is (by omega) (by omega) (by omega) (by have : (256 : Int) ^ 8 = 18446744073709551616 := by decide
                                                    have e : (256 : Nat) ^ 8 = 18446744073709551616 := by decide
                                                    rw [this, e]; omega)]
    have e : (256 : Nat) ^ 8 = 18446744073709551616 := by decide
    have e1 : (2 : Int) ^ (8 * 8 - 1) = 9223372036854775808 := by decide
    have e2 : (2 : Int) ^ (8 * 8) = 18446744073709551616 := by decide
    rw [e, e1, e2]
    split <;> omega

theorem fit4 {n : Int} (h0 : -2147483648 ≤ n) (h1 : n ≤ 2147483647) : fitZ n ((4 : Nat) : Int) = true := by unfold fitZ; simp; omega
theorem getD_app {a b : List UInt8} {n k : Nat} (h : a.length = n) : (a ++ b).getD (n + k) 0 = b.getD k 0 := by
  subst h; simp [List.getD, List.getElem?_append_right]
theorem range_map {α : Type} {l : List α} {n : Nat} {f : Nat → α} (d : α) (hn : l.length = n) (h : ∀ i, i < n → f i = l.getD i d) : (List.range n).map f = l := by
  apply List.ext_getElem
  · simp [hn]
  · intro i h1 h2
    have := h i (by omega)
    simp [List.getD, h2] at this ⊢
    exact this
theorem fm_slc {α : Type} {f : α → List UInt8} {m : Nat} (hf : ∀ a, (f a).length = m) (l : List α) (d : α) {i : Nat} (h : i < l.length) : slcB (l.flatMap f) (i * m) m = f (l.getD i d) := by
  induction l generalizing i with
  | nil => simp at h
  | cons a l ih =>
    rw [List.flatMap_cons]
    cases i with
    | zero => unfold slcB; rw [Nat.zero_mul, List.drop_zero, ← hf a, List.take_left]; rfl
    | succ i =>
      have e : slcB (f a ++ l.flatMap f) ((i + 1) * m) m = slcB (l.flatMap f) (i * m) m := by
        unfold slcB
        rw [Nat.succ_mul, Nat.add_comm, ← List.drop_drop, List.drop_left' (hf a)]
      rw [e, List.getD_cons_succ]
      exact ih (by simpa using h)
theorem slc_mid {a m c : List UInt8} {p k : Nat} (ha : a.length = p) (hm : m.length = k) : slcB (a ++ (m ++ c)) p k = m := by
  rw [slcB_append_right ha, ← hm, List.take_left]

theorem index_at (s r : List UInt8) (h : s.contains 0 = false) : Go.Lib.indexByte (s ++ 0 :: r) 0 = s.length := by
  induction s with
  | nil => rfl
  | cons a s ih =>
    simp only [List.contains_cons, Bool.or_eq_false_iff] at h
    rw [List.cons_append, Go.Lib.indexByte, ih h.2, if_neg (by have := h.1; simp at this ⊢; exact fun e => this e.symm), if_neg (by simp), List.length_cons]
    omega
theorem layN_pre (ns : List ByteArray) {i k : Nat} (h : i ≤ k) : ∃ r, layN ns k = layN ns i ++ r := by
  induction k with
  | zero => have : i = 0 := by omega
            subst this; exact ⟨[], by simp⟩
  | succ k ih =>
    rcases Nat.lt_or_ge i (k + 1) with h1 | h1
    · obtain ⟨r, e⟩ := ih (by omega)
      rw [layN]; split
      · exact ⟨r, e⟩
      · exact ⟨r ++ (tx (ns.getD k ByteArray.empty) ++ [0]), by rw [e, List.append_assoc]⟩
    · have : i = k + 1 := by omega
      subst this; exact ⟨[], by simp⟩
/-- Where a name is laid, it stands, with a byte 0 behind. -/
theorem nm_at {ns : List ByteArray} {s : ByteArray} (h : s ∈ ns) : ∃ r, layN ns ns.length = layN ns (idx s ns) ++ (tx s ++ 0 :: r) := by
  have h' : s ∈ ns.take ns.length := by rw [List.take_length]; exact h
  have lt := idx_lt h'
  obtain ⟨r, e⟩ := layN_pre ns (i := idx s ns + 1) (k := ns.length) lt
  rw [layN_new (by rw [idx_get h]; exact idx_min), idx_get h] at e
  exact ⟨r, by rw [e]; simp⟩
theorem nm_read {ns : List ByteArray} {s : ByteArray} (h : s ∈ ns) (hz : noz s = true) : nmIx (layN ns ns.length) (plcN ns s) = s.size ∧ nmOf (layN ns ns.length) (plcN ns s) = s ∧ plcN ns s + s.size + 1 ≤ (layN ns ns.length).length := by
  obtain ⟨r, e⟩ := nm_at h
  have hz' : (tx s).contains 0 = false := by unfold noz at hz; simpa using hz
  have e1 : nmIx (layN ns ns.length) (plcN ns s) = s.size := by
    unfold nmIx plcN
    rw [e, List.drop_left]
    exact index_at _ _ hz'
  have sz : (tx s).length = s.size := rfl
  refine ⟨e1, ?_, ?_⟩
  · unfold nmOf
    rw [e1]
    unfold plcN
    rw [e, List.drop_left, Int.toNat_natCast, ← sz, List.take_left]
  · have := congrArg List.length e
    unfold plcN
    rw [this]
    simp only [List.length_append, List.length_cons]
    omega

theorem loB_nat {n : Int} (h0 : 0 ≤ n) (h1 : n < 256) : ((loB n).toNat : Int) = n := by
  unfold loB
  rw [UInt8.toNat_ofNat']
  omega
theorem mk_le (b : Bool) : (mkB b).toNat ≤ 1 := by cases b <;> decide
theorem mk_eq (b : Bool) : decide (mkB b = 1) = b := by cases b <;> decide
theorem tm_get {bs : List Bool} {i : Nat} (h : i < bs.length) : (tmB bs).getD i 0 = mkB (bs.getD i false) := by simp [tmB, h]
theorem mOk_tm (bs : List Bool) : mOk (tmB bs) bs.length = true := by
  unfold mOk
  rw [allB_true]
  intro i hi
  rw [tm_get hi]
  simpa using mk_le _
theorem dM_tm (bs : List Bool) : dM (tmB bs) bs.length = bs := by
  refine range_map false rfl fun i hi => ?_
  unfold rdM
  rw [tm_get hi, mk_eq]
/-- Moments are numbers of 64 bits. -/
def BI (x : Blk) : Prop := (∀ i, i < x.js.length → -9223372036854775808 ≤ (x.js.getD i j0).t ∧ (x.js.getD i j0).t ≤ 9223372036854775807) ∧ ∀ i, i < x.ls.length → -9223372036854775808 ≤ (x.ls.getD i l0).t ∧ (x.ls.getD i l0).t ≤ 9223372036854775807
theorem dJ_mt {js : List Jmp} {z n : Nat} (hz : z = 4 ∨ z = 8) (hn : n ≤ 256) (h : rjB js n z = true) (hb : ∀ i, i < js.length → -9223372036854775808 ≤ (js.getD i j0).t ∧ (js.getD i j0).t ≤ 9223372036854775807) : dJ (mtB z js) (mjB js) js.length z = js := by
  unfold rjB at h
  simp only [Bool.and_eq_true, decide_eq_true_eq] at h
  have h := allB_true.1 h.2
  refine range_map j0 rfl fun i hi => ?_
  have r := h i hi
  unfold rjOne at r
  simp only [Bool.and_eq_true, decide_eq_true_eq] at r
  obtain ⟨⟨⟨_, rf⟩, rk⟩, rk'⟩ := r
  unfold rdJ mtB mjB
  rw [fm_slc (fun _ => beB_len _ _) js j0 hi, sg_un hz rf (hb i hi).1 (hb i hi).2]
  have e : (js.map fun j => loB j.k).getD i 0 = loB (js.getD i j0).k := by simp [hi]
  rw [e, loB_nat rk (by omega)]
theorem pv_le {ls : List Lep} {z ver : Int} (h : rlB ls z ver = true) {i : Nat} (hi : i < ls.length) : -2147483648 ≤ (ls.getD i l0).c ∧ (ls.getD i l0).c ≤ 2147483647 := by
  unfold rlB at h
  simp only [Bool.and_eq_true, decide_eq_true_eq] at h
  have q := pv_bd (ls := ls) (z := z) (ver := ver) (k := i + 1) fun j hj => allB_true.1 h.2 j (by omega)
  rw [pvC_succ] at q
  omega
theorem dL_tl {ls : List Lep} {z : Nat} {ver : Int} (hz : z = 4 ∨ z = 8) (h : rlB ls z ver = true) (hb : ∀ i, i < ls.length → -9223372036854775808 ≤ (ls.getD i l0).t ∧ (ls.getD i l0).t ≤ 9223372036854775807) : dL (tlB z ls) ls.length z = ls := by
  refine range_map l0 rfl fun i hi => ?_
  have q := pv_le h hi
  unfold rlB at h
  simp only [Bool.and_eq_true, decide_eq_true_eq] at h
  have r := allB_true.1 h.2 i hi
  unfold rlOne at r
  simp only [Bool.and_eq_true] at r
  have e := fm_slc (f := fun l : Lep => beB z (un l.t) ++ beB 4 (un l.c)) (m := z + 4) (fun _ => by simp [beB_len]) ls l0 hi
  have e1 : slcB (tlB z ls) (i * (z + 4)) z = beB z (un (ls.getD i l0).t) := by
    have := slcB_slcB (b := tlB z ls) (a := i * (z + 4)) (k := z + 4) (i := 0) (m := z) (by omega)
    rw [← show slcB (slcB (tlB z ls) (i * (z + 4)) (z + 4)) 0 z = slcB (tlB z ls) (i * (z + 4)) z from this]
    unfold tlB
    rw [e]
    exact slc_mid (a := []) rfl (beB_len _ _)
  have e2 : slcB (tlB z ls) (i * (z + 4) + z) 4 = beB 4 (un (ls.getD i l0).c) := by
    have := slcB_slcB (b := tlB z ls) (a := i * (z + 4)) (k := z + 4) (i := z) (m := 4) (by omega)
    rw [← this]
    unfold tlB
    rw [e]
    have := slc_mid (a := beB z (un (ls.getD i l0).t)) (m := beB 4 (un (ls.getD i l0).c)) (c := []) (beB_len _ _) (beB_len _ _)
    rw [List.append_nil] at this
    exact this
  unfold rdL
  rw [e1, e2, sg_un hz r.1.2 (hb i hi).1 (hb i hi).2, sg_un (.inl rfl) (fit4 (by omega) (by omega)) (by omega) (by omega)]
theorem kinds_read {ks : List Knd} (h : rkB ks = true) : kOk (tkB (ks.map Knd.name) ks) (layN (ks.map Knd.name) ks.length) ks.length = true ∧ dK (tkB (ks.map Knd.name) ks) (layN (ks.map Knd.name) ks.length) ks.length = ks := by
  obtain ⟨p1, p2, p3, p4⟩ := rk_parts h
  have ln : (ks.map Knd.name).length = ks.length := by simp
  have N : ∀ i, i < ks.length → nmIx (layN (ks.map Knd.name) ks.length) (plcN (ks.map Knd.name) (ks.getD i k0).name) = (ks.getD i k0).name.size ∧ nmOf (layN (ks.map Knd.name) ks.length) (plcN (ks.map Knd.name) (ks.getD i k0).name) = (ks.getD i k0).name ∧ plcN (ks.map Knd.name) (ks.getD i k0).name + (ks.getD i k0).name.size + 1 ≤ (layN (ks.map Knd.name) ks.length).length := fun i hi => by
    have r := p3 i hi
    unfold rkOne at r
    simp only [Bool.and_eq_true] at r
    have := nm_read (ns := ks.map Knd.name) (s := (ks.getD i k0).name) (List.mem_map.2 ⟨_, by simp [hi], rfl⟩) r.2
    rw [ln] at this
    exact this
  have P : ∀ i, i < ks.length → kPl (tkB (ks.map Knd.name) ks) i = plcN (ks.map Knd.name) (ks.getD i k0).name ∧ (tkB (ks.map Knd.name) ks).getD (i * 6 + 4) 0 = mkB (ks.getD i k0).dst ∧ slcB (tkB (ks.map Knd.name) ks) (i * 6) 4 = beB 4 (un (ks.getD i k0).off) := fun i hi => by
    have e := fm_slc (f := fun k : Knd => beB 4 (un k.off) ++ [mkB k.dst, loB (plcN (ks.map Knd.name) k.name)]) (m := 6) (fun _ => by simp [beB_len]) ks k0 hi
    have e' : slcB (tkB (ks.map Knd.name) ks) (i * 6) 6 = beB 4 (un (ks.getD i k0).off) ++ [mkB (ks.getD i k0).dst, loB (plcN (ks.map Knd.name) (ks.getD i k0).name)] := e
    clear e
    have pl := (N i hi).2.2
    refine ⟨?_, ?_, ?_⟩
    · unfold kPl
      rw [← slcB_get (k := 6) (by omega), e', getD_app (n := 4) (k := 1) (beB_len _ _)]
      have := loB_nat (n := (plcN (ks.map Knd.name) (ks.getD i k0).name : Int)) (by omega) (by omega)
      show (loB _).toNat = _
      omega
    · rw [← slcB_get (k := 6) (by omega), e', show (4 : Nat) = 4 + 0 from rfl, getD_app (n := 4) (k := 0) (beB_len _ _)]
      rfl
    · have := slcB_slcB (b := tkB (ks.map Knd.name) ks) (a := i * 6) (k := 6) (i := 0) (m := 4) (by omega)
      rw [Nat.add_zero] at this
      rw [← this, e']
      exact slc_mid (a := []) rfl (beB_len _ _)
  refine ⟨?_, range_map k0 rfl fun i hi => ?_⟩
  · unfold kOk
    rw [allB_true]
    intro i hi
    obtain ⟨a, b, c⟩ := P i hi
    unfold kGo
    rw [a, b, (N i hi).1]
    simp only [Bool.and_eq_true, decide_eq_true_eq]
    exact ⟨mk_le _, by omega⟩
  · obtain ⟨a, b, c⟩ := P i hi
    unfold rdK
    have r := p3 i hi
    unfold rkOne at r
    simp only [Bool.and_eq_true, decide_eq_true_eq] at r
    rw [a, b, c, (N i hi).2.1, mk_eq, sg_un (.inl rfl) (fit4 (by omega) (by omega)) (by omega) (by omega)]

/-- What was told is read as it was, whatever stands behind. -/
theorem dec_enc {x : Blk} {z : Nat} {ver : Int} (r : rightB x z ver = true) (hb : BI x) (more : List UInt8) :
    dOk (encL x z ++ more) x.ut.length x.sd.length x.ls.length x.js.length x.ks.length (nmB x).length z = true ∧ dBk (encL x z ++ more) x.ut.length x.sd.length x.ls.length x.js.length x.ks.length (nmB x).length z = x := by
  obtain ⟨hz, hk, hm, hj, hl⟩ := right_parts r
  have hz' : z = 4 ∨ z = 8 := by omega
  obtain ⟨_, k2, _, _⟩ := rk_parts hk
  have L1 := mtB_len z x.js
  have L2 := mjB_len x.js
  have L3 := tkB_len (x.ks.map Knd.name) x.ks
  have L4 := tlB_len z x.ls
  have L5 := tmB_len x.sd
  have L6 := tmB_len x.ut
  have q0 : pMo (encL x z ++ more) x.js.length z = mtB z x.js := by
    unfold pMo
    rw [show encL x z ++ more = ([]) ++ (mtB z x.js ++ (mjB x.js ++ tkB (x.ks.map Knd.name) x.ks ++ nmB x ++ tlB z x.ls ++ tmB x.sd ++ tmB x.ut ++ more)) by simp only [encL, List.append_assoc, List.nil_append]]
    exact slc_mid rfl L1
  have q1 : pJu (encL x z ++ more) x.js.length z = mjB x.js := by
    unfold pJu
    rw [show encL x z ++ more = (mtB z x.js) ++ (mjB x.js ++ (tkB (x.ks.map Knd.name) x.ks ++ nmB x ++ tlB z x.ls ++ tmB x.sd ++ tmB x.ut ++ more)) by simp only [encL, List.append_assoc]]
    exact slc_mid L1 L2
  have q2 : pKi (encL x z ++ more) x.js.length x.ks.length z = tkB (x.ks.map Knd.name) x.ks := by
    unfold pKi
    rw [show encL x z ++ more = (mtB z x.js ++ mjB x.js) ++ (tkB (x.ks.map Knd.name) x.ks ++ (nmB x ++ tlB z x.ls ++ tmB x.sd ++ tmB x.ut ++ more)) by simp only [encL, List.append_assoc]]
    exact slc_mid (by simp only [List.length_append, L1, L2]) L3
  have q3 : pNa (encL x z ++ more) x.js.length x.ks.length (nmB x).length z = nmB x := by
    unfold pNa
    rw [show encL x z ++ more = (mtB z x.js ++ mjB x.js ++ tkB (x.ks.map Knd.name) x.ks) ++ (nmB x ++ (tlB z x.ls ++ tmB x.sd ++ tmB x.ut ++ more)) by simp only [encL, List.append_assoc]]
    exact slc_mid (by simp only [List.length_append, L1, L2, L3]) rfl
  have q4 : pLe (encL x z ++ more) x.js.length x.ks.length (nmB x).length x.ls.length z = tlB z x.ls := by
    unfold pLe
    rw [show encL x z ++ more = (mtB z x.js ++ mjB x.js ++ tkB (x.ks.map Knd.name) x.ks ++ nmB x) ++ (tlB z x.ls ++ (tmB x.sd ++ tmB x.ut ++ more)) by simp only [encL, List.append_assoc]]
    exact slc_mid (by simp only [List.length_append, L1, L2, L3]) L4
  have q5 : pSd (encL x z ++ more) x.js.length x.ks.length (nmB x).length x.ls.length x.sd.length z = tmB x.sd := by
    unfold pSd
    rw [show encL x z ++ more = (mtB z x.js ++ mjB x.js ++ tkB (x.ks.map Knd.name) x.ks ++ nmB x ++ tlB z x.ls) ++ (tmB x.sd ++ (tmB x.ut ++ more)) by simp only [encL, List.append_assoc]]
    exact slc_mid (by simp only [List.length_append, L1, L2, L3, L4]) L5
  have q6 : pUt (encL x z ++ more) x.js.length x.ks.length (nmB x).length x.ls.length x.sd.length x.ut.length z = tmB x.ut := by
    unfold pUt
    rw [show encL x z ++ more = (mtB z x.js ++ mjB x.js ++ tkB (x.ks.map Knd.name) x.ks ++ nmB x ++ tlB z x.ls ++ tmB x.sd) ++ (tmB x.ut ++ (more)) by simp only [encL, List.append_assoc]]
    exact slc_mid (by simp only [List.length_append, L1, L2, L3, L4, L5]) L6
  have K := kinds_read hk
  have e3 : nmB x = layN (x.ks.map Knd.name) x.ks.length := rfl
  unfold dOk dBk
  rw [q0, q1, q2, q3, q4, q5, q6, mOk_tm, mOk_tm, dM_tm, dM_tm, dL_tl hz' hl hb.2, dJ_mt hz' k2 hj hb.1]
  rw [← e3] at K
  rw [K.1, K.2]
  exact ⟨rfl, rfl⟩
/-- A body's length. -/
theorem enc_body (x : Blk) (z : Nat) : bodyI x.ut.length x.sd.length x.ls.length x.js.length x.ks.length (nmB x).length z = (encL x z).length := by
  rw [body_nat, encL_len]
theorem dec_yes {x : Blk} {z : Nat} {ver : Int} (r : rightB x z ver = true) (h1 : 1 ≤ ver) (h4 : ver ≤ 4) (hb : BI x) (more : List UInt8) :
    decE (encL x z ++ more) ver x.ut.length x.sd.length x.ls.length x.js.length x.ks.length (nmB x).length z = 0 ∧ decX (encL x z ++ more) ver x.ut.length x.sd.length x.ls.length x.js.length x.ks.length (nmB x).length z = x := by
  have hz := (right_parts r).1
  obtain ⟨d1, d2⟩ := dec_enc r hb more
  have E : decE (encL x z ++ more) ver x.ut.length x.sd.length x.ls.length x.js.length x.ks.length (nmB x).length z = 0 := by
    unfold decE
    rw [if_neg (by rw [hd_right r h1 h4]; unfold zB; simp; omega), enc_body, if_neg (by rw [List.length_append]; omega)]
    simp only [Int.toNat_natCast]
    rw [if_pos ⟨d1, by rw [d2]; exact r⟩]
  refine ⟨E, ?_⟩
  unfold decX
  rw [if_pos E]
  simp only [Int.toNat_natCast]
  exact d2
/-- Fewer bytes are too short. -/
theorem dec_short {x : Blk} {z : Nat} {ver : Int} (r : rightB x z ver = true) (h1 : 1 ≤ ver) (h4 : ver ≤ 4) (b : List UInt8) (h : b.length < (encL x z).length) :
    decE b ver x.ut.length x.sd.length x.ls.length x.js.length x.ks.length (nmB x).length z = 5 ∧ decX b ver x.ut.length x.sd.length x.ls.length x.js.length x.ks.length (nmB x).length z = bk0 := by
  have hz := (right_parts r).1
  have E : decE b ver x.ut.length x.sd.length x.ls.length x.js.length x.ks.length (nmB x).length z = 5 := by
    unfold decE
    rw [if_neg (by rw [hd_right r h1 h4]; unfold zB; simp; omega), enc_body, if_pos (by omega)]
  refine ⟨E, ?_⟩
  unfold decX
  rw [E]
  rfl

/-- Bytes as a block: whatever they are. -/
theorem bdecode_any (A : Option Addr) (b : List UInt8) (cc : Nat) (ver u s l t y c z : Int) (w : World) (hcm : cc ≤ maxLen) (hc : b.length ≤ cc) (hr : Rd w A b) :
    Calls Try.prog 21 #[.slice A b.length cc, hv ver u s l t y c, .int .i64 z] w fun e w' => DcP w (decE b ver u s l t y c z) (decX b ver u s l t y c z) e w' := by
  by_cases h : zB z = false ∨ rightH ver u s l t y c = false
  · have E : decE b ver u s l t y c z = 1 := by unfold decE; rw [if_pos h]
    have X : decX b ver u s l t y c z = bk0 := by unfold decX; rw [E]; rfl
    rw [E, X]
    exact bdecode_arg A b.length cc ver u s l t y c z w h
  · have h' := h
    rw [not_or] at h
    have hz : z = 4 ∨ z = 8 := by have := h.1; unfold zB at this; simp at this; omega
    have r : rightH ver u s l t y c = true := by simpa using h.2
    have q := rightH_true.1 r
    obtain ⟨z, rfl⟩ := Int.eq_ofNat_of_zero_le (a := z) (by omega)
    obtain ⟨u, rfl⟩ := Int.eq_ofNat_of_zero_le (a := u) (by omega)
    obtain ⟨s, rfl⟩ := Int.eq_ofNat_of_zero_le (a := s) (by omega)
    obtain ⟨l, rfl⟩ := Int.eq_ofNat_of_zero_le (a := l) (by omega)
    obtain ⟨t, rfl⟩ := Int.eq_ofNat_of_zero_le (a := t) (by omega)
    obtain ⟨y, rfl⟩ := Int.eq_ofNat_of_zero_le (a := y) (by omega)
    obtain ⟨c, rfl⟩ := Int.eq_ofNat_of_zero_le (a := c) (by omega)
    have hz' : z = 4 ∨ z = 8 := by omega
    by_cases hl : (b.length : Int) < bodyI u s l t y c z
    · have E : decE b ver u s l t y c z = 5 := by unfold decE; rw [if_neg h', if_pos hl]
      have X : decX b ver u s l t y c z = bk0 := by unfold decX; rw [E]; rfl
      rw [E, X]
      exact bdecode_short A b cc ver u s l t y c z hz' w r hl
    · have E : decE b ver u s l t y c z = if dOk b u s l t y c z = true ∧ rightB (dBk b u s l t y c z) z ver = true then 0 else 4 := by
        unfold decE; rw [if_neg h', if_neg hl]; simp only [Int.toNat_natCast]
      have X : decX b ver u s l t y c z = if dOk b u s l t y c z = true ∧ rightB (dBk b u s l t y c z) z ver = true then dBk b u s l t y c z else bk0 := by
        unfold decX; rw [E]; simp only [Int.toNat_natCast]
        by_cases hh : dOk b u s l t y c z = true ∧ rightB (dBk b u s l t y c z) z ver = true
        · rw [if_pos hh, if_pos hh]; rfl
        · rw [if_neg hh, if_neg hh]; rfl
      rw [E, X]
      exact bdecode_long A b cc ver u s l t y c z hz' w hcm hc r (by omega) hr
end Go.Proofs.Ytoijaananjlfpaa
