/-
  What the laws of blocks have in common: few into its own box; Encode and Decode of what is right.
-/
import Derived.Test.YtaljddoenjgbfaaGreatLcFewG
import Derived.Test.YtaljddoenjgbfaaGreatLcSamG
import Derived.Test.YtaljddoenjgbfaaGreatLcMm
namespace Go.Proofs.YtaljddoenjgbfaaGreat
open Go.ChangeShapes Go.WideShapes Go.ChangeAt Go.RowKit Lc

set_option maxRecDepth 100000 in
theorem mask3 (a : Int) : ∃ n : Nat, n < 4 ∧ bits .and .i64 a 3 = n := by
  refine ⟨(BitVec.ofInt 64 a).toNat &&& 3, ?_, ?_⟩
  · have := Nat.and_le_right (n := (BitVec.ofInt 64 a).toNat) (m := 3); omega
  · have l := Nat.and_le_right (n := (BitVec.ofInt 64 a).toNat) (m := 3)
    show IntKind.i64.wrap (((BitVec.ofInt 64 a &&& BitVec.ofInt 64 3).toNat : Nat) : Int) = _
    rw [BitVec.toNat_and, show (BitVec.ofInt 64 3).toNat = 3 from by decide]
    exact IntWalk.i64_in _ (by omega)
set_option maxRecDepth 100000 in
theorem row_low {w : World} {base : Nat} {e : TypeId} {size : Nat} {v : Value} {n : Nat} {xs : List Value} (h : w.ownsRow base e size v n xs) {b : Nat} (hb : b < base) : v.ownBlock ≠ some b := fun c => by
  have := (World.ownsRow.lt h b c).1; omega
set_option maxRecDepth 100000 in
/-- A block of one's own does not care for stores below. -/
theorem OwB.low {w : World} {base : Nat} {v : Value} {x : Blk} (h : OwB w base v x) {b : Nat} (hb : b < base) (v0 v1 v2 v3 v4 : Value) : OwB (Go.Proofs.YtaljddoenjgbfaaGreat.five w b v0 v1 v2 v3 v4) base v x := by
  obtain ⟨a, b', c, d, e, rfl, h1, h2, h3, h4, h5⟩ := h
  exact ⟨_, _, _, _, _, rfl, row_five h1 (row_low h1 hb) _ _ _ _ _, row_five h2 (row_low h2 hb) _ _ _ _ _, row_five h3 (row_low h3 hb) _ _ _ _ _, row_five h4 (row_low h4 hb) _ _ _ _ _, row_five h5 (row_low h5 hb) _ _ _ _ _⟩
set_option maxRecDepth 100000 in
theorem cut_bi {x : Blk} (h : BI x) : BI (cutB x) := by
  constructor
  · intro i hi
    have l : i < (x.js.take 100).length := hi
    rw [List.length_take] at l
    have e : (x.js.take 100).getD i j0 = x.js.getD i j0 := by simp [List.getD, List.getElem?_take_of_lt (show i < 100 by omega)]
    show _ ≤ ((x.js.take 100).getD i j0).t ∧ ((x.js.take 100).getD i j0).t ≤ _
    rw [e]; exact h.1 i (by omega)
  · intro i hi
    have l : i < (x.ls.take 50).length := hi
    rw [List.length_take] at l
    have e : (x.ls.take 50).getD i l0 = x.ls.getD i l0 := by simp [List.getD, List.getElem?_take_of_lt (show i < 50 by omega)]
    show _ ≤ ((x.ls.take 50).getD i l0).t ∧ ((x.ls.take 50).getD i l0).t ≤ _
    rw [e]; exact h.2 i (by omega)
set_option maxRecDepth 100000 in
theorem cut_len (x : Blk) : (cutB x).ks.length ≤ 40 ∧ (cutB x).js.length ≤ 100 ∧ (cutB x).ls.length ≤ 50 ∧ (cutB x).sd.length ≤ 40 ∧ (cutB x).ut.length ≤ 40 := by
  unfold cutB
  simp only [List.length_map, List.length_take]
  omega
set_option maxRecDepth 100000 in
theorem enc_law (v : Value) (x : Blk) (z : Nat) (ver : Int) (w : World) (hb : BkR w v x) (h1 : 1 ≤ ver) (h4 : ver ≤ 4) (hr : rightB x z ver = true) :
    Calls Tryz.prog 43 #[v, .int .i64 z, .int .i64 ver] w fun e w' => ∃ A c, e = .returned (.tuple #[.slice A (encL x z).length c, hv ver x.ut.length x.sd.length x.ls.length x.js.length x.ks.length (nmB x).length, .int .i64 0]) ∧ (encL x z).length ≤ c ∧ c ≤ maxLen ∧ Rd w' A (encL x z) ∧ Up w w' :=
  (bencode_yes v x z ver w hb h1 h4 hr).mono fun e w' ⟨v', he, ho, u⟩ => by
    obtain ⟨A, c, rfl, f1, f2, f3, _⟩ := ho.form
    exact ⟨A, c, he, f1, f2, f3, u⟩
set_option maxRecDepth 100000 in
theorem dec_law (A : Option Addr) (l : List UInt8) (n : Nat) (x : Blk) (z c : Nat) (ver : Int) (more : List UInt8) (w : World) (hl : l = encL x z ++ more) (hn : l.length = n) (hc : n ≤ c) (hm : c ≤ maxLen) (hr : Rd w A l) (r : rightB x z ver = true) (h1 : 1 ≤ ver) (h4 : ver ≤ 4) (hb : BI x) :
    Calls Tryz.prog 70 #[.slice A n c, hv ver x.ut.length x.sd.length x.ls.length x.js.length x.ks.length (nmB x).length, .int .i64 z] w fun e w' => ∃ v, e = .returned (.tuple #[v, .int .i64 0]) ∧ BkR w' v x ∧ Up w w' := by
  subst hn
  have h := bdecode_any A l c ver x.ut.length x.sd.length x.ls.length x.js.length x.ks.length (nmB x).length z w hm hc hr
  have d := dec_yes r h1 h4 hb more
  rw [← hl] at d
  rw [d.1, d.2] at h
  exact h
set_option maxRecDepth 100000 in
/-- What fits four bytes fits eight. -/
theorem right_wide {x : Blk} {ver : Int} (h : rightB x 4 ver = true) : rightB x 8 ver = true := by
  obtain ⟨_, hk, hm, hj, hl⟩ := right_parts h
  have f : ∀ t : Int, fitZ t 8 = true := fun t => by unfold fitZ; simp
  have hj' : rjB x.js x.ks.length 8 = true := by
    unfold rjB at hj ⊢
    simp only [Bool.and_eq_true, allB_true] at hj ⊢
    refine ⟨hj.1, fun i hi => ?_⟩
    have := hj.2 i hi
    unfold rjOne at this ⊢
    simp only [Bool.and_eq_true] at this ⊢
    exact ⟨⟨⟨this.1.1.1, f _⟩, this.1.2⟩, this.2⟩
  have hl' : rlB x.ls 8 ver = true := by
    unfold rlB at hl ⊢
    simp only [Bool.and_eq_true, allB_true] at hl ⊢
    refine ⟨hl.1, fun i hi => ?_⟩
    have := hl.2 i hi
    unfold rlOne at this ⊢
    simp only [Bool.and_eq_true] at this ⊢
    exact ⟨⟨this.1.1, f _⟩, this.2⟩
  unfold rightB zB
  rw [hk, hm, hj', hl']
  rfl
set_option maxRecDepth 100000 in
theorem enc_bd {x : Blk} {z : Nat} {ver : Int} (h : rightB x z ver = true) : (encL x z).length ≤ 200000 ∧ 1 ≤ (encL x z).length := by
  obtain ⟨hz, hk, hm, hj, hl⟩ := right_parts h
  have a := rk_parts hk
  have b := rm_parts hm
  have c := rj_parts hj
  have d := rl_parts hl
  have e : (nmB x).length ≤ 256 := a.2.2.2
  have hz' : z = 4 ∨ z = 8 := by omega
  have j8 : x.js.length * z ≤ 5000 * 8 := Nat.mul_le_mul c (by omega)
  have l8 : x.ls.length * (z + 4) ≤ 5000 * 12 := Nat.mul_le_mul d (by omega)
  rw [encL_len]
  omega
set_option maxRecDepth 100000 in
theorem enc4 (x : Blk) (ver : Int) (h1 : 1 ≤ ver) (h4 : ver ≤ 4) (hr : rightB x 4 ver = true) (v : Value) (w : World) (hb : BkR w v x) :
    Calls Tryz.prog 43 #[v, .int .i64 4, .int .i64 ver] w fun e w' => ∃ A c, e = .returned (.tuple #[.slice A (encL x 4).length c, hv ver x.ut.length x.sd.length x.ls.length x.js.length x.ks.length (nmB x).length, .int .i64 0]) ∧ (encL x 4).length ≤ c ∧ c ≤ maxLen ∧ Rd w' A (encL x 4) ∧ Up w w' :=
  enc_law v x 4 ver w hb h1 h4 hr
set_option maxRecDepth 100000 in
theorem dec4 (x : Blk) (ver : Int) (h1 : 1 ≤ ver) (h4 : ver ≤ 4) (hr : rightB x 4 ver = true) (hb : BI x) (more l : List UInt8) (n : Nat) (hl : l = encL x 4 ++ more) (hn : l.length = n) (A : Option Addr) (c : Nat) (w : World) (hc : n ≤ c) (hm : c ≤ maxLen) (hd : Rd w A l) :
    Calls Tryz.prog 70 #[.slice A n c, hv ver x.ut.length x.sd.length x.ls.length x.js.length x.ks.length (nmB x).length, .int .i64 4] w fun e w' => ∃ v, e = .returned (.tuple #[v, .int .i64 0]) ∧ BkR w' v x ∧ Up w w' :=
  dec_law A l n x 4 c ver more w hl hn hc hm hd hr h1 h4 hb
set_option maxRecDepth 100000 in
theorem enc8 (x : Blk) (ver : Int) (h1 : 1 ≤ ver) (h4 : ver ≤ 4) (hr : rightB x 8 ver = true) (v : Value) (w : World) (hb : BkR w v x) :
    Calls Tryz.prog 43 #[v, .int .i64 8, .int .i64 ver] w fun e w' => ∃ A c, e = .returned (.tuple #[.slice A (encL x 8).length c, hv ver x.ut.length x.sd.length x.ls.length x.js.length x.ks.length (nmB x).length, .int .i64 0]) ∧ (encL x 8).length ≤ c ∧ c ≤ maxLen ∧ Rd w' A (encL x 8) ∧ Up w w' :=
  enc_law v x 8 ver w hb h1 h4 hr
set_option maxRecDepth 100000 in
theorem dec8 (x : Blk) (ver : Int) (h1 : 1 ≤ ver) (h4 : ver ≤ 4) (hr : rightB x 8 ver = true) (hb : BI x) (more l : List UInt8) (n : Nat) (hl : l = encL x 8 ++ more) (hn : l.length = n) (A : Option Addr) (c : Nat) (w : World) (hc : n ≤ c) (hm : c ≤ maxLen) (hd : Rd w A l) :
    Calls Tryz.prog 70 #[.slice A n c, hv ver x.ut.length x.sd.length x.ls.length x.js.length x.ks.length (nmB x).length, .int .i64 8] w fun e w' => ∃ v, e = .returned (.tuple #[v, .int .i64 0]) ∧ BkR w' v x ∧ Up w w' :=
  dec_law A l n x 8 c ver more w hl hn hc hm hd hr h1 h4 hb
end Go.Proofs.YtaljddoenjgbfaaGreat
