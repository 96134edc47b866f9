/-
  The document's octets: Int, Name, in the same plain words; what bytes tell, place by place, as the document reads them.
-/
import Derived.Test.YtaljddoenjgbfaaGreatLcMb
import Derived.Test.YtaljddoenjgbfaaGreatLcMa
import Derived.Test.YtaljddoenjgbfaaGreatLcRefB
import Derived.Lib.Bytealg
import Derived.Deep.CutRange
import Derived.Test.YtaljddoenjgbfaaGreatLcMr
import Derived.Test.YtaljddoenjgbfaaGreatLcMz
namespace Go.Proofs.YtaljddoenjgbfaaGreat
open Go.ChangeShapes Go.WideShapes Go.ChangeAt Go.RowKit Lc

set_option maxRecDepth 100000 in
set_option maxHeartbeats 1000000 in
theorem refInt4 (A : Option Addr) (l : List UInt8) (c a : Nat) (w : World) (hc : l.length ≤ c) (hcm : c ≤ maxLen) (h : a + 4 ≤ l.length) (hr : Rd w A l) :
    Calls Tryz.prog 57 #[.slice A l.length c, .int .i64 a, .int .i64 4] w fun e w' => e = .returned (.tuple #[.int .i64 (sgI 4 (beN ((l.drop a).take 4))), .bool true]) ∧ w = w' := by
  have C := Lib.hid (refUint_yes A l c a 4 w hc hcm (by decide) (by decide) h hr)
  have hN := beN_lt ((l.drop a).take 4)
  rw [List.length_take, List.length_drop, Nat.min_eq_left (by omega)] at hN
  generalize beN ((l.drop a).take 4) = N at *
  have E := Lib.hid (sgI_is (m := 4) (n := (N : Int)) (by decide) (by decide) (by omega) (by simp at hN ⊢; omega))
  generalize sgI 4 (N : Int) = S at *
  simp at hN
  clear h hr
  by_cases g : N < 2147483648
  · have g' : ¬ (2147483648 : Int) ≤ (N : Int) := by omega
    have g2 : decide ((2147483648 : Int) ≤ (N : Int)) = false := decide_eq_false g'
    have HG := Lib.hid g
    have HN := Lib.hid hN
    have w1 : IntKind.i64.wrap (N : Int) = (N : Int) := IntWalk.i64_in _ (by omega)
    clear g g' hN
    go_enter Tryz.func57, Tryz.ntmps57
    go_wp2_with fail
    refine C.out.mono ?_; rintro e w' ⟨rfl, rfl⟩
    go_wp2_with fail
    go_ret2
    refine ⟨rtIB ?_, rfl⟩
    rw [E.out, if_pos (by have := HG.out; simp; omega)]
  · have g' : (2147483648 : Int) ≤ (N : Int) := by omega
    go_enter Tryz.func57, Tryz.ntmps57
    go_wp2_with fail
    refine C.out.mono ?_; rintro e w' ⟨rfl, rfl⟩
    go_wp2_with fail
    go_ret2
    refine ⟨rtIB ?_, rfl⟩
    rw [E.out, if_neg (by simp; omega)]
    rfl
set_option maxRecDepth 100000 in
set_option maxHeartbeats 1000000 in
theorem refInt8 (A : Option Addr) (l : List UInt8) (c a : Nat) (w : World) (hc : l.length ≤ c) (hcm : c ≤ maxLen) (h : a + 8 ≤ l.length) (hr : Rd w A l) :
    Calls Tryz.prog 57 #[.slice A l.length c, .int .i64 a, .int .i64 8] w fun e w' => e = .returned (.tuple #[.int .i64 (sgI 8 (beN ((l.drop a).take 8))), .bool true]) ∧ w = w' := by
  have C := Lib.hid (refUint_yes A l c a 8 w hc hcm (by decide) (by decide) h hr)
  have hN := beN_lt ((l.drop a).take 8)
  rw [List.length_take, List.length_drop, Nat.min_eq_left (by omega)] at hN
  generalize beN ((l.drop a).take 8) = N at *
  simp at hN
  clear h hr
  go_enter Tryz.func57, Tryz.ntmps57
  go_wp2_with fail
  refine C.out.mono ?_; rintro e w' ⟨rfl, rfl⟩
  go_wp2_with fail
  go_ret2
  refine ⟨rtIB ?_, rfl⟩
  unfold sgI
  unfold wrap64
  simp

set_option maxRecDepth 100000 in
/-- What the search of a byte 0 finds. -/
theorem ix_spec : ∀ l : List UInt8, (Lib.indexByte l 0 = -1 ∧ ∀ j, j < l.length → l.getD j 0 ≠ 0) ∨ ∃ e : Nat, Lib.indexByte l 0 = e ∧ e < l.length ∧ l.getD e 0 = 0 ∧ ∀ j, j < e → l.getD j 0 ≠ 0
  | [] => .inl ⟨rfl, fun j hj => by simp at hj⟩
  | x :: l => by
    by_cases hx : x = 0
    · refine .inr ⟨0, ?_, by simp, by simpa using hx, fun j hj => absurd hj (Nat.not_lt_zero j)⟩
      rw [Lib.indexByte, if_pos (by simpa using hx)]; rfl
    · rcases ix_spec l with ⟨h1, h2⟩ | ⟨e, h1, h2, h3, h4⟩
      · refine .inl ⟨?_, fun j hj => ?_⟩
        · rw [Lib.indexByte, if_neg (by simpa using hx), h1]; rfl
        · cases j with
          | zero => simpa using hx
          | succ j => simpa using h2 j (by simpa using hj)
      · refine .inr ⟨e + 1, ?_, by simpa using h2, by simpa using h3, fun j hj => ?_⟩
        · rw [Lib.indexByte, if_neg (by simpa using hx), h1, if_neg (by simp)]; simp
        · cases j with
          | zero => simpa using hx
          | succ j => simpa using h4 j (by omega)
set_option maxRecDepth 100000 in
theorem drop_getD (l : List UInt8) (a j : Nat) : (l.drop a).getD j 0 = l.getD (a + j) 0 := by simp [List.getD]
/-- The name from a place on, and whether it ends. -/
def nmS (l : List UInt8) (a : Nat) : ByteArray := if 0 ≤ Lib.indexByte (l.drop a) 0 then str ((l.drop a).take (Lib.indexByte (l.drop a) 0).toNat) else ByteArray.empty
def nmO (l : List UInt8) (a : Nat) : Bool := decide (0 ≤ Lib.indexByte (l.drop a) 0)
/-- Name's answer. -/
def NmP (l : List UInt8) (a : Nat) (w : World) (e : Ending) (w' : World) : Prop := e = .returned (.tuple #[.string (nmS l a), .bool (nmO l a)]) ∧ w = w'
set_option maxRecDepth 100000 in
theorem NmP.no {l : List UInt8} {a : Nat} {w : World} (h : Lib.indexByte (l.drop a) 0 = -1) : NmP l a w (.returned (.tuple #[.string ByteArray.empty, .bool false])) w := by
  unfold NmP nmS nmO; rw [h]
  exact ⟨rfl, rfl⟩
set_option maxRecDepth 100000 in
theorem NmP.yes {l : List UInt8} {a e : Nat} {w : World} (h : Lib.indexByte (l.drop a) 0 = e) : NmP l a w (.returned (.tuple #[.string (str ((l.drop a).take e)), .bool true])) w := by
  unfold NmP nmS nmO; rw [h, show ((e : Int)).toNat = e by omega, show decide ((0 : Int) ≤ (e : Int)) = true by simp, if_pos (by omega)]
  exact ⟨rfl, rfl⟩
set_option maxRecDepth 100000 in
set_option maxHeartbeats 1000000 in
theorem dname_any (A : Option Addr) (l : List UInt8) (n c a : Nat) (w : World) (hn : l.length = n) (hc : n ≤ c) (hcm : c ≤ maxLen) (ha : a ≤ 1000000) (hr : Rd w A l) :
    Calls Tryz.prog 58 #[.slice A n c, .int .i64 a] w fun e w' => NmP l a w e w' := by
  unfold maxLen at hcm
  have R := Lib.hid hr
  have HN := Lib.hid hn
  rcases ix_spec (l.drop a) with ⟨h1, h2⟩ | ⟨e, h1, h2, h3, h4⟩
  · have HP := Lib.hid (fun w => NmP.no (w := w) h1)
    have H2 : Hid (∀ j, a + j < n → l.getD (a + j) 0 ≠ 0) := fun j hj => by
      have := h2 j (by rw [List.length_drop, hn]; omega)
      rwa [drop_getD] at this
    clear h1 h2 hr hn
    go_enter Tryz.func58, Tryz.ntmps58
    go_wp2_with fail
    go_loopw [6] (fun i wr => ∃ k : Nat, (k ≤ n ∨ k ≤ a) ∧ a ≤ k ∧ i = .int .i64 k ∧ w = wr) (fun i _ => n - (intOf i).toNat)
    case atStart => exact ⟨a, .inr (Nat.le_refl _), Nat.le_refl _, rfl, rfl⟩
    case round =>
      obtain ⟨k, hk, ha2, rfl, rfl⟩ := hrel
      by_cases hlt : k < n
      · obtain ⟨b, o, rfl, hcell⟩ := R.out (by rw [HN.out]; omega)
        have c1 := hcell k (by rw [HN.out]; exact hlt)
        have hx := H2.out (k - a) (by omega)
        rw [show a + (k - a) = k by omega] at hx
        have hx' : ¬ (l.getD k 0).toNat = 0 := fun h => hx (UInt8.toNat_inj.1 h)
        clear hcell hx
        generalize (l.getD k 0).toNat = xb at c1 hx'
        have hx2 : (((xb : Nat) : Int) == 0) = false := by simp; omega
        have i1 : (k : Int) < (n : Int) := by omega
        go_wp2_with fail
        go_roundw
        case rel => exact ⟨k + 1, by omega, by omega, by go_num, by trivial⟩
        case measure => simp [intOf]; omega
      · have i1 : ¬ (k : Int) < (n : Int) := by omega
        go_wp2_with fail
        go_ret2
        exact HP.out _
  · have HP := Lib.hid (fun w => NmP.yes (w := w) h1)
    rw [List.length_drop, hn] at h2
    rw [drop_getD] at h3
    have H4 : Hid (∀ j, a ≤ j → j < a + e → l.getD j 0 ≠ 0) := fun j hj hj2 => by
      have := h4 (j - a) (by omega)
      rwa [drop_getD, show a + (j - a) = j by omega] at this
    have H3 := Lib.hid h3
    clear h1 h3 h4
    obtain ⟨b, o, rfl, hcell⟩ := hr (by omega)
    have HC := Lib.hid hcell
    have V := convert_at w b (o + a) e (c - a) ((l.drop a).take e) (by rw [List.length_take, List.length_drop]; omega) ((hr.drop a).take e)
    generalize str ((l.drop a).take e) = S at V HP
    clear hcell hr hn
    go_enter Tryz.func58, Tryz.ntmps58
    go_wp2_with fail
    go_loopw [6] (fun i wr => ∃ k : Nat, k ≤ a + e ∧ a ≤ k ∧ i = .int .i64 k ∧ w = wr) (fun i _ => a + e - (intOf i).toNat)
    case atStart => exact ⟨a, by omega, Nat.le_refl _, rfl, rfl⟩
    case round =>
      obtain ⟨k, hk, ha2, rfl, rfl⟩ := hrel
      have c1 := HC.out k (by rw [HN.out]; omega)
      have i1 : (k : Int) < (n : Int) := by omega
      by_cases hlt : k < a + e
      · have hx := H4.out k ha2 hlt
        have hx' : ¬ (l.getD k 0).toNat = 0 := fun h => hx (UInt8.toNat_inj.1 h)
        clear hx
        generalize (l.getD k 0).toNat = xb at c1 hx'
        have hx2 : (((xb : Nat) : Int) == 0) = false := by simp; omega
        go_wp2_with fail
        go_roundw
        case rel => exact ⟨k + 1, by omega, by omega, by go_num, by trivial⟩
        case measure => simp [intOf]; omega
      · have hke : k = a + e := by omega
        rw [hke, H3.out] at c1
        have c1 : w.cell? ⟨b, o + (a + e), none⟩ = some (.int .u8 0) := c1
        have i2 : (a : Int) ≤ (k : Int) := by omega
        have i3 : (k : Int) ≤ (c : Int) := by omega
        have i4 : ((k : Int) - (a : Int)).toNat = e := by omega
        subst hke
        have ca : ¬ c = a := by omega
        go_wp2_with fail
        go_ret2
        exact HP.out _
set_option maxRecDepth 100000 in
theorem dname_same (A : Option Addr) (l : List UInt8) (n c a : Nat) (w : World) (hn : l.length = n) (hc : n ≤ c) (hcm : c ≤ maxLen) (ha : a ≤ 1000000) (hr : Rd w A l) :
    Calls Tryz.prog 58 #[.slice A n c, .int .i64 a] w fun e w' => e = .returned (.tuple #[.string (nmS l a), .bool (nmO l a)]) ∧ w = w' :=
  dname_any A l n c a w hn hc hcm ha hr
set_option maxRecDepth 100000 in
theorem mul_step {k t z : Nat} (h : k < t) : k * z + z ≤ t * z := by
  have := Nat.mul_le_mul_right z (show k + 1 ≤ t by omega)
  rwa [Nat.succ_mul] at this
set_option maxRecDepth 100000 in
theorem pj {b : List UInt8} {t z k : Nat} (h : k < t) : rdJ (pMo b t z) (pJu b t z) z k = ⟨sgI z (beN ((b.drop (k * z)).take z) : Nat), ((b.getD (t * z + k) 0).toNat : Int)⟩ := by
  unfold rdJ pMo pJu
  rw [slcB_slcB (mul_step h), slcB_get h, Nat.zero_add]; rfl
set_option maxRecDepth 100000 in
theorem pk {b : List UInt8} {t y z k : Nat} (na : List UInt8) (h : k < y) : rdK (pKi b t y z) na k = ⟨sgI 4 (beN ((b.drop (t * z + t + k * 6)).take 4) : Nat), decide (b.getD (t * z + t + k * 6 + 4) 0 = 1), nmOf na (b.getD (t * z + t + k * 6 + 5) 0).toNat⟩ := by
  unfold rdK pKi kPl
  rw [slcB_slcB (by omega), slcB_get (by omega), slcB_get (by omega)]
  simp only [← Nat.add_assoc]
  rfl
set_option maxRecDepth 100000 in
theorem pg {b : List UInt8} {t y z k : Nat} (na : List UInt8) (h : k < y) : kGo (pKi b t y z) na k = (decide ((b.getD (t * z + t + k * 6 + 4) 0).toNat ≤ 1) && decide (0 ≤ nmIx na (b.getD (t * z + t + k * 6 + 5) 0).toNat)) := by
  unfold kGo pKi kPl
  rw [slcB_get (by omega), slcB_get (by omega)]
  simp only [← Nat.add_assoc]
set_option maxRecDepth 100000 in
theorem pn {b : List UInt8} {t y c z : Nat} (p : Nat) : (pNa b t y c z).drop p = (b.take (t * z + t + y * 6 + c)).drop (t * z + t + y * 6 + p) := by
  unfold pNa slcB
  rw [List.drop_take, List.drop_drop, List.drop_take]
  congr 1
  omega
set_option maxRecDepth 100000 in
theorem pn_ix {b : List UInt8} {t y c z : Nat} (p : Nat) : nmIx (pNa b t y c z) p = Go.Lib.indexByte ((b.take (t * z + t + y * 6 + c)).drop (t * z + t + y * 6 + p)) 0 := by
  unfold nmIx; rw [pn]
set_option maxRecDepth 100000 in
theorem pn_out {b : List UInt8} {t y c z : Nat} {p : Nat} (h : c ≤ p) : nmIx (pNa b t y c z) p = -1 := by
  have e : (pNa b t y c z).drop p = [] := by
    apply List.drop_eq_nil_of_le
    unfold pNa slcB; rw [List.length_take]; omega
  unfold nmIx; rw [e]; rfl
set_option maxRecDepth 100000 in
theorem pn_of {b : List UInt8} {t y c z : Nat} {p : Nat} (h : 0 ≤ nmIx (pNa b t y c z) p) : nmOf (pNa b t y c z) p = nmS (b.take (t * z + t + y * 6 + c)) (t * z + t + y * 6 + p) := by
  unfold nmS
  rw [pn_ix] at h
  rw [if_pos h]
  unfold nmOf
  rw [pn_ix, pn]
  rfl
set_option maxRecDepth 100000 in
theorem pl {b : List UInt8} {t y c l z k : Nat} (h : k < l) : rdL (pLe b t y c l z) z k = ⟨sgI z (beN ((b.drop (t * z + t + y * 6 + c + k * (z + 4))).take z) : Nat), sgI 4 (beN ((b.drop (t * z + t + y * 6 + c + k * (z + 4) + z)).take 4) : Nat)⟩ := by
  have g := mul_step (z := z + 4) h
  unfold rdL pLe
  rw [slcB_slcB (by omega), slcB_slcB (by omega)]
  simp only [← Nat.add_assoc]
  rfl
set_option maxRecDepth 100000 in
theorem ps {b : List UInt8} {t y c l s z k : Nat} (h : k < s) : rdM (pSd b t y c l s z) k = decide (b.getD (t * z + t + y * 6 + c + l * (z + 4) + k) 0 = 1) := by
  unfold rdM pSd; rw [slcB_get h]
set_option maxRecDepth 100000 in
theorem pu {b : List UInt8} {t y c l s u z k : Nat} (h : k < u) : rdM (pUt b t y c l s u z) k = decide (b.getD (t * z + t + y * 6 + c + l * (z + 4) + s + k) 0 = 1) := by
  unfold rdM pUt; rw [slcB_get h]
set_option maxRecDepth 100000 in
theorem pok {b : List UInt8} {u s l t y c z : Nat} : dOk b u s l t y c z = true ↔ (∀ k, k < y → kGo (pKi b t y z) (pNa b t y c z) k = true) ∧ ∀ i, i < s + u → (b.getD (t * z + t + y * 6 + c + l * (z + 4) + i) 0).toNat ≤ 1 := by
  unfold dOk kOk mOk
  simp only [Bool.and_eq_true, allB_true, decide_eq_true_eq]
  constructor
  · rintro ⟨⟨h1, h2⟩, h3⟩
    refine ⟨h1, fun i hi => ?_⟩
    rcases Nat.lt_or_ge i s with g | g
    · have := h2 i g
      unfold pSd at this
      rwa [slcB_get g] at this
    · have := h3 (i - s) (by omega)
      unfold pUt at this
      rw [slcB_get (by omega), show t * z + t + y * 6 + c + l * (z + 4) + s + (i - s) = t * z + t + y * 6 + c + l * (z + 4) + i by omega] at this
      exact this
  · rintro ⟨h1, h2⟩
    refine ⟨⟨h1, fun i hi => ?_⟩, fun i hi => ?_⟩
    · unfold pSd; rw [slcB_get hi]; exact h2 i (by omega)
    · unfold pUt; rw [slcB_get hi]
      have := h2 (s + i) (by omega)
      rwa [← Nat.add_assoc] at this
/-- What Decode answers: a block in new memory, and an error. -/
def DcN (w : World) (k : Int) (X : Blk) (e : Ending) (w' : World) : Prop := ∃ v, e = .returned (.tuple #[v, .int .i64 k]) ∧ BkR w' v X ∧ Up w w' ∧ BkF w v
/-- Decode's answer, of a right header and enough bytes. -/
def DdR (w : World) (b : List UInt8) (ver : Int) (u s l t y c z : Nat) (e : Ending) (w' : World) : Prop := DcN w (if dOk b u s l t y c z = true ∧ rightB (dBk b u s l t y c z) z ver = true then 0 else 4) (if dOk b u s l t y c z = true ∧ rightB (dBk b u s l t y c z) z ver = true then dBk b u s l t y c z else bk0) e w'
set_option maxRecDepth 100000 in
theorem DdR.no {w : World} {b : List UInt8} {ver : Int} {u s l t y c z : Nat} {e : Ending} {w' : World} (h : ¬ (dOk b u s l t y c z = true ∧ rightB (dBk b u s l t y c z) z ver = true)) (g : DcN w 4 bk0 e w') : DdR w b ver u s l t y c z e w' := by
  unfold DdR; rw [if_neg h, if_neg h]; exact g
set_option maxRecDepth 100000 in
theorem DdR.yes {w : World} {b : List UInt8} {ver : Int} {u s l t y c z : Nat} {e : Ending} {w' : World} (h1 : dOk b u s l t y c z = true) (h2 : rightB (dBk b u s l t y c z) z ver = true) (g : DcN w 0 (dBk b u s l t y c z) e w') : DdR w b ver u s l t y c z e w' := by
  unfold DdR; rw [if_pos ⟨h1, h2⟩, if_pos ⟨h1, h2⟩]; exact g
end Go.Proofs.YtaljddoenjgbfaaGreat
