/-
  PosixNames is proved: for every text the statement answers true: a name has from 3 to 20 bytes, letters, digits and two signs alone; one of letters alone stands as it is. Conditions: the tied card's own (the listed variables as the text of the program lays them).
-/
import Derived.Test.YtalpbbgkallohaaDoorLcSh8
import Derived.Test.YtalpbbgkallohaaDoorLcPs8
import Derived.Test.YtalpbbgkallohaaDoorLcOpR
import Derived.Test.YtalpbbgkallohaaDoorLcLd8
import Derived.Test.YtalpbbgkallohaaDoorTie
import Derived.Test.YtalpbbgkallohaaDoorCards
import Derived.WalkKit
import Derived.ProofKit
import Derived.OpenShut
import Derived.LaidMore
import Derived.Stop.Joined
import Derived.SevenTiedAt
namespace Go.Proofs.YtalpbbgkallohaaDoor.posixNames
open Go.ChangeShapes Go.WideShapes Go.ChangeAt Go.RowKit Lc
set_option linter.unusedVariables false

theorem own : ownKnob Tryd.prog.godebug = none := by kernel_rfl

/-- The rule of the statement. -/
def nR (l : List UInt8) : Ru := ⟨⟨0, false, l⟩, kd0, false, ch0, ch0⟩
theorem nR_right (l : List UInt8) (wide : Bool) : rightB (nR l) wide = nameB l := by
  unfold rightB nR kindB
  cases nameB l
  · simp
  · have : inB 0 (-89999) 89999 = true := by decide
    simp [this]
theorem nR_text (l : List UInt8) : ruleT (nR l) = nameT l ++ [48] := by
  have d0 : dec 0 = [48] := dec_1 (by decide) (by decide)
  unfold ruleT nR
  simp [clockT, clockU, d0]
theorem n_pl {l : List UInt8} (h : l.all isL = true) : tx l ++ ⟨#[48]⟩ = tx (ruleT (nR l)) := by
  rw [nR_text, show (⟨#[48]⟩ : ByteArray) = tx [48] from rfl, tx_append]; unfold nameT; rw [if_pos h]
theorem n_qu {l : List UInt8} (h : l.all isL = false) : (⟨#[60]⟩ : ByteArray) ++ tx l ++ ⟨#[62, 48]⟩ = tx (ruleT (nR l)) := by
  rw [nR_text, show (⟨#[60]⟩ : ByteArray) = tx [60] from rfl, show (⟨#[62, 48]⟩ : ByteArray) = tx [62, 48] from rfl, tx_append, tx_append]; unfold nameT; rw [if_neg (by rw [h]; decide)]; simp
theorem snoc_all (p : UInt8 → Bool) (l : List UInt8) (k : Nat) (h : k < l.length) : (l.take (k + 1)).all p = ((l.take k).all p && p (l.getD k 0)) := by
  rw [List.take_succ_eq_append_getElem h, List.all_append, List.getD_eq_getElem?_getD, List.getElem?_eq_getElem h]; simp
theorem n_yes {l : List UInt8} (h : nameB l = true) : prE (nR l) false = 0 ∧ rightB (nR l) true = true ∧ (l.all isL = true → tx l ++ ⟨#[48]⟩ = tx (prT (nR l) false)) ∧ (l.all isL = false → (⟨#[60]⟩ : ByteArray) ++ tx l ++ ⟨#[62, 48]⟩ = tx (prT (nR l) false)) := by
  have e1 : rightB (nR l) false = true := by rw [nR_right]; exact h
  have e2 : prT (nR l) false = ruleT (nR l) := by unfold prT; rw [e1]; rfl
  rw [e2]
  exact ⟨by unfold prE; rw [e1]; rfl, by rw [nR_right]; exact h, n_pl, n_qu⟩
theorem n_no {l : List UInt8} (h : nameB l = false) : prE (nR l) false = 1 ∧ rightB (nR l) true = false ∧ (⟨#[]⟩ : ByteArray) = tx (prT (nR l) false) := by
  have e1 : rightB (nR l) false = false := by rw [nR_right]; exact h
  have e2 : prT (nR l) false = [] := by unfold prT; rw [e1]; rfl
  rw [e2]
  exact ⟨by unfold prE; rw [e1]; rfl, by rw [nR_right]; exact h, rfl⟩
def nI (l : List UInt8) (f : Bool) (k : Nat) (A F : Bool) : Prop := A = (l.take k).all isL ∧ F = (f && (l.take k).all okS)
theorem nI_step {l : List UInt8} {f : Bool} {k : Nat} {A F : Bool} (h : nI l f k A F) (hk : k < l.length) : nI l f (k + 1) (A && isL (l.getD k 0)) (F && okS (l.getD k 0)) := by
  obtain ⟨rfl, rfl⟩ := h
  exact ⟨(snoc_all isL l k hk).symm, by rw [snoc_all okS l k hk, Bool.and_assoc]⟩
theorem nI_of {l : List UInt8} {f : Bool} {k : Nat} {A F A' F' : Bool} (h : nI l f k A F) (e1 : A' = A) (e2 : F' = F) : nI l f k A' F' := by subst e1; subst e2; exact h
theorem n_name {l : List UInt8} {p : Nat} (h : l.length = p) : nameB l = ((decide (3 ≤ p) && decide (p ≤ 20)) && l.all okS) := by subst h; rfl

set_option maxHeartbeats 16000000 in
set_option maxRecDepth 100000 in
theorem walk (l0 : List UInt8) (s0 : l0.length ≤ maxLen) (w : World) (T : Tabs w) :
    Calls Tryd.prog 9 #[.string (tx l0)] w fun e w' => e = .returned (.bool true) ∧ Up w w' := by
  have SH := Lib.hid (fun w T => shown_any w T)
  have TT := Lib.hid T
  clear T
  have sz0 := tx_size l0
  unfold maxLen at s0
  obtain ⟨p, hp⟩ : ∃ p : Nat, min (l0.length : Int) 30 = (p : Int) := ⟨min l0.length 30, by omega⟩
  have hp2 : p ≤ 30 := by omega
  have hp3 : (p : Int) ≤ (l0.length : Int) := by omega
  have ex := tx_take l0 p
  have kl : (l0.take p).length = p := by rw [List.length_take]; omega
  generalize l0.take p = k1 at *
  have sz1 : (tx k1).size = p := by rw [tx_size, kl]
  have hg := Lib.hid (tx_get k1)
  have PN := Lib.hid (fun w T => print_any (nR k1) false w T (by show k1.length ≤ maxLen; unfold maxLen; omega) (by show 0 ≤ maxLen; omega))
  have RR := Lib.hid (fun w => right_any (nR k1) true w (by show k1.length ≤ maxLen; unfold maxLen; omega) (by show 0 ≤ maxLen; omega))
  have XY := Lib.hid (@n_yes k1)
  have XN := Lib.hid (@n_no k1)
  have NB := Lib.hid (n_name kl)
  have tk := Lib.hid (show k1.take p = k1 by rw [← kl]; exact List.take_length)
  have rs : ∀ r, (rA r).size = 17 := fun r => rfl
  have hRA : Hid (#[.int .i64 0, .bool false, .string (tx k1), .int .i64 0, .bool false, .string ⟨#[]⟩, .bool false, .int .i64 0, .int .i64 0, .int .i64 0, .int .i64 0, .int .i64 0, .int .i64 0, .int .i64 0, .int .i64 0, .int .i64 0, .int .i64 0] = rA (nR k1)) := Lib.hid rfl
  generalize nR k1 = X at *
  generalize prE X false = e1 at *
  generalize tx (prT X false) = T1 at *
  generalize rightB X true = b1 at *
  generalize nameB k1 = nb at *
  by_cases c1 : p < 3
  · as_aux_lemma =>
      have c3 : ¬ (3 : Int) ≤ (p : Int) := by omega
      go_enter Tryd.func9, Tryd.ntmps9
      go_wp2_with fail
      refine (SH.out _ TT.out).mono ?_; rintro e w1 ⟨rfl, u1⟩
      have U1 := Lib.hid u1
      clear u1 SH
      go_upto_region 5 with (fail)
      go_wp2_with fail
      go_loop [4, 5, 6] (fun a f i => ∃ (k : Nat) (A F : Bool), k ≤ p ∧ a = .bool A ∧ f = .bool F ∧ i = .int .i64 (k : Int) ∧ nI k1 false k A F) (fun _ _ i => p - (intOf i).toNat)
      case atStart => exact ⟨0, true, false, Nat.zero_le _, rfl, rfl, rfl, by constructor <;> simp⟩
      case round =>
        obtain ⟨k, A, F, hk, rfl, rfl, rfl, HA⟩ := hrel
        by_cases ck : k = p
        · subst ck
          have N1 : nb = F := NB.out.trans (by have := HA.2; rw [tk.out] at this; rw [this]; rw [decide_eq_false (show ¬ 3 ≤ k by omega)]; rfl)
          have N2 : k1.all isL = A := by have := HA.1; rw [tk.out] at this; exact this.symm
          subst N1
          clear HA NB tk
          have f1 : ¬ 9223372036854775807 < k + 1 := by omega
          have f2 : ¬ 9223372036854775807 < 1 + k := by omega
          have f3 : ¬ 9223372036854775807 < 1 + k + 2 := by omega
          cases nb
          · obtain ⟨rfl, rfl, rfl⟩ := XN.out rfl
            clear XN XY N2
            go_upto_region 13 with (fail)
            obtain ⟨W, hW⟩ : ∃ W, W = w1.alloc (.cells #[.int .i64 0, .bool false, .string (tx k1), .int .i64 0, .bool false, .string ⟨#[]⟩, .bool false, .int .i64 0, .int .i64 0, .int .i64 0, .int .i64 0, .int .i64 0, .int .i64 0, .int .i64 0, .int .i64 0, .int .i64 0, .int .i64 0] 27) := ⟨_, rfl⟩
            rw [← hW]
            rw [hRA.out] at hW
            have B2 : Hid (Bk W w1.heap.size (rA X) 27) := Lib.hid (by rw [hW]; exact Bk.new w1 (rA X) 27 (by decide))
            have U2 : Hid (Up w W) := Lib.hid (by rw [hW]; exact U1.out.alloc' _)
            clear hW U1
            refine wp_region_lit ?_
            refine wpList_ld rfl 9 w1.heap.size X _ rfl B2.out rfl ?_
            go_wp2_with fail
            refine (PN.out _ (Tabs.up TT.out U2.out)).mono ?_; rintro e w3 ⟨rfl, u3⟩
            have B3 := Lib.hid (B2.out.up u3)
            have U3 := Lib.hid (U2.out.trans u3)
            clear u3 B2 U2 PN
            go_upto_region 14 with (fail)
            refine wp_region_lit ?_
            refine wpList_step (fun KK hKK => ?_)
            go_simp
            refine hKK _ _ ?_
            clear hKK KK
            refine wpList_step (fun KK hKK => ?_)
            go_simp
            refine hKK _ _ ?_
            clear hKK KK
            refine wpList_step (fun KK hKK => ?_)
            go_simp
            refine hKK _ _ ?_
            clear hKK KK
            refine wpList_step (fun KK hKK => ?_)
            go_simp
            refine hKK _ _ ?_
            clear hKK KK
            refine wpList_step (fun KK hKK => ?_)
            go_simp
            refine hKK _ _ ?_
            clear hKK KK
            refine wpList_step (fun KK hKK => ?_)
            go_simp
            refine hKK _ _ ?_
            clear hKK KK
            refine wpList_ldg (by go_simp) 9 w1.heap.size X _ rfl B3.out rfl ?_
            go_wp2_with fail
            refine (RR.out _).mono ?_; rintro e w4 ⟨rfl, u4⟩
            go_wp2_with fail
            go_ret
            exact ⟨ret_b (by simp), U3.out.trans u4⟩
          · obtain ⟨rfl, rfl, y1, y2⟩ := XY.out rfl
            clear XN XY
            cases A
            · have y := y2 N2
              clear y1 y2 N2
              go_upto_region 13 with (fail)
              obtain ⟨W, hW⟩ : ∃ W, W = w1.alloc (.cells #[.int .i64 0, .bool false, .string (tx k1), .int .i64 0, .bool false, .string ⟨#[]⟩, .bool false, .int .i64 0, .int .i64 0, .int .i64 0, .int .i64 0, .int .i64 0, .int .i64 0, .int .i64 0, .int .i64 0, .int .i64 0, .int .i64 0] 27) := ⟨_, rfl⟩
              rw [← hW]
              rw [hRA.out] at hW
              have B2 : Hid (Bk W w1.heap.size (rA X) 27) := Lib.hid (by rw [hW]; exact Bk.new w1 (rA X) 27 (by decide))
              have U2 : Hid (Up w W) := Lib.hid (by rw [hW]; exact U1.out.alloc' _)
              clear hW U1
              refine wp_region_lit ?_
              refine wpList_ld rfl 9 w1.heap.size X _ rfl B2.out rfl ?_
              go_wp2_with fail
              refine (PN.out _ (Tabs.up TT.out U2.out)).mono ?_; rintro e w3 ⟨rfl, u3⟩
              have B3 := Lib.hid (B2.out.up u3)
              have U3 := Lib.hid (U2.out.trans u3)
              clear u3 B2 U2 PN
              go_upto_region 14 with (fail)
              refine wp_region_lit ?_
              refine wpList_step (fun KK hKK => ?_)
              go_simp
              refine hKK _ _ ?_
              clear hKK KK
              refine wpList_step (fun KK hKK => ?_)
              go_simp
              refine hKK _ _ ?_
              clear hKK KK
              refine wpList_step (fun KK hKK => ?_)
              go_simp
              refine hKK _ _ ?_
              clear hKK KK
              refine wpList_step (fun KK hKK => ?_)
              go_simp
              refine hKK _ _ ?_
              clear hKK KK
              refine wpList_step (fun KK hKK => ?_)
              go_simp
              refine hKK _ _ ?_
              clear hKK KK
              refine wpList_step (fun KK hKK => ?_)
              go_simp
              refine hKK _ _ ?_
              clear hKK KK
              refine wpList_ldg (by go_simp) 9 w1.heap.size X _ rfl B3.out rfl ?_
              go_wp2_with fail
              refine (RR.out _).mono ?_; rintro e w4 ⟨rfl, u4⟩
              go_wp2_with fail
              go_ret
              exact ⟨ret_b (by simp), U3.out.trans u4⟩
            · have y := y1 N2
              clear y1 y2 N2
              go_upto_region 13 with (fail)
              obtain ⟨W, hW⟩ : ∃ W, W = w1.alloc (.cells #[.int .i64 0, .bool false, .string (tx k1), .int .i64 0, .bool false, .string ⟨#[]⟩, .bool false, .int .i64 0, .int .i64 0, .int .i64 0, .int .i64 0, .int .i64 0, .int .i64 0, .int .i64 0, .int .i64 0, .int .i64 0, .int .i64 0] 27) := ⟨_, rfl⟩
              rw [← hW]
              rw [hRA.out] at hW
              have B2 : Hid (Bk W w1.heap.size (rA X) 27) := Lib.hid (by rw [hW]; exact Bk.new w1 (rA X) 27 (by decide))
              have U2 : Hid (Up w W) := Lib.hid (by rw [hW]; exact U1.out.alloc' _)
              clear hW U1
              refine wp_region_lit ?_
              refine wpList_ld rfl 9 w1.heap.size X _ rfl B2.out rfl ?_
              go_wp2_with fail
              refine (PN.out _ (Tabs.up TT.out U2.out)).mono ?_; rintro e w3 ⟨rfl, u3⟩
              have B3 := Lib.hid (B2.out.up u3)
              have U3 := Lib.hid (U2.out.trans u3)
              clear u3 B2 U2 PN
              go_upto_region 14 with (fail)
              refine wp_region_lit ?_
              refine wpList_step (fun KK hKK => ?_)
              go_simp
              refine hKK _ _ ?_
              clear hKK KK
              refine wpList_step (fun KK hKK => ?_)
              go_simp
              refine hKK _ _ ?_
              clear hKK KK
              refine wpList_step (fun KK hKK => ?_)
              go_simp
              refine hKK _ _ ?_
              clear hKK KK
              refine wpList_step (fun KK hKK => ?_)
              go_simp
              refine hKK _ _ ?_
              clear hKK KK
              refine wpList_step (fun KK hKK => ?_)
              go_simp
              refine hKK _ _ ?_
              clear hKK KK
              refine wpList_step (fun KK hKK => ?_)
              go_simp
              refine hKK _ _ ?_
              clear hKK KK
              refine wpList_ldg (by go_simp) 9 w1.heap.size X _ rfl B3.out rfl ?_
              go_wp2_with fail
              refine (RR.out _).mono ?_; rintro e w4 ⟨rfl, u4⟩
              go_wp2_with fail
              go_ret
              exact ⟨ret_b (by simp), U3.out.trans u4⟩
        · have ck2 : k < k1.length := by omega
          have ck3 : (k : Int) < (p : Int) := by omega
          have gk := hg.out k (by omega)
          have st := Lib.hid (nI_step HA ck2)
          clear HA
          generalize hc : k1.getD k 0 = c at *
          have iL := Lib.hid (isL_i c)
          have oS := Lib.hid (okS_i c)
          have iD := Lib.hid (isD_i c)
          clear hc ck XY XN NB tk PN RR hRA
          cases A <;> cases F
          all_goals go_upto_region 12 with (fail)
          all_goals exact ⟨⟨k + 1, by omega, by omega, nI_of st.out (by rw [iL.out, Bool.eq_iff_iff]; first | (simp; done) | (simp; omega)) (by rw [oS.out, iL.out, iD.out, Bool.eq_iff_iff]; first | (simp; done) | (simp; omega))⟩, by simp [intOf]; omega⟩
  by_cases c2 : 20 < p
  · as_aux_lemma =>
      have c3 : (3 : Int) ≤ (p : Int) := by omega
      have c4 : decide ((p : Int) ≤ 20) = false := by simp; omega
      go_enter Tryd.func9, Tryd.ntmps9
      go_wp2_with fail
      refine (SH.out _ TT.out).mono ?_; rintro e w1 ⟨rfl, u1⟩
      have U1 := Lib.hid u1
      clear u1 SH
      go_upto_region 5 with (fail)
      go_wp2_with fail
      go_loop [4, 5, 6] (fun a f i => ∃ (k : Nat) (A F : Bool), k ≤ p ∧ a = .bool A ∧ f = .bool F ∧ i = .int .i64 (k : Int) ∧ nI k1 false k A F) (fun _ _ i => p - (intOf i).toNat)
      case atStart => exact ⟨0, true, false, Nat.zero_le _, rfl, rfl, rfl, by constructor <;> simp⟩
      case round =>
        obtain ⟨k, A, F, hk, rfl, rfl, rfl, HA⟩ := hrel
        by_cases ck : k = p
        · subst ck
          have N1 : nb = F := NB.out.trans (by have := HA.2; rw [tk.out] at this; rw [this]; rw [decide_eq_false (show ¬ k ≤ 20 by omega), Bool.and_false])
          have N2 : k1.all isL = A := by have := HA.1; rw [tk.out] at this; exact this.symm
          subst N1
          clear HA NB tk
          have f1 : ¬ 9223372036854775807 < k + 1 := by omega
          have f2 : ¬ 9223372036854775807 < 1 + k := by omega
          have f3 : ¬ 9223372036854775807 < 1 + k + 2 := by omega
          cases nb
          · obtain ⟨rfl, rfl, rfl⟩ := XN.out rfl
            clear XN XY N2
            go_upto_region 13 with (fail)
            obtain ⟨W, hW⟩ : ∃ W, W = w1.alloc (.cells #[.int .i64 0, .bool false, .string (tx k1), .int .i64 0, .bool false, .string ⟨#[]⟩, .bool false, .int .i64 0, .int .i64 0, .int .i64 0, .int .i64 0, .int .i64 0, .int .i64 0, .int .i64 0, .int .i64 0, .int .i64 0, .int .i64 0] 27) := ⟨_, rfl⟩
            rw [← hW]
            rw [hRA.out] at hW
            have B2 : Hid (Bk W w1.heap.size (rA X) 27) := Lib.hid (by rw [hW]; exact Bk.new w1 (rA X) 27 (by decide))
            have U2 : Hid (Up w W) := Lib.hid (by rw [hW]; exact U1.out.alloc' _)
            clear hW U1
            refine wp_region_lit ?_
            refine wpList_ld rfl 9 w1.heap.size X _ rfl B2.out rfl ?_
            go_wp2_with fail
            refine (PN.out _ (Tabs.up TT.out U2.out)).mono ?_; rintro e w3 ⟨rfl, u3⟩
            have B3 := Lib.hid (B2.out.up u3)
            have U3 := Lib.hid (U2.out.trans u3)
            clear u3 B2 U2 PN
            go_upto_region 14 with (fail)
            refine wp_region_lit ?_
            refine wpList_step (fun KK hKK => ?_)
            go_simp
            refine hKK _ _ ?_
            clear hKK KK
            refine wpList_step (fun KK hKK => ?_)
            go_simp
            refine hKK _ _ ?_
            clear hKK KK
            refine wpList_step (fun KK hKK => ?_)
            go_simp
            refine hKK _ _ ?_
            clear hKK KK
            refine wpList_step (fun KK hKK => ?_)
            go_simp
            refine hKK _ _ ?_
            clear hKK KK
            refine wpList_step (fun KK hKK => ?_)
            go_simp
            refine hKK _ _ ?_
            clear hKK KK
            refine wpList_step (fun KK hKK => ?_)
            go_simp
            refine hKK _ _ ?_
            clear hKK KK
            refine wpList_ldg (by go_simp) 9 w1.heap.size X _ rfl B3.out rfl ?_
            go_wp2_with fail
            refine (RR.out _).mono ?_; rintro e w4 ⟨rfl, u4⟩
            go_wp2_with fail
            go_ret
            exact ⟨ret_b (by simp), U3.out.trans u4⟩
          · obtain ⟨rfl, rfl, y1, y2⟩ := XY.out rfl
            clear XN XY
            cases A
            · have y := y2 N2
              clear y1 y2 N2
              go_upto_region 13 with (fail)
              obtain ⟨W, hW⟩ : ∃ W, W = w1.alloc (.cells #[.int .i64 0, .bool false, .string (tx k1), .int .i64 0, .bool false, .string ⟨#[]⟩, .bool false, .int .i64 0, .int .i64 0, .int .i64 0, .int .i64 0, .int .i64 0, .int .i64 0, .int .i64 0, .int .i64 0, .int .i64 0, .int .i64 0] 27) := ⟨_, rfl⟩
              rw [← hW]
              rw [hRA.out] at hW
              have B2 : Hid (Bk W w1.heap.size (rA X) 27) := Lib.hid (by rw [hW]; exact Bk.new w1 (rA X) 27 (by decide))
              have U2 : Hid (Up w W) := Lib.hid (by rw [hW]; exact U1.out.alloc' _)
              clear hW U1
              refine wp_region_lit ?_
              refine wpList_ld rfl 9 w1.heap.size X _ rfl B2.out rfl ?_
              go_wp2_with fail
              refine (PN.out _ (Tabs.up TT.out U2.out)).mono ?_; rintro e w3 ⟨rfl, u3⟩
              have B3 := Lib.hid (B2.out.up u3)
              have U3 := Lib.hid (U2.out.trans u3)
              clear u3 B2 U2 PN
              go_upto_region 14 with (fail)
              refine wp_region_lit ?_
              refine wpList_step (fun KK hKK => ?_)
              go_simp
              refine hKK _ _ ?_
              clear hKK KK
              refine wpList_step (fun KK hKK => ?_)
              go_simp
              refine hKK _ _ ?_
              clear hKK KK
              refine wpList_step (fun KK hKK => ?_)
              go_simp
              refine hKK _ _ ?_
              clear hKK KK
              refine wpList_step (fun KK hKK => ?_)
              go_simp
              refine hKK _ _ ?_
              clear hKK KK
              refine wpList_step (fun KK hKK => ?_)
              go_simp
              refine hKK _ _ ?_
              clear hKK KK
              refine wpList_step (fun KK hKK => ?_)
              go_simp
              refine hKK _ _ ?_
              clear hKK KK
              refine wpList_ldg (by go_simp) 9 w1.heap.size X _ rfl B3.out rfl ?_
              go_wp2_with fail
              refine (RR.out _).mono ?_; rintro e w4 ⟨rfl, u4⟩
              go_wp2_with fail
              go_ret
              exact ⟨ret_b (by simp), U3.out.trans u4⟩
            · have y := y1 N2
              clear y1 y2 N2
              go_upto_region 13 with (fail)
              obtain ⟨W, hW⟩ : ∃ W, W = w1.alloc (.cells #[.int .i64 0, .bool false, .string (tx k1), .int .i64 0, .bool false, .string ⟨#[]⟩, .bool false, .int .i64 0, .int .i64 0, .int .i64 0, .int .i64 0, .int .i64 0, .int .i64 0, .int .i64 0, .int .i64 0, .int .i64 0, .int .i64 0] 27) := ⟨_, rfl⟩
              rw [← hW]
              rw [hRA.out] at hW
              have B2 : Hid (Bk W w1.heap.size (rA X) 27) := Lib.hid (by rw [hW]; exact Bk.new w1 (rA X) 27 (by decide))
              have U2 : Hid (Up w W) := Lib.hid (by rw [hW]; exact U1.out.alloc' _)
              clear hW U1
              refine wp_region_lit ?_
              refine wpList_ld rfl 9 w1.heap.size X _ rfl B2.out rfl ?_
              go_wp2_with fail
              refine (PN.out _ (Tabs.up TT.out U2.out)).mono ?_; rintro e w3 ⟨rfl, u3⟩
              have B3 := Lib.hid (B2.out.up u3)
              have U3 := Lib.hid (U2.out.trans u3)
              clear u3 B2 U2 PN
              go_upto_region 14 with (fail)
              refine wp_region_lit ?_
              refine wpList_step (fun KK hKK => ?_)
              go_simp
              refine hKK _ _ ?_
              clear hKK KK
              refine wpList_step (fun KK hKK => ?_)
              go_simp
              refine hKK _ _ ?_
              clear hKK KK
              refine wpList_step (fun KK hKK => ?_)
              go_simp
              refine hKK _ _ ?_
              clear hKK KK
              refine wpList_step (fun KK hKK => ?_)
              go_simp
              refine hKK _ _ ?_
              clear hKK KK
              refine wpList_step (fun KK hKK => ?_)
              go_simp
              refine hKK _ _ ?_
              clear hKK KK
              refine wpList_step (fun KK hKK => ?_)
              go_simp
              refine hKK _ _ ?_
              clear hKK KK
              refine wpList_ldg (by go_simp) 9 w1.heap.size X _ rfl B3.out rfl ?_
              go_wp2_with fail
              refine (RR.out _).mono ?_; rintro e w4 ⟨rfl, u4⟩
              go_wp2_with fail
              go_ret
              exact ⟨ret_b (by simp), U3.out.trans u4⟩
        · have ck2 : k < k1.length := by omega
          have ck3 : (k : Int) < (p : Int) := by omega
          have gk := hg.out k (by omega)
          have st := Lib.hid (nI_step HA ck2)
          clear HA
          generalize hc : k1.getD k 0 = c at *
          have iL := Lib.hid (isL_i c)
          have oS := Lib.hid (okS_i c)
          have iD := Lib.hid (isD_i c)
          clear hc ck XY XN NB tk PN RR hRA
          cases A <;> cases F
          all_goals go_upto_region 12 with (fail)
          all_goals exact ⟨⟨k + 1, by omega, by omega, nI_of st.out (by rw [iL.out, Bool.eq_iff_iff]; first | (simp; done) | (simp; omega)) (by rw [oS.out, iL.out, iD.out, Bool.eq_iff_iff]; first | (simp; done) | (simp; omega))⟩, by simp [intOf]; omega⟩
  · as_aux_lemma =>
      have c3 : (3 : Int) ≤ (p : Int) := by omega
      have c4 : (p : Int) ≤ 20 := by omega
      go_enter Tryd.func9, Tryd.ntmps9
      go_wp2_with fail
      refine (SH.out _ TT.out).mono ?_; rintro e w1 ⟨rfl, u1⟩
      have U1 := Lib.hid u1
      clear u1 SH
      go_upto_region 5 with (fail)
      go_wp2_with fail
      go_loop [4, 5, 6] (fun a f i => ∃ (k : Nat) (A F : Bool), k ≤ p ∧ a = .bool A ∧ f = .bool F ∧ i = .int .i64 (k : Int) ∧ nI k1 true k A F) (fun _ _ i => p - (intOf i).toNat)
      case atStart => exact ⟨0, true, true, Nat.zero_le _, rfl, rfl, rfl, by constructor <;> simp⟩
      case round =>
        obtain ⟨k, A, F, hk, rfl, rfl, rfl, HA⟩ := hrel
        by_cases ck : k = p
        · subst ck
          have N1 : nb = F := NB.out.trans (by have := HA.2; rw [tk.out] at this; rw [this]; rw [decide_eq_true (show 3 ≤ k by omega), decide_eq_true (show k ≤ 20 by omega)]; rfl)
          have N2 : k1.all isL = A := by have := HA.1; rw [tk.out] at this; exact this.symm
          subst N1
          clear HA NB tk
          have f1 : ¬ 9223372036854775807 < k + 1 := by omega
          have f2 : ¬ 9223372036854775807 < 1 + k := by omega
          have f3 : ¬ 9223372036854775807 < 1 + k + 2 := by omega
          cases nb
          · obtain ⟨rfl, rfl, rfl⟩ := XN.out rfl
            clear XN XY N2
            go_upto_region 13 with (fail)
            obtain ⟨W, hW⟩ : ∃ W, W = w1.alloc (.cells #[.int .i64 0, .bool false, .string (tx k1), .int .i64 0, .bool false, .string ⟨#[]⟩, .bool false, .int .i64 0, .int .i64 0, .int .i64 0, .int .i64 0, .int .i64 0, .int .i64 0, .int .i64 0, .int .i64 0, .int .i64 0, .int .i64 0] 27) := ⟨_, rfl⟩
            rw [← hW]
            rw [hRA.out] at hW
            have B2 : Hid (Bk W w1.heap.size (rA X) 27) := Lib.hid (by rw [hW]; exact Bk.new w1 (rA X) 27 (by decide))
            have U2 : Hid (Up w W) := Lib.hid (by rw [hW]; exact U1.out.alloc' _)
            clear hW U1
            refine wp_region_lit ?_
            refine wpList_ld rfl 9 w1.heap.size X _ rfl B2.out rfl ?_
            go_wp2_with fail
            refine (PN.out _ (Tabs.up TT.out U2.out)).mono ?_; rintro e w3 ⟨rfl, u3⟩
            have B3 := Lib.hid (B2.out.up u3)
            have U3 := Lib.hid (U2.out.trans u3)
            clear u3 B2 U2 PN
            go_upto_region 14 with (fail)
            refine wp_region_lit ?_
            refine wpList_step (fun KK hKK => ?_)
            go_simp
            refine hKK _ _ ?_
            clear hKK KK
            refine wpList_step (fun KK hKK => ?_)
            go_simp
            refine hKK _ _ ?_
            clear hKK KK
            refine wpList_step (fun KK hKK => ?_)
            go_simp
            refine hKK _ _ ?_
            clear hKK KK
            refine wpList_step (fun KK hKK => ?_)
            go_simp
            refine hKK _ _ ?_
            clear hKK KK
            refine wpList_step (fun KK hKK => ?_)
            go_simp
            refine hKK _ _ ?_
            clear hKK KK
            refine wpList_step (fun KK hKK => ?_)
            go_simp
            refine hKK _ _ ?_
            clear hKK KK
            refine wpList_ldg (by go_simp) 9 w1.heap.size X _ rfl B3.out rfl ?_
            go_wp2_with fail
            refine (RR.out _).mono ?_; rintro e w4 ⟨rfl, u4⟩
            go_wp2_with fail
            go_ret
            exact ⟨ret_b (by simp), U3.out.trans u4⟩
          · obtain ⟨rfl, rfl, y1, y2⟩ := XY.out rfl
            clear XN XY
            cases A
            · have y := y2 N2
              clear y1 y2 N2
              go_upto_region 13 with (fail)
              obtain ⟨W, hW⟩ : ∃ W, W = w1.alloc (.cells #[.int .i64 0, .bool false, .string (tx k1), .int .i64 0, .bool false, .string ⟨#[]⟩, .bool false, .int .i64 0, .int .i64 0, .int .i64 0, .int .i64 0, .int .i64 0, .int .i64 0, .int .i64 0, .int .i64 0, .int .i64 0, .int .i64 0] 27) := ⟨_, rfl⟩
              rw [← hW]
              rw [hRA.out] at hW
              have B2 : Hid (Bk W w1.heap.size (rA X) 27) := Lib.hid (by rw [hW]; exact Bk.new w1 (rA X) 27 (by decide))
              have U2 : Hid (Up w W) := Lib.hid (by rw [hW]; exact U1.out.alloc' _)
              clear hW U1
              refine wp_region_lit ?_
              refine wpList_ld rfl 9 w1.heap.size X _ rfl B2.out rfl ?_
              go_wp2_with fail
              refine (PN.out _ (Tabs.up TT.out U2.out)).mono ?_; rintro e w3 ⟨rfl, u3⟩
              have B3 := Lib.hid (B2.out.up u3)
              have U3 := Lib.hid (U2.out.trans u3)
              clear u3 B2 U2 PN
              go_upto_region 14 with (fail)
              refine wp_region_lit ?_
              refine wpList_step (fun KK hKK => ?_)
              go_simp
              refine hKK _ _ ?_
              clear hKK KK
              refine wpList_step (fun KK hKK => ?_)
              go_simp
              refine hKK _ _ ?_
              clear hKK KK
              refine wpList_step (fun KK hKK => ?_)
              go_simp
              refine hKK _ _ ?_
              clear hKK KK
              refine wpList_step (fun KK hKK => ?_)
              go_simp
              refine hKK _ _ ?_
              clear hKK KK
              refine wpList_step (fun KK hKK => ?_)
              go_simp
              refine hKK _ _ ?_
              clear hKK KK
              refine wpList_step (fun KK hKK => ?_)
              go_simp
              refine hKK _ _ ?_
              clear hKK KK
              refine wpList_ldg (by go_simp) 9 w1.heap.size X _ rfl B3.out rfl ?_
              go_wp2_with fail
              refine (RR.out _).mono ?_; rintro e w4 ⟨rfl, u4⟩
              go_wp2_with fail
              go_ret
              exact ⟨ret_b (by simp), U3.out.trans u4⟩
            · have y := y1 N2
              clear y1 y2 N2
              go_upto_region 13 with (fail)
              obtain ⟨W, hW⟩ : ∃ W, W = w1.alloc (.cells #[.int .i64 0, .bool false, .string (tx k1), .int .i64 0, .bool false, .string ⟨#[]⟩, .bool false, .int .i64 0, .int .i64 0, .int .i64 0, .int .i64 0, .int .i64 0, .int .i64 0, .int .i64 0, .int .i64 0, .int .i64 0, .int .i64 0] 27) := ⟨_, rfl⟩
              rw [← hW]
              rw [hRA.out] at hW
              have B2 : Hid (Bk W w1.heap.size (rA X) 27) := Lib.hid (by rw [hW]; exact Bk.new w1 (rA X) 27 (by decide))
              have U2 : Hid (Up w W) := Lib.hid (by rw [hW]; exact U1.out.alloc' _)
              clear hW U1
              refine wp_region_lit ?_
              refine wpList_ld rfl 9 w1.heap.size X _ rfl B2.out rfl ?_
              go_wp2_with fail
              refine (PN.out _ (Tabs.up TT.out U2.out)).mono ?_; rintro e w3 ⟨rfl, u3⟩
              have B3 := Lib.hid (B2.out.up u3)
              have U3 := Lib.hid (U2.out.trans u3)
              clear u3 B2 U2 PN
              go_upto_region 14 with (fail)
              refine wp_region_lit ?_
              refine wpList_step (fun KK hKK => ?_)
              go_simp
              refine hKK _ _ ?_
              clear hKK KK
              refine wpList_step (fun KK hKK => ?_)
              go_simp
              refine hKK _ _ ?_
              clear hKK KK
              refine wpList_step (fun KK hKK => ?_)
              go_simp
              refine hKK _ _ ?_
              clear hKK KK
              refine wpList_step (fun KK hKK => ?_)
              go_simp
              refine hKK _ _ ?_
              clear hKK KK
              refine wpList_step (fun KK hKK => ?_)
              go_simp
              refine hKK _ _ ?_
              clear hKK KK
              refine wpList_step (fun KK hKK => ?_)
              go_simp
              refine hKK _ _ ?_
              clear hKK KK
              refine wpList_ldg (by go_simp) 9 w1.heap.size X _ rfl B3.out rfl ?_
              go_wp2_with fail
              refine (RR.out _).mono ?_; rintro e w4 ⟨rfl, u4⟩
              go_wp2_with fail
              go_ret
              exact ⟨ret_b (by simp), U3.out.trans u4⟩
        · have ck2 : k < k1.length := by omega
          have ck3 : (k : Int) < (p : Int) := by omega
          have gk := hg.out k (by omega)
          have st := Lib.hid (nI_step HA ck2)
          clear HA
          generalize hc : k1.getD k 0 = c at *
          have iL := Lib.hid (isL_i c)
          have oS := Lib.hid (okS_i c)
          have iD := Lib.hid (isD_i c)
          clear hc ck XY XN NB tk PN RR hRA
          cases A <;> cases F
          all_goals go_upto_region 12 with (fail)
          all_goals exact ⟨⟨k + 1, by omega, by omega, nI_of st.out (by rw [iL.out, Bool.eq_iff_iff]; first | (simp; done) | (simp; omega)) (by rw [oS.out, iL.out, iD.out, Bool.eq_iff_iff]; first | (simp; done) | (simp; omega))⟩, by simp [intOf]; omega⟩

theorem readable : ∀ t ∈ Tryd.f9.params.toList, Tryd.prog.readableRec t = true ∧ t < Tryd.prog.types.size := by
  rw [Tryd.params9]
  intro t ht
  have hall : ([9].all fun u => Tryd.prog.readableRec u && decide (u < Tryd.prog.types.size)) = true := by kernel_rfl
  have := List.all_eq_true.1 hall t (by simpa using ht)
  simpa using this

set_option maxRecDepth 100000 in
theorem lifted (os : Os) (started : os.Started) (H : Type) (enc : TypeId × Value → H) :
    ReturnsInHanded {} Tryd.checked os 9 .any (fun w args => (Rows.posixNamesSpec.pre enc Tryd.prog Tryd.f9 [] false w args ∧ laidMetH Tryd.prog laidE w) ∧ sizedMet enc Tryd.prog Tryd.f9 (OpenSpec.ofChange Rows.posixNamesSpec) false w args) (Rows.posixNamesSpec.post enc Tryd.prog Tryd.f9 false true false false) := by
  refine returnsInHanded_of_change_and (C := Tryd.checked) (X := fun w _ => laidMetH Tryd.prog laidE w) (fun _ _ _ hh h => h.of_heap hh) own started (by kernel_rfl) Tryd.func9
    (ChangeSpec.witness_shaped (enc := enc) (C := Tryd.checked) (os := os) (X := fun w _ => laidMetH Tryd.prog laidE w) false (World.doorLaid Tryd.prog 400 os) #[.string ⟨#[]⟩] 8 rfl (World.shaped_of_RefB (by kernel_rfl) (by kernel_rfl)) (by kernel_rfl) (by kernel_rfl) (by kernel_rfl) (door_metE os _)) ?_
  intro W base args ds gs before hval0 hW _ _ hL _
  have hval : ∀ (j : Nat) t v, Tryd.f9.params[j]? = some t → args[j]? = some v → Value.okWide Tryd.prog W .any base t v := hval0
  have hW' := hW
  obtain ⟨p, q, hA0, hV, rfl, hfz, hnd⟩ := hW
  have hA : DataW.TrodAll enc Tryd.prog W 0 (fun _ => true) true Tryd.f9.params.toList args.toList ds p := hA0
  rw [Tryd.params9] at hA hval
  obtain ⟨v0, vs0, d0, ds0, p0, q0, hargs, rfl, rfl, h0, r0⟩ := trodAll_cons hA
  obtain ⟨rfl, rfl, rfl⟩ := trodAll_nil r0
  obtain rfl : args = #[v0] := by cases args; simp_all
  obtain ⟨rfl, rfl⟩ := trodVars_none hV
  obtain ⟨a0, rfl, rfl, rfl, z0⟩ := Go.ChangeMaps.open_string Tryd.underlying9 (hval 0 9 v0 rfl rfl) h0
  obtain ⟨l0, rfl⟩ : ∃ l, a0 = tx l := ⟨_, tx_of a0⟩
  have s0 : l0.length ≤ maxLen := by rw [tx_size] at z0; exact z0
  clear hA0 hval0
  refine (walk l0 s0 W (tabs_of_laid hL)).mono fun e W' ⟨he, hg⟩ => ?_
  subst he
  exact ⟨_, rfl, post_up laidOut readable rfl hW' (fun _ _ _ => (trodAll_cons_mk (shut_bool Tryd.underlying4 _) trodAll_mk0)) rfl rfl
    hg (ok_one (by kernel_rfl) rfl (okWide_bool_mk Tryd.underlying4 _))⟩

theorem over : Rows.posixNamesRow.holds Tryd.pinned (OpenSpec.ofChange Rows.posixNamesSpec) :=
  OpenClaim.holds_of_wide 9 Tryd.f9 rfl rfl rfl rfl rfl rfl rfl ⟨rfl, rfl, rfl, rfl, rfl⟩ rfl rfl rfl rfl rfl (by kernel_rfl) Tryd.func9 (by kernel_rfl)
    (of_decide_eq_true (by kernel_rfl)) (by unfold Func.isWrapper; first | (rw [if_pos (by decide +kernel)]; kernel_rfl) | (rw [if_neg (by decide +kernel)]; exact ⟨rfl, rfl⟩))
    (fun os started H enc _ => lifted os started H enc)

set_option maxRecDepth 100000 in
theorem proved : Rows.PosixNamesCardSaid :=
  Claim7.holds_tied_plain_at .later [] [.data, .data, .data] true _ true
    over (fun _ h => by cases h) (by kernel_rfl) (fun _ h => by cases h) posixNames_row_tie rfl ⟨rfl, rfl⟩ (by kernel_rfl) rfl
    (fun f fn hf hfn => by
      obtain rfl : f = 9 := Option.some.inj ((show Tryd.prog.funcNamed "longcase/longcaselaw08.PosixNames" = some 9 by kernel_rfl).symm.trans hf) |>.symm
      obtain rfl : fn = Tryd.f9 := (Option.some.inj (Tryd.func9.symm.trans hfn)).symm
      exact ⟨by kernel_rfl, fun j t ht => by
        rw [Tryd.params9] at ht
        have hm : t ∈ [9] := by simpa using Array.mem_of_getElem? ht
        have hall : ([9].all fun u => !Tryd.prog.wantsStandIn u) = true := by kernel_rfl
        exact (show Tryd.prog.wantsStandIn t = false by simpa using List.all_eq_true.1 hall t hm)⟩)
    (by kernel_rfl)
end Go.Proofs.YtalpbbgkallohaaDoor.posixNames
