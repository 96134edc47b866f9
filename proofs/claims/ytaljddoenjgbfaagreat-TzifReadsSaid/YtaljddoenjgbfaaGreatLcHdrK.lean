/-
  What the document's own Decode does (longcaseref05) where the version is one: the loop, and what is told.
-/
import Derived.Test.YtaljddoenjgbfaaGreatLcHdrH
namespace Go.Proofs.YtaljddoenjgbfaaGreat
open Go.ChangeShapes Go.WideShapes Go.ChangeAt Go.RowKit Lc

/-- The world behind six stores into one block. -/
abbrev set6 (w : World) (b : Nat) (n1 n2 n3 n4 n5 n6 : Int) : World := (((((w.setCell ⟨b, 1, none⟩ (.int .i64 n1)).setCell ⟨b, 2, none⟩ (.int .i64 n2)).setCell ⟨b, 3, none⟩ (.int .i64 n3)).setCell ⟨b, 4, none⟩ (.int .i64 n4)).setCell ⟨b, 5, none⟩ (.int .i64 n5)).setCell ⟨b, 6, none⟩ (.int .i64 n6)
set_option maxRecDepth 100000 in
theorem set6_same {w : World} {b : Nat} {v u s l t y c : Int} (x : HBox w b v u s l t y c) (n1 n2 n3 n4 n5 n6 : Int) : HBox (set6 w b n1 n2 n3 n4 n5 n6) b v n1 n2 n3 n4 n5 n6 := by
  obtain ⟨a0, a1, a2, a3, a4, a5, a6⟩ := x
  unfold HBox
  refine ⟨?_, ?_, ?_, ?_, ?_, ?_, ?_⟩ <;> simp [go_sem, a0, a1, a2, a3, a4, a5, a6]
set_option maxRecDepth 100000 in
theorem set6_other {w : World} {b d : Nat} {v u s l t y c : Int} (x : HBox w d v u s l t y c) (h : ¬ d = b) (n1 n2 n3 n4 n5 n6 : Int) : HBox (set6 w b n1 n2 n3 n4 n5 n6) d v u s l t y c := by
  obtain ⟨a0, a1, a2, a3, a4, a5, a6⟩ := x
  have h' : ¬ b = d := fun e => h e.symm
  unfold HBox
  refine ⟨?_, ?_, ?_, ?_, ?_, ?_, ?_⟩ <;> simp [go_sem, a0, a1, a2, a3, a4, a5, a6]
set_option maxRecDepth 100000 in
theorem set6_free {w : World} {b d : Nat} (x : Free w d) (n1 n2 n3 n4 n5 n6 : Int) : Free (set6 w b n1 n2 n3 n4 n5 n6) d := by
  refine ⟨by simp [World.size_setCell]; exact x.1, fun j => ?_⟩
  simp only [set6, World.frozen?_setCell]; exact x.2 j
set_option maxRecDepth 100000 in
theorem Up.set6 {w w' : World} (u : Up w w') {b : Nat} (hb : w.heap.size ≤ b) (n1 n2 n3 n4 n5 n6 : Int) : Up w (set6 w' b n1 n2 n3 n4 n5 n6) :=
  (((((u.setCell' (p := ⟨b, 1, none⟩) hb _).setCell' (p := ⟨b, 2, none⟩) hb _).setCell' (p := ⟨b, 3, none⟩) hb _).setCell' (p := ⟨b, 4, none⟩) hb _).setCell' (p := ⟨b, 5, none⟩) hb _).setCell' (p := ⟨b, 6, none⟩) hb _

set_option maxHeartbeats 4000000 in
set_option maxRecDepth 100000 in
theorem refDecode_one (A : Option Addr) (l : List UInt8) (c : Nat) (w : World) (r : Bool) (hc : l.length ≤ c) (hcm : c ≤ maxLen) (h : 44 ≤ l.length) (hr : Rd w A l) (hz : l.take 4 = tz) (h0 : (l.getD 4 0).toNat = 0) (hw : rawB l = r) :
    Calls Tryz.prog 40 #[.slice A l.length c] w fun e w' => e = .returned (.tuple #[if r then hv (versI (l.getD 4 0)) (cntI l 0) (cntI l 1) (cntI l 2) (cntI l 3) (cntI l 4) (cntI l 5) else hv 0 0 0 0 0 0 0, .int .i64 (if r then 0 else 4)]) ∧ Up w w' := by
  obtain ⟨b, o, rfl, hcell⟩ := hr (by omega)
  have c4 := ((Up.alloc w (.cells #[.int .i64 0, .int .i64 0, .int .i64 0, .int .i64 0, .int .i64 0, .int .i64 0, .int .i64 0] 60)).alloc' (.cells #[.int .i64 1, .int .i64 0, .int .i64 0, .int .i64 0, .int .i64 0, .int .i64 0, .int .i64 0] 60)).cell (hcell 4 (by omega))
  have V1 := convert_at (rzero w) b o 4 c (l.take 4) (by rw [List.length_take]; omega) ((hr.up (Up.alloc w _)).take 4)
  have heq : ((str (l.take 4)).toList == [84, 90, 105, 102]) = true := str_eq hz
  have D := Lib.hid fun k K (hk : k < 6) w' (u : Up w w') (hK : K = ((20 + 4 * k : Nat) : Int)) => refCount (some ⟨b, o, none⟩) l c k K w' hc hcm h hk (hr.up u) hK
  have R := fun w => refRight_any (versI (l.getD 4 0)) (cntI l 0) (cntI l 1) (cntI l 2) (cntI l 3) (cntI l 4) (cntI l 5) w
  rw [show rightH (versI (l.getD 4 0)) (cntI l 0) (cntI l 1) (cntI l 2) (cntI l 3) (cntI l 4) (cntI l 5) = r from hw] at R
  replace R := Lib.hid R
  clear hcell hr hz hw
  have VS : Hid (versI (l.getD 4 0) = 1) := by unfold Hid; rw [show l.getD 4 0 = 0 from UInt8.toNat_inj.1 h0]; rfl
  rw [VS.out] at R ⊢
  have CS := Lib.hid (cnts_succ l)
  have CL := Lib.hid (cnts_len l)
  have C0 : Hid (cnts l 0 = []) := rfl
  have CB := Lib.hid (cntI_bd l)
  have G0 := Lib.hid (cnts_get l 6 0 (by omega)); have G1 := Lib.hid (cnts_get l 6 1 (by omega)); have G2 := Lib.hid (cnts_get l 6 2 (by omega)); have G3 := Lib.hid (cnts_get l 6 3 (by omega)); have G4 := Lib.hid (cnts_get l 6 4 (by omega)); have G5 := Lib.hid (cnts_get l 6 5 (by omega))
  generalize str (l.take 4) = z at *
  rw [h0] at c4
  generalize hC : cntI l = C at *
  generalize cnts l = N at *
  clear hC
  have F0 := Lib.hid ((Free.new w #[.int .i64 0, .int .i64 0, .int .i64 0, .int .i64 0, .int .i64 0, .int .i64 0, .int .i64 0] 60).up (Up.alloc _ (.cells #[.int .i64 1, .int .i64 0, .int .i64 0, .int .i64 0, .int .i64 0, .int .i64 0, .int .i64 0] 60)))
  have B0 := Lib.hid ((HBox.new w 0 0 0 0 0 0 0 60).up (Up.alloc _ (.cells #[.int .i64 1, .int .i64 0, .int .i64 0, .int .i64 0, .int .i64 0, .int .i64 0, .int .i64 0] 60)))
  have F1 := Free.new (w.alloc (.cells #[.int .i64 0, .int .i64 0, .int .i64 0, .int .i64 0, .int .i64 0, .int .i64 0, .int .i64 0] 60)) #[.int .i64 1, .int .i64 0, .int .i64 0, .int .i64 0, .int .i64 0, .int .i64 0, .int .i64 0] 60
  have B1 := HBox.new (w.alloc (.cells #[.int .i64 0, .int .i64 0, .int .i64 0, .int .i64 0, .int .i64 0, .int .i64 0, .int .i64 0] 60)) 1 0 0 0 0 0 0 60
  rw [World.size_alloc] at F1 B1
  replace F1 := Lib.hid F1; replace B1 := Lib.hid B1
  have U0 := Lib.hid ((Up.alloc w (.cells #[.int .i64 0, .int .i64 0, .int .i64 0, .int .i64 0, .int .i64 0, .int .i64 0, .int .i64 0] 60)).alloc' (.cells #[.int .i64 1, .int .i64 0, .int .i64 0, .int .i64 0, .int .i64 0, .int .i64 0, .int .i64 0] 60))
  have Z0 : Hid (((w.alloc (.cells #[.int .i64 0, .int .i64 0, .int .i64 0, .int .i64 0, .int .i64 0, .int .i64 0, .int .i64 0] 60)).alloc (.cells #[.int .i64 1, .int .i64 0, .int .i64 0, .int .i64 0, .int .i64 0, .int .i64 0, .int .i64 0] 60)).heap.size = w.heap.size + 1 + 1) := by unfold Hid; rw [World.size_alloc, World.size_alloc]
  go_enter Tryz.func40, Tryz.ntmps40
  go_wp2_with fail
  change Code.wp _ _ _ _ (((w.alloc (.cells #[.int .i64 0, .int .i64 0, .int .i64 0, .int .i64 0, .int .i64 0, .int .i64 0, .int .i64 0] 60)).alloc (.cells #[.int .i64 1, .int .i64 0, .int .i64 0, .int .i64 0, .int .i64 0, .int .i64 0, .int .i64 0] 60)).alloc (.cells #[] 3))
  generalize (w.alloc (.cells #[.int .i64 0, .int .i64 0, .int .i64 0, .int .i64 0, .int .i64 0, .int .i64 0, .int .i64 0] 60)).alloc (.cells #[.int .i64 1, .int .i64 0, .int .i64 0, .int .i64 0, .int .i64 0, .int .i64 0, .int .i64 0] 60) = W at *
  clear c4 V1 heq
  have O0 : Hid (Oi (W.alloc (.cells #[] 3)) W.heap.size (.slice (some ⟨w.heap.size + 1 + 1, 0, none⟩) 0 0) (N 0)) := by
    have h := Oi.empty W W.heap.size (Nat.le_refl _)
    rw [C0.out]
    rw [Z0.out] at h ⊢
    exact h
  go_loopw [5, 6] (fun x i wr => ∃ k : Nat, k ≤ 6 ∧ i = .int .i64 k ∧ Hid (Oi wr W.heap.size x (N k)) ∧ Hid (Up W wr)) (fun _ i _ => (7 - intOf i).toNat)
  case atStart => exact ⟨0, by omega, rfl, O0.out, Up.alloc _ _⟩
  case round =>
    clear O0
    obtain ⟨k, hk, rfl, HO, U⟩ := hrel
    by_cases hlt : k < 6
    · obtain ⟨q0, q1⟩ := CB.out k
      have Dk := Lib.hid (fun K hK w' u => D.out k K hlt w' u hK)
      have CSk := Lib.hid (CS.out k)
      generalize C k = ck at *
      go_wp2_with fail
      refine (Dk.out _ (by omega) _ (U0.out.trans U.out)).mono ?_; rintro e w' ⟨rfl, rfl⟩
      go_wp2_with (at_builtin; refine wpList_append_int _ rfl _ _ rfl W.heap.size _ (N k) rfl (HO.out.up (Up.alloc _ _)) wr.heap.size ck rfl (by simp) ?e2 ?e3 ?_)
      case e2 => rw [CL.out]; omega
      case e3 => have := U.out.size; simp; omega
      intro v' w4 ho hg
      have HO' : Hid (Oi w4 W.heap.size v' (N (k + 1))) := by rw [CSk.out] at ho; exact ho
      have U' : Hid (Up W w4) := (U.out.alloc' _).grown hg HO.out.block
      clear ho hg HO U
      go_wp2_with fail
      go_roundw
      case rel => exact ⟨k + 1, by omega, by go_num, HO'.out, U'.out⟩
      case measure => simp [intOf]; omega
    · obtain rfl : k = 6 := by omega
      obtain ⟨g, cp, rfl, hgb, hgl, hcp, hcpm, hgc⟩ := HO.out.form (by rw [CL.out]; omega)
      rw [CL.out] at hgc hcp
      rw [CL.out, show (((6 : Nat) : Int)) = (6 : Int) from rfl]
      have e0 := hgc 0 (by omega); have e1 := hgc 1 (by omega); have e2 := hgc 2 (by omega); have e3 := hgc 3 (by omega); have e4 := hgc 4 (by omega); have e5 := hgc 5 (by omega)
      rw [G0.out] at e0; rw [G1.out] at e1; rw [G2.out] at e2; rw [G3.out] at e3; rw [G4.out] at e4; rw [G5.out] at e5
      clear hgc
      have gne : ¬ g = w.heap.size + 1 := by have := Z0.out; omega
      have gne' : ¬ w.heap.size + 1 = g := by omega
      obtain ⟨a0, a1, a2, a3, a4, a5, a6⟩ := B1.out.up U.out
      have fz := (F1.out.up U.out).2
      have f1 := fz 1; have f2 := fz 2; have f3 := fz 3; have f4 := fz 4; have f5 := fz 5; have f6 := fz 6
      clear fz
      generalize m1 : C 0 = n1 at *; replace m1 := Lib.hid m1
      generalize m2 : C 1 = n2 at *; replace m2 := Lib.hid m2
      generalize m3 : C 2 = n3 at *; replace m3 := Lib.hid m3
      generalize m4 : C 3 = n4 at *; replace m4 := Lib.hid m4
      generalize m5 : C 4 = n5 at *; replace m5 := Lib.hid m5
      generalize m6 : C 5 = n6 at *; replace m6 := Lib.hid m6
      go_wp2_with fail
      have X5 := Lib.hid (set6_same (B1.out.up U.out) n1 n2 n3 n4 n5 n6)
      have Y5 := Lib.hid (set6_other (b := w.heap.size + 1) (B0.out.up U.out) (by omega) n1 n2 n3 n4 n5 n6)
      have F5 := Lib.hid (set6_free (b := w.heap.size + 1) (F0.out.up U.out) n1 n2 n3 n4 n5 n6)
      have U5 := Lib.hid ((U0.out.trans U.out).set6 (b := w.heap.size + 1) (by omega) n1 n2 n3 n4 n5 n6)
      clear a0 a1 a2 a3 a4 a5 a6 f1 f2 f3 f4 f5 f6 e0 e1 e2 e3 e4 e5
      generalize hV : set6 wr (w.heap.size + 1) n1 n2 n3 n4 n5 n6 = V5 at X5 Y5 F5 U5
      change Calls _ _ _ (set6 wr (w.heap.size + 1) n1 n2 n3 n4 n5 n6) _
      rw [hV]
      clear hV
      refine (R.out _).mono ?_; rintro e w1 ⟨rfl, u1⟩
      obtain ⟨b0, b1, b2, b3, b4, b5, b6⟩ := X5.out.up u1
      obtain ⟨a0, a1, a2, a3, a4, a5, a6⟩ := Y5.out.up u1
      have fz := (F5.out.up u1).2
      have g0 := fz 0; have g1 := fz 1; have g2 := fz 2; have g3 := fz 3; have g4 := fz 4; have g5 := fz 5; have g6 := fz 6
      clear fz
      have U6 := Lib.hid (U5.out.trans u1)
      clear X5 Y5 F5 U5 u1 U0 F0 F1 B0 B1 U
      cases r
      · go_wp2_with fail
        refine bodyPost_ret (v := .tuple #[hv 0 0 0 0 0 0 0, .int .i64 4]) (by simp [results, Tryz.results40, go_sem, a0, a1, a2, a3, a4, a5, a6]) rfl ?_
        exact ⟨rfl, Up.seven U6.out (Nat.le_refl _) _ _ _ _ _ _ _⟩
      · go_wp2_with fail
        refine bodyPost_ret (v := .tuple #[hv 1 n1 n2 n3 n4 n5 n6, .int .i64 0]) (by simp [results, Tryz.results40, go_sem, a0, a1, a2, a3, a4, a5, a6]) rfl ?_
        exact ⟨by rw [m1.out, m2.out, m3.out, m4.out, m5.out, m6.out], Up.seven U6.out (Nat.le_refl _) _ _ _ _ _ _ _⟩

set_option maxHeartbeats 4000000 in
set_option maxRecDepth 100000 in
theorem refDecode_more (A : Option Addr) (l : List UInt8) (c : Nat) (w : World) (r : Bool) (hc : l.length ≤ c) (hcm : c ≤ maxLen) (h : 44 ≤ l.length) (hr : Rd w A l) (hz : l.take 4 = tz) (h1 : 50 ≤ (l.getD 4 0).toNat) (h2 : (l.getD 4 0).toNat ≤ 52) (hw : rawB l = r) :
    Calls Tryz.prog 40 #[.slice A l.length c] w fun e w' => e = .returned (.tuple #[if r then hv (versI (l.getD 4 0)) (cntI l 0) (cntI l 1) (cntI l 2) (cntI l 3) (cntI l 4) (cntI l 5) else hv 0 0 0 0 0 0 0, .int .i64 (if r then 0 else 4)]) ∧ Up w w' := by
  obtain ⟨b, o, rfl, hcell⟩ := hr (by omega)
  have c4 := ((Up.alloc w (.cells #[.int .i64 0, .int .i64 0, .int .i64 0, .int .i64 0, .int .i64 0, .int .i64 0, .int .i64 0] 60)).alloc' (.cells #[.int .i64 1, .int .i64 0, .int .i64 0, .int .i64 0, .int .i64 0, .int .i64 0, .int .i64 0] 60)).cell (hcell 4 (by omega))
  have V1 := convert_at (rzero w) b o 4 c (l.take 4) (by rw [List.length_take]; omega) ((hr.up (Up.alloc w _)).take 4)
  have heq : ((str (l.take 4)).toList == [84, 90, 105, 102]) = true := str_eq hz
  have D := Lib.hid fun k K (hk : k < 6) w' (u : Up w w') (hK : K = ((20 + 4 * k : Nat) : Int)) => refCount (some ⟨b, o, none⟩) l c k K w' hc hcm h hk (hr.up u) hK
  have R := fun w => refRight_any (versI (l.getD 4 0)) (cntI l 0) (cntI l 1) (cntI l 2) (cntI l 3) (cntI l 4) (cntI l 5) w
  rw [show rightH (versI (l.getD 4 0)) (cntI l 0) (cntI l 1) (cntI l 2) (cntI l 3) (cntI l 4) (cntI l 5) = r from hw] at R
  replace R := Lib.hid R
  clear hcell hr hz hw
  have VS := vers_some h1 h2
  rw [VS] at R ⊢
  clear VS
  have CS := Lib.hid (cnts_succ l)
  have CL := Lib.hid (cnts_len l)
  have C0 : Hid (cnts l 0 = []) := rfl
  have CB := Lib.hid (cntI_bd l)
  have G0 := Lib.hid (cnts_get l 6 0 (by omega)); have G1 := Lib.hid (cnts_get l 6 1 (by omega)); have G2 := Lib.hid (cnts_get l 6 2 (by omega)); have G3 := Lib.hid (cnts_get l 6 3 (by omega)); have G4 := Lib.hid (cnts_get l 6 4 (by omega)); have G5 := Lib.hid (cnts_get l 6 5 (by omega))
  generalize str (l.take 4) = z at *
  generalize (l.getD 4 0).toNat = x at *
  generalize hC : cntI l = C at *
  generalize cnts l = N at *
  clear hC
  have F0 := Lib.hid ((Free.new w #[.int .i64 0, .int .i64 0, .int .i64 0, .int .i64 0, .int .i64 0, .int .i64 0, .int .i64 0] 60).up (Up.alloc _ (.cells #[.int .i64 ((x : Int) - 48), .int .i64 0, .int .i64 0, .int .i64 0, .int .i64 0, .int .i64 0, .int .i64 0] 60)))
  have B0 := Lib.hid ((HBox.new w 0 0 0 0 0 0 0 60).up (Up.alloc _ (.cells #[.int .i64 ((x : Int) - 48), .int .i64 0, .int .i64 0, .int .i64 0, .int .i64 0, .int .i64 0, .int .i64 0] 60)))
  have F1 := Free.new (w.alloc (.cells #[.int .i64 0, .int .i64 0, .int .i64 0, .int .i64 0, .int .i64 0, .int .i64 0, .int .i64 0] 60)) #[.int .i64 ((x : Int) - 48), .int .i64 0, .int .i64 0, .int .i64 0, .int .i64 0, .int .i64 0, .int .i64 0] 60
  have B1 := HBox.new (w.alloc (.cells #[.int .i64 0, .int .i64 0, .int .i64 0, .int .i64 0, .int .i64 0, .int .i64 0, .int .i64 0] 60)) ((x : Int) - 48) 0 0 0 0 0 0 60
  rw [World.size_alloc] at F1 B1
  replace F1 := Lib.hid F1; replace B1 := Lib.hid B1
  have U0 := Lib.hid ((Up.alloc w (.cells #[.int .i64 0, .int .i64 0, .int .i64 0, .int .i64 0, .int .i64 0, .int .i64 0, .int .i64 0] 60)).alloc' (.cells #[.int .i64 ((x : Int) - 48), .int .i64 0, .int .i64 0, .int .i64 0, .int .i64 0, .int .i64 0, .int .i64 0] 60))
  have Z0 : Hid (((w.alloc (.cells #[.int .i64 0, .int .i64 0, .int .i64 0, .int .i64 0, .int .i64 0, .int .i64 0, .int .i64 0] 60)).alloc (.cells #[.int .i64 ((x : Int) - 48), .int .i64 0, .int .i64 0, .int .i64 0, .int .i64 0, .int .i64 0, .int .i64 0] 60)).heap.size = w.heap.size + 1 + 1) := by unfold Hid; rw [World.size_alloc, World.size_alloc]
  go_enter Tryz.func40, Tryz.ntmps40
  go_wp2_with fail
  change Code.wp _ _ _ _ (((w.alloc (.cells #[.int .i64 0, .int .i64 0, .int .i64 0, .int .i64 0, .int .i64 0, .int .i64 0, .int .i64 0] 60)).alloc (.cells #[.int .i64 ((x : Int) - 48), .int .i64 0, .int .i64 0, .int .i64 0, .int .i64 0, .int .i64 0, .int .i64 0] 60)).alloc (.cells #[] 3))
  generalize (w.alloc (.cells #[.int .i64 0, .int .i64 0, .int .i64 0, .int .i64 0, .int .i64 0, .int .i64 0, .int .i64 0] 60)).alloc (.cells #[.int .i64 ((x : Int) - 48), .int .i64 0, .int .i64 0, .int .i64 0, .int .i64 0, .int .i64 0, .int .i64 0] 60) = W at *
  clear c4 V1 heq
  have O0 : Hid (Oi (W.alloc (.cells #[] 3)) W.heap.size (.slice (some ⟨w.heap.size + 1 + 1, 0, none⟩) 0 0) (N 0)) := by
    have h := Oi.empty W W.heap.size (Nat.le_refl _)
    rw [C0.out]
    rw [Z0.out] at h ⊢
    exact h
  go_loopw [5, 6] (fun x i wr => ∃ k : Nat, k ≤ 6 ∧ i = .int .i64 k ∧ Hid (Oi wr W.heap.size x (N k)) ∧ Hid (Up W wr)) (fun _ i _ => (7 - intOf i).toNat)
  case atStart => exact ⟨0, by omega, rfl, O0.out, Up.alloc _ _⟩
  case round =>
    clear O0
    obtain ⟨k, hk, rfl, HO, U⟩ := hrel
    by_cases hlt : k < 6
    · obtain ⟨q0, q1⟩ := CB.out k
      have Dk := Lib.hid (fun K hK w' u => D.out k K hlt w' u hK)
      have CSk := Lib.hid (CS.out k)
      generalize C k = ck at *
      go_wp2_with fail
      refine (Dk.out _ (by omega) _ (U0.out.trans U.out)).mono ?_; rintro e w' ⟨rfl, rfl⟩
      go_wp2_with (at_builtin; refine wpList_append_int _ rfl _ _ rfl W.heap.size _ (N k) rfl (HO.out.up (Up.alloc _ _)) wr.heap.size ck rfl (by simp) ?e2 ?e3 ?_)
      case e2 => rw [CL.out]; omega
      case e3 => have := U.out.size; simp; omega
      intro v' w4 ho hg
      have HO' : Hid (Oi w4 W.heap.size v' (N (k + 1))) := by rw [CSk.out] at ho; exact ho
      have U' : Hid (Up W w4) := (U.out.alloc' _).grown hg HO.out.block
      clear ho hg HO U
      go_wp2_with fail
      go_roundw
      case rel => exact ⟨k + 1, by omega, by go_num, HO'.out, U'.out⟩
      case measure => simp [intOf]; omega
    · obtain rfl : k = 6 := by omega
      obtain ⟨g, cp, rfl, hgb, hgl, hcp, hcpm, hgc⟩ := HO.out.form (by rw [CL.out]; omega)
      rw [CL.out] at hgc hcp
      rw [CL.out, show (((6 : Nat) : Int)) = (6 : Int) from rfl]
      have e0 := hgc 0 (by omega); have e1 := hgc 1 (by omega); have e2 := hgc 2 (by omega); have e3 := hgc 3 (by omega); have e4 := hgc 4 (by omega); have e5 := hgc 5 (by omega)
      rw [G0.out] at e0; rw [G1.out] at e1; rw [G2.out] at e2; rw [G3.out] at e3; rw [G4.out] at e4; rw [G5.out] at e5
      clear hgc
      have gne : ¬ g = w.heap.size + 1 := by have := Z0.out; omega
      have gne' : ¬ w.heap.size + 1 = g := by omega
      obtain ⟨a0, a1, a2, a3, a4, a5, a6⟩ := B1.out.up U.out
      have fz := (F1.out.up U.out).2
      have f1 := fz 1; have f2 := fz 2; have f3 := fz 3; have f4 := fz 4; have f5 := fz 5; have f6 := fz 6
      clear fz
      generalize m1 : C 0 = n1 at *; replace m1 := Lib.hid m1
      generalize m2 : C 1 = n2 at *; replace m2 := Lib.hid m2
      generalize m3 : C 2 = n3 at *; replace m3 := Lib.hid m3
      generalize m4 : C 3 = n4 at *; replace m4 := Lib.hid m4
      generalize m5 : C 4 = n5 at *; replace m5 := Lib.hid m5
      generalize m6 : C 5 = n6 at *; replace m6 := Lib.hid m6
      go_wp2_with fail
      have X5 := Lib.hid (set6_same (B1.out.up U.out) n1 n2 n3 n4 n5 n6)
      have Y5 := Lib.hid (set6_other (b := w.heap.size + 1) (B0.out.up U.out) (by omega) n1 n2 n3 n4 n5 n6)
      have F5 := Lib.hid (set6_free (b := w.heap.size + 1) (F0.out.up U.out) n1 n2 n3 n4 n5 n6)
      have U5 := Lib.hid ((U0.out.trans U.out).set6 (b := w.heap.size + 1) (by omega) n1 n2 n3 n4 n5 n6)
      clear a0 a1 a2 a3 a4 a5 a6 f1 f2 f3 f4 f5 f6 e0 e1 e2 e3 e4 e5
      generalize hV : set6 wr (w.heap.size + 1) n1 n2 n3 n4 n5 n6 = V5 at X5 Y5 F5 U5
      change Calls _ _ _ (set6 wr (w.heap.size + 1) n1 n2 n3 n4 n5 n6) _
      rw [hV]
      clear hV
      refine (R.out _).mono ?_; rintro e w1 ⟨rfl, u1⟩
      obtain ⟨b0, b1, b2, b3, b4, b5, b6⟩ := X5.out.up u1
      obtain ⟨a0, a1, a2, a3, a4, a5, a6⟩ := Y5.out.up u1
      have fz := (F5.out.up u1).2
      have g0 := fz 0; have g1 := fz 1; have g2 := fz 2; have g3 := fz 3; have g4 := fz 4; have g5 := fz 5; have g6 := fz 6
      clear fz
      have U6 := Lib.hid (U5.out.trans u1)
      clear X5 Y5 F5 U5 u1 U0 F0 F1 B0 B1 U
      cases r
      · go_wp2_with fail
        refine bodyPost_ret (v := .tuple #[hv 0 0 0 0 0 0 0, .int .i64 4]) (by simp [results, Tryz.results40, go_sem, a0, a1, a2, a3, a4, a5, a6]) rfl ?_
        exact ⟨rfl, Up.seven U6.out (Nat.le_refl _) _ _ _ _ _ _ _⟩
      · go_wp2_with fail
        refine bodyPost_ret (v := .tuple #[hv (x - 48) n1 n2 n3 n4 n5 n6, .int .i64 0]) (by simp [results, Tryz.results40, go_sem, a0, a1, a2, a3, a4, a5, a6]) rfl ?_
        exact ⟨by rw [m1.out, m2.out, m3.out, m4.out, m5.out, m6.out], Up.seven U6.out (Nat.le_refl _) _ _ _ _ _ _ _⟩

set_option maxRecDepth 100000 in
theorem refDecode_any (A : Option Addr) (l : List UInt8) (c : Nat) (w : World) (hc : l.length ≤ c) (hcm : c ≤ maxLen) (hr : Rd w A l) :
    Calls Tryz.prog 40 #[.slice A l.length c] w fun e w' => e = .returned (.tuple #[decH l, .int .i64 (errH l)]) ∧ Up w w' := by
  unfold decH errH
  by_cases h : l.length < 44
  · rw [isH_short h, if_pos h]
    exact refDecode_short A l c w h
  · rw [if_neg h]
    by_cases g : l.take 4 = tz
    · rw [isH_raw (by omega) g]
      by_cases h0 : (l.getD 4 0).toNat = 0
      · exact refDecode_one A l c w (rawB l) hc hcm (by omega) hr g h0 rfl
      · by_cases h1 : (l.getD 4 0).toNat < 50 ∨ 52 < (l.getD 4 0).toNat
        · rw [raw_none (vers_none h0 h1)]
          exact refDecode_vers A l c w hc (by omega) hr g h0 h1
        · exact refDecode_more A l c w (rawB l) hc hcm (by omega) hr g (by omega) (by omega) rfl
    · rw [isH_form g]
      exact refDecode_form A l c w hc (by omega) hr g
end Go.Proofs.YtaljddoenjgbfaaGreat
