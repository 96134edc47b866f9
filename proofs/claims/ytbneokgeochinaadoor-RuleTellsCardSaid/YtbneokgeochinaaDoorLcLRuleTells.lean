/-
  RuleTells is proved: for every rule, change, year and second the statement answers true: days, turns, and what is in force, are what the document says. Conditions: the tied card's own (the listed variable, the lengths of months, as the text of the program lays it).
-/
import Derived.Test.YtbneokgeochinaaDoorLcShown9
import Derived.Test.YtbneokgeochinaaDoorLcPs8
import Derived.Test.YtbneokgeochinaaDoorLcOpR
import Derived.Test.YtbneokgeochinaaDoorLcRyA
import Derived.Test.YtbneokgeochinaaDoorTie
import Derived.Test.YtbneokgeochinaaDoorCards
import Derived.WalkKit
import Derived.ProofKit
import Derived.OpenShut
import Derived.LaidMore
import Derived.Stop.Joined
import Derived.SevenTiedAt
namespace Go.Proofs.YtbneokgeochinaaDoor.ruleTells
open Go.ChangeShapes Go.WideShapes Go.ChangeAt Go.RowKit Lc
set_option linter.unusedVariables false

theorem own : ownKnob Tryd.prog.godebug = none := by kernel_rfl

theorem dat_of {r : Ru} {t : Int} {K : Kd} {E : Int} (h : AtS r t K E) (w : World) (n1 : r.std.name.length ≤ maxLen) (n2 : r.dst.name.length ≤ maxLen) (ft : fitB t = true) :
    Calls Tryd.prog 17 #[.agg (rA r), .int .i64 t] w fun e w' => e = .returned (.tuple #[.agg (kA K), .int .i64 E]) ∧ Up w w' := by
  rcases h with ⟨hr, rfl, rfl⟩ | ⟨hr, hb, rfl, rfl⟩ | ⟨hr, hb, hd, rfl, rfl⟩ | ⟨hr, hb, y, m, d, hd, hn, rfl, rfl⟩
  · exact dat_wrong r t w n1 n2 hr
  · exact dat_one r t w n1 n2 hr hb
  · exact dat_far r t w n1 n2 ft hr hb hd
  · exact dat_in r t y m d w n1 n2 ft hr hb hd hn
theorem two_ways (b : Bool) : ∃ e : Int, (if b = true then (0 : Int) else 1) = e ∧ ((b = true ∧ e = 0) ∨ (b = false ∧ e = 1)) := by
  cases b
  · exact ⟨1, rfl, .inr ⟨rfl, rfl⟩⟩
  · exact ⟨0, rfl, .inl ⟨rfl, rfl⟩⟩

set_option maxHeartbeats 8000000 in
set_option maxRecDepth 100000 in
theorem walk (x0 : Ru) (x1 : Ch) (a2 : Int) (a3 : Int) (fo0 : fitB x0.std.off = true) (fd0 : fitB x0.dst.off = true) (ns0 : x0.std.name.length ≤ maxLen) (nd0 : x0.dst.name.length ≤ maxLen) (ft0 : fitB x0.st.tm = true) (fe0 : fitB x0.en.tm = true) (fh1 : fitB x1.how = true) (fn1 : fitB x1.n = true) (fk1 : fitB x1.wk = true) (fw1 : fitB x1.wd = true) (fm1 : fitB x1.tm = true) (w2 : (Lit.int .i64 a2).wf = true) (w3 : (Lit.int .i64 a3).wf = true) (w : World) (T : Tab w) :
    Calls Tryd.prog 3 #[.agg (rA x0), .agg (cA x1), .int .i64 a2, .int .i64 a3] w fun e w' => e = .returned (.bool true) ∧ Up w w' := by
  have SH := Lib.hid (fun w T => shown_any w T)
  have B0 := Lib.hid ((Bk.new w (rA x0) 27 (by decide)).up (Up.alloc _ (.cells (cA x1) 25)))
  have C0 : Hid (Bk ((w.alloc (.cells (rA x0) 27)).alloc (.cells (cA x1) 25)) (w.heap.size + 1) (cA x1) 25) := Lib.hid (by have := Bk.new (w.alloc (.cells (rA x0) 27)) (cA x1) 25 (by decide); rw [World.size_alloc] at this; exact this)
  have U0 := Lib.hid ((Up.alloc w (.cells (rA x0) 27)).trans (Up.alloc _ (.cells (cA x1) 25)))
  have TT := Lib.hid T
  clear T
  have ft := fit_wf w3
  unfold maxLen at *
  have sz1 := tx_size x0.std.name
  have sz2 := tx_size x0.dst.name
  obtain ⟨p, hp⟩ : ∃ p : Nat, min (x0.std.name.length : Int) 100 = (p : Int) := ⟨min x0.std.name.length 100, by omega⟩
  have hp2 : p ≤ 100 := by omega
  have hp3 : (p : Int) ≤ (x0.std.name.length : Int) := by omega
  obtain ⟨q, hq⟩ : ∃ q : Nat, min (x0.dst.name.length : Int) 100 = (q : Int) := ⟨min x0.dst.name.length 100, by omega⟩
  have hq2 : q ≤ 100 := by omega
  have hq3 : (q : Int) ≤ (x0.dst.name.length : Int) := by omega
  have ex := tx_take x0.std.name p
  have ey := tx_take x0.dst.name q
  have kl : (x0.std.name.take p).length ≤ 100 := by rw [List.length_take]; omega
  have jl : (x0.dst.name.take q).length ≤ 100 := by rw [List.length_take]; omega
  obtain ⟨X, hX⟩ : ∃ X : Ru, X = ⟨⟨x0.std.off, x0.std.dst, x0.std.name.take p⟩, ⟨x0.dst.off, x0.dst.dst, x0.dst.name.take q⟩, x0.both, x0.st, x0.en⟩ := ⟨_, rfl⟩
  have xl : X.std.name.length ≤ maxLen ∧ X.dst.name.length ≤ maxLen := by rw [hX]; exact ⟨by show (x0.std.name.take p).length ≤ maxLen; unfold maxLen; omega, by show (x0.dst.name.take q).length ≤ maxLen; unfold maxLen; omega⟩
  have HX : Hid (∀ V b T, Bk V b (rA x0) T → Bk ((V.setCell ⟨b, 2, none⟩ (.string (tx (x0.std.name.take p)))).setCell ⟨b, 5, none⟩ (.string (tx (x0.dst.name.take q)))) b (rA X) T) := Lib.hid (fun V b T h => by rw [hX]; exact (h.set 2 _).set 5 _)
  clear hX
  obtain ⟨K, E, hat⟩ := at_ex X a3
  have AP := Lib.hid (fun w T => at_of hat w T xl.1 xl.2 ft)
  have AD := Lib.hid (fun w => dat_of hat w xl.1 xl.2 ft)
  have DP := Lib.hid (fun w T => day_any a2 x1 w T)
  have DD := Lib.hid (fun w => dday_any a2 x1 w)
  have TP := Lib.hid (fun w T => turnsP_any X a2 w T xl.1 xl.2)
  have TD := Lib.hid (fun w => dturns_any X a2 w xl.1 xl.2)
  unfold tuS tuN tuE at TP
  obtain ⟨e1, he1, H1⟩ := two_ways (okY a2 x1)
  obtain ⟨e2, he2, H2⟩ := two_ways (okT X a2)
  rw [he1] at DP
  rw [he2] at TP
  clear he1 he2 hat xl kl jl
  generalize (if okY a2 x1 = true then dayC a2 x1 else 0) = v1 at *
  generalize (if okT X a2 = true then tnS X a2 else 0) = v2 at *
  generalize (if okT X a2 = true then tnE X a2 else 0) = v3 at *
  generalize okY a2 x1 = b1 at *
  generalize okT X a2 = b2 at *
  have QE : ∀ w, (binOp .eql 23 (.agg #[.int .i64 K.off, .bool K.dst, .string (tx K.name)]) (.agg #[.int .i64 K.off, .bool K.dst, .string (tx K.name)])).run Tryd.prog w = .ok (.bool true) w := fun w => by have := kd_eql K K w; rw [decide_eq_true rfl] at this; exact this
  generalize List.take p x0.std.name = n1 at *
  generalize List.take q x0.dst.name = n2 at *
  obtain ⟨Ko, Kd, Kn⟩ := K
  obtain ⟨c0, c1, c2, c3, c4⟩ := x1
  unfold kA cA at *
  simp only at *
  rcases H1 with ⟨rfl, rfl⟩ | ⟨rfl, rfl⟩
  · rcases H2 with ⟨rfl, rfl⟩ | ⟨rfl, rfl⟩
    · go_enter Tryd.func3, Tryd.ntmps3
      go_wp2_with fail
      refine (SH.out _ (Tab.up TT.out U0.out)).mono ?_; rintro e w1 ⟨rfl, u1⟩
      have B1 := Lib.hid (B0.out.up u1)
      have C1 := Lib.hid (C0.out.up u1)
      have U1 := Lib.hid (U0.out.trans u1)
      clear u1 B0 C0 U0 SH
      have z0 : w1.cell? ⟨w.heap.size, 2, none⟩ = some (.string (tx x0.std.name)) := B1.out.cell 2
      have z1 : w1.cell? ⟨w.heap.size, 5, none⟩ = some (.string (tx x0.dst.name)) := B1.out.cell 5
      have z2 : w1.frozen? ⟨w.heap.size, 2, none⟩ = false := B1.out.frozen 2
      have z5 : w1.frozen? ⟨w.heap.size, 5, none⟩ = false := B1.out.frozen 5
      have B2 := Lib.hid (HX.out w1 w.heap.size _ B1.out)
      have U2 : Hid (Up w ((w1.setCell ⟨w.heap.size, 2, none⟩ (.string (tx n1))).setCell ⟨w.heap.size, 5, none⟩ (.string (tx n2)))) := Lib.hid (Up.setCell' (Up.setCell' U1.out (Nat.le_refl _) _) (Nat.le_refl _) _)
      have C2 : Hid (Bk ((w1.setCell ⟨w.heap.size, 2, none⟩ (.string (tx n1))).setCell ⟨w.heap.size, 5, none⟩ (.string (tx n2))) (w.heap.size + 1) #[.int .i64 c0, .int .i64 c1, .int .i64 c2, .int .i64 c3, .int .i64 c4] 25) := Lib.hid ⟨by rw [Below.heap_setCell _ _ _ _ (show w.heap.size + 1 ≠ w.heap.size by omega), Below.heap_setCell _ _ _ _ (show w.heap.size + 1 ≠ w.heap.size by omega)]; exact C1.out.1, by decide⟩
      go_upto_region 4 with (fail)
      clear z0 z1 z2 z5 B1 U1 C1
      generalize hV : (w1.setCell ⟨w.heap.size, 2, none⟩ (.string (tx n1))).setCell ⟨w.heap.size, 5, none⟩ (.string (tx n2)) = V at *
      clear hV
      have k0 : V.cell? ⟨w.heap.size + 1, 0, none⟩ = some (.int .i64 c0) := C2.out.cell 0
      have k1 : V.cell? ⟨w.heap.size + 1, 1, none⟩ = some (.int .i64 c1) := C2.out.cell 1
      have k2 : V.cell? ⟨w.heap.size + 1, 2, none⟩ = some (.int .i64 c2) := C2.out.cell 2
      have k3 : V.cell? ⟨w.heap.size + 1, 3, none⟩ = some (.int .i64 c3) := C2.out.cell 3
      have k4 : V.cell? ⟨w.heap.size + 1, 4, none⟩ = some (.int .i64 c4) := C2.out.cell 4
      go_wp2_with fail
      refine (DP.out _ (Tab.up TT.out U2.out)).mono ?_; rintro e w3 ⟨rfl, u1⟩
      clear k0 k1 k2 k3 k4
      have B3 := Lib.hid (B2.out.up u1)
      have C3 := Lib.hid (C2.out.up u1)
      have U3 := Lib.hid (U2.out.trans u1)
      clear u1 B2 C2 U2 DP
      have k0 : w3.cell? ⟨w.heap.size + 1, 0, none⟩ = some (.int .i64 c0) := C3.out.cell 0
      have k1 : w3.cell? ⟨w.heap.size + 1, 1, none⟩ = some (.int .i64 c1) := C3.out.cell 1
      have k2 : w3.cell? ⟨w.heap.size + 1, 2, none⟩ = some (.int .i64 c2) := C3.out.cell 2
      have k3 : w3.cell? ⟨w.heap.size + 1, 3, none⟩ = some (.int .i64 c3) := C3.out.cell 3
      have k4 : w3.cell? ⟨w.heap.size + 1, 4, none⟩ = some (.int .i64 c4) := C3.out.cell 4
      go_wp2_with fail
      refine (DD.out _).mono ?_; rintro e w4 ⟨rfl, u1⟩
      clear k0 k1 k2 k3 k4
      have B4 := Lib.hid (B3.out.up u1)
      have C4 := Lib.hid (C3.out.up u1)
      have U4 := Lib.hid (U3.out.trans u1)
      clear u1 B3 C3 U3 DD
      go_upto_region 6 with (fail)
      refine wp_region_lit ?_
      refine wpList_ld rfl 4 w.heap.size X _ rfl B4.out rfl ?_
      go_wp2_with fail
      refine (TP.out _ (Tab.up TT.out U4.out)).mono ?_; rintro e w5 ⟨rfl, u1⟩
      have B5 := Lib.hid (B4.out.up u1)
      have C5 := Lib.hid (C4.out.up u1)
      have U5 := Lib.hid (U4.out.trans u1)
      clear u1 B4 C4 U4 TP
      go_upto_region 7 with (fail)
      refine wp_region_lit ?_
      refine wpList_ld rfl 4 w.heap.size X _ rfl B5.out rfl ?_
      go_wp2_with fail
      refine (TD.out _).mono ?_; rintro e w6 ⟨rfl, u1⟩
      have B6 := Lib.hid (B5.out.up u1)
      have C6 := Lib.hid (C5.out.up u1)
      have U6 := Lib.hid (U5.out.trans u1)
      clear u1 B5 C5 U5 TD
      go_upto_region 8 with (fail)
      refine wp_region_lit ?_
      refine wpList_ld rfl 4 w.heap.size X _ rfl B6.out rfl ?_
      go_wp2_with fail
      refine (AP.out _ (Tab.up TT.out U6.out)).mono ?_; rintro e w7 ⟨rfl, u1⟩
      have KB := Bk.new w7 #[.int .i64 Ko, .bool Kd, .string (tx Kn)] 23 (by decide)
      have u1' := u1.trans (Up.alloc w7 (.cells #[.int .i64 Ko, .bool Kd, .string (tx Kn)] 23))
      have B7 := Lib.hid (B6.out.up u1')
      have U7 := Lib.hid (U6.out.trans u1')
      have K7 := Lib.hid KB
      clear u1 u1' KB B6 U6 C6 AP
      go_upto_region 9 with (fail)
      generalize w7.alloc _ = V7 at *
      refine wp_region_lit ?_
      refine wpList_ld rfl 4 w.heap.size X _ rfl B7.out rfl ?_
      go_wp2_with fail
      refine (AD.out _).mono ?_; rintro e w8 ⟨rfl, u1⟩
      have KB := Bk.new w8 #[.int .i64 Ko, .bool Kd, .string (tx Kn)] 23 (by decide)
      have u1' := u1.trans (Up.alloc w8 (.cells #[.int .i64 Ko, .bool Kd, .string (tx Kn)] 23))
      have K8 := Lib.hid (K7.out.up u1')
      have U8 := Lib.hid (U7.out.trans u1')
      have K9 := Lib.hid KB
      clear u1 u1' KB B7 U7 K7 AD
      go_upto_region 10 with (fail)
      generalize w8.alloc _ = V8 at *
      have p0 : V8.cell? ⟨w7.heap.size, 0, none⟩ = some (.int .i64 Ko) := K8.out.cell 0
      have q0 : V8.cell? ⟨w8.heap.size, 0, none⟩ = some (.int .i64 Ko) := K9.out.cell 0
      have p1 : V8.cell? ⟨w7.heap.size, 1, none⟩ = some (.bool Kd) := K8.out.cell 1
      have q1 : V8.cell? ⟨w8.heap.size, 1, none⟩ = some (.bool Kd) := K9.out.cell 1
      have p2 : V8.cell? ⟨w7.heap.size, 2, none⟩ = some (.string (tx Kn)) := K8.out.cell 2
      have q2 : V8.cell? ⟨w8.heap.size, 2, none⟩ = some (.string (tx Kn)) := K9.out.cell 2
      go_wp2_with fail
      go_ret
      exact ⟨ret_b (by simp), U8.out⟩
    · go_enter Tryd.func3, Tryd.ntmps3
      go_wp2_with fail
      refine (SH.out _ (Tab.up TT.out U0.out)).mono ?_; rintro e w1 ⟨rfl, u1⟩
      have B1 := Lib.hid (B0.out.up u1)
      have C1 := Lib.hid (C0.out.up u1)
      have U1 := Lib.hid (U0.out.trans u1)
      clear u1 B0 C0 U0 SH
      have z0 : w1.cell? ⟨w.heap.size, 2, none⟩ = some (.string (tx x0.std.name)) := B1.out.cell 2
      have z1 : w1.cell? ⟨w.heap.size, 5, none⟩ = some (.string (tx x0.dst.name)) := B1.out.cell 5
      have z2 : w1.frozen? ⟨w.heap.size, 2, none⟩ = false := B1.out.frozen 2
      have z5 : w1.frozen? ⟨w.heap.size, 5, none⟩ = false := B1.out.frozen 5
      have B2 := Lib.hid (HX.out w1 w.heap.size _ B1.out)
      have U2 : Hid (Up w ((w1.setCell ⟨w.heap.size, 2, none⟩ (.string (tx n1))).setCell ⟨w.heap.size, 5, none⟩ (.string (tx n2)))) := Lib.hid (Up.setCell' (Up.setCell' U1.out (Nat.le_refl _) _) (Nat.le_refl _) _)
      have C2 : Hid (Bk ((w1.setCell ⟨w.heap.size, 2, none⟩ (.string (tx n1))).setCell ⟨w.heap.size, 5, none⟩ (.string (tx n2))) (w.heap.size + 1) #[.int .i64 c0, .int .i64 c1, .int .i64 c2, .int .i64 c3, .int .i64 c4] 25) := Lib.hid ⟨by rw [Below.heap_setCell _ _ _ _ (show w.heap.size + 1 ≠ w.heap.size by omega), Below.heap_setCell _ _ _ _ (show w.heap.size + 1 ≠ w.heap.size by omega)]; exact C1.out.1, by decide⟩
      go_upto_region 4 with (fail)
      clear z0 z1 z2 z5 B1 U1 C1
      generalize hV : (w1.setCell ⟨w.heap.size, 2, none⟩ (.string (tx n1))).setCell ⟨w.heap.size, 5, none⟩ (.string (tx n2)) = V at *
      clear hV
      have k0 : V.cell? ⟨w.heap.size + 1, 0, none⟩ = some (.int .i64 c0) := C2.out.cell 0
      have k1 : V.cell? ⟨w.heap.size + 1, 1, none⟩ = some (.int .i64 c1) := C2.out.cell 1
      have k2 : V.cell? ⟨w.heap.size + 1, 2, none⟩ = some (.int .i64 c2) := C2.out.cell 2
      have k3 : V.cell? ⟨w.heap.size + 1, 3, none⟩ = some (.int .i64 c3) := C2.out.cell 3
      have k4 : V.cell? ⟨w.heap.size + 1, 4, none⟩ = some (.int .i64 c4) := C2.out.cell 4
      go_wp2_with fail
      refine (DP.out _ (Tab.up TT.out U2.out)).mono ?_; rintro e w3 ⟨rfl, u1⟩
      clear k0 k1 k2 k3 k4
      have B3 := Lib.hid (B2.out.up u1)
      have C3 := Lib.hid (C2.out.up u1)
      have U3 := Lib.hid (U2.out.trans u1)
      clear u1 B2 C2 U2 DP
      have k0 : w3.cell? ⟨w.heap.size + 1, 0, none⟩ = some (.int .i64 c0) := C3.out.cell 0
      have k1 : w3.cell? ⟨w.heap.size + 1, 1, none⟩ = some (.int .i64 c1) := C3.out.cell 1
      have k2 : w3.cell? ⟨w.heap.size + 1, 2, none⟩ = some (.int .i64 c2) := C3.out.cell 2
      have k3 : w3.cell? ⟨w.heap.size + 1, 3, none⟩ = some (.int .i64 c3) := C3.out.cell 3
      have k4 : w3.cell? ⟨w.heap.size + 1, 4, none⟩ = some (.int .i64 c4) := C3.out.cell 4
      go_wp2_with fail
      refine (DD.out _).mono ?_; rintro e w4 ⟨rfl, u1⟩
      clear k0 k1 k2 k3 k4
      have B4 := Lib.hid (B3.out.up u1)
      have C4 := Lib.hid (C3.out.up u1)
      have U4 := Lib.hid (U3.out.trans u1)
      clear u1 B3 C3 U3 DD
      go_upto_region 6 with (fail)
      refine wp_region_lit ?_
      refine wpList_ld rfl 4 w.heap.size X _ rfl B4.out rfl ?_
      go_wp2_with fail
      refine (TP.out _ (Tab.up TT.out U4.out)).mono ?_; rintro e w5 ⟨rfl, u1⟩
      have B5 := Lib.hid (B4.out.up u1)
      have C5 := Lib.hid (C4.out.up u1)
      have U5 := Lib.hid (U4.out.trans u1)
      clear u1 B4 C4 U4 TP
      go_upto_region 7 with (fail)
      refine wp_region_lit ?_
      refine wpList_ld rfl 4 w.heap.size X _ rfl B5.out rfl ?_
      go_wp2_with fail
      refine (TD.out _).mono ?_; rintro e w6 ⟨rfl, u1⟩
      have B6 := Lib.hid (B5.out.up u1)
      have C6 := Lib.hid (C5.out.up u1)
      have U6 := Lib.hid (U5.out.trans u1)
      clear u1 B5 C5 U5 TD
      go_upto_region 8 with (fail)
      refine wp_region_lit ?_
      refine wpList_ld rfl 4 w.heap.size X _ rfl B6.out rfl ?_
      go_wp2_with fail
      refine (AP.out _ (Tab.up TT.out U6.out)).mono ?_; rintro e w7 ⟨rfl, u1⟩
      have KB := Bk.new w7 #[.int .i64 Ko, .bool Kd, .string (tx Kn)] 23 (by decide)
      have u1' := u1.trans (Up.alloc w7 (.cells #[.int .i64 Ko, .bool Kd, .string (tx Kn)] 23))
      have B7 := Lib.hid (B6.out.up u1')
      have U7 := Lib.hid (U6.out.trans u1')
      have K7 := Lib.hid KB
      clear u1 u1' KB B6 U6 C6 AP
      go_upto_region 9 with (fail)
      generalize w7.alloc _ = V7 at *
      refine wp_region_lit ?_
      refine wpList_ld rfl 4 w.heap.size X _ rfl B7.out rfl ?_
      go_wp2_with fail
      refine (AD.out _).mono ?_; rintro e w8 ⟨rfl, u1⟩
      have KB := Bk.new w8 #[.int .i64 Ko, .bool Kd, .string (tx Kn)] 23 (by decide)
      have u1' := u1.trans (Up.alloc w8 (.cells #[.int .i64 Ko, .bool Kd, .string (tx Kn)] 23))
      have K8 := Lib.hid (K7.out.up u1')
      have U8 := Lib.hid (U7.out.trans u1')
      have K9 := Lib.hid KB
      clear u1 u1' KB B7 U7 K7 AD
      go_upto_region 10 with (fail)
      generalize w8.alloc _ = V8 at *
      have p0 : V8.cell? ⟨w7.heap.size, 0, none⟩ = some (.int .i64 Ko) := K8.out.cell 0
      have q0 : V8.cell? ⟨w8.heap.size, 0, none⟩ = some (.int .i64 Ko) := K9.out.cell 0
      have p1 : V8.cell? ⟨w7.heap.size, 1, none⟩ = some (.bool Kd) := K8.out.cell 1
      have q1 : V8.cell? ⟨w8.heap.size, 1, none⟩ = some (.bool Kd) := K9.out.cell 1
      have p2 : V8.cell? ⟨w7.heap.size, 2, none⟩ = some (.string (tx Kn)) := K8.out.cell 2
      have q2 : V8.cell? ⟨w8.heap.size, 2, none⟩ = some (.string (tx Kn)) := K9.out.cell 2
      go_wp2_with fail
      go_ret
      exact ⟨ret_b (by simp), U8.out⟩
  · rcases H2 with ⟨rfl, rfl⟩ | ⟨rfl, rfl⟩
    · go_enter Tryd.func3, Tryd.ntmps3
      go_wp2_with fail
      refine (SH.out _ (Tab.up TT.out U0.out)).mono ?_; rintro e w1 ⟨rfl, u1⟩
      have B1 := Lib.hid (B0.out.up u1)
      have C1 := Lib.hid (C0.out.up u1)
      have U1 := Lib.hid (U0.out.trans u1)
      clear u1 B0 C0 U0 SH
      have z0 : w1.cell? ⟨w.heap.size, 2, none⟩ = some (.string (tx x0.std.name)) := B1.out.cell 2
      have z1 : w1.cell? ⟨w.heap.size, 5, none⟩ = some (.string (tx x0.dst.name)) := B1.out.cell 5
      have z2 : w1.frozen? ⟨w.heap.size, 2, none⟩ = false := B1.out.frozen 2
      have z5 : w1.frozen? ⟨w.heap.size, 5, none⟩ = false := B1.out.frozen 5
      have B2 := Lib.hid (HX.out w1 w.heap.size _ B1.out)
      have U2 : Hid (Up w ((w1.setCell ⟨w.heap.size, 2, none⟩ (.string (tx n1))).setCell ⟨w.heap.size, 5, none⟩ (.string (tx n2)))) := Lib.hid (Up.setCell' (Up.setCell' U1.out (Nat.le_refl _) _) (Nat.le_refl _) _)
      have C2 : Hid (Bk ((w1.setCell ⟨w.heap.size, 2, none⟩ (.string (tx n1))).setCell ⟨w.heap.size, 5, none⟩ (.string (tx n2))) (w.heap.size + 1) #[.int .i64 c0, .int .i64 c1, .int .i64 c2, .int .i64 c3, .int .i64 c4] 25) := Lib.hid ⟨by rw [Below.heap_setCell _ _ _ _ (show w.heap.size + 1 ≠ w.heap.size by omega), Below.heap_setCell _ _ _ _ (show w.heap.size + 1 ≠ w.heap.size by omega)]; exact C1.out.1, by decide⟩
      go_upto_region 4 with (fail)
      clear z0 z1 z2 z5 B1 U1 C1
      generalize hV : (w1.setCell ⟨w.heap.size, 2, none⟩ (.string (tx n1))).setCell ⟨w.heap.size, 5, none⟩ (.string (tx n2)) = V at *
      clear hV
      have k0 : V.cell? ⟨w.heap.size + 1, 0, none⟩ = some (.int .i64 c0) := C2.out.cell 0
      have k1 : V.cell? ⟨w.heap.size + 1, 1, none⟩ = some (.int .i64 c1) := C2.out.cell 1
      have k2 : V.cell? ⟨w.heap.size + 1, 2, none⟩ = some (.int .i64 c2) := C2.out.cell 2
      have k3 : V.cell? ⟨w.heap.size + 1, 3, none⟩ = some (.int .i64 c3) := C2.out.cell 3
      have k4 : V.cell? ⟨w.heap.size + 1, 4, none⟩ = some (.int .i64 c4) := C2.out.cell 4
      go_wp2_with fail
      refine (DP.out _ (Tab.up TT.out U2.out)).mono ?_; rintro e w3 ⟨rfl, u1⟩
      clear k0 k1 k2 k3 k4
      have B3 := Lib.hid (B2.out.up u1)
      have C3 := Lib.hid (C2.out.up u1)
      have U3 := Lib.hid (U2.out.trans u1)
      clear u1 B2 C2 U2 DP
      have k0 : w3.cell? ⟨w.heap.size + 1, 0, none⟩ = some (.int .i64 c0) := C3.out.cell 0
      have k1 : w3.cell? ⟨w.heap.size + 1, 1, none⟩ = some (.int .i64 c1) := C3.out.cell 1
      have k2 : w3.cell? ⟨w.heap.size + 1, 2, none⟩ = some (.int .i64 c2) := C3.out.cell 2
      have k3 : w3.cell? ⟨w.heap.size + 1, 3, none⟩ = some (.int .i64 c3) := C3.out.cell 3
      have k4 : w3.cell? ⟨w.heap.size + 1, 4, none⟩ = some (.int .i64 c4) := C3.out.cell 4
      go_wp2_with fail
      refine (DD.out _).mono ?_; rintro e w4 ⟨rfl, u1⟩
      clear k0 k1 k2 k3 k4
      have B4 := Lib.hid (B3.out.up u1)
      have C4 := Lib.hid (C3.out.up u1)
      have U4 := Lib.hid (U3.out.trans u1)
      clear u1 B3 C3 U3 DD
      go_upto_region 6 with (fail)
      refine wp_region_lit ?_
      refine wpList_ld rfl 4 w.heap.size X _ rfl B4.out rfl ?_
      go_wp2_with fail
      refine (TP.out _ (Tab.up TT.out U4.out)).mono ?_; rintro e w5 ⟨rfl, u1⟩
      have B5 := Lib.hid (B4.out.up u1)
      have C5 := Lib.hid (C4.out.up u1)
      have U5 := Lib.hid (U4.out.trans u1)
      clear u1 B4 C4 U4 TP
      go_upto_region 7 with (fail)
      refine wp_region_lit ?_
      refine wpList_ld rfl 4 w.heap.size X _ rfl B5.out rfl ?_
      go_wp2_with fail
      refine (TD.out _).mono ?_; rintro e w6 ⟨rfl, u1⟩
      have B6 := Lib.hid (B5.out.up u1)
      have C6 := Lib.hid (C5.out.up u1)
      have U6 := Lib.hid (U5.out.trans u1)
      clear u1 B5 C5 U5 TD
      go_upto_region 8 with (fail)
      refine wp_region_lit ?_
      refine wpList_ld rfl 4 w.heap.size X _ rfl B6.out rfl ?_
      go_wp2_with fail
      refine (AP.out _ (Tab.up TT.out U6.out)).mono ?_; rintro e w7 ⟨rfl, u1⟩
      have KB := Bk.new w7 #[.int .i64 Ko, .bool Kd, .string (tx Kn)] 23 (by decide)
      have u1' := u1.trans (Up.alloc w7 (.cells #[.int .i64 Ko, .bool Kd, .string (tx Kn)] 23))
      have B7 := Lib.hid (B6.out.up u1')
      have U7 := Lib.hid (U6.out.trans u1')
      have K7 := Lib.hid KB
      clear u1 u1' KB B6 U6 C6 AP
      go_upto_region 9 with (fail)
      generalize w7.alloc _ = V7 at *
      refine wp_region_lit ?_
      refine wpList_ld rfl 4 w.heap.size X _ rfl B7.out rfl ?_
      go_wp2_with fail
      refine (AD.out _).mono ?_; rintro e w8 ⟨rfl, u1⟩
      have KB := Bk.new w8 #[.int .i64 Ko, .bool Kd, .string (tx Kn)] 23 (by decide)
      have u1' := u1.trans (Up.alloc w8 (.cells #[.int .i64 Ko, .bool Kd, .string (tx Kn)] 23))
      have K8 := Lib.hid (K7.out.up u1')
      have U8 := Lib.hid (U7.out.trans u1')
      have K9 := Lib.hid KB
      clear u1 u1' KB B7 U7 K7 AD
      go_upto_region 10 with (fail)
      generalize w8.alloc _ = V8 at *
      have p0 : V8.cell? ⟨w7.heap.size, 0, none⟩ = some (.int .i64 Ko) := K8.out.cell 0
      have q0 : V8.cell? ⟨w8.heap.size, 0, none⟩ = some (.int .i64 Ko) := K9.out.cell 0
      have p1 : V8.cell? ⟨w7.heap.size, 1, none⟩ = some (.bool Kd) := K8.out.cell 1
      have q1 : V8.cell? ⟨w8.heap.size, 1, none⟩ = some (.bool Kd) := K9.out.cell 1
      have p2 : V8.cell? ⟨w7.heap.size, 2, none⟩ = some (.string (tx Kn)) := K8.out.cell 2
      have q2 : V8.cell? ⟨w8.heap.size, 2, none⟩ = some (.string (tx Kn)) := K9.out.cell 2
      go_wp2_with fail
      go_ret
      exact ⟨ret_b (by simp), U8.out⟩
    · go_enter Tryd.func3, Tryd.ntmps3
      go_wp2_with fail
      refine (SH.out _ (Tab.up TT.out U0.out)).mono ?_; rintro e w1 ⟨rfl, u1⟩
      have B1 := Lib.hid (B0.out.up u1)
      have C1 := Lib.hid (C0.out.up u1)
      have U1 := Lib.hid (U0.out.trans u1)
      clear u1 B0 C0 U0 SH
      have z0 : w1.cell? ⟨w.heap.size, 2, none⟩ = some (.string (tx x0.std.name)) := B1.out.cell 2
      have z1 : w1.cell? ⟨w.heap.size, 5, none⟩ = some (.string (tx x0.dst.name)) := B1.out.cell 5
      have z2 : w1.frozen? ⟨w.heap.size, 2, none⟩ = false := B1.out.frozen 2
      have z5 : w1.frozen? ⟨w.heap.size, 5, none⟩ = false := B1.out.frozen 5
      have B2 := Lib.hid (HX.out w1 w.heap.size _ B1.out)
      have U2 : Hid (Up w ((w1.setCell ⟨w.heap.size, 2, none⟩ (.string (tx n1))).setCell ⟨w.heap.size, 5, none⟩ (.string (tx n2)))) := Lib.hid (Up.setCell' (Up.setCell' U1.out (Nat.le_refl _) _) (Nat.le_refl _) _)
      have C2 : Hid (Bk ((w1.setCell ⟨w.heap.size, 2, none⟩ (.string (tx n1))).setCell ⟨w.heap.size, 5, none⟩ (.string (tx n2))) (w.heap.size + 1) #[.int .i64 c0, .int .i64 c1, .int .i64 c2, .int .i64 c3, .int .i64 c4] 25) := Lib.hid ⟨by rw [Below.heap_setCell _ _ _ _ (show w.heap.size + 1 ≠ w.heap.size by omega), Below.heap_setCell _ _ _ _ (show w.heap.size + 1 ≠ w.heap.size by omega)]; exact C1.out.1, by decide⟩
      go_upto_region 4 with (fail)
      clear z0 z1 z2 z5 B1 U1 C1
      generalize hV : (w1.setCell ⟨w.heap.size, 2, none⟩ (.string (tx n1))).setCell ⟨w.heap.size, 5, none⟩ (.string (tx n2)) = V at *
      clear hV
      have k0 : V.cell? ⟨w.heap.size + 1, 0, none⟩ = some (.int .i64 c0) := C2.out.cell 0
      have k1 : V.cell? ⟨w.heap.size + 1, 1, none⟩ = some (.int .i64 c1) := C2.out.cell 1
      have k2 : V.cell? ⟨w.heap.size + 1, 2, none⟩ = some (.int .i64 c2) := C2.out.cell 2
      have k3 : V.cell? ⟨w.heap.size + 1, 3, none⟩ = some (.int .i64 c3) := C2.out.cell 3
      have k4 : V.cell? ⟨w.heap.size + 1, 4, none⟩ = some (.int .i64 c4) := C2.out.cell 4
      go_wp2_with fail
      refine (DP.out _ (Tab.up TT.out U2.out)).mono ?_; rintro e w3 ⟨rfl, u1⟩
      clear k0 k1 k2 k3 k4
      have B3 := Lib.hid (B2.out.up u1)
      have C3 := Lib.hid (C2.out.up u1)
      have U3 := Lib.hid (U2.out.trans u1)
      clear u1 B2 C2 U2 DP
      have k0 : w3.cell? ⟨w.heap.size + 1, 0, none⟩ = some (.int .i64 c0) := C3.out.cell 0
      have k1 : w3.cell? ⟨w.heap.size + 1, 1, none⟩ = some (.int .i64 c1) := C3.out.cell 1
      have k2 : w3.cell? ⟨w.heap.size + 1, 2, none⟩ = some (.int .i64 c2) := C3.out.cell 2
      have k3 : w3.cell? ⟨w.heap.size + 1, 3, none⟩ = some (.int .i64 c3) := C3.out.cell 3
      have k4 : w3.cell? ⟨w.heap.size + 1, 4, none⟩ = some (.int .i64 c4) := C3.out.cell 4
      go_wp2_with fail
      refine (DD.out _).mono ?_; rintro e w4 ⟨rfl, u1⟩
      clear k0 k1 k2 k3 k4
      have B4 := Lib.hid (B3.out.up u1)
      have C4 := Lib.hid (C3.out.up u1)
      have U4 := Lib.hid (U3.out.trans u1)
      clear u1 B3 C3 U3 DD
      go_upto_region 6 with (fail)
      refine wp_region_lit ?_
      refine wpList_ld rfl 4 w.heap.size X _ rfl B4.out rfl ?_
      go_wp2_with fail
      refine (TP.out _ (Tab.up TT.out U4.out)).mono ?_; rintro e w5 ⟨rfl, u1⟩
      have B5 := Lib.hid (B4.out.up u1)
      have C5 := Lib.hid (C4.out.up u1)
      have U5 := Lib.hid (U4.out.trans u1)
      clear u1 B4 C4 U4 TP
      go_upto_region 7 with (fail)
      refine wp_region_lit ?_
      refine wpList_ld rfl 4 w.heap.size X _ rfl B5.out rfl ?_
      go_wp2_with fail
      refine (TD.out _).mono ?_; rintro e w6 ⟨rfl, u1⟩
      have B6 := Lib.hid (B5.out.up u1)
      have C6 := Lib.hid (C5.out.up u1)
      have U6 := Lib.hid (U5.out.trans u1)
      clear u1 B5 C5 U5 TD
      go_upto_region 8 with (fail)
      refine wp_region_lit ?_
      refine wpList_ld rfl 4 w.heap.size X _ rfl B6.out rfl ?_
      go_wp2_with fail
      refine (AP.out _ (Tab.up TT.out U6.out)).mono ?_; rintro e w7 ⟨rfl, u1⟩
      have KB := Bk.new w7 #[.int .i64 Ko, .bool Kd, .string (tx Kn)] 23 (by decide)
      have u1' := u1.trans (Up.alloc w7 (.cells #[.int .i64 Ko, .bool Kd, .string (tx Kn)] 23))
      have B7 := Lib.hid (B6.out.up u1')
      have U7 := Lib.hid (U6.out.trans u1')
      have K7 := Lib.hid KB
      clear u1 u1' KB B6 U6 C6 AP
      go_upto_region 9 with (fail)
      generalize w7.alloc _ = V7 at *
      refine wp_region_lit ?_
      refine wpList_ld rfl 4 w.heap.size X _ rfl B7.out rfl ?_
      go_wp2_with fail
      refine (AD.out _).mono ?_; rintro e w8 ⟨rfl, u1⟩
      have KB := Bk.new w8 #[.int .i64 Ko, .bool Kd, .string (tx Kn)] 23 (by decide)
      have u1' := u1.trans (Up.alloc w8 (.cells #[.int .i64 Ko, .bool Kd, .string (tx Kn)] 23))
      have K8 := Lib.hid (K7.out.up u1')
      have U8 := Lib.hid (U7.out.trans u1')
      have K9 := Lib.hid KB
      clear u1 u1' KB B7 U7 K7 AD
      go_upto_region 10 with (fail)
      generalize w8.alloc _ = V8 at *
      have p0 : V8.cell? ⟨w7.heap.size, 0, none⟩ = some (.int .i64 Ko) := K8.out.cell 0
      have q0 : V8.cell? ⟨w8.heap.size, 0, none⟩ = some (.int .i64 Ko) := K9.out.cell 0
      have p1 : V8.cell? ⟨w7.heap.size, 1, none⟩ = some (.bool Kd) := K8.out.cell 1
      have q1 : V8.cell? ⟨w8.heap.size, 1, none⟩ = some (.bool Kd) := K9.out.cell 1
      have p2 : V8.cell? ⟨w7.heap.size, 2, none⟩ = some (.string (tx Kn)) := K8.out.cell 2
      have q2 : V8.cell? ⟨w8.heap.size, 2, none⟩ = some (.string (tx Kn)) := K9.out.cell 2
      go_wp2_with fail
      go_ret
      exact ⟨ret_b (by simp), U8.out⟩

theorem readable : ∀ t ∈ Tryd.f3.params.toList, Tryd.prog.readableRec t = true ∧ t < Tryd.prog.types.size := by
  rw [Tryd.params3]
  intro t ht
  have hall : ([27, 25, 3, 2].all fun u => Tryd.prog.readableRec u && decide (u < Tryd.prog.types.size)) = true := by kernel_rfl
  have := List.all_eq_true.1 hall t (by simpa using ht)
  simpa using this

set_option maxRecDepth 100000 in
theorem lifted (os : Os) (started : os.Started) (H : Type) (enc : TypeId × Value → H) :
    ReturnsInHanded {} Tryd.checked os 3 .any (fun w args => (Rows.ruleTellsSpec.pre enc Tryd.prog Tryd.f3 [] false w args ∧ laidMetH Tryd.prog laidC w) ∧ sizedMet enc Tryd.prog Tryd.f3 (OpenSpec.ofChange Rows.ruleTellsSpec) false w args) (Rows.ruleTellsSpec.post enc Tryd.prog Tryd.f3 false true false false) := by
  refine returnsInHanded_of_change_and (C := Tryd.checked) (X := fun w _ => laidMetH Tryd.prog laidC w) (fun _ _ _ hh h => h.of_heap hh) own started (by kernel_rfl) Tryd.func3
    (ChangeSpec.witness_shaped (enc := enc) (C := Tryd.checked) (os := os) (X := fun w _ => laidMetH Tryd.prog laidC w) false (World.doorLaid Tryd.prog 400 os) #[.agg #[.int .i64 0, .bool false, .string ⟨#[]⟩, .int .i64 0, .bool false, .string ⟨#[]⟩, .bool false, .int .i64 0, .int .i64 0, .int .i64 0, .int .i64 0, .int .i64 0, .int .i64 0, .int .i64 0, .int .i64 0, .int .i64 0, .int .i64 0], .agg #[.int .i64 0, .int .i64 0, .int .i64 0, .int .i64 0, .int .i64 0], .int .i64 0, .int .i64 0] 8 rfl (World.shaped_of_RefB (by kernel_rfl) (by kernel_rfl)) (by kernel_rfl) (by kernel_rfl) (by kernel_rfl) (door_met os _)) ?_
  intro W base args ds gs before hval0 hW _ _ hL _
  have hval : ∀ (j : Nat) t v, Tryd.f3.params[j]? = some t → args[j]? = some v → Value.okWide Tryd.prog W .any base t v := hval0
  have hW' := hW
  obtain ⟨p, q, hA0, hV, rfl, hfz, hnd⟩ := hW
  have hA : DataW.TrodAll enc Tryd.prog W 0 (fun _ => true) true Tryd.f3.params.toList args.toList ds p := hA0
  rw [Tryd.params3] at hA hval
  obtain ⟨v0, vs0, d0, ds0, p0, q0, hargs, rfl, rfl, h0, r0⟩ := trodAll_cons hA
  obtain ⟨v1, vs1, d1, ds1, p1, q1, rfl, rfl, rfl, h1, r1⟩ := trodAll_cons r0
  obtain ⟨v2, vs2, d2, ds2, p2, q2, rfl, rfl, rfl, h2, r2⟩ := trodAll_cons r1
  obtain ⟨v3, vs3, d3, ds3, p3, q3, rfl, rfl, rfl, h3, r3⟩ := trodAll_cons r2
  obtain ⟨rfl, rfl, rfl⟩ := trodAll_nil r3
  obtain rfl : args = #[v0, v1, v2, v3] := by cases args; simp_all
  obtain ⟨rfl, rfl⟩ := trodVars_none hV
  obtain ⟨x0, rfl, fo0, fd0, ns0, nd0, ft0, fe0⟩ := open_rul (hval 0 27 v0 rfl rfl) h0
  obtain ⟨x1, rfl, fh1, fn1, fk1, fw1, fm1⟩ := open_chg (hval 1 25 v1 rfl rfl) h1
  obtain ⟨a2, rfl, rfl, rfl, w2⟩ := open_int Tryd.underlying3 (hval 2 3 v2 rfl rfl) h2
  obtain ⟨a3, rfl, rfl, rfl, w3⟩ := open_int Tryd.underlying2 (hval 3 2 v3 rfl rfl) h3
  clear hA0 hval0
  refine (walk x0 x1 a2 a3 fo0 fd0 ns0 nd0 ft0 fe0 fh1 fn1 fk1 fw1 fm1 w2 w3 W (tab_of_laid hL)).mono fun e W' ⟨he, hg⟩ => ?_
  subst he
  exact ⟨_, rfl, post_up laidOut readable rfl hW' (fun _ _ _ => (trodAll_cons_mk (shut_bool Tryd.underlying4 _) trodAll_mk0)) rfl rfl
    hg (ok_one (by kernel_rfl) rfl (okWide_bool_mk Tryd.underlying4 _))⟩

theorem over : Rows.ruleTellsRow.holds Tryd.pinned (OpenSpec.ofChange Rows.ruleTellsSpec) :=
  OpenClaim.holds_of_wide 3 Tryd.f3 rfl rfl rfl rfl rfl rfl rfl ⟨rfl, rfl, rfl, rfl, rfl⟩ rfl rfl rfl rfl rfl (by kernel_rfl) Tryd.func3 (by kernel_rfl)
    (of_decide_eq_true (by kernel_rfl)) (by unfold Func.isWrapper; first | (rw [if_pos (by decide +kernel)]; kernel_rfl) | (rw [if_neg (by decide +kernel)]; exact ⟨rfl, rfl⟩))
    (fun os started H enc _ => lifted os started H enc)

set_option maxRecDepth 100000 in
theorem proved : Rows.RuleTellsCardSaid :=
  Claim7.holds_tied_plain_at .later [] [.data] true _ false
    over (fun _ h => by cases h) (by kernel_rfl) (fun _ h => by cases h) ruleTells_row_tie rfl ⟨rfl, rfl⟩ (by kernel_rfl) rfl
    (fun f fn hf hfn => by
      obtain rfl : f = 3 := Option.some.inj ((show Tryd.prog.funcNamed "longcase/longcaselaw09.RuleTells" = some 3 by kernel_rfl).symm.trans hf) |>.symm
      obtain rfl : fn = Tryd.f3 := (Option.some.inj (Tryd.func3.symm.trans hfn)).symm
      exact ⟨by kernel_rfl, fun j t ht => by
        rw [Tryd.params3] at ht
        have hm : t ∈ [27, 25, 3, 2] := by simpa using Array.mem_of_getElem? ht
        have hall : ([27, 25, 3, 2].all fun u => !Tryd.prog.wantsStandIn u) = true := by kernel_rfl
        exact (show Tryd.prog.wantsStandIn t = false by simpa using List.all_eq_true.1 hall t hm)⟩)
    (by kernel_rfl)
end Go.Proofs.YtbneokgeochinaaDoor.ruleTells
