/-
  The document's own answer of layer 9: the kind that is in force at a moment, of a rule of two kinds, where the moment has a date.
-/
import Derived.Test.YtbneokgeochinaaDoorLcRyT
import Derived.Deep.CutRange
namespace Go.Proofs.YtbneokgeochinaaDoor
open Go.ChangeShapes Go.WideShapes Go.ChangeAt Go.RowKit Go.Sort Lc

/-- What is found behind so many rounds. -/
def stN (r : Ru) (t y : Int) : Nat → As
  | 0 => as0
  | k + 1 => stY r t (y - 1 + (k : Int)) (stN r t y k)
theorem stN_3 (r : Ru) (t y : Int) : ends3 (stN r t y 3) = inDst r t y := by
  unfold inDst
  show ends3 (stY r t (y - 1 + ((2 : Nat) : Int)) (stY r t (y - 1 + ((1 : Nat) : Int)) (stY r t (y - 1 + ((0 : Nat) : Int)) as0))) = _
  rw [show y - 1 + ((2 : Nat) : Int) = y + 1 by omega, show y - 1 + ((1 : Nat) : Int) = y by omega, show y - 1 + ((0 : Nat) : Int) = y - 1 by omega]
theorem stY_no {r : Ru} {t n : Int} {s : As} (h : okT r n = false) : stY r t n s = s := by unfold stY; rw [h]; rfl
/-- A round, number by number. -/
theorem stY_yes {r : Ru} {t n l f l1 l2 f3 f4 : Int} {any dst som std any1 dst1 any2 dst2 som3 std3 std4 C1 C2 C3 C4 : Bool} (h : okT r n = true)
    (h1 : (decide (tnE r n ≤ t) && (!any || decide (l < tnE r n))) = C1) (a1 : (C1 || any) = any1) (b1 : (if C1 = true then tnE r n else l) = l1) (d1 : (!C1 && dst) = dst1)
    (h2 : (decide (tnS r n ≤ t) && (!any1 || decide (l1 ≤ tnS r n))) = C2) (a2 : (C2 || any1) = any2) (b2 : (if C2 = true then tnS r n else l1) = l2) (d2 : (C2 || dst1) = dst2)
    (h3 : (!som || decide (tnE r n < f)) = C3) (a3 : (C3 || som) = som3) (b3 : (if C3 = true then tnE r n else f) = f3) (d3 : (!C3 && std) = std3)
    (h4 : decide (tnS r n ≤ f3) = C4) (b4 : (if C4 = true then tnS r n else f3) = f4) (d4 : (C4 || std3) = std4) :
    stY r t n ⟨any, l, dst, som, f, std⟩ = ⟨any2, l2, dst2, som3, f4, std4⟩ := by
  unfold stY
  rw [h]
  have e1 : stE t (tnE r n) ⟨any, l, dst, som, f, std⟩ = ⟨any1, l1, dst1, som, f, std⟩ := by
    unfold stE; simp only [h1]; subst a1; subst b1; subst d1; cases C1 <;> simp
  have e2 : stS t (tnS r n) ⟨any1, l1, dst1, som, f, std⟩ = ⟨any2, l2, dst2, som, f, std⟩ := by
    unfold stS; simp only [h2]; subst a2; subst b2; subst d2; cases C2 <;> simp
  have e3 : stB (tnE r n) ⟨any2, l2, dst2, som, f, std⟩ = ⟨any2, l2, dst2, som3, f3, std3⟩ := by
    unfold stB; simp only [h3]; subst a3; subst b3; subst d3; cases C3 <;> simp
  have e4 : stA (tnS r n) ⟨any2, l2, dst2, som3, f3, std3⟩ = ⟨any2, l2, dst2, som3, f4, std4⟩ := by
    unfold stA; simp only [h4]; subst b4; subst d4; cases C4 <;> simp
  rw [e1, e2, e3, e4]; rfl
/-! ### At -/
theorem up_setc {w V : World} (h : Up w V) {k : Nat} (hk : w.heap.size ≤ k) (o : Nat) (u : Value) : Up w (V.setCell ⟨k, o, none⟩ u) :=
  ⟨h.os, h.tape, h.output, by rw [World.size_setCell]; exact h.size, fun j hj => by
    rw [Below.heap_setCell _ _ _ _ (show j ≠ k by omega)]; exact h.block j hj⟩
/-- What stands at the head of a round. -/
structure RelA (r : Ru) (t y : Int) (w1 : World) (v14 v15 v16 v17 v18 v19 v20 : Value) (wr : World) : Prop where
  ex : ∃ (k : Nat) (s : As), k ≤ 3 ∧ stN r t y k = s ∧ v14 = .bool s.any ∧ v15 = .int .i64 s.last ∧ v16 = .bool s.dst ∧ v17 = .bool s.some ∧ v18 = .int .i64 s.first ∧ v19 = .bool s.std ∧ v20 = .int .i64 (y - 1 + (k : Int)) ∧ Up w1 wr
theorem RelA.mk' {r : Ru} {t y : Int} {w1 wr : World} {k : Nat} {any dst som std : Bool} {l f n : Int} (h : k ≤ 3) (hs : stN r t y k = ⟨any, l, dst, som, f, std⟩) (hn : n = y - 1 + (k : Int)) (u : Up w1 wr) :
    RelA r t y w1 (.bool any) (.int .i64 l) (.bool dst) (.bool som) (.int .i64 f) (.bool std) (.int .i64 n) wr := ⟨⟨k, _, h, hs, rfl, rfl, rfl, rfl, rfl, rfl, by rw [hn], u⟩⟩
set_option maxRecDepth 100000 in
set_option maxHeartbeats 16000000 in
theorem dat_in (r : Ru) (t y m d : Int) (w : World) (n1 : r.std.name.length ≤ maxLen) (n2 : r.dst.name.length ≤ maxLen) (ft : fitB t = true) (hr : rightB r true = true) (hb : r.both = true)
    (hd : rdB y m d = true) (hn : dayI y m d = t / 86400) :
    Calls Tryd.prog 17 #[.agg (rA r), .int .i64 t] w fun e w' => e = .returned (.tuple #[.agg (kA (if inDst r t y = true then r.dst else r.std)), .int .i64 0]) ∧ Up w w' := by
  have B0 := Lib.hid ((Bk.new w (rA r) 27 (by decide)).up (Up.alloc (w.alloc (.cells (rA r) 27)) (.cells #[.int .i64 0, .bool false, .string ⟨#[]⟩] 23)))
  have Z0 : Hid (Bk ((w.alloc (.cells (rA r) 27)).alloc (.cells #[.int .i64 0, .bool false, .string ⟨#[]⟩] 23)) (w.heap.size + 1) #[.int .i64 0, .bool false, .string ⟨#[]⟩] 23) := Lib.hid (by have := Bk.new (w.alloc (.cells (rA r) 27)) #[.int .i64 0, .bool false, .string ⟨#[]⟩] 23 (by decide); rw [World.size_alloc] at this; exact this)
  have U0 := Lib.hid ((Up.alloc w (.cells (rA r) 27)).trans (Up.alloc (w.alloc (.cells (rA r) 27)) (.cells #[.int .i64 0, .bool false, .string ⟨#[]⟩] 23)))
  have RI : ∀ w, _ := fun w => dright_any r true w n1 n2
  rw [hr] at RI
  have DV := fun w => refDiv_yes t 86400 w (by decide) ft (by decide)
  have DT := fun w => refDate_yes (t / 86400) y m d w hd hn
  obtain ⟨y1, y2, _, _⟩ := rd_true.1 hd
  have TN := Lib.hid (fun n w => dturns_any r n w n1 n2)
  have OK : Hid (∀ n, okT r n = yrB n) := Lib.hid (fun n => by unfold okT; rw [hr, hb]; rfl)
  have fin := Lib.hid (stN_3 r t y)
  obtain ⟨K, hK⟩ : ∃ K, (if inDst r t y = true then r.dst else r.std) = K := ⟨_, rfl⟩
  rw [hK]
  have HK := Lib.hid hK
  clear hK hr hd hn
  generalize t / 86400 = D at *
  generalize t % 86400 = D2 at *
  go_enter Tryd.func17, Tryd.ntmps17
  go_upto_region 1 with (fail)
  generalize World.alloc (World.alloc w _) _ = W0 at *
  refine wp_region_lit ?_
  refine wpList_ld rfl 2 w.heap.size r _ rfl B0.out rfl ?_
  go_wp2_with fail
  refine (RI _).mono ?_; rintro e w1 ⟨rfl, u1⟩
  have B1 := Lib.hid (B0.out.up u1)
  have Z1 := Lib.hid (Z0.out.up u1)
  have U1 := Lib.hid (U0.out.trans u1)
  clear u1 B0 Z0 U0 RI
  have q6 : w1.cell? ⟨w.heap.size, 6, none⟩ = some (.bool true) := by rw [← hb]; exact B1.out.cell 6
  go_wp2_with fail
  refine (DV _).mono ?_; rintro e w' ⟨rfl, rfl⟩
  go_wp2_with fail
  refine (DT _).mono ?_; rintro e w' ⟨rfl, rfl⟩
  go_wp2_with fail
  clear q6 DV DT hb
  go_loopw [14, 15, 16, 17, 18, 19, 20] (fun v14 v15 v16 v17 v18 v19 v20 wr => RelA r t y w1 v14 v15 v16 v17 v18 v19 v20 wr) (fun _ _ _ _ _ _ v20 _ => (y + 3 - intOf v20).toNat)
  case atStart => exact RelA.mk' (k := 0) (by omega) rfl (by simp) (Up.refl _)
  case round =>
    obtain ⟨k, ⟨any, l, dst, som, f, std⟩, k3, hs, rfl, rfl, rfl, rfl, rfl, rfl, rfl, ur⟩ := hrel.ex
    simp only
    have HS := Lib.hid hs
    clear hs
    have B2 := Lib.hid (B1.out.up ur)
    have Z2 := Lib.hid (Z1.out.up ur)
    have UR := Lib.hid ur
    clear ur
    by_cases kk : k = 3
    · skip
      subst kk
      have gg : decide (y - 1 + ((3 : Nat) : Int) ≤ y + 1) = false := by simp; omega
      have HF := fin.out
      rw [HS.out] at HF
      have KE : Hid (K = if ends3 ⟨any, l, dst, som, f, std⟩ = true then r.dst else r.std) := Lib.hid (by rw [HF, HK.out])
      have UW := Lib.hid (U1.out.trans UR.out)
      clear HF HS fin HK TN OK
      have q0 : wr.cell? ⟨w.heap.size, 0, none⟩ = some (.int .i64 r.std.off) := B2.out.cell 0
      have q1 : wr.cell? ⟨w.heap.size, 1, none⟩ = some (.bool r.std.dst) := B2.out.cell 1
      have q2 : wr.cell? ⟨w.heap.size, 2, none⟩ = some (.string (tx r.std.name)) := B2.out.cell 2
      have q3 : wr.cell? ⟨w.heap.size, 3, none⟩ = some (.int .i64 r.dst.off) := B2.out.cell 3
      have q4 : wr.cell? ⟨w.heap.size, 4, none⟩ = some (.bool r.dst.dst) := B2.out.cell 4
      have q5 : wr.cell? ⟨w.heap.size, 5, none⟩ = some (.string (tx r.dst.name)) := B2.out.cell 5
      have s0 : wr.frozen? ⟨w.heap.size + 1, 0, none⟩ = false := Z2.out.frozen 0
      have s1 : wr.frozen? ⟨w.heap.size + 1, 1, none⟩ = false := Z2.out.frozen 1
      have s2 : wr.frozen? ⟨w.heap.size + 1, 2, none⟩ = false := Z2.out.frozen 2
      have t0 : wr.cell? ⟨w.heap.size + 1, 0, none⟩ = some (.int .i64 0) := Z2.out.cell 0
      have t1 : wr.cell? ⟨w.heap.size + 1, 1, none⟩ = some (.bool false) := Z2.out.cell 1
      have t2 : wr.cell? ⟨w.heap.size + 1, 2, none⟩ = some (.string ⟨#[]⟩) := Z2.out.cell 2
      have UO := fun v0 v1 v2 => up_setc (up_setc (up_setc UW.out (k := w.heap.size + 1) (by omega) 0 v0) (k := w.heap.size + 1) (by omega) 1 v1) (k := w.heap.size + 1) (by omega) 2 v2
      cases any <;> cases dst <;> cases std
      all_goals
        go_wp2_with fail
        first
          | exact bodyPost_ret (v := .tuple #[.agg #[.int .i64 r.dst.off, .bool r.dst.dst, .string (tx r.dst.name)], .int .i64 0]) (by simp [results, Tryd.results17, go_sem, t0, t1, t2]) rfl ⟨by rw [KE.out]; rfl, UO _ _ _⟩
          | exact bodyPost_ret (v := .tuple #[.agg #[.int .i64 r.std.off, .bool r.std.dst, .string (tx r.std.name)], .int .i64 0]) (by simp [results, Tryd.results17, go_sem, t0, t1, t2]) rfl ⟨by rw [KE.out]; rfl, UO _ _ _⟩
    · skip
      have gg : decide (y - 1 + (k : Int) ≤ y + 1) = true := by simp; omega
      have SN : Hid (stN r t y (k + 1) = stY r t (y - 1 + (k : Int)) ⟨any, l, dst, som, f, std⟩) := Lib.hid (by rw [← HS.out]; rfl)
      have OKn := OK.out (y - 1 + (k : Int))
      have TNn := TN.out (y - 1 + (k : Int))
      clear HS fin HK TN OK
      go_upto_region 19 with (fail)
      refine wp_region_lit ?_
      refine wpList_ld rfl 2 w.heap.size r _ rfl B2.out rfl ?_
      go_wp2_with fail
      cases hok : okT r (y - 1 + (k : Int)) with
      | false =>
        rw [hok, if_neg (by decide), if_neg (by decide)] at TNn
        refine (TNn _).mono ?_; rintro e w2 ⟨rfl, u2⟩
        have U2 := UR.out.trans u2
        have SN2 := Lib.hid (SN.out.trans (stY_no hok))
        go_wp2_with fail
        go_round
        case rel => exact RelA.mk' (k := k + 1) (by omega) SN2.out (by omega) U2
        case measure => simp [intOf]; omega
      | true =>
        rw [hok, if_pos rfl, if_pos rfl] at TNn
        refine (TNn _).mono ?_; rintro e w2 ⟨rfl, u2⟩
        have U2 := Lib.hid (UR.out.trans u2)
        clear u2 TNn OKn UR B2 Z2
        have SY := Lib.hid (fun any1 dst1 any2 dst2 som3 std3 std4 C1 C2 C3 C4 l1 l2 f3 f4 => @stY_yes r t (y - 1 + (k : Int)) l f l1 l2 f3 f4 any dst som std any1 dst1 any2 dst2 som3 std3 std4 C1 C2 C3 C4 hok)
        clear hok
        generalize tnE r (y - 1 + (k : Int)) = b at *
        generalize tnS r (y - 1 + (k : Int)) = a at *
        obtain ⟨C1, H1⟩ : ∃ x, Hid ((decide (b ≤ t) && (!any || decide (l < b))) = x) := ⟨_, rfl⟩
        obtain ⟨any1, A1⟩ : ∃ x, Hid ((C1 || any) = x) := ⟨_, rfl⟩
        obtain ⟨l1, L1⟩ : ∃ x, Hid ((if C1 = true then b else l) = x) := ⟨_, rfl⟩
        obtain ⟨dst1, D1⟩ : ∃ x, Hid ((!C1 && dst) = x) := ⟨_, rfl⟩
        obtain ⟨C2, H2⟩ : ∃ x, Hid ((decide (a ≤ t) && (!any1 || decide (l1 ≤ a))) = x) := ⟨_, rfl⟩
        obtain ⟨any2, A2⟩ : ∃ x, Hid ((C2 || any1) = x) := ⟨_, rfl⟩
        obtain ⟨l2, L2⟩ : ∃ x, Hid ((if C2 = true then a else l1) = x) := ⟨_, rfl⟩
        obtain ⟨dst2, D2'⟩ : ∃ x, Hid ((C2 || dst1) = x) := ⟨_, rfl⟩
        obtain ⟨C3, H3⟩ : ∃ x, Hid ((!som || decide (b < f)) = x) := ⟨_, rfl⟩
        obtain ⟨som3, A3⟩ : ∃ x, Hid ((C3 || som) = x) := ⟨_, rfl⟩
        obtain ⟨f3, L3⟩ : ∃ x, Hid ((if C3 = true then b else f) = x) := ⟨_, rfl⟩
        obtain ⟨std3, D3⟩ : ∃ x, Hid ((!C3 && std) = x) := ⟨_, rfl⟩
        obtain ⟨C4, H4⟩ : ∃ x, Hid (decide (a ≤ f3) = x) := ⟨_, rfl⟩
        obtain ⟨f4, L4⟩ : ∃ x, Hid ((if C4 = true then a else f3) = x) := ⟨_, rfl⟩
        obtain ⟨std4, D4⟩ : ∃ x, Hid ((C4 || std3) = x) := ⟨_, rfl⟩
        have SN2 := Lib.hid (SN.out.trans (SY.out any1 dst1 any2 dst2 som3 std3 std4 C1 C2 C3 C4 l1 l2 f3 f4 H1.out A1.out L1.out D1.out H2.out A2.out L2.out D2'.out H3.out A3.out L3.out D3.out H4.out L4.out D4.out))
        clear SY SN
        go_upto_region 21 with (fail)
        go_cut [78] from 52 to 104 (fun vc wc => vc = .bool C1 ∧ wc = w2)
        case first =>
          by_cases p : b ≤ t
          · have p' : decide (b ≤ t) = true := by simpa using p
            cases any
            · skip
              have hC : C1 = true := by rw [← H1.out, p']; rfl
              go_wp2_with fail
              go_meet
              case rel => exact ⟨by rw [hC], rfl⟩
            · skip
              by_cases q : l < b
              · have q' : decide (l < b) = true := by simpa using q
                have hC : C1 = true := by rw [← H1.out, p', q']; rfl
                go_wp2_with fail
                go_meet
                case rel => exact ⟨by rw [hC], rfl⟩
              · have q' : decide (l < b) = false := by simpa using q
                have hC : C1 = false := by rw [← H1.out, p', q']; rfl
                go_wp2_with fail
                go_meet
                case rel => exact ⟨by rw [hC], rfl⟩
          · have p' : decide (b ≤ t) = false := by simpa using p
            have hC : C1 = false := by rw [← H1.out, p']; rfl
            go_wp2_with fail
            go_meet
            case rel => exact ⟨by rw [hC], rfl⟩
        case rest =>
          obtain ⟨rfl, hw⟩ := hcut
          have hw2 := hw.symm
          subst hw2
          clear hw
          cases C1
          · obtain rfl : any = any1 := by rw [← A1.out]; rfl
            obtain rfl : l = l1 := by rw [← L1.out]; rfl
            obtain rfl : dst = dst1 := by rw [← D1.out]; rfl
            go_upto_region 25 with (fail)
            go_cut [91] from 52 to 104 (fun vc wc => vc = .bool C2 ∧ wc = w2)
            case first =>
              by_cases p : a ≤ t
              · have p' : decide (a ≤ t) = true := by simpa using p
                cases any
                · skip
                  have hC : C2 = true := by rw [← H2.out, p']; rfl
                  go_wp2_with fail
                  go_meet
                  case rel => exact ⟨by rw [hC], rfl⟩
                · skip
                  by_cases q : l ≤ a
                  · have q' : decide (l ≤ a) = true := by simpa using q
                    have hC : C2 = true := by rw [← H2.out, p', q']; rfl
                    go_wp2_with fail
                    go_meet
                    case rel => exact ⟨by rw [hC], rfl⟩
                  · have q' : decide (l ≤ a) = false := by simpa using q
                    have hC : C2 = false := by rw [← H2.out, p', q']; rfl
                    go_wp2_with fail
                    go_meet
                    case rel => exact ⟨by rw [hC], rfl⟩
              · have p' : decide (a ≤ t) = false := by simpa using p
                have hC : C2 = false := by rw [← H2.out, p']; rfl
                go_wp2_with fail
                go_meet
                case rel => exact ⟨by rw [hC], rfl⟩
            case rest =>
              obtain ⟨rfl, hw⟩ := hcut
              have hw2 := hw.symm
              subst hw2
              clear hw
              cases C2
              · obtain rfl : any = any2 := by rw [← A2.out]; rfl
                obtain rfl : l = l2 := by rw [← L2.out]; rfl
                obtain rfl : dst = dst2 := by rw [← D2'.out]; rfl
                go_upto_region 29 with (fail)
                go_cut [99] from 52 to 104 (fun vc wc => vc = .bool C3 ∧ wc = w2)
                case first =>
                  cases som
                  · skip
                    have hC : C3 = true := by rw [← H3.out]; rfl
                    go_wp2_with fail
                    go_meet
                    case rel => exact ⟨by rw [hC], rfl⟩
                  · skip
                    by_cases q : b < f
                    · have q' : decide (b < f) = true := by simpa using q
                      have hC : C3 = true := by rw [← H3.out, q']; rfl
                      go_wp2_with fail
                      go_meet
                      case rel => exact ⟨by rw [hC], rfl⟩
                    · have q' : decide (b < f) = false := by simpa using q
                      have hC : C3 = false := by rw [← H3.out, q']; rfl
                      go_wp2_with fail
                      go_meet
                      case rel => exact ⟨by rw [hC], rfl⟩
                case rest =>
                  obtain ⟨rfl, hw⟩ := hcut
                  have hw2 := hw.symm
                  subst hw2
                  clear hw
                  cases C3
                  · obtain rfl : som = som3 := by rw [← A3.out]; rfl
                    obtain rfl : f = f3 := by rw [← L3.out]; rfl
                    obtain rfl : std = std3 := by rw [← D3.out]; rfl
                    go_upto_region 33 with (fail)
                    go_cut [103] from 52 to 104 (fun vc wc => vc = .bool C4 ∧ wc = w2)
                    case first =>
                      by_cases q : a ≤ f
                      · have q' : decide (a ≤ f) = true := by simpa using q
                        have hC : C4 = true := by rw [← H4.out, q']
                        go_wp2_with fail
                        go_meet
                        case rel => exact ⟨by rw [hC], rfl⟩
                      · have q' : decide (a ≤ f) = false := by simpa using q
                        have hC : C4 = false := by rw [← H4.out, q']
                        go_wp2_with fail
                        go_meet
                        case rel => exact ⟨by rw [hC], rfl⟩
                    case rest =>
                      obtain ⟨rfl, hw⟩ := hcut
                      have hw2 := hw.symm
                      subst hw2
                      clear hw
                      cases C4
                      · obtain rfl : f = f4 := by rw [← L4.out]; rfl
                        obtain rfl : std = std4 := by rw [← D4.out]; rfl
                        go_wp2_with fail
                        go_roundw
                        case rel => exact RelA.mk' (k := k + 1) (by omega) SN2.out (by omega) U2.out
                        case measure => simp [intOf]; omega
                      · obtain rfl : a = f4 := by rw [← L4.out]; rfl
                        obtain rfl : true = std4 := by rw [← D4.out]; rfl
                        go_wp2_with fail
                        go_roundw
                        case rel => exact RelA.mk' (k := k + 1) (by omega) SN2.out (by omega) U2.out
                        case measure => simp [intOf]; omega
                  · obtain rfl : true = som3 := by rw [← A3.out]; rfl
                    obtain rfl : b = f3 := by rw [← L3.out]; rfl
                    obtain rfl : false = std3 := by rw [← D3.out]; rfl
                    go_upto_region 33 with (fail)
                    go_cut [103] from 52 to 104 (fun vc wc => vc = .bool C4 ∧ wc = w2)
                    case first =>
                      by_cases q : a ≤ b
                      · have q' : decide (a ≤ b) = true := by simpa using q
                        have hC : C4 = true := by rw [← H4.out, q']
                        go_wp2_with fail
                        go_meet
                        case rel => exact ⟨by rw [hC], rfl⟩
                      · have q' : decide (a ≤ b) = false := by simpa using q
                        have hC : C4 = false := by rw [← H4.out, q']
                        go_wp2_with fail
                        go_meet
                        case rel => exact ⟨by rw [hC], rfl⟩
                    case rest =>
                      obtain ⟨rfl, hw⟩ := hcut
                      have hw2 := hw.symm
                      subst hw2
                      clear hw
                      cases C4
                      · obtain rfl : b = f4 := by rw [← L4.out]; rfl
                        obtain rfl : false = std4 := by rw [← D4.out]; rfl
                        go_wp2_with fail
                        go_roundw
                        case rel => exact RelA.mk' (k := k + 1) (by omega) SN2.out (by omega) U2.out
                        case measure => simp [intOf]; omega
                      · obtain rfl : a = f4 := by rw [← L4.out]; rfl
                        obtain rfl : true = std4 := by rw [← D4.out]; rfl
                        go_wp2_with fail
                        go_roundw
                        case rel => exact RelA.mk' (k := k + 1) (by omega) SN2.out (by omega) U2.out
                        case measure => simp [intOf]; omega
              · obtain rfl : true = any2 := by rw [← A2.out]; rfl
                obtain rfl : a = l2 := by rw [← L2.out]; rfl
                obtain rfl : true = dst2 := by rw [← D2'.out]; rfl
                go_upto_region 29 with (fail)
                go_cut [99] from 52 to 104 (fun vc wc => vc = .bool C3 ∧ wc = w2)
                case first =>
                  cases som
                  · skip
                    have hC : C3 = true := by rw [← H3.out]; rfl
                    go_wp2_with fail
                    go_meet
                    case rel => exact ⟨by rw [hC], rfl⟩
                  · skip
                    by_cases q : b < f
                    · have q' : decide (b < f) = true := by simpa using q
                      have hC : C3 = true := by rw [← H3.out, q']; rfl
                      go_wp2_with fail
                      go_meet
                      case rel => exact ⟨by rw [hC], rfl⟩
                    · have q' : decide (b < f) = false := by simpa using q
                      have hC : C3 = false := by rw [← H3.out, q']; rfl
                      go_wp2_with fail
                      go_meet
                      case rel => exact ⟨by rw [hC], rfl⟩
                case rest =>
                  obtain ⟨rfl, hw⟩ := hcut
                  have hw2 := hw.symm
                  subst hw2
                  clear hw
                  cases C3
                  · obtain rfl : som = som3 := by rw [← A3.out]; rfl
                    obtain rfl : f = f3 := by rw [← L3.out]; rfl
                    obtain rfl : std = std3 := by rw [← D3.out]; rfl
                    go_upto_region 33 with (fail)
                    go_cut [103] from 52 to 104 (fun vc wc => vc = .bool C4 ∧ wc = w2)
                    case first =>
                      by_cases q : a ≤ f
                      · have q' : decide (a ≤ f) = true := by simpa using q
                        have hC : C4 = true := by rw [← H4.out, q']
                        go_wp2_with fail
                        go_meet
                        case rel => exact ⟨by rw [hC], rfl⟩
                      · have q' : decide (a ≤ f) = false := by simpa using q
                        have hC : C4 = false := by rw [← H4.out, q']
                        go_wp2_with fail
                        go_meet
                        case rel => exact ⟨by rw [hC], rfl⟩
                    case rest =>
                      obtain ⟨rfl, hw⟩ := hcut
                      have hw2 := hw.symm
                      subst hw2
                      clear hw
                      cases C4
                      · obtain rfl : f = f4 := by rw [← L4.out]; rfl
                        obtain rfl : std = std4 := by rw [← D4.out]; rfl
                        go_wp2_with fail
                        go_roundw
                        case rel => exact RelA.mk' (k := k + 1) (by omega) SN2.out (by omega) U2.out
                        case measure => simp [intOf]; omega
                      · obtain rfl : a = f4 := by rw [← L4.out]; rfl
                        obtain rfl : true = std4 := by rw [← D4.out]; rfl
                        go_wp2_with fail
                        go_roundw
                        case rel => exact RelA.mk' (k := k + 1) (by omega) SN2.out (by omega) U2.out
                        case measure => simp [intOf]; omega
                  · obtain rfl : true = som3 := by rw [← A3.out]; rfl
                    obtain rfl : b = f3 := by rw [← L3.out]; rfl
                    obtain rfl : false = std3 := by rw [← D3.out]; rfl
                    go_upto_region 33 with (fail)
                    go_cut [103] from 52 to 104 (fun vc wc => vc = .bool C4 ∧ wc = w2)
                    case first =>
                      by_cases q : a ≤ b
                      · have q' : decide (a ≤ b) = true := by simpa using q
                        have hC : C4 = true := by rw [← H4.out, q']
                        go_wp2_with fail
                        go_meet
                        case rel => exact ⟨by rw [hC], rfl⟩
                      · have q' : decide (a ≤ b) = false := by simpa using q
                        have hC : C4 = false := by rw [← H4.out, q']
                        go_wp2_with fail
                        go_meet
                        case rel => exact ⟨by rw [hC], rfl⟩
                    case rest =>
                      obtain ⟨rfl, hw⟩ := hcut
                      have hw2 := hw.symm
                      subst hw2
                      clear hw
                      cases C4
                      · obtain rfl : b = f4 := by rw [← L4.out]; rfl
                        obtain rfl : false = std4 := by rw [← D4.out]; rfl
                        go_wp2_with fail
                        go_roundw
                        case rel => exact RelA.mk' (k := k + 1) (by omega) SN2.out (by omega) U2.out
                        case measure => simp [intOf]; omega
                      · obtain rfl : a = f4 := by rw [← L4.out]; rfl
                        obtain rfl : true = std4 := by rw [← D4.out]; rfl
                        go_wp2_with fail
                        go_roundw
                        case rel => exact RelA.mk' (k := k + 1) (by omega) SN2.out (by omega) U2.out
                        case measure => simp [intOf]; omega
          · obtain rfl : true = any1 := by rw [← A1.out]; rfl
            obtain rfl : b = l1 := by rw [← L1.out]; rfl
            obtain rfl : false = dst1 := by rw [← D1.out]; rfl
            go_upto_region 25 with (fail)
            go_cut [91] from 52 to 104 (fun vc wc => vc = .bool C2 ∧ wc = w2)
            case first =>
              by_cases p : a ≤ t
              · have p' : decide (a ≤ t) = true := by simpa using p
                by_cases q : b ≤ a
                · have q' : decide (b ≤ a) = true := by simpa using q
                  have hC : C2 = true := by rw [← H2.out, p', q']; rfl
                  go_wp2_with fail
                  go_meet
                  case rel => exact ⟨by rw [hC], rfl⟩
                · have q' : decide (b ≤ a) = false := by simpa using q
                  have hC : C2 = false := by rw [← H2.out, p', q']; rfl
                  go_wp2_with fail
                  go_meet
                  case rel => exact ⟨by rw [hC], rfl⟩
              · have p' : decide (a ≤ t) = false := by simpa using p
                have hC : C2 = false := by rw [← H2.out, p']; rfl
                go_wp2_with fail
                go_meet
                case rel => exact ⟨by rw [hC], rfl⟩
            case rest =>
              obtain ⟨rfl, hw⟩ := hcut
              have hw2 := hw.symm
              subst hw2
              clear hw
              cases C2
              · obtain rfl : true = any2 := by rw [← A2.out]; rfl
                obtain rfl : b = l2 := by rw [← L2.out]; rfl
                obtain rfl : false = dst2 := by rw [← D2'.out]; rfl
                go_upto_region 29 with (fail)
                go_cut [99] from 52 to 104 (fun vc wc => vc = .bool C3 ∧ wc = w2)
                case first =>
                  cases som
                  · skip
                    have hC : C3 = true := by rw [← H3.out]; rfl
                    go_wp2_with fail
                    go_meet
                    case rel => exact ⟨by rw [hC], rfl⟩
                  · skip
                    by_cases q : b < f
                    · have q' : decide (b < f) = true := by simpa using q
                      have hC : C3 = true := by rw [← H3.out, q']; rfl
                      go_wp2_with fail
                      go_meet
                      case rel => exact ⟨by rw [hC], rfl⟩
                    · have q' : decide (b < f) = false := by simpa using q
                      have hC : C3 = false := by rw [← H3.out, q']; rfl
                      go_wp2_with fail
                      go_meet
                      case rel => exact ⟨by rw [hC], rfl⟩
                case rest =>
                  obtain ⟨rfl, hw⟩ := hcut
                  have hw2 := hw.symm
                  subst hw2
                  clear hw
                  cases C3
                  · obtain rfl : som = som3 := by rw [← A3.out]; rfl
                    obtain rfl : f = f3 := by rw [← L3.out]; rfl
                    obtain rfl : std = std3 := by rw [← D3.out]; rfl
                    go_upto_region 33 with (fail)
                    go_cut [103] from 52 to 104 (fun vc wc => vc = .bool C4 ∧ wc = w2)
                    case first =>
                      by_cases q : a ≤ f
                      · have q' : decide (a ≤ f) = true := by simpa using q
                        have hC : C4 = true := by rw [← H4.out, q']
                        go_wp2_with fail
                        go_meet
                        case rel => exact ⟨by rw [hC], rfl⟩
                      · have q' : decide (a ≤ f) = false := by simpa using q
                        have hC : C4 = false := by rw [← H4.out, q']
                        go_wp2_with fail
                        go_meet
                        case rel => exact ⟨by rw [hC], rfl⟩
                    case rest =>
                      obtain ⟨rfl, hw⟩ := hcut
                      have hw2 := hw.symm
                      subst hw2
                      clear hw
                      cases C4
                      · obtain rfl : f = f4 := by rw [← L4.out]; rfl
                        obtain rfl : std = std4 := by rw [← D4.out]; rfl
                        go_wp2_with fail
                        go_roundw
                        case rel => exact RelA.mk' (k := k + 1) (by omega) SN2.out (by omega) U2.out
                        case measure => simp [intOf]; omega
                      · obtain rfl : a = f4 := by rw [← L4.out]; rfl
                        obtain rfl : true = std4 := by rw [← D4.out]; rfl
                        go_wp2_with fail
                        go_roundw
                        case rel => exact RelA.mk' (k := k + 1) (by omega) SN2.out (by omega) U2.out
                        case measure => simp [intOf]; omega
                  · obtain rfl : true = som3 := by rw [← A3.out]; rfl
                    obtain rfl : b = f3 := by rw [← L3.out]; rfl
                    obtain rfl : false = std3 := by rw [← D3.out]; rfl
                    go_upto_region 33 with (fail)
                    go_cut [103] from 52 to 104 (fun vc wc => vc = .bool C4 ∧ wc = w2)
                    case first =>
                      by_cases q : a ≤ b
                      · have q' : decide (a ≤ b) = true := by simpa using q
                        have hC : C4 = true := by rw [← H4.out, q']
                        go_wp2_with fail
                        go_meet
                        case rel => exact ⟨by rw [hC], rfl⟩
                      · have q' : decide (a ≤ b) = false := by simpa using q
                        have hC : C4 = false := by rw [← H4.out, q']
                        go_wp2_with fail
                        go_meet
                        case rel => exact ⟨by rw [hC], rfl⟩
                    case rest =>
                      obtain ⟨rfl, hw⟩ := hcut
                      have hw2 := hw.symm
                      subst hw2
                      clear hw
                      cases C4
                      · obtain rfl : b = f4 := by rw [← L4.out]; rfl
                        obtain rfl : false = std4 := by rw [← D4.out]; rfl
                        go_wp2_with fail
                        go_roundw
                        case rel => exact RelA.mk' (k := k + 1) (by omega) SN2.out (by omega) U2.out
                        case measure => simp [intOf]; omega
                      · obtain rfl : a = f4 := by rw [← L4.out]; rfl
                        obtain rfl : true = std4 := by rw [← D4.out]; rfl
                        go_wp2_with fail
                        go_roundw
                        case rel => exact RelA.mk' (k := k + 1) (by omega) SN2.out (by omega) U2.out
                        case measure => simp [intOf]; omega
              · obtain rfl : true = any2 := by rw [← A2.out]; rfl
                obtain rfl : a = l2 := by rw [← L2.out]; rfl
                obtain rfl : true = dst2 := by rw [← D2'.out]; rfl
                go_upto_region 29 with (fail)
                go_cut [99] from 52 to 104 (fun vc wc => vc = .bool C3 ∧ wc = w2)
                case first =>
                  cases som
                  · skip
                    have hC : C3 = true := by rw [← H3.out]; rfl
                    go_wp2_with fail
                    go_meet
                    case rel => exact ⟨by rw [hC], rfl⟩
                  · skip
                    by_cases q : b < f
                    · have q' : decide (b < f) = true := by simpa using q
                      have hC : C3 = true := by rw [← H3.out, q']; rfl
                      go_wp2_with fail
                      go_meet
                      case rel => exact ⟨by rw [hC], rfl⟩
                    · have q' : decide (b < f) = false := by simpa using q
                      have hC : C3 = false := by rw [← H3.out, q']; rfl
                      go_wp2_with fail
                      go_meet
                      case rel => exact ⟨by rw [hC], rfl⟩
                case rest =>
                  obtain ⟨rfl, hw⟩ := hcut
                  have hw2 := hw.symm
                  subst hw2
                  clear hw
                  cases C3
                  · obtain rfl : som = som3 := by rw [← A3.out]; rfl
                    obtain rfl : f = f3 := by rw [← L3.out]; rfl
                    obtain rfl : std = std3 := by rw [← D3.out]; rfl
                    go_upto_region 33 with (fail)
                    go_cut [103] from 52 to 104 (fun vc wc => vc = .bool C4 ∧ wc = w2)
                    case first =>
                      by_cases q : a ≤ f
                      · have q' : decide (a ≤ f) = true := by simpa using q
                        have hC : C4 = true := by rw [← H4.out, q']
                        go_wp2_with fail
                        go_meet
                        case rel => exact ⟨by rw [hC], rfl⟩
                      · have q' : decide (a ≤ f) = false := by simpa using q
                        have hC : C4 = false := by rw [← H4.out, q']
                        go_wp2_with fail
                        go_meet
                        case rel => exact ⟨by rw [hC], rfl⟩
                    case rest =>
                      obtain ⟨rfl, hw⟩ := hcut
                      have hw2 := hw.symm
                      subst hw2
                      clear hw
                      cases C4
                      · obtain rfl : f = f4 := by rw [← L4.out]; rfl
                        obtain rfl : std = std4 := by rw [← D4.out]; rfl
                        go_wp2_with fail
                        go_roundw
                        case rel => exact RelA.mk' (k := k + 1) (by omega) SN2.out (by omega) U2.out
                        case measure => simp [intOf]; omega
                      · obtain rfl : a = f4 := by rw [← L4.out]; rfl
                        obtain rfl : true = std4 := by rw [← D4.out]; rfl
                        go_wp2_with fail
                        go_roundw
                        case rel => exact RelA.mk' (k := k + 1) (by omega) SN2.out (by omega) U2.out
                        case measure => simp [intOf]; omega
                  · obtain rfl : true = som3 := by rw [← A3.out]; rfl
                    obtain rfl : b = f3 := by rw [← L3.out]; rfl
                    obtain rfl : false = std3 := by rw [← D3.out]; rfl
                    go_upto_region 33 with (fail)
                    go_cut [103] from 52 to 104 (fun vc wc => vc = .bool C4 ∧ wc = w2)
                    case first =>
                      by_cases q : a ≤ b
                      · have q' : decide (a ≤ b) = true := by simpa using q
                        have hC : C4 = true := by rw [← H4.out, q']
                        go_wp2_with fail
                        go_meet
                        case rel => exact ⟨by rw [hC], rfl⟩
                      · have q' : decide (a ≤ b) = false := by simpa using q
                        have hC : C4 = false := by rw [← H4.out, q']
                        go_wp2_with fail
                        go_meet
                        case rel => exact ⟨by rw [hC], rfl⟩
                    case rest =>
                      obtain ⟨rfl, hw⟩ := hcut
                      have hw2 := hw.symm
                      subst hw2
                      clear hw
                      cases C4
                      · obtain rfl : b = f4 := by rw [← L4.out]; rfl
                        obtain rfl : false = std4 := by rw [← D4.out]; rfl
                        go_wp2_with fail
                        go_roundw
                        case rel => exact RelA.mk' (k := k + 1) (by omega) SN2.out (by omega) U2.out
                        case measure => simp [intOf]; omega
                      · obtain rfl : a = f4 := by rw [← L4.out]; rfl
                        obtain rfl : true = std4 := by rw [← D4.out]; rfl
                        go_wp2_with fail
                        go_roundw
                        case rel => exact RelA.mk' (k := k + 1) (by omega) SN2.out (by omega) U2.out
                        case measure => simp [intOf]; omega
set_option maxRecDepth 100000 in
set_option maxHeartbeats 8000000 in
theorem dat_wrong (r : Ru) (t : Int) (w : World) (n1 : r.std.name.length ≤ maxLen) (n2 : r.dst.name.length ≤ maxLen) (hr : rightB r true = false) :
    Calls Tryd.prog 17 #[.agg (rA r), .int .i64 t] w fun e w' => e = .returned (.tuple #[.agg (kA kd0), .int .i64 1]) ∧ Up w w' := by
  have B0 := Lib.hid ((Bk.new w (rA r) 27 (by decide)).up (Up.alloc (w.alloc (.cells (rA r) 27)) (.cells #[.int .i64 0, .bool false, .string ⟨#[]⟩] 23)))
  have Z0 : Hid (Bk ((w.alloc (.cells (rA r) 27)).alloc (.cells #[.int .i64 0, .bool false, .string ⟨#[]⟩] 23)) (w.heap.size + 1) #[.int .i64 0, .bool false, .string ⟨#[]⟩] 23) := Lib.hid (by have := Bk.new (w.alloc (.cells (rA r) 27)) #[.int .i64 0, .bool false, .string ⟨#[]⟩] 23 (by decide); rw [World.size_alloc] at this; exact this)
  have U0 := Lib.hid ((Up.alloc w (.cells (rA r) 27)).trans (Up.alloc (w.alloc (.cells (rA r) 27)) (.cells #[.int .i64 0, .bool false, .string ⟨#[]⟩] 23)))
  have RI : ∀ w, _ := fun w => dright_any r true w n1 n2
  rw [hr] at RI
  go_enter Tryd.func17, Tryd.ntmps17
  go_upto_region 1 with (fail)
  generalize World.alloc (World.alloc w _) _ = W0 at *
  refine wp_region_lit ?_
  refine wpList_ld rfl 2 w.heap.size r _ rfl B0.out rfl ?_
  go_wp2_with fail
  refine (RI _).mono ?_; rintro e w1 ⟨rfl, u1⟩
  have B1 := Lib.hid (B0.out.up u1)
  have Z1 := Lib.hid (Z0.out.up u1)
  have U1 := Lib.hid (U0.out.trans u1)
  clear u1 B0 Z0 U0 RI
  have s0 : w1.frozen? ⟨w.heap.size + 1, 0, none⟩ = false := Z1.out.frozen 0
  have s1 : w1.frozen? ⟨w.heap.size + 1, 1, none⟩ = false := Z1.out.frozen 1
  have s2 : w1.frozen? ⟨w.heap.size + 1, 2, none⟩ = false := Z1.out.frozen 2
  have t0 : w1.cell? ⟨w.heap.size + 1, 0, none⟩ = some (.int .i64 0) := Z1.out.cell 0
  have t1 : w1.cell? ⟨w.heap.size + 1, 1, none⟩ = some (.bool false) := Z1.out.cell 1
  have t2 : w1.cell? ⟨w.heap.size + 1, 2, none⟩ = some (.string ⟨#[]⟩) := Z1.out.cell 2
  have UO := fun v0 v1 v2 => up_setc (up_setc (up_setc U1.out (k := w.heap.size + 1) (by omega) 0 v0) (k := w.heap.size + 1) (by omega) 1 v1) (k := w.heap.size + 1) (by omega) 2 v2
  go_wp2_with fail
  exact bodyPost_ret (v := .tuple #[.agg #[.int .i64 0, .bool false, .string ⟨#[]⟩], .int .i64 1]) (by simp [results, Tryd.results17, go_sem, t0, t1, t2]) rfl ⟨rfl, UO _ _ _⟩
set_option maxRecDepth 100000 in
set_option maxHeartbeats 8000000 in
theorem dat_one (r : Ru) (t : Int) (w : World) (n1 : r.std.name.length ≤ maxLen) (n2 : r.dst.name.length ≤ maxLen) (hr : rightB r true = true) (hb : r.both = false) :
    Calls Tryd.prog 17 #[.agg (rA r), .int .i64 t] w fun e w' => e = .returned (.tuple #[.agg (kA r.std), .int .i64 0]) ∧ Up w w' := by
  have B0 := Lib.hid ((Bk.new w (rA r) 27 (by decide)).up (Up.alloc (w.alloc (.cells (rA r) 27)) (.cells #[.int .i64 0, .bool false, .string ⟨#[]⟩] 23)))
  have Z0 : Hid (Bk ((w.alloc (.cells (rA r) 27)).alloc (.cells #[.int .i64 0, .bool false, .string ⟨#[]⟩] 23)) (w.heap.size + 1) #[.int .i64 0, .bool false, .string ⟨#[]⟩] 23) := Lib.hid (by have := Bk.new (w.alloc (.cells (rA r) 27)) #[.int .i64 0, .bool false, .string ⟨#[]⟩] 23 (by decide); rw [World.size_alloc] at this; exact this)
  have U0 := Lib.hid ((Up.alloc w (.cells (rA r) 27)).trans (Up.alloc (w.alloc (.cells (rA r) 27)) (.cells #[.int .i64 0, .bool false, .string ⟨#[]⟩] 23)))
  have RI : ∀ w, _ := fun w => dright_any r true w n1 n2
  rw [hr] at RI
  go_enter Tryd.func17, Tryd.ntmps17
  go_upto_region 1 with (fail)
  generalize World.alloc (World.alloc w _) _ = W0 at *
  refine wp_region_lit ?_
  refine wpList_ld rfl 2 w.heap.size r _ rfl B0.out rfl ?_
  go_wp2_with fail
  refine (RI _).mono ?_; rintro e w1 ⟨rfl, u1⟩
  have B1 := Lib.hid (B0.out.up u1)
  have Z1 := Lib.hid (Z0.out.up u1)
  have U1 := Lib.hid (U0.out.trans u1)
  clear u1 B0 Z0 U0 RI
  have s0 : w1.frozen? ⟨w.heap.size + 1, 0, none⟩ = false := Z1.out.frozen 0
  have s1 : w1.frozen? ⟨w.heap.size + 1, 1, none⟩ = false := Z1.out.frozen 1
  have s2 : w1.frozen? ⟨w.heap.size + 1, 2, none⟩ = false := Z1.out.frozen 2
  have t0 : w1.cell? ⟨w.heap.size + 1, 0, none⟩ = some (.int .i64 0) := Z1.out.cell 0
  have t1 : w1.cell? ⟨w.heap.size + 1, 1, none⟩ = some (.bool false) := Z1.out.cell 1
  have t2 : w1.cell? ⟨w.heap.size + 1, 2, none⟩ = some (.string ⟨#[]⟩) := Z1.out.cell 2
  have UO := fun v0 v1 v2 => up_setc (up_setc (up_setc U1.out (k := w.heap.size + 1) (by omega) 0 v0) (k := w.heap.size + 1) (by omega) 1 v1) (k := w.heap.size + 1) (by omega) 2 v2
  have q6 : w1.cell? ⟨w.heap.size, 6, none⟩ = some (.bool false) := by rw [← hb]; exact B1.out.cell 6
  have q0 : w1.cell? ⟨w.heap.size, 0, none⟩ = some (.int .i64 r.std.off) := B1.out.cell 0
  have q1 : w1.cell? ⟨w.heap.size, 1, none⟩ = some (.bool r.std.dst) := B1.out.cell 1
  have q2 : w1.cell? ⟨w.heap.size, 2, none⟩ = some (.string (tx r.std.name)) := B1.out.cell 2
  go_wp2_with fail
  exact bodyPost_ret (v := .tuple #[.agg #[.int .i64 r.std.off, .bool r.std.dst, .string (tx r.std.name)], .int .i64 0]) (by simp [results, Tryd.results17, go_sem, t0, t1, t2]) rfl ⟨rfl, UO _ _ _⟩
set_option maxRecDepth 100000 in
set_option maxHeartbeats 8000000 in
theorem dat_far (r : Ru) (t : Int) (w : World) (n1 : r.std.name.length ≤ maxLen) (n2 : r.dst.name.length ≤ maxLen) (ft : fitB t = true) (hr : rightB r true = true) (hb : r.both = true) (hd : t / 86400 < ny (-2147483648) ∨ ny 2147483648 ≤ t / 86400) :
    Calls Tryd.prog 17 #[.agg (rA r), .int .i64 t] w fun e w' => e = .returned (.tuple #[.agg (kA kd0), .int .i64 2]) ∧ Up w w' := by
  have B0 := Lib.hid ((Bk.new w (rA r) 27 (by decide)).up (Up.alloc (w.alloc (.cells (rA r) 27)) (.cells #[.int .i64 0, .bool false, .string ⟨#[]⟩] 23)))
  have Z0 : Hid (Bk ((w.alloc (.cells (rA r) 27)).alloc (.cells #[.int .i64 0, .bool false, .string ⟨#[]⟩] 23)) (w.heap.size + 1) #[.int .i64 0, .bool false, .string ⟨#[]⟩] 23) := Lib.hid (by have := Bk.new (w.alloc (.cells (rA r) 27)) #[.int .i64 0, .bool false, .string ⟨#[]⟩] 23 (by decide); rw [World.size_alloc] at this; exact this)
  have U0 := Lib.hid ((Up.alloc w (.cells (rA r) 27)).trans (Up.alloc (w.alloc (.cells (rA r) 27)) (.cells #[.int .i64 0, .bool false, .string ⟨#[]⟩] 23)))
  have RI : ∀ w, _ := fun w => dright_any r true w n1 n2
  rw [hr] at RI
  have DV := fun w => refDiv_yes t 86400 w (by decide) ft (by decide)
  have DT := fun w => refDate_no (t / 86400) w hd
  clear hd
  generalize t / 86400 = D at *
  generalize t % 86400 = D2 at *
  go_enter Tryd.func17, Tryd.ntmps17
  go_upto_region 1 with (fail)
  generalize World.alloc (World.alloc w _) _ = W0 at *
  refine wp_region_lit ?_
  refine wpList_ld rfl 2 w.heap.size r _ rfl B0.out rfl ?_
  go_wp2_with fail
  refine (RI _).mono ?_; rintro e w1 ⟨rfl, u1⟩
  have B1 := Lib.hid (B0.out.up u1)
  have Z1 := Lib.hid (Z0.out.up u1)
  have U1 := Lib.hid (U0.out.trans u1)
  clear u1 B0 Z0 U0 RI
  have s0 : w1.frozen? ⟨w.heap.size + 1, 0, none⟩ = false := Z1.out.frozen 0
  have s1 : w1.frozen? ⟨w.heap.size + 1, 1, none⟩ = false := Z1.out.frozen 1
  have s2 : w1.frozen? ⟨w.heap.size + 1, 2, none⟩ = false := Z1.out.frozen 2
  have t0 : w1.cell? ⟨w.heap.size + 1, 0, none⟩ = some (.int .i64 0) := Z1.out.cell 0
  have t1 : w1.cell? ⟨w.heap.size + 1, 1, none⟩ = some (.bool false) := Z1.out.cell 1
  have t2 : w1.cell? ⟨w.heap.size + 1, 2, none⟩ = some (.string ⟨#[]⟩) := Z1.out.cell 2
  have UO := fun v0 v1 v2 => up_setc (up_setc (up_setc U1.out (k := w.heap.size + 1) (by omega) 0 v0) (k := w.heap.size + 1) (by omega) 1 v1) (k := w.heap.size + 1) (by omega) 2 v2
  have q6 : w1.cell? ⟨w.heap.size, 6, none⟩ = some (.bool true) := by rw [← hb]; exact B1.out.cell 6
  go_wp2_with fail
  refine (DV _).mono ?_; rintro e w' ⟨rfl, rfl⟩
  go_wp2_with fail
  refine (DT _).mono ?_; rintro e w' ⟨rfl, rfl⟩
  go_wp2_with fail
  exact bodyPost_ret (v := .tuple #[.agg #[.int .i64 0, .bool false, .string ⟨#[]⟩], .int .i64 2]) (by simp [results, Tryd.results17, go_sem, t0, t1, t2]) rfl ⟨rfl, UO _ _ _⟩
end Go.Proofs.YtbneokgeochinaaDoor
