/-
  BlockRules answers true: jumps rise, and lead to kinds; marks are one of each kind, or none; no name has a byte 0.
-/
import Derived.Test.YtoijaananjlfpaaLcShown6
import Derived.Test.YtoijaananjlfpaaLcPst
import Derived.Test.YtoijaananjlfpaaLcHdO
import Derived.Test.YtoijaananjlfpaaLcBkO
import Derived.Test.YtoijaananjlfpaaLcBkW
import Derived.Test.YtoijaananjlfpaaLcApp
import Derived.WalkKit
import Derived.Deep.RegionHeld
import Derived.BigQuiet
import Derived.ProofKit
import Derived.OpenShut
import Derived.Deep.CutRange
import Derived.StillTailTactics
namespace Go.Proofs.Ytoijaananjlfpaa.blockRules
open Go.ChangeShapes Go.WideShapes Go.ChangeAt Go.RowKit Lc
set_option linter.unusedVariables false

theorem own : ownKnob Try.prog.godebug = none := by kernel_rfl

theorem mask511 (a : Int) : ∃ n : Nat, n < 512 ∧ bits .and .i64 a 511 = n := by
  refine ⟨(BitVec.ofInt 64 a).toNat &&& 511, ?_, ?_⟩
  · have := Nat.and_le_right (n := (BitVec.ofInt 64 a).toNat) (m := 511); omega
  · have l := Nat.and_le_right (n := (BitVec.ofInt 64 a).toNat) (m := 511)
    show IntKind.i64.wrap (((BitVec.ofInt 64 a &&& BitVec.ofInt 64 511).toNat : Nat) : Int) = _
    rw [BitVec.toNat_and, show (BitVec.ofInt 64 511).toNat = 511 from by decide]
    exact IntWalk.i64_in _ (by omega)
theorem cut60_idem (s : ByteArray) : cut60 (cut60 s) = cut60 s := by
  unfold cut60
  obtain ⟨m, hm⟩ : ∃ m, (min (s.size : Int) 60).toNat = m := ⟨_, rfl⟩
  rw [hm]
  have hs : (s.extract 0 m).size = m := by rw [ByteArray.size_extract]; omega
  rw [hs, show (min (m : Int) 60).toNat = m by omega]
  apply ByteArray.ext
  rw [ByteArray.data_extract, ByteArray.data_extract, Array.extract_extract]
  congr 1
  omega
theorem cutK_idem (k : Knd) : cutK (cutK k) = cutK k := by unfold cutK; rw [cut60_idem]
theorem cutB_idem (x : Blk) : cutB (cutB x) = cutB x := by
  have e1 : (((x.ks.take 40).map cutK).take 40).map cutK = (x.ks.take 40).map cutK := by
    rw [← List.map_take, List.take_take, Nat.min_self, List.map_map]
    exact List.map_congr_left fun k _ => cutK_idem k
  show (⟨(((x.ks.take 40).map cutK).take 40).map cutK, (x.js.take 100).take 100, (x.ls.take 50).take 50, (x.sd.take 40).take 40, (x.ut.take 40).take 40⟩ : Blk) = _
  rw [e1, List.take_take, List.take_take, List.take_take, List.take_take]
  rfl
/-- The last jump's moment. -/
def lastT (js : List Jmp) : Int := if js.length = 0 then 0 else (js.getD (js.length - 1) j0).t
theorem getD_left {α : Type} {a b : List α} {d : α} {i : Nat} (h : i < a.length) : (a ++ b).getD i d = a.getD i d := by simp [List.getD, List.getElem?_append_left h]
theorem getD_last {α : Type} {a : List α} {d x : α} : (a ++ [x]).getD a.length d = x := by simp [List.getD]
theorem rule_same {x : Blk} (hl : 0 < x.js.length) : rightB ⟨x.ks, x.js ++ [⟨lastT x.js, 0⟩], x.ls, x.sd, x.ut⟩ 8 4 = false := by
  have e : rjB (x.js ++ [⟨lastT x.js, 0⟩]) x.ks.length 8 = false := by
    unfold rjB
    rw [allB_no (k := x.js.length) (by simp) ?_]
    · simp
    · unfold rjOne
      rw [getD_left (by omega), getD_last]
      have : lastT x.js = (x.js.getD (x.js.length - 1) j0).t := by unfold lastT; rw [if_neg (by omega)]
      rw [this]
      have l1 : decide (x.js.length = 0) = false := decide_eq_false (by omega)
      have l2 : decide ((x.js.getD (x.js.length - 1) j0).t < (x.js.getD (x.js.length - 1) j0).t) = false := by simp
      simp only [l1, l2, Bool.or_false, Bool.false_and]
  unfold rightB
  simp only [e, Bool.and_false, Bool.false_and]
theorem rule_next {x : Blk} (r : rightB x 8 4 = true) (hl : x.js.length ≤ 100) (k : Nat) : rightB ⟨x.ks, x.js ++ [⟨lastT x.js + 1, (k : Int)⟩], x.ls, x.sd, x.ut⟩ 8 4 = decide ((k : Int) < (x.ks.length : Int)) := by
  obtain ⟨_, hk, hm, hj, hls⟩ := right_parts r
  have e : rjB (x.js ++ [⟨lastT x.js + 1, (k : Int)⟩]) x.ks.length 8 = decide ((k : Int) < (x.ks.length : Int)) := by
    unfold rjB at hj ⊢
    simp only [Bool.and_eq_true, decide_eq_true_eq, allB_true] at hj
    have le : (x.js ++ [(⟨lastT x.js + 1, (k : Int)⟩ : Jmp)]).length = x.js.length + 1 := by simp
    rw [le, show decide (x.js.length + 1 ≤ 5000) = true by simp; omega, Bool.true_and]
    have one : rjOne (x.js ++ [⟨lastT x.js + 1, (k : Int)⟩]) x.ks.length 8 x.js.length = decide ((k : Int) < (x.ks.length : Int)) := by
      unfold rjOne
      rw [getD_last]
      rcases Nat.eq_zero_or_pos x.js.length with h0 | h0
      · simp [h0, fitZ]
      · rw [getD_left (by omega)]
        have : lastT x.js = (x.js.getD (x.js.length - 1) j0).t := by unfold lastT; rw [if_neg (by omega)]
        rw [this]
        have l1 : decide ((x.js.getD (x.js.length - 1) j0).t < (x.js.getD (x.js.length - 1) j0).t + 1) = true := by simp; omega
        simp only [l1, Bool.or_true, Bool.true_and]
        simp [fitZ]
    have low : ∀ i, i < x.js.length → rjOne (x.js ++ [⟨lastT x.js + 1, (k : Int)⟩]) x.ks.length 8 i = true := fun i hi => by
      have := hj.2 i hi
      unfold rjOne at this ⊢
      rw [getD_left hi, getD_left (by omega)]
      exact this
    cases c : decide ((k : Int) < (x.ks.length : Int)) with
    | false => exact allB_no (k := x.js.length) (by omega) (by rw [one, c])
    | true =>
      rw [allB_true]
      intro i hi
      rcases Nat.lt_or_ge i x.js.length with g | g
      · exact low i g
      · have : i = x.js.length := by omega
        rw [this, one, c]
  unfold rightB zB
  simp only [hk, hm, hls, e]
  simp
theorem rule_std {x : Blk} (hn : 1 ≤ x.ks.length) : rightB ⟨x.ks, x.js, x.ls, List.replicate (x.ks.length + 1) false, x.ut⟩ 8 4 = false := by
  have e : rmB (List.replicate (x.ks.length + 1) false) x.ut x.ks.length = false := by
    unfold rmB
    simp
  unfold rightB
  simp only [e, Bool.and_false, Bool.false_and]
theorem rule_zero {x : Blk} (hn : 1 ≤ x.ks.length) (off : Int) (dst : Bool) : rightB ⟨x.ks.set 0 ⟨off, dst, ⟨#[0]⟩⟩, x.js, x.ls, x.sd, x.ut⟩ 8 4 = false := by
  have e : rkB (x.ks.set 0 ⟨off, dst, ⟨#[0]⟩⟩) = false := by
    unfold rkB
    rw [allB_no (k := 0) (by simp; omega) ?_]
    · simp
    · have : (x.ks.set 0 (⟨off, dst, ⟨#[0]⟩⟩ : Knd)).getD 0 k0 = ⟨off, dst, ⟨#[0]⟩⟩ := by
        obtain ⟨a, l, e⟩ : ∃ a l, x.ks = a :: l := by
          cases h : x.ks with
          | nil => rw [h] at hn; simp at hn
          | cons a l => exact ⟨a, l, rfl⟩
        rw [e]; rfl
      rw [this]
      unfold rkOne
      have : noz ⟨#[0]⟩ = false := by decide
      rw [this]; simp
  unfold rightB
  simp only [e, Bool.and_false, Bool.false_and]
/-- The box of the changed block: it holds five values. -/
def Yb (w : World) (b : Nat) : Prop := ∃ y0 y1 y2 y3 y4 : Value, w.heap[b]? = some (.cells #[y0, y1, y2, y3, y4] 27 (0, 0))
theorem OwB_cell {w : World} {base : Nat} {v : Value} {x : Blk} (h : OwB w base v x) {b : Nat} {cs : Array Value} {fr : Nat × Nat} (hb : w.heap[b]? = some (.cells cs 27 fr)) (o : Nat) (u : Value) : OwB (w.setCell ⟨b, o, none⟩ u) base v x := by
  obtain ⟨a, b', c, d, e, rfl, h1, h2, h3, h4, h5⟩ := h
  exact ⟨_, _, _, _, _, rfl, row_else h1 (row_ty h1 hb (by decide)) _ _, row_else h2 (row_ty h2 hb (by decide)) _ _, row_else h3 (row_ty h3 hb (by decide)) _ _, row_else h4 (row_ty h4 hb (by decide)) _ _, row_else h5 (row_ty h5 hb (by decide)) _ _⟩
theorem OwB_js {w : World} {base s1 J1 : Nat} {S1 : Option Addr} {a c d e : Value} {x : Blk} (h : OwB w base (.agg #[a, .slice S1 s1 J1, c, d, e]) x) : s1 = x.js.length ∧ (0 < x.js.length → ∃ g, S1 = some ⟨g, 0, none⟩ ∧ base ≤ g ∧ w.cell? ⟨g, (x.js.length - 1) * 2, none⟩ = some (.int .i64 (lastT x.js))) ∧ ∀ k, (Value.slice S1 s1 J1).ownBlock = some k → base ≤ k := by
  have h2 := h.jb
  refine ⟨?_, fun h0 => ?_, fun k hk => (World.ownsRow.lt h2 k hk).1⟩
  · obtain ⟨A, c', hv⟩ := row_form h2
    injection hv
  · obtain ⟨A, c', hs, _, _, hr⟩ := row_sl h2
    injection hs with hs _ _
    subst hs
    obtain ⟨b, o, e1, hc⟩ := hr.jmp (i := x.js.length - 1) (by omega)
    rcases h2.2 with ⟨_, hz⟩ | ⟨g, cap, cur, hv, hb, _⟩
    · omega
    · injection hv with hv _ _
      rw [hv] at e1
      injection e1 with e1
      injection e1 with e2 e3
      subst e2 e3
      refine ⟨g, hv, hb, ?_⟩
      have := (hc (x.js.length - 1) (by omega)).1
      rw [Nat.zero_add] at this
      rw [this]
      unfold lastT
      rw [if_neg (by omega)]
theorem put1 {w : World} {b : Nat} {y0 y1 y2 y3 y4 : Value} {t : TypeId} (h : w.heap[b]? = some (.cells #[y0, y1, y2, y3, y4] t (0, 0))) (u : Value) : (w.setCell ⟨b, 1, none⟩ u).heap[b]? = some (.cells #[y0, u, y2, y3, y4] t (0, 0)) := heap_setCell_same w b 1 _ t u h
theorem put3 {w : World} {b : Nat} {y0 y1 y2 y3 y4 : Value} {t : TypeId} (h : w.heap[b]? = some (.cells #[y0, y1, y2, y3, y4] t (0, 0))) (u : Value) : (w.setCell ⟨b, 3, none⟩ u).heap[b]? = some (.cells #[y0, y1, y2, u, y4] t (0, 0)) := heap_setCell_same w b 3 _ t u h
theorem OwB_name0 {w : World} {base g n d : Nat} {b c e f : Value} {x : Blk} (h : OwB w base (.agg #[.slice (some ⟨g, 0, none⟩) n d, b, c, e, f]) x) (hk : 0 < x.ks.length) (s : ByteArray) :
    OwB (w.setCell ⟨g, 2, none⟩ (.string s)) base (.agg #[.slice (some ⟨g, 0, none⟩) n d, b, c, e, f]) ⟨x.ks.set 0 ⟨(x.ks.getD 0 k0).off, (x.ks.getD 0 k0).dst, s⟩, x.js, x.ls, x.sd, x.ut⟩ := OwB.name h (k := 0) hk s
theorem OwB_sd {w : World} {base : Nat} {a b c d e d' : Value} {x : Blk} (h : OwB w base (.agg #[a, b, c, d, e]) x) {bs : List Bool} (hd : Sl w d' bs.length (oc bs)) : BkR w (.agg #[a, b, c, d', e]) ⟨x.ks, x.js, x.ls, bs, x.ut⟩ := by
  obtain ⟨_, _, _, _, _, he, h1, h2, h3, h4, h5⟩ := h.rd
  simp only [Value.agg.injEq, Array.mk.injEq, List.cons.injEq, and_true] at he
  obtain ⟨rfl, rfl, rfl, rfl, rfl⟩ := he
  exact ⟨_, _, _, _, _, rfl, h1, h2, h3, hd, h5⟩
theorem Yb_lt {w : World} {b : Nat} (h : Yb w b) : b < w.heap.size := by
  obtain ⟨_, _, _, _, _, h⟩ := h
  rcases Nat.lt_or_ge b w.heap.size with g | g
  · exact g
  · rw [Array.getElem?_eq_none g] at h; cases h

set_option maxHeartbeats 4000000 in
set_option maxRecDepth 100000 in
theorem walk (w : World) (v0 : Value) (x0 : Blk) (a1 : Int) (r0 : BkR w v0 x0) (b0 : BI x0) (w1 : (Lit.int .i64 a1).wf = true) :
    Calls Try.prog 7 #[v0, .int .i64 a1] w fun e w' => e = .returned (.bool true) ∧ Up w w' := by
  obtain ⟨kk, hkk, ek⟩ := mask511 a1
  have FW := Lib.hid (fun w1 (u : Up w w1) => few_any v0 x0 w1 (r0.up u))
  have hbi := cut_bi b0
  have hlen := cut_len x0
  have idem := Lib.hid (cutB_idem x0)
  generalize cutB x0 = X at *
  have RI := Lib.hid (fun w1 v h => bright_any v X 8 4 w1 h)
  obtain ⟨A0, n0, c0, A1, n1, c1, A2, n2, c2, A3, n3, c3, A4, n4, c4, rfl⟩ := r0.form
  have BX := Lib.hid (Bx5.new w (.slice A0 n0 c0) (.slice A1 n1 c1) (.slice A2 n2 c2) (.slice A3 n3 c3) (.slice A4 n4 c4) 27)
  have FX := Lib.hid (Free.new w #[.slice A0 n0 c0, .slice A1 n1 c1, .slice A2 n2 c2, .slice A3 n3 c3, .slice A4 n4 c4] 27)
  have U0 := Lib.hid (Up.alloc w (.cells #[.slice A0 n0 c0, .slice A1 n1 c1, .slice A2 n2 c2, .slice A3 n3 c3, .slice A4 n4 c4] 27))
  clear r0 b0 w1
  go_enter Try.func7, Try.ntmps7
  go_wp2_with fail
  refine (shown_any _).mono ?_; rintro e w1 ⟨rfl, u1⟩
  have U1 := Lib.hid (U0.out.trans u1)
  have B1 := Lib.hid (BX.out.up u1)
  have F1 := Lib.hid (FX.out.up u1)
  clear u1 BX FX U0
  obtain ⟨a0, a1', a2, a3, a4⟩ := B1.out
  go_wp2_with fail
  clear a0 a1' a2 a3 a4
  refine (FW.out _ U1.out).mono ?_; rintro e w2 ⟨v2, rfl, o2, u2⟩
  have U2 := Lib.hid (U1.out.trans u2)
  have lt2 : w.heap.size < w1.heap.size := F1.out.1
  obtain ⟨P0, q0, d0, P1, q1, d1, P2, q2, d2, P3, q3, d3, P4, q4, d4, rfl⟩ := o2.rd.form
  have O3 := Lib.hid (o2.low lt2 (.slice P0 q0 d0) (.slice P1 q1 d1) (.slice P2 q2 d2) (.slice P3 q3 d3) (.slice P4 q4 d4)).rd
  have B3 := Lib.hid (Bx5.five (B1.out.up u2) (.slice P0 q0 d0) (.slice P1 q1 d1) (.slice P2 q2 d2) (.slice P3 q3 d3) (.slice P4 q4 d4))
  have U3 := Lib.hid (Up.five U2.out (Nat.le_refl _) (.slice P0 q0 d0) (.slice P1 q1 d1) (.slice P2 q2 d2) (.slice P3 q3 d3) (.slice P4 q4 d4))
  obtain ⟨a0, a1', a2, a3, a4⟩ := B1.out.up u2
  obtain ⟨_, fz⟩ := F1.out.up u2
  have z0 := fz 0; have z1 := fz 1; have z2 := fz 2; have z3 := fz 3; have z4 := fz 4
  clear fz o2 u2 U2 B1 F1 U1 FW
  go_wp2_with fail
  clear a0 a1' a2 a3 a4 z0 z1 z2 z3 z4
  obtain ⟨ri, hri⟩ : ∃ ri, rightB X 8 4 = ri := ⟨_, rfl⟩
  rw [hri] at RI
  refine (RI.out _ _ O3.out).mono ?_; rintro e w4 ⟨rfl, u4⟩
  have O4 := Lib.hid (O3.out.up u4)
  have B4 := Lib.hid (B3.out.up u4)
  have U4 := Lib.hid (U3.out.trans u4)
  clear u4 O3 B3 U3 RI
  cases ri
  · clear hri
    go_wp2_with fail
    go_ret
    exact ⟨rfl, U4.out⟩
  have hk1 := (rk_parts (right_parts hri).2.1).1
  have HQ : Hid (q0 = X.ks.length) := by
    obtain ⟨_, _, _, _, _, he, ⟨_, _, h1, _⟩, _⟩ := O4.out
    simp only [Value.agg.injEq, Array.mk.injEq, List.cons.injEq, and_true] at he
    obtain ⟨rfl, _⟩ := he
    injection h1 with _ h1 _
  have FY := Lib.hid (fun w1 (u : Up w4 w1) => few_any (.agg #[.slice P0 q0 d0, .slice P1 q1 d1, .slice P2 q2 d2, .slice P3 q3 d3, .slice P4 q4 d4]) X w1 (O4.out.up u))
  rw [idem.out] at FY
  have hq0 : 1 ≤ q0 := by rw [HQ.out]; exact hk1
  have hq40 : q0 ≤ 40 := by rw [HQ.out]; exact hlen.1
  have T1 := Lib.hid (rule_same (x := X))
  have T2 := Lib.hid (rule_next hri hlen.2.1 kk)
  have T3 := Lib.hid (rule_std (x := X) hk1)
  have T4 := Lib.hid (rule_zero (x := X) hk1)
  have hj100 := hlen.2.1
  have LB : Hid (-9223372036854775808 ≤ lastT X.js ∧ lastT X.js ≤ 9223372036854775807) := by
    unfold Hid lastT
    split
    · omega
    · exact hbi.1 _ (by omega)
  clear hri hbi hlen hk1 idem
  obtain ⟨a0, a1', a2, a3, a4⟩ := B4.out
  go_wp2_with fail
  clear a0 a1' a2 a3 a4
  refine (FY.out _ (Up.refl _)).mono ?_; rintro e w5 ⟨v5, rfl, o5, u5⟩
  obtain ⟨S0, s0, T0, S1, s1, J1, S2, s2, J2, S3, s3, J3, S4, s4, J4, rfl⟩ := o5.rd.form
  have HB5 : Hid ((w5.alloc (.cells #[.slice S0 s0 T0, .slice S1 s1 J1, .slice S2 s2 J2, .slice S3 s3 J3, .slice S4 s4 J4] 27)).heap[w5.heap.size]? = some (.cells #[.slice S0 s0 T0, .slice S1 s1 J1, .slice S2 s2 J2, .slice S3 s3 J3, .slice S4 s4 J4] 27 (0, 0))) := heap_alloc_new _ _
  have O5 := Lib.hid (o5.up (Up.alloc w5 (.cells #[.slice S0 s0 T0, .slice S1 s1 J1, .slice S2 s2 J2, .slice S3 s3 J3, .slice S4 s4 J4] 27)))
  have U5 := Lib.hid (u5.alloc' (.cells #[.slice S0 s0 T0, .slice S1 s1 J1, .slice S2 s2 J2, .slice S3 s3 J3, .slice S4 s4 J4] 27))
  have sz5 := u5.size
  clear o5 u5
  go_upto_if 25 with (fail)
  generalize w5.alloc (.cells #[.slice S0 s0 T0, .slice S1 s1 J1, .slice S2 s2 J2, .slice S3 s3 J3, .slice S4 s4 J4] 27) = V5 at *
  obtain ⟨e1, ec, eb⟩ := OwB_js O5.out
  go_cut [8] from 10 (fun s8 wc => s8 = .int .i64 (lastT X.js) ∧ Yb wc w5.heap.size ∧ Up w4 wc)
  case first =>
    by_cases j0n : X.js.length = 0
    · rw [j0n] at e1
      subst e1
      have l0 : lastT X.js = 0 := by unfold lastT; rw [if_pos j0n]
      clear ec eb
      go_wp2_with fail
      go_meet
      case rel => exact ⟨by rw [l0], ⟨_, _, _, _, _, HB5.out⟩, U5.out⟩
    · obtain ⟨g, rfl, hg, hc⟩ := ec (by omega)
      obtain ⟨m, hm⟩ : ∃ m, X.js.length = m + 1 := ⟨X.js.length - 1, by omega⟩
      rw [hm] at e1 hc hj100
      subst e1
      have hmm := Lib.hid hm
      rw [show m + 1 - 1 = m from rfl] at hc
      have T1' := Lib.hid (T1.out (by omega))
      have RJ := Lib.hid (fun w1 v h => bright_any v ⟨X.ks, X.js ++ [⟨lastT X.js, 0⟩], X.ls, X.sd, X.ut⟩ 8 4 w1 h)
      rw [T1'.out] at RJ
      have OJ := Lib.hid O5.out.jb
      have EB := Lib.hid eb
      obtain ⟨tl, htl⟩ : ∃ tl, lastT X.js = tl := ⟨_, rfl⟩
      have HTL := Lib.hid htl
      rw [htl] at hc
      clear ec eb hm T1' htl
      obtain ⟨x0', x1', x2', x3', x4'⟩ := (bx_heap HB5.out).1
      have ltb := cell_lt x0'
      have ltg := cell_lt hc
      have OW := Lib.hid (row_up OJ.out (Up.alloc V5 (.cells #[.int .i64 tl, .int .i64 0] 54)))
      go_wp2_with (at_builtin; refine wpList_append_jmp _ rfl _ _ rfl w4.heap.size _ X.js rfl OW.out (some ⟨V5.heap.size, 0, none⟩) [⟨tl, 0⟩] 1 1 rfl rfl (rc_new V5 #[.int .i64 tl, .int .i64 0] _) ?e1 ?e2 ?_)
      case e1 => rw [hmm.out]; simp; omega
      case e2 => have := U5.out.size; simp; omega
      intro v6 w6 ho6 hg6 _
      replace ho6 : w6.ownsRow w4.heap.size 54 2 v6 (X.js ++ [(⟨tl, 0⟩ : Jmp)]).length (jc (X.js ++ [⟨tl, 0⟩])) := by simpa using ho6
      have O6 := Lib.hid (OwB.jumps (O5.out.up (Up.alloc V5 (.cells #[.int .i64 tl, .int .i64 0] 54))) ho6 hg6)
      have HB6 := Lib.hid (heap_grown hg6 (heap_up (Up.alloc V5 (.cells #[.int .i64 tl, .int .i64 0] 54)) HB5.out) (row_ty OW.out (heap_up (Up.alloc V5 _) HB5.out) (by decide)))
      have U6 := Lib.hid (Up.grown (U5.out.alloc' (.cells #[.int .i64 tl, .int .i64 0] 54)) hg6 EB.out)
      obtain ⟨S1', J1', rfl⟩ := row_form ho6
      have HB7 := Lib.hid (put1 HB6.out (.slice S1' (X.js ++ [(⟨tl, 0⟩ : Jmp)]).length J1'))
      have O7 := Lib.hid (OwB_cell O6.out HB6.out 1 (.slice S1' (X.js ++ [(⟨tl, 0⟩ : Jmp)]).length J1'))
      have U7 := Lib.hid (U6.out.setCell' (p := ⟨w5.heap.size, 1, none⟩) sz5 (.slice S1' (X.js ++ [(⟨tl, 0⟩ : Jmp)]).length J1'))
      clear x0' x1' x2' x3' x4' ltb ltg hc ho6 hg6 OW OJ
      obtain ⟨x0', x1', x2', x3', x4'⟩ := (bx_heap HB6.out).1
      have f1 := (bx_heap HB6.out).2.2 1
      have ltb := cell_lt x0'
      rw [HTL.out] at RJ
      generalize (X.js ++ [(⟨tl, 0⟩ : Jmp)]).length = nj at *
      go_wp2_with fail
      clear x0' x1' x2' x3' x4' ltb f1
      refine (RJ.out _ _ O7.out.rd).mono ?_; rintro e w8 ⟨rfl, u8⟩
      go_wp2_with fail
      go_meet
      case rel => exact ⟨by rw [HTL.out], ⟨_, _, _, _, _, heap_up u8 HB7.out⟩, U7.out.trans u8⟩
  case rest =>
    obtain ⟨rfl, hy, hu⟩ := hcut
    have HY := Lib.hid hy
    have HU := Lib.hid hu
    clear hy hu HB5 O5 U5 e1 ec eb
    generalize hwv : wc = wa at *
    clear hwv
    obtain ⟨a0, a1', a2, a3, a4⟩ := B4.out.up HU.out
    go_wp2_with fail
    clear a0 a1' a2 a3 a4
    refine (FY.out _ HU.out).mono ?_; rintro e wf10 ⟨vf, rfl, of, uf⟩
    obtain ⟨S0, s0, T0, S1, s1, J1, S2, s2, J2, S3, s3, J3, S4, s4, J4, rfl⟩ := of.rd.form
    have ltb := Yb_lt HY.out
    obtain ⟨y0, y1, y2, y3, y4, hy⟩ := HY.out
    have hy' := heap_up uf hy
    have O10 := Lib.hid (of.low ltb (.slice S0 s0 T0) (.slice S1 s1 J1) (.slice S2 s2 J2) (.slice S3 s3 J3) (.slice S4 s4 J4))
    have HB10 := Lib.hid (five_heap hy' (.slice S0 s0 T0) (.slice S1 s1 J1) (.slice S2 s2 J2) (.slice S3 s3 J3) (.slice S4 s4 J4))
    have U10 := Lib.hid (Up.five (HU.out.trans uf) sz5 (.slice S0 s0 T0) (.slice S1 s1 J1) (.slice S2 s2 J2) (.slice S3 s3 J3) (.slice S4 s4 J4))
    obtain ⟨c0', c1', c2', c3', c4'⟩ := (bx_heap hy').1
    have fz := (bx_heap hy').2.2
    have z0 := fz 0; have z1 := fz 1; have z2 := fz 2; have z3 := fz 3; have z4 := fz 4
    have bsz := HU.out.size
    have ufs := uf.size
    clear fz hy hy' of uf HY ltb
    go_upto_if 47 with (fail)
    clear c0' c1' c2' c3' c4' z0 z1 z2 z3 z4
    have U10b : Hid (wa.heap.size ≤ (five wf10 w5.heap.size (.slice S0 s0 T0) (.slice S1 s1 J1) (.slice S2 s2 J2) (.slice S3 s3 J3) (.slice S4 s4 J4)).heap.size) := by unfold Hid; simp; exact ufs
    unfold five at O10 HB10 U10 U10b
    generalize (((((wf10.setCell ⟨w5.heap.size, 0, none⟩ (.slice S0 s0 T0)).setCell ⟨w5.heap.size, 1, none⟩ (.slice S1 s1 J1)).setCell ⟨w5.heap.size, 2, none⟩ (.slice S2 s2 J2)).setCell ⟨w5.heap.size, 3, none⟩ (.slice S3 s3 J3)).setCell ⟨w5.heap.size, 4, none⟩ (.slice S4 s4 J4)) = V10 at *
    obtain ⟨e1, ec, eb⟩ := OwB_js O10.out
    obtain ⟨tl, htl⟩ : ∃ tl, lastT X.js = tl := ⟨_, rfl⟩
    have HTL := Lib.hid htl
    have lb := LB.out
    rw [htl] at lb
    rw [htl]
    clear htl
    go_cut [1] from 10 (fun _ wc => Yb wc w5.heap.size ∧ Up w4 wc)
    case first =>
      subst e1
      by_cases lm : tl < 9223372036854775807
      · have RJ := Lib.hid (fun w1 v h => bright_any v ⟨X.ks, X.js ++ [⟨tl + 1, (kk : Int)⟩], X.ls, X.sd, X.ut⟩ 8 4 w1 h)
        have T2' := T2.out
        rw [HTL.out, ← HQ.out] at T2'
        rw [T2'] at RJ
        have OJ := Lib.hid O10.out.jb
        have EB := Lib.hid eb
        have hjn := Lib.hid hj100
        clear ec eb T2'
        obtain ⟨x0', x1', x2', x3', x4'⟩ := (bx_heap HB10.out).1
        have ltb := cell_lt x0'
        have OW := Lib.hid (row_up OJ.out (Up.alloc V10 (.cells #[.int .i64 (tl + 1), .int .i64 (kk : Int)] 54)))
        have ww : IntKind.i64.wrap (tl + 1) = tl + 1 := IntWalk.i64_in _ (by omega)
        go_wp2_with (at_builtin; refine wpList_append_jmp _ rfl _ _ rfl wa.heap.size _ X.js rfl OW.out (some ⟨V10.heap.size, 0, none⟩) [⟨tl + 1, (kk : Int)⟩] 1 1 rfl rfl (rc_new V10 #[.int .i64 (tl + 1), .int .i64 (kk : Int)] _) ?e1 ?e2 ?_)
        case e1 => have := hjn.out; simp; omega
        case e2 => have := U10b.out; simp; omega
        intro v6 w6 ho6 hg6 _
        replace ho6 : w6.ownsRow wa.heap.size 54 2 v6 (X.js ++ [(⟨tl + 1, (kk : Int)⟩ : Jmp)]).length (jc (X.js ++ [⟨tl + 1, (kk : Int)⟩])) := by simpa using ho6
        have O6 := Lib.hid (OwB.jumps (O10.out.up (Up.alloc V10 (.cells #[.int .i64 (tl + 1), .int .i64 (kk : Int)] 54))) ho6 hg6)
        have HB6 := Lib.hid (heap_grown hg6 (heap_up (Up.alloc V10 (.cells #[.int .i64 (tl + 1), .int .i64 (kk : Int)] 54)) HB10.out) (row_ty OW.out (heap_up (Up.alloc V10 _) HB10.out) (by decide)))
        have U6 := Lib.hid (Up.grown (U10.out.alloc' (.cells #[.int .i64 (tl + 1), .int .i64 (kk : Int)] 54)) hg6 (fun k hk => Nat.le_trans bsz (EB.out k hk)))
        obtain ⟨S1', J1', rfl⟩ := row_form ho6
        have HB7 := Lib.hid (put1 HB6.out (.slice S1' (X.js ++ [(⟨tl + 1, (kk : Int)⟩ : Jmp)]).length J1'))
        have O7 := Lib.hid (OwB_cell O6.out HB6.out 1 (.slice S1' (X.js ++ [(⟨tl + 1, (kk : Int)⟩ : Jmp)]).length J1'))
        have U7 := Lib.hid (U6.out.setCell' (p := ⟨w5.heap.size, 1, none⟩) sz5 (.slice S1' (X.js ++ [(⟨tl + 1, (kk : Int)⟩ : Jmp)]).length J1'))
        clear x0' x1' x2' x3' x4' ltb ho6 hg6 OW OJ
        obtain ⟨x0', x1', x2', x3', x4'⟩ := (bx_heap HB6.out).1
        have f1 := (bx_heap HB6.out).2.2 1
        have ltb := cell_lt x0'
        generalize (X.js ++ [(⟨tl + 1, (kk : Int)⟩ : Jmp)]).length = nj at *
        by_cases kq : (kk : Int) < (q0 : Int)
        · rw [show decide ((kk : Int) < (q0 : Int)) = true from decide_eq_true kq] at RJ
          go_wp2_with fail
          clear x0' x1' x2' x3' x4' ltb f1
          refine (RJ.out _ _ O7.out.rd).mono ?_; rintro e w8 ⟨rfl, u8⟩
          go_wp2_with fail
          go_meet
          case rel => exact ⟨⟨_, _, _, _, _, heap_up u8 HB7.out⟩, U7.out.trans u8⟩
        · rw [show decide ((kk : Int) < (q0 : Int)) = false from decide_eq_false kq] at RJ
          go_wp2_with fail
          clear x0' x1' x2' x3' x4' ltb f1
          refine (RJ.out _ _ O7.out.rd).mono ?_; rintro e w8 ⟨rfl, u8⟩
          go_wp2_with fail
          go_meet
          case rel => exact ⟨⟨_, _, _, _, _, heap_up u8 HB7.out⟩, U7.out.trans u8⟩
      · clear ec eb
        go_wp2_with fail
        go_meet
        case rel => exact ⟨⟨_, _, _, _, _, HB10.out⟩, U10.out⟩
    case rest =>
      obtain ⟨hy, hu⟩ := hcut
      clear HU HB10 O10 U10 e1 ec eb U10b bsz
      have HY := Lib.hid hy
      have HU := Lib.hid hu
      clear hy hu
      generalize hwv : wc = wb at *
      clear hwv
      obtain ⟨a0, a1', a2, a3, a4⟩ := B4.out.up HU.out
      go_wp2_with fail
      clear a0 a1' a2 a3 a4
      refine (FY.out _ HU.out).mono ?_; rintro e wf20 ⟨vf, rfl, of, uf⟩
      obtain ⟨S0, s0, T0, S1, s1, J1, S2, s2, J2, S3, s3, J3, S4, s4, J4, rfl⟩ := of.rd.form
      have ltb := Yb_lt HY.out
      obtain ⟨y0, y1, y2, y3, y4, hy⟩ := HY.out
      have hy' := heap_up uf hy
      have O20 := Lib.hid (of.low ltb (.slice S0 s0 T0) (.slice S1 s1 J1) (.slice S2 s2 J2) (.slice S3 s3 J3) (.slice S4 s4 J4))
      have HB20 := Lib.hid (five_heap hy' (.slice S0 s0 T0) (.slice S1 s1 J1) (.slice S2 s2 J2) (.slice S3 s3 J3) (.slice S4 s4 J4))
      have U20 := Lib.hid (Up.five (HU.out.trans uf) sz5 (.slice S0 s0 T0) (.slice S1 s1 J1) (.slice S2 s2 J2) (.slice S3 s3 J3) (.slice S4 s4 J4))
      obtain ⟨c0', c1', c2', c3', c4'⟩ := (bx_heap hy').1
      have fz := (bx_heap hy').2.2
      have z0 := fz 0; have z1 := fz 1; have z2 := fz 2; have z3 := fz 3; have z4 := fz 4
      have bsz := HU.out.size
      clear fz hy hy' of uf HY ltb
      go_upto_if 999 with (fail)
      clear c0' c1' c2' c3' c4' z0 z1 z2 z3 z4
      unfold five at O20 HB20 U20
      generalize (((((wf20.setCell ⟨w5.heap.size, 0, none⟩ (.slice S0 s0 T0)).setCell ⟨w5.heap.size, 1, none⟩ (.slice S1 s1 J1)).setCell ⟨w5.heap.size, 2, none⟩ (.slice S2 s2 J2)).setCell ⟨w5.heap.size, 3, none⟩ (.slice S3 s3 J3)).setCell ⟨w5.heap.size, 4, none⟩ (.slice S4 s4 J4)) = V20 at *
      have mk : (Instr.makeSlice 25 (.int .i64 ((q0 : Int) + 1)) (.int .i64 ((q0 : Int) + 1))).run Try.prog V20 = .ok (.slice (some ⟨V20.heap.size, 0, none⟩) (q0 + 1) (q0 + 1)) (V20.alloc (.cells (madeCells #[.bool false] (q0 + 1)) 4)) := make_bol V20 (q0 + 1) (by omega)
      have MB := Lib.hid (Rw.madeB V20 (q0 + 1)).rc
      have UM := Lib.hid (Up.alloc V20 (.cells (madeCells #[.bool false] (q0 + 1)) 4))
      generalize madeCells #[.bool false] (q0 + 1) = MC at *
      rw [mk]
      simp only [Result.andThen_ok, Oper.upon_value]
      clear mk
      have HB21 := Lib.hid (heap_up UM.out HB20.out)
      have O21 := Lib.hid (O20.out.up UM.out)
      have U21 := Lib.hid (U20.out.trans UM.out)
      have szv : V20.heap.size < (V20.alloc (.cells MC 4)).heap.size := by simp
      generalize hV21 : V20.alloc (.cells MC 4) = V21 at *
      obtain ⟨x0', x1', x2', x3', x4'⟩ := (bx_heap HB21.out).1
      have f3 := (bx_heap HB21.out).2.2 3
      have HB22 := Lib.hid (put3 HB21.out (.slice (some ⟨V20.heap.size, 0, none⟩) (q0 + 1) (q0 + 1)))
      have ltb := cell_lt x0'
      have nb : ¬ V20.heap.size = w5.heap.size := by
        have h1 := HB20.out
        intro e
        rw [← e, Array.getElem?_eq_none (Nat.le_refl _)] at h1
        cases h1
      have R22 : Hid (BkR (V21.setCell ⟨w5.heap.size, 3, none⟩ (.slice (some ⟨V20.heap.size, 0, none⟩) (q0 + 1) (q0 + 1))) (.agg #[.slice S0 s0 T0, .slice S1 s1 J1, .slice S2 s2 J2, .slice (some ⟨V20.heap.size, 0, none⟩) (q0 + 1) (q0 + 1), .slice S4 s4 J4]) ⟨X.ks, X.js, X.ls, List.replicate (X.ks.length + 1) false, X.ut⟩) := by
        refine OwB_sd (OwB_cell O21.out HB21.out 3 _) ⟨some ⟨V20.heap.size, 0, none⟩, q0 + 1, by rw [List.length_replicate, HQ.out], by rw [List.length_replicate, HQ.out]; exact Nat.le_refl _, by unfold maxLen; omega, ?_⟩
        intro h0
        obtain ⟨b', o', e', hc⟩ := MB.out (by rw [oc_len, List.length_replicate]; omega)
        injection e' with e'
        injection e' with e1 e2
        subst e1 e2
        refine ⟨_, _, rfl, fun i v hi => ?_⟩
        rw [World.cell?_setCell_other _ _ _ _ (fun c => nb (by injection c with c _; exact c.symm))]
        exact hc i v (by rw [HQ.out]; exact hi)
      have U22 := Lib.hid (U21.out.setCell' (p := ⟨w5.heap.size, 3, none⟩) sz5 (.slice (some ⟨V20.heap.size, 0, none⟩) (q0 + 1) (q0 + 1)))
      obtain ⟨a0, a1', a2, a3, a4⟩ := B4.out.up U21.out
      have nw : ¬ w.heap.size = w5.heap.size := by have := cell_lt B4.out.1; omega
      have nw' : ¬ w5.heap.size = w.heap.size := fun e => nw e.symm
      clear HB20 O20 U20 MB UM HB21 O21 U21 hV21
      go_wp2_with fail
      clear a0 a1' a2 a3 a4 x0' x1' x2' x3' x4' f3 ltb
      generalize V21.setCell ⟨w5.heap.size, 3, none⟩ (.slice (some ⟨V20.heap.size, 0, none⟩) (q0 + 1) (q0 + 1)) = V22 at *
      refine (FY.out _ U22.out).mono ?_; rintro e wz ⟨vz, rfl, oz, uz⟩
      obtain ⟨Z0, t0, K0, Z1, t1, K1, Z2, t2, K2, Z3, t3, K3, Z4, t4, K4, rfl⟩ := oz.rd.form
      have hks : 0 < X.ks.length := by rw [← HQ.out]; omega
      obtain ⟨g, rfl, hg, cn, fn, cs, hh⟩ := oz.knd (k := 0) hks
      replace cn : wz.cell? ⟨g, 2, none⟩ = some (.string (X.ks.getD 0 k0).name) := cn
      replace fn : wz.frozen? ⟨g, 2, none⟩ = false := fn
      have t0e := oz.len
      have t0p : (0 : Int) < (t0 : Int) := by omega
      have OZ := Lib.hid ((OwB_name0 oz hks ⟨#[0]⟩).up (Up.alloc _ (.cells #[.slice (some ⟨g, 0, none⟩) t0 K0, .slice Z1 t1 K1, .slice Z2 t2 K2, .slice Z3 t3 K3, .slice Z4 t4 K4] 27)))
      have UZ := Lib.hid ((uz.setCell' (p := ⟨g, 2, none⟩) hg (.string ⟨#[0]⟩)).alloc' (.cells #[.slice (some ⟨g, 0, none⟩) t0 K0, .slice Z1 t1 K1, .slice Z2 t2 K2, .slice Z3 t3 K3, .slice Z4 t4 K4] 27))
      have BZ := Lib.hid (Bx5.new (wz.setCell ⟨g, 2, none⟩ (.string ⟨#[0]⟩)) (.slice (some ⟨g, 0, none⟩) t0 K0) (.slice Z1 t1 K1) (.slice Z2 t2 K2) (.slice Z3 t3 K3) (.slice Z4 t4 K4) 27)
      have UT := Lib.hid (U22.out.trans UZ.out)
      have hz : (wz.setCell ⟨g, 2, none⟩ (.string ⟨#[0]⟩)).heap.size = wz.heap.size := by simp
      rw [hz] at BZ
      have RY := Lib.hid (R22.out.up UZ.out)
      have BY := Lib.hid (bx_heap (heap_up UZ.out HB22.out)).1
      have ltg := cell_lt cn
      have HQ0 := Lib.hid t0e
      have ltb2 : w5.heap.size < wz.heap.size := Nat.lt_of_lt_of_le (cell_lt (bx_heap HB22.out).1.1) uz.size
      have nb5 : ¬ g = w5.heap.size := by have := cell_lt (bx_heap HB22.out).1.1; omega
      have nb6 : ¬ w5.heap.size = g := fun e => nb5 e.symm
      clear oz uz t0e hh R22 HB22 U22 FY
      obtain ⟨y0', y1', y2', y3', y4'⟩ := BY.out
      have RJ3 := Lib.hid (fun w1 v h => bright_any v ⟨X.ks, X.js, X.ls, List.replicate (X.ks.length + 1) false, X.ut⟩ 8 4 w1 h)
      have RJ4 := Lib.hid (fun w1 v h => bright_any v ⟨X.ks.set 0 ⟨(X.ks.getD 0 k0).off, (X.ks.getD 0 k0).dst, ⟨#[0]⟩⟩, X.js, X.ls, X.sd, X.ut⟩ 8 4 w1 h)
      rw [T3.out] at RJ3
      rw [T4.out] at RJ4
      go_wp2_with fail
      clear y0' y1' y2' y3' y4'
      refine (RJ3.out _ _ RY.out).mono ?_; rintro e wy ⟨rfl, uy⟩
      obtain ⟨z0, z1, z2, z3, z4⟩ := BZ.out.up uy
      go_wp2_with fail
      clear z0 z1 z2 z3 z4
      refine (RJ4.out _ _ (OZ.out.rd.up uy)).mono ?_; rintro e wq ⟨rfl, uq⟩
      go_wp2_with fail
      go_ret
      exact ⟨rfl, ((U4.out.trans UT.out).trans uy).trans uq⟩

theorem readable : ∀ t ∈ Try.f7.params.toList, Try.prog.readableRec t = true ∧ t < Try.prog.types.size := by
  rw [Try.params7]
  intro t ht
  have hall : ([27, 3].all fun u => Try.prog.readableRec u && decide (u < Try.prog.types.size)) = true := by kernel_rfl
  have := List.all_eq_true.1 hall t (by simpa using ht)
  simpa using this

set_option maxRecDepth 100000 in
theorem lifted (os : Os) (started : os.Started) (H : Type) (enc : TypeId × Value → H) :
    ReturnsInHanded {} Try.checked os 7 .any (Rows.blockRulesSpec.pre6 enc Try.prog Try.f7 Rows.blockRulesRow.domain false) (Rows.blockRulesSpec.post enc Try.prog Try.f7 false true false false) := by
  refine returnsInHanded_of_change (C := Try.checked) own started (by kernel_rfl) Try.func7
    (ChangeSpec.witness6 (enc := enc) (C := Try.checked) false ⟨#[], #[.agg #[.slice none 0 0, .slice none 0 0, .slice none 0 0, .slice none 0 0, .slice none 0 0], .int .i64 0], []⟩ 8 (by kernel_rfl) (by kernel_rfl) (by kernel_rfl) (by kernel_rfl)) ?_
  intro W base args ds gs before hval0 hW hcnd _
  have hval : ∀ (j : Nat) t v, Try.f7.params[j]? = some t → args[j]? = some v → Value.okWide Try.prog W .any base t v := hval0
  have hW' := hW
  obtain ⟨p, q, hA0, hV, rfl, hfz, hnd⟩ := hW
  have hA : DataW.TrodAll enc Try.prog W 0 (fun _ => true) true Try.f7.params.toList args.toList ds p := hA0
  rw [Try.params7] at hA hval
  obtain ⟨v0, vs0, d0, ds0, p0, q0, hargs, rfl, rfl, h0, r0⟩ := trodAll_cons hA
  obtain ⟨v1, vs1, d1, ds1, p1, q1, rfl, rfl, rfl, h1, r1⟩ := trodAll_cons r0
  obtain ⟨rfl, rfl, rfl⟩ := trodAll_nil r1
  obtain rfl : args = #[v0, v1] := by cases args; simp_all
  obtain ⟨rfl, rfl⟩ := trodVars_none hV
  obtain ⟨x0, R0, b0⟩ := open_blk (hval 0 27 v0 rfl rfl) h0
  obtain ⟨a1, rfl, rfl, rfl, w1⟩ := open_int Try.underlying3 (hval 1 3 v1 rfl rfl) h1
  clear hA0 hval0
  refine (walk W v0 x0 a1 R0 b0 w1).mono fun e W' ⟨he, hg⟩ => ?_
  subst he
  exact ⟨_, rfl, post_up laidOut readable rfl hW' (fun _ _ _ => (trodAll_cons_mk (shut_bool Try.underlying4 _) trodAll_mk0)) rfl rfl
    hg (ok_one (by kernel_rfl) rfl (okWide_bool_mk Try.underlying4 _))⟩

theorem over : Rows.blockRulesRow.holds Try.pinned (OpenSpec.ofChange Rows.blockRulesSpec) :=
  OpenClaim.holds_of_wide 7 Try.f7 rfl rfl rfl rfl rfl rfl rfl ⟨rfl, rfl, rfl, rfl, rfl⟩ rfl rfl rfl rfl rfl (by kernel_rfl) Try.func7 (by kernel_rfl)
    (of_decide_eq_true (by kernel_rfl)) (by unfold Func.isWrapper; first | (rw [if_pos (by decide +kernel)]; kernel_rfl) | (rw [if_neg (by decide +kernel)]; exact ⟨rfl, rfl⟩))
    (fun os started H enc _ => lifted os started H enc)

theorem proved : Rows.BlockRulesSaid :=
  over
end Go.Proofs.Ytoijaananjlfpaa.blockRules
