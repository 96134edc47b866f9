/-
  The program's file: bytes.CutPrefix and bytes.Cut at a line end; readFooter.
-/
import Derived.Test.YtaljddoenjgbfaaGreatLcTzH
import Derived.Test.YtaljddoenjgbfaaGreatLcMb
import Derived.Lib.SliceRun
namespace Go.Proofs.YtaljddoenjgbfaaGreat
open Go.ChangeShapes Go.WideShapes Go.ChangeAt Go.RowKit Lc

set_option maxRecDepth 100000 in
theorem index_lf (A : Option Addr) (l : List UInt8) (n c : Nat) (w : World) (hn : l.length = n) (hr : Rd w A l) :
    Calls Tryz.prog 107 #[.slice A n c, .int .u8 10] w fun e w' => e = .returned (.int .i64 (Lib.indexByte l 10)) ∧ w = w' := by
  have R : Hid ((Extern.BytealgIndexByte.indexByte #[.slice A n c, .int .u8 10]).run Tryz.prog w = .ok (.int .i64 (Lib.indexByte l 10)) w) := by
    refine Lib.hid ?_
    rcases A with _ | a
    · have hl : l = [] := by
        rcases Nat.eq_zero_or_pos l.length with h0 | h0
        · exact List.eq_nil_of_length_eq_zero h0
        · obtain ⟨b, o, e, _⟩ := hr h0; cases e
      subst hl
      exact Lib.run_indexByteNil w n c 10
    · exact run_index_at w a n c l hn (hr.add a rfl) 10
  clear hr hn
  go_enter Tryz.func107, Tryz.ntmps107
  go_wp2
  rw [run_callFunc_extern Tryz.func116 (by kernel_rfl) (by kernel_rfl) (by kernel_rfl) (e := Extern.BytealgIndexByte.indexByte) (by kernel_rfl), R.out]
  simp only [Result.andThen]
  rw [Oper.upon_value]
  go_wp2
  go_ret
  exact ⟨rfl, rfl⟩

set_option maxRecDepth 100000 in
theorem equal_any (A B : Option Addr) (l k : List UInt8) (n m c d : Nat) (w : World) (hn : l.length = n) (hm : k.length = m) (hl : Rd w A l) (hk : Rd w B k) :
    Calls Tryz.prog 106 #[.slice A n c, .slice B m d] w fun e w' => e = .returned (.bool (decide (l = k))) ∧ w = w' := by
  have C1 := convert_rd w A n c l hn hl
  have C2 := convert_rd w B m d k hm hk
  have E : ((str l).toList == (str k).toList) = decide (l = k) := by
    rw [ByteArray.toList_eq, ByteArray.toList_eq]
    show ((l.toArray).toList == (k.toArray).toList) = _
    rw [List.toList_toArray, List.toList_toArray]
    by_cases h : l = k
    · subst h; simp
    · simp [h]
  clear hl hk hn hm
  go_enter Tryz.func106, Tryz.ntmps106
  go_wp2
  go_ret
  exact ⟨rfl, rfl⟩

/-- Whether a line end comes first. -/
def lf1 (l : List UInt8) : Bool := decide (l.take 1 = [10])
set_option maxRecDepth 100000 in
theorem hasp_any (A B : Option Addr) (l : List UInt8) (n c d : Nat) (w : World) (hn : l.length = n) (hc : n ≤ c) (hl : Rd w A l) (hk : Rd w B [10]) :
    Calls Tryz.prog 91 #[.slice A n c, .slice B 1 d] w fun e w' => e = .returned (.bool (lf1 l)) ∧ w = w' := by
  by_cases h : 1 ≤ n
  · have E := equal_any A B (l.take 1) [10] 1 1 c d w (by rw [List.length_take]; omega) rfl (hl.take 1) hk
    rw [show decide (l.take 1 = [10]) = lf1 l from rfl] at E
    have h1 : (1 : Int) ≤ (n : Int) := by omega
    have h2 : (1 : Int) ≤ (c : Int) := by omega
    generalize lf1 l = r at *
    clear hl hk hn
    go_enter Tryz.func91, Tryz.ntmps91
    go_wp2_with (go_at_call 106; refine E.mono ?_; rintro e w' ⟨rfl, rfl⟩)
    go_ret
    exact ⟨rfl, rfl⟩
  · have h0 : n = 0 := by omega
    subst h0
    have e0 : lf1 l = false := by rw [List.eq_nil_of_length_eq_zero hn]; rfl
    rw [e0]
    clear hl hk hn
    go_enter Tryz.func91, Tryz.ntmps91
    go_wp2_with fail
    go_ret
    exact ⟨rfl, rfl⟩
set_option maxRecDepth 100000 in
theorem cutp_no (A B : Option Addr) (l : List UInt8) (n c d : Nat) (w : World) (hn : l.length = n) (hc : n ≤ c) (hl : Rd w A l) (hk : Rd w B [10]) (h : lf1 l = false) :
    Calls Tryz.prog 71 #[.slice A n c, .slice B 1 d] w fun e w' => e = .returned (.tuple #[.slice A n c, .bool false]) ∧ w = w' := by
  have H := hasp_any A B l n c d w hn hc hl hk
  rw [h] at H
  clear hl hk hn h
  go_enter Tryz.func71, Tryz.ntmps71
  go_wp2_with (go_at_call 91; refine H.mono ?_; rintro e w' ⟨rfl, rfl⟩)
  go_ret2
  exact ⟨rfl, rfl⟩
set_option maxRecDepth 100000 in
theorem cutp_yes (w0 : World) (A B : Option Addr) (l : List UInt8) (n c d : Nat) (w : World) (hn : l.length = n) (hc : n ≤ c) (hcm : c ≤ maxLen) (hl : Rd w A l) (hl0 : Rd w0 A l) (hk : Rd w B [10]) (h : lf1 l = true) :
    Calls Tryz.prog 71 #[.slice A n c, .slice B 1 d] w fun e w' => ∃ v, e = .returned (.tuple #[v, .bool true]) ∧ Sb w0 v (l.drop 1) ∧ w = w' := by
  have H := hasp_any A B l n c d w hn hc hl hk
  rw [h] at H
  have h1 : 1 ≤ n := by
    rcases Nat.eq_zero_or_pos n with h0 | h0
    · subst h0; rw [List.eq_nil_of_length_eq_zero hn] at h; cases h
    · exact h0
  have S := Lib.hid (Sb.from (by omega) hcm hl0 1 (by omega))
  rw [hn] at S
  have x1 : (1 : Int) ≤ (n : Int) := by omega
  have x2 : (n : Int) ≤ (c : Int) := by omega
  have x3 : (1 : Int) ≤ (c : Int) := by omega
  clear hl hl0 hk hn h
  by_cases hca : c = 1
  · subst hca
    rw [if_pos rfl, show n - 1 = 0 by omega] at S
    go_enter Tryz.func71, Tryz.ntmps71
    go_wp2_with (go_at_call 91; refine H.mono ?_; rintro e w' ⟨rfl, rfl⟩)
    go_ret2
    exact ⟨_, rfl, by simpa using S.out, rfl⟩
  · rw [if_neg hca] at S
    simp [Addr.add] at S
    go_enter Tryz.func71, Tryz.ntmps71
    go_wp2_with (go_at_call 91; refine H.mono ?_; rintro e w' ⟨rfl, rfl⟩)
    go_ret2
    exact ⟨_, rfl, by simpa [hca] using S.out, rfl⟩

set_option maxRecDepth 100000 in
theorem bidx_any (A B : Option Addr) (l : List UInt8) (n c d : Nat) (w : World) (hn : l.length = n) (hl : Rd w A l) (hk : Rd w B [10]) :
    Calls Tryz.prog 92 #[.slice A n c, .slice B 1 d] w fun e w' => e = .returned (.int .i64 (Lib.indexByte l 10)) ∧ w = w' := by
  have H := index_lf A l n c w hn hl
  obtain ⟨b, o, rfl, hc⟩ := hk (by simp)
  have c0 : w.cell? ⟨b, o, none⟩ = some (.int .u8 10) := hc 0 (by simp)
  generalize Lib.indexByte l 10 = r at *
  clear hl hn hk hc
  go_enter Tryz.func92, Tryz.ntmps92
  go_wp2_with (go_at_call 107; refine H.mono ?_; rintro e w' ⟨rfl, rfl⟩)
  go_ret
  exact ⟨rfl, rfl⟩
set_option maxRecDepth 100000 in
theorem bcut_no (A B : Option Addr) (l : List UInt8) (n c d : Nat) (w : World) (hn : l.length = n) (hl : Rd w A l) (hk : Rd w B [10]) (h : Lib.indexByte l 10 < 0) :
    Calls Tryz.prog 72 #[.slice A n c, .slice B 1 d] w fun e w' => e = .returned (.tuple #[.slice A n c, .slice none 0 0, .bool false]) ∧ w = w' := by
  have H := bidx_any A B l n c d w hn hl hk
  have h' : ¬ (0 : Int) ≤ Lib.indexByte l 10 := by omega
  generalize Lib.indexByte l 10 = r at *
  clear hl hn hk h
  go_enter Tryz.func72, Tryz.ntmps72
  go_wp2_with (go_at_call 92; refine H.mono ?_; rintro e w' ⟨rfl, rfl⟩)
  refine bodyPost_ret (v := .tuple #[.slice A n c, .slice none 0 0, .bool false]) (by simp [results, Tryz.results72, go_sem]) rfl ?_
  exact ⟨rfl, rfl⟩
set_option maxRecDepth 100000 in
theorem bcut_yes (w0 : World) (A B : Option Addr) (l : List UInt8) (n c d k : Nat) (w : World) (hn : l.length = n) (hc : n ≤ c) (hcm : c ≤ maxLen) (hl : Rd w A l) (hl0 : Rd w0 A l) (hk : Rd w B [10]) (h : Lib.indexByte l 10 = (k : Int)) (hlt : k < n) :
    Calls Tryz.prog 72 #[.slice A n c, .slice B 1 d] w fun e w' => ∃ v1 v2, e = .returned (.tuple #[v1, v2, .bool true]) ∧ Sb w0 v1 (l.take k) ∧ Sb w0 v2 (l.drop (k + 1)) ∧ Dr w w' := by
  have H := bidx_any A B l n c d w hn hl hk
  rw [h] at H
  have S1 : Hid (Sb w0 (.slice A k c) (l.take k)) := Lib.hid ⟨A, c, by rw [List.length_take, hn, Nat.min_eq_left (by omega)], by rw [List.length_take]; omega, hcm, hl0.take k⟩
  have S := Lib.hid (Sb.from (by omega) hcm hl0 (k + 1) (by omega))
  rw [hn] at S
  unfold maxLen at hcm
  have x0 : (0 : Int) ≤ (k : Int) := by omega
  have x1 : (k : Int) ≤ (c : Int) := by omega
  have x2 : (n : Int) ≤ (c : Int) := by omega
  have x3 : (k : Int) + 1 ≤ (n : Int) := by omega
  have x4 : (k : Int) + 1 ≤ (c : Int) := by omega
  have x5 : (0 : Int) ≤ (k : Int) + 1 := by omega
  have x6 : ((k : Int) + 1).toNat = k + 1 := by omega
  have x7 : IntKind.i64.wrap ((k : Int) + 1) = (k : Int) + 1 := IntWalk.i64_in _ (by omega)
  clear hl hl0 hk hn h
  by_cases hca : c = k + 1
  · rw [if_pos hca, show n - (k + 1) = 0 by omega] at S
    subst hca
    go_enter Tryz.func72, Tryz.ntmps72
    go_wp2_with (go_at_call 92; refine H.mono ?_; rintro e w' ⟨rfl, rfl⟩)
    go_quiet (fail)
    go_wp2_with fail
    refine bodyPost_ret (v := .tuple #[.slice A k (k + 1), .slice A 0 0, .bool true]) (by simp [results, Tryz.results72, go_sem]) rfl ?_
    exact ⟨_, _, rfl, S1.out, by simpa using S.out, Dr.drewN _ _⟩
  · rw [if_neg hca] at S
    simp [Addr.add] at S
    generalize hsv : Value.slice (Option.map _ A) (n - (k + 1)) (c - (k + 1)) = sv at S
    go_enter Tryz.func72, Tryz.ntmps72
    go_wp2_with (go_at_call 92; refine H.mono ?_; rintro e w' ⟨rfl, rfl⟩)
    go_quiet (fail)
    go_wp2_with fail
    refine bodyPost_ret (v := .tuple #[.slice A k c, sv, .bool true]) (by simp [results, Tryz.results72, go_sem]) rfl ?_
    exact ⟨_, _, rfl, S1.out, S.out, Dr.drewN _ _⟩

/-- What a footer's bytes tell: 0, or an error. -/
def footE (l : List UInt8) : Int := if l = [] then 5 else if lf1 l = false then 4 else if Lib.indexByte (l.drop 1) 10 < 0 then 5 else if Lib.indexByte (l.drop 1) 10 + 1 < ((l.drop 1).length : Int) ∨ 100 < Lib.indexByte (l.drop 1) 10 then 4 else 0
/-- The footer's text. -/
def footT (l : List UInt8) : ByteArray := str ((l.drop 1).take (Lib.indexByte (l.drop 1) 10).toNat)
set_option maxRecDepth 100000 in
theorem idx_lt {l : List UInt8} {c : UInt8} (h : ¬ Lib.indexByte l c < 0) : ∃ k : Nat, Lib.indexByte l c = (k : Int) ∧ k < l.length := by
  obtain ⟨k, hk⟩ := Int.eq_ofNat_of_zero_le (a := Lib.indexByte l c) (by omega)
  refine ⟨k, hk, ?_⟩
  have : Lib.indexByte l c < (l.length : Int) := by
    clear hk
    induction l with
    | nil => exact absurd (by show (-1 : Int) < 0; omega) h
    | cons b l ih =>
      unfold Lib.indexByte at h ⊢
      split
      · simp
      · rename_i hb
        rw [if_neg hb] at h
        split
        · simp; omega
        · rename_i h1
          rw [if_neg h1] at h
          have := Lib.indexByte_ge l c
          have h1' : ¬ Lib.indexByte l c = -1 := by simpa using h1
          have := ih (by omega)
          simp; omega
  omega
/-- The line end's own row. -/
def lfW (w : World) : World := w.alloc (.cells #[.int .u8 10] 5 (1, 2))
set_option maxRecDepth 100000 in
theorem lf_rd (w : World) : Rd (lfW w) (some ⟨w.heap.size, 0, none⟩) [10] := Rd.mark w [10] _ _ _ rfl
set_option maxRecDepth 100000 in
theorem lf_up (w : World) : Up w (lfW w) := Up.alloc _ _
set_option maxRecDepth 100000 in
theorem lf_conv (w : World) : (convert 32 32 (.slice (some ⟨w.heap.size, 0, none⟩) 1 1)).run Tryz.prog (w.alloc (.cells #[.int .u8 10] 5)) = .ok (.slice (some ⟨w.heap.size, 0, none⟩) 1 1) (lfW w) := convert_const w #[.int .u8 10] 1 1
set_option maxRecDepth 100000 in
set_option maxHeartbeats 4000000 in
theorem rfoot_any (v : Value) (l : List UInt8) (w : World) (hs : Sb w v l) :
    (footE l ≠ 0 → Calls Tryz.prog 54 #[v] w fun e w' => e = .panicked (pnc (footE l)) ∧ Up w w') ∧
    (footE l = 0 → Calls Tryz.prog 54 #[v] w fun e w' => e = .returned (.string (footT l)) ∧ Up w w') := by
  obtain ⟨A, c, rfl, hc, hcm, hr⟩ := hs
  have cv := lf_conv
  have RY := Lib.hid (fun n w => refuse_yes n w)
  have RN := Lib.hid (fun n w => refuse_no n w)
  unfold footE footT
  by_cases h0 : l = []
  · rw [if_pos h0]
    refine ⟨fun _ => ?_, fun h => by omega⟩
    subst h0
    simp only [List.length_nil]
    go_enter Tryz.func54, Tryz.ntmps54
    go_wp2_with fail
    refine (RY.out _ _).mono ?_; rintro e w1 ⟨rfl, rfl⟩
    go_wp2_with fail
    exact ⟨rfl, rfl, Up.refl _⟩
  rw [if_neg h0]
  have hp : 0 < l.length := List.length_pos_iff.2 h0
  have p0 : ((l.length : Int) == 0) = false := by simp; omega
  have U1 := Lib.hid (lf_up w)
  cases h1 : lf1 l
  · rw [if_pos rfl]
    refine ⟨fun _ => ?_, fun h => by omega⟩
    have C := Lib.hid (cutp_no A _ l l.length c 1 _ rfl hc (hr.up U1.out) (lf_rd w) h1)
    generalize l.length = n at *
    clear h1 h0 hr
    go_enter Tryz.func54, Tryz.ntmps54
    go_wp2_with fail
    refine (RN.out _ _).mono ?_; rintro e w1 ⟨rfl, rfl⟩
    go_wp2_with fail
    refine C.out.mono ?_; rintro e w1 ⟨rfl, rfl⟩
    go_wp2_with fail
    refine (RY.out _ _).mono ?_; rintro e w1 ⟨rfl, rfl⟩
    go_wp2_with fail
    exact ⟨rfl, rfl, U1.out⟩
  rw [if_neg (by simp)]
  have C := Lib.hid (cutp_yes w A _ l l.length c 1 _ rfl hc hcm (hr.up U1.out) hr (lf_rd w) h1)
  generalize l.drop 1 = q at *
  generalize l.length = n at *
  clear h1 h0 hr
  by_cases h2 : Lib.indexByte q 10 < 0
  · rw [if_pos h2]
    refine ⟨fun _ => ?_, fun h => by omega⟩
    go_enter Tryz.func54, Tryz.ntmps54
    go_wp2_with fail
    refine (RN.out _ _).mono ?_; rintro e w1 ⟨rfl, rfl⟩
    go_wp2_with fail
    refine C.out.mono ?_; rintro e w1 ⟨v, rfl, ⟨A', c', rfl, g1, g2, g3⟩, rfl⟩
    clear C
    generalize lfW w = W at *
    go_wp2_with fail
    refine (RN.out _ _).mono ?_; rintro e w1 ⟨rfl, rfl⟩
    have U2 := Lib.hid (U1.out.trans (lf_up W))
    have D := Lib.hid (bcut_no A' _ q q.length c' 1 _ rfl (g3.up U2.out) (lf_rd W) h2)
    generalize q.length = m at *
    clear g3 h2
    go_wp2_with fail
    refine D.out.mono ?_; rintro e w1 ⟨rfl, rfl⟩
    clear D
    generalize lfW W = W2 at *
    go_wp2_with fail
    refine (RY.out _ _).mono ?_; rintro e w1 ⟨rfl, rfl⟩
    go_wp2_with fail
    exact ⟨rfl, rfl, U2.out⟩
  rw [if_neg h2]
  obtain ⟨k, hk, hlt⟩ := idx_lt h2
  rw [hk, Int.toNat_natCast]
  clear h2
  by_cases h3 : (k : Int) + 1 < (q.length : Int)
  · rw [if_pos (.inl h3)]
    refine ⟨fun _ => ?_, fun h => by omega⟩
    go_enter Tryz.func54, Tryz.ntmps54
    go_wp2_with fail
    refine (RN.out _ _).mono ?_; rintro e w1 ⟨rfl, rfl⟩
    go_wp2_with fail
    refine C.out.mono ?_; rintro e w1 ⟨v, rfl, ⟨A', c', rfl, g1, g2, g3⟩, rfl⟩
    clear C
    generalize lfW w = W at *
    go_wp2_with fail
    refine (RN.out _ _).mono ?_; rintro e w1 ⟨rfl, rfl⟩
    have U2 := Lib.hid (U1.out.trans (lf_up W))
    have D := Lib.hid (bcut_yes w A' _ q q.length c' 1 k _ rfl g1 g2 (g3.up U2.out) g3 (lf_rd W) hk hlt)
    have L1 : Hid ((q.drop (k + 1)).length = q.length - (k + 1)) := Lib.hid (List.length_drop)
    have x1 : (0 : Int) < ((q.length - (k + 1) : Nat) : Int) := by omega
    clear hk
    go_wp2_with fail
    refine D.out.mono ?_; rintro e w1 ⟨v1, v2, rfl, ⟨A1, c1, rfl, _, _, _⟩, ⟨A2, c2, rfl, _, _, _⟩, dr⟩
    have U3 := Lib.hid (U2.out.trans (Up.of_dr dr))
    clear D dr
    rw [L1.out]
    go_wp2_with fail
    refine (RN.out _ _).mono ?_; rintro e w2 ⟨rfl, rfl⟩
    go_wp2_with fail
    refine (RY.out _ _).mono ?_; rintro e w2 ⟨rfl, rfl⟩
    go_wp2_with fail
    exact ⟨rfl, rfl, U3.out⟩
  have x1 : ¬ (0 : Int) < ((q.length - (k + 1) : Nat) : Int) := by omega
  have L1 : Hid ((q.drop (k + 1)).length = q.length - (k + 1)) := Lib.hid (List.length_drop)
  have L2 : Hid ((q.take k).length = k) := Lib.hid (by rw [List.length_take, Nat.min_eq_left (by omega)])
  by_cases h4 : (100 : Int) < (k : Int)
  · rw [if_pos (.inr h4)]
    refine ⟨fun _ => ?_, fun h => by omega⟩
    go_enter Tryz.func54, Tryz.ntmps54
    go_wp2_with fail
    refine (RN.out _ _).mono ?_; rintro e w1 ⟨rfl, rfl⟩
    go_wp2_with fail
    refine C.out.mono ?_; rintro e w1 ⟨v, rfl, ⟨A', c', rfl, g1, g2, g3⟩, rfl⟩
    clear C
    generalize lfW w = W at *
    go_wp2_with fail
    refine (RN.out _ _).mono ?_; rintro e w1 ⟨rfl, rfl⟩
    have U2 := Lib.hid (U1.out.trans (lf_up W))
    have D := Lib.hid (bcut_yes w A' _ q q.length c' 1 k _ rfl g1 g2 (g3.up U2.out) g3 (lf_rd W) hk hlt)
    clear hk
    go_wp2_with fail
    refine D.out.mono ?_; rintro e w1 ⟨v1, v2, rfl, ⟨A1, c1, rfl, _, _, _⟩, ⟨A2, c2, rfl, _, _, _⟩, dr⟩
    have U3 := Lib.hid (U2.out.trans (Up.of_dr dr))
    clear D dr
    rw [L1.out, L2.out]
    go_wp2_with fail
    refine (RN.out _ _).mono ?_; rintro e w2 ⟨rfl, rfl⟩
    go_wp2_with fail
    refine (RY.out _ _).mono ?_; rintro e w2 ⟨rfl, rfl⟩
    go_wp2_with fail
    exact ⟨rfl, rfl, U3.out⟩
  rw [if_neg (by omega)]
  have h4d : decide ((100 : Int) < (k : Int)) = false := by simpa using h4
  refine ⟨fun h => absurd rfl h, fun _ => ?_⟩
  go_enter Tryz.func54, Tryz.ntmps54
  go_wp2_with fail
  refine (RN.out _ _).mono ?_; rintro e w1 ⟨rfl, rfl⟩
  go_wp2_with fail
  refine C.out.mono ?_; rintro e w1 ⟨v, rfl, ⟨A', c', rfl, g1, g2, g3⟩, rfl⟩
  clear C
  generalize lfW w = W at *
  go_wp2_with fail
  refine (RN.out _ _).mono ?_; rintro e w1 ⟨rfl, rfl⟩
  have U2 := Lib.hid (U1.out.trans (lf_up W))
  have D := Lib.hid (bcut_yes w A' _ q q.length c' 1 k _ rfl g1 g2 (g3.up U2.out) g3 (lf_rd W) hk hlt)
  clear hk
  go_wp2_with fail
  refine D.out.mono ?_; rintro e w1 ⟨v1, v2, rfl, ⟨A1, c1, rfl, _, _, r1⟩, ⟨A2, c2, rfl, _, _, _⟩, dr⟩
  have U3 := Lib.hid (U2.out.trans (Up.of_dr dr))
  have T := convert_rd w1 A1 k c1 (q.take k) L2.out (r1.up U3.out)
  clear D dr r1
  rw [L1.out, L2.out]
  go_wp2_with fail
  refine (RN.out _ _).mono ?_; rintro e w2 ⟨rfl, rfl⟩
  go_wp2_with fail
  refine (RN.out _ _).mono ?_; rintro e w2 ⟨rfl, rfl⟩
  go_wp2_with fail
  go_ret
  exact ⟨rfl, U3.out⟩
end Go.Proofs.YtaljddoenjgbfaaGreat
