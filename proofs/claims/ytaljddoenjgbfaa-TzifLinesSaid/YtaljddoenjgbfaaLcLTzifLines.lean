/-
  TzifLines answers true: a footer stands between two line ends, and has none. No condition.
-/
import Derived.Test.YtaljddoenjgbfaaLcShown7
import Derived.Test.YtaljddoenjgbfaaLcTzO
import Derived.Test.YtaljddoenjgbfaaLcTzW
import Derived.Test.YtaljddoenjgbfaaLcMp
import Derived.Test.YtaljddoenjgbfaaLcMm
import Derived.WalkKit
import Derived.Deep.RegionHeld
import Derived.BigQuiet
import Derived.ProofKit
import Derived.OpenShut
import Derived.Deep.CutRange
import Derived.StillTailTactics
namespace Go.Proofs.Ytaljddoenjgbfaa.tzifLines
open Go.ChangeShapes Go.WideShapes Go.ChangeAt Go.RowKit Lc
set_option linter.unusedVariables false

set_option maxRecDepth 100000 in
theorem own : ownKnob Try.prog.godebug = none := by kernel_rfl

set_option maxRecDepth 100000 in
theorem mask16 (a : Int) : ∃ n : Nat, n < 65536 ∧ bits .and .i64 a 65535 = n := by
  refine ⟨(BitVec.ofInt 64 a).toNat &&& 65535, ?_, ?_⟩
  · have := Nat.and_le_right (n := (BitVec.ofInt 64 a).toNat) (m := 65535); omega
  · have l := Nat.and_le_right (n := (BitVec.ofInt 64 a).toNat) (m := 65535)
    show IntKind.i64.wrap (((BitVec.ofInt 64 a &&& BitVec.ofInt 64 65535).toNat : Nat) : Int) = _
    rw [BitVec.toNat_and, show (BitVec.ofInt 64 65535).toNat = 65535 from by decide]
    exact IntWalk.i64_in _ (by omega)
set_option maxRecDepth 100000 in
theorem tx_at' {s : ByteArray} {m : Nat} (h : m < s.size) : (tx s).getD m 0 = s[m] := by
  have h' : m < s.data.toList.length := by rw [Array.length_toList]; exact h
  rw [List.getD_eq_getElem?_getD, List.getElem?_eq_getElem h']
  rfl
/-- A block of one kind. -/
def xB : Blk := ⟨[⟨5, false, ⟨#[88]⟩⟩], [], [], [], []⟩
set_option maxRecDepth 100000 in
theorem xB_right {ver : Int} : rightB xB ((8 : Nat) : Int) ver = true := by
  unfold rightB
  rfl
set_option maxRecDepth 100000 in
theorem xB_len : (encL xB 8).length = 8 := by
  rw [encL_len, show (nmB xB).length = 2 by decide]
  simp [xB]
set_option maxRecDepth 100000 in
theorem xF_enc {v : Int} (h : v ≠ 1) (s : ByteArray) : (encF ⟨v, xB, s⟩).length = 105 + s.size ∧ (encF ⟨v, xB, s⟩).drop 103 = 10 :: (tx s ++ [10]) := by
  unfold encF
  rw [if_neg h]
  have l : (partB shB 4 v ++ partB xB 8 v).length = 103 := by rw [List.length_append, part_len, part_len, shB_len', xB_len]
  refine ⟨?_, ?_⟩
  · rw [List.length_append, l, List.length_cons, List.length_append, tx_len]; simp; omega
  · rw [← l, List.drop_left]
set_option maxRecDepth 100000 in
theorem xF_told {v : Int} (h2 : 2 ≤ v) (h4 : v ≤ 4) (s : ByteArray) : toldB ⟨v, xB, s⟩ = (decide (s.size ≤ 100) && nol s) := by
  have hv : v ≠ 1 := by omega
  have r : rightF ⟨v, xB, s⟩ = (decide (s.size ≤ 100) && nol s) := by
    unfold rightF mz rfB
    simp only []
    rw [if_neg hv, if_neg hv, decide_eq_true (show 1 ≤ v by omega), decide_eq_true h4, show rightB xB 8 v = true from xB_right]
    rfl
  unfold toldB
  rw [r, (xF_enc hv s).1]
  by_cases hs : s.size ≤ 100
  · rw [decide_eq_true hs, decide_eq_true (show 105 + s.size ≤ 100000 by omega)]; simp
  · rw [decide_eq_false hs]; rfl
/-- How many line ends there are among the first bytes. -/
def lnN (s : ByteArray) (k : Nat) : Nat := ((tx s).take k).count 10
set_option maxRecDepth 100000 in
theorem lnN_succ {s : ByteArray} {k : Nat} (h : k < s.size) : lnN s (k + 1) = lnN s k + (if (tx s).getD k 0 = 10 then 1 else 0) := by
  have h' : k < (tx s).length := by rw [tx_len]; exact h
  unfold lnN
  rw [List.take_succ_eq_append_getElem h', List.count_append]
  congr 1
  rw [List.getD_eq_getElem?_getD, List.getElem?_eq_getElem h', Option.getD_some]
  by_cases e : (tx s)[k] = 10
  · rw [e]; rfl
  · rw [if_neg e, List.count_eq_zero]; simp; exact fun c => e c.symm
set_option maxRecDepth 100000 in
theorem lnN_all (s : ByteArray) : lnN s s.size = 0 ↔ nol s = true := by
  unfold lnN nol
  rw [List.take_of_length_le (by rw [tx_len]; exact Nat.le_refl _), List.count_eq_zero, Bool.not_eq_true', List.contains_eq_mem, decide_eq_false_iff_not]
set_option maxRecDepth 100000 in
theorem lnN_le (s : ByteArray) (k : Nat) : lnN s k ≤ k := by
  unfold lnN
  have a := List.count_le_length (a := (10 : UInt8)) (l := (tx s).take k)
  rw [List.length_take] at a; omega
set_option maxRecDepth 100000 in
theorem str_at (s : ByteArray) (l : List UInt8) (h : s.data.toList = l) : s = str l := by
  apply ByteArray.ext; unfold str; rw [← h]

set_option maxHeartbeats 4000000 in
set_option maxRecDepth 100000 in
theorem walk (w : World) (a0 : ByteArray) (a1 : Int) (w0 : a0.size ≤ maxLen) (w1 : (Lit.int .i64 a1).wf = true) :
    Calls Try.prog 5 #[.string a0, .int .i64 a1] w fun e w' => e = .returned (.bool true) ∧ Up w w' := by
  obtain ⟨na, hna, mna⟩ := mask16 a1
  obtain ⟨m, hm⟩ : ∃ m, na % 3 = m := ⟨_, rfl⟩
  have hmI : ((na : Nat) : Int).tmod 3 = (m : Int) := by rw [Int.tmod_eq_emod_of_nonneg (by omega), ← hm]; rfl
  have hm3 : m < 3 := by omega
  have wm : IntKind.i64.wrap (2 + (m : Int)) = 2 + (m : Int) := IntWalk.i64_in _ (by omega)
  obtain ⟨s, hs⟩ : ∃ s, a0.extract 0 (min (a0.size : Int) 110).toNat = s := ⟨_, rfl⟩
  have sz : s.size ≤ 110 := by rw [← hs, ByteArray.size_extract]; omega
  have hv1 : (2 + (m : Int)) ≠ 1 := by omega
  have T := xF_told (v := 2 + (m : Int)) (by omega) (by omega) s
  go_enter Try.func5, Try.ntmps5
  go_wp2_with fail
  refine (shown7_any _).mono ?_; rintro e w1 ⟨rfl, u1⟩
  have U1 := Lib.hid u1
  clear u1
  go_wp2_with fail
  have U2 := Lib.hid ((Up.alloc w1 (.cells #[.int .i64 5, .bool false, .string ⟨#[88]⟩] 47)).alloc' (.cells #[.int .i64 (2 + (m : Int)), .slice (some ⟨w1.heap.size, 0, none⟩) 1 1, .slice none 0 0, .slice none 0 0, .slice none 0 0, .slice none 0 0, .string s] 29))
  have K2 := Lib.hid (FlR.of ((one_made w1 ⟨5, false, ⟨#[88]⟩⟩ 47).up (Up.alloc _ (.cells #[.int .i64 (2 + (m : Int)), .slice (some ⟨w1.heap.size, 0, none⟩) 1 1, .slice none 0 0, .slice none 0 0, .slice none 0 0, .slice none 0 0, .string s] 29))) (2 + (m : Int)) s)
  clear hs mna hmI
  by_cases hg : s.size ≤ 100 ∧ nol s = true
  · have ht : toldB ⟨2 + (m : Int), xB, s⟩ = true := by rw [T, hg.2, decide_eq_true hg.1]; rfl
    obtain ⟨EL, ED⟩ := xF_enc hv1 s
    refine (tencode_yes _ ⟨2 + (m : Int), xB, s⟩ _ K2.out ht).mono ?_; rintro e w3 ⟨v3, rfl, o3, u3⟩
    obtain ⟨A3, c3, rfl, i3, j3, r3, _⟩ := o3.form
    have U3 := Lib.hid ((U1.out.trans U2.out).trans u3)
    have R3 := Lib.hid r3
    have ED' := Lib.hid ED
    have EL' := Lib.hid EL
    generalize encF ⟨2 + (m : Int), xB, s⟩ = E at *
    rw [EL] at i3 ⊢
    have nl := Lib.hid hg.2
    have s100 := hg.1
    clear o3 r3 u3 K2 U1 U2 T ht ED EL hg
    have NN : Hid (∀ k, k < s.size → ¬ (tx s).getD k 0 = 10) := Lib.hid (fun k hk e => by
      have h1 := lnN_succ hk
      rw [if_pos e] at h1
      have h2 : lnN s s.size = 0 := (lnN_all s).2 nl.out
      have h3 : lnN s (k + 1) ≤ lnN s s.size := by
        unfold lnN
        rw [show (tx s).take (k + 1) = ((tx s).take s.size).take (k + 1) by rw [List.take_take, Nat.min_eq_left (by omega)]]
        exact List.Sublist.count_le _ (List.take_sublist _ _)
      omega)
    go_wp2_with fail
    go_loopw [9, 10] (fun i j wr => ∃ k : Nat, k ≤ s.size ∧ i = .int .i64 0 ∧ j = .int .i64 k ∧ wr = w3) (fun _ j _ => s.size - (intOf j).toNat)
    case atStart => exact ⟨0, Nat.zero_le _, rfl, rfl, rfl⟩
    case round =>
      obtain ⟨k, hk, rfl, rfl, rfl⟩ := hrel
      by_cases hlt : k < s.size
      · have hx := NN.out k hlt
        rw [tx_at' hlt] at hx
        have hx2 : ((s[k].toNat : Int) == 10) = false := by
          rw [beq_eq_false_iff_ne]
          intro h
          exact hx (UInt8.toNat_inj.1 (by show s[k].toNat = 10; omega))
        clear hx
        go_wp2_with fail
        go_roundw
        case rel => exact ⟨k + 1, by omega, rfl, by go_num, by trivial⟩
        case measure => simp [intOf]; omega
      · have hks : k = s.size := by omega
        subst hks
        obtain ⟨g3, o3, rfl, _⟩ := R3.out (by rw [EL'.out]; omega)
        have CV := convert_at wr g3 (o3 + 103) (105 + s.size - 103) (c3 - 103) (E.drop 103) (by rw [List.length_drop, EL'.out]) (R3.out.drop 103)
        rw [ED'.out, show str (10 :: (tx s ++ [10])) = ⟨#[10]⟩ ++ s ++ ⟨#[10]⟩ from (str_at _ _ (tx_lines s)).symm] at CV
        go_wp2_with fail
        go_ret
        exact ⟨rfl, U3.out⟩
  · have ht : toldB ⟨2 + (m : Int), xB, s⟩ = false := by
      rw [T]
      rw [Bool.and_eq_false_iff]
      by_cases h1 : s.size ≤ 100
      · right; cases h2 : nol s
        · rfl
        · exact absurd ⟨h1, h2⟩ hg
      · left; exact decide_eq_false h1
    refine (tencode_no _ ⟨2 + (m : Int), xB, s⟩ _ K2.out ht).mono ?_; rintro e w3 ⟨rfl, u3⟩
    have U3 := Lib.hid ((U1.out.trans U2.out).trans u3)
    have HG := Lib.hid hg
    clear u3 K2 U1 U2 T ht hg
    go_wp2_with fail
    go_loopw [9, 10] (fun i j wr => ∃ k : Nat, k ≤ s.size ∧ i = .int .i64 (lnN s k : Nat) ∧ j = .int .i64 k ∧ wr = w3) (fun _ j _ => s.size - (intOf j).toNat)
    case atStart => exact ⟨0, Nat.zero_le _, rfl, rfl, rfl⟩
    case round =>
      obtain ⟨k, hk, rfl, rfl, rfl⟩ := hrel
      have hle := lnN_le s k
      by_cases hlt : k < s.size
      · have hs1 := lnN_succ hlt
        by_cases hx : (tx s).getD k 0 = 10
        · rw [if_pos hx] at hs1
          have hx2 : ((s[k].toNat : Int) == 10) = true := by rw [← tx_at' hlt, hx]; rfl
          have w1' : IntKind.i64.wrap ((lnN s k : Nat) + 1 : Int) = (lnN s k : Nat) + 1 := IntWalk.i64_in _ (by omega)
          have H1 := Lib.hid hs1
          clear hx hs1
          go_wp2_with fail
          go_roundw
          case rel => exact ⟨k + 1, by omega, by rw [H1.out]; rfl, by go_num, by trivial⟩
          case measure => simp [intOf]; omega
        · rw [if_neg hx] at hs1
          have hx2 : ((s[k].toNat : Int) == 10) = false := by
            rw [beq_eq_false_iff_ne]
            intro h
            rw [tx_at' hlt] at hx
            exact hx (UInt8.toNat_inj.1 (by show s[k].toNat = 10; omega))
          have H1 := Lib.hid hs1
          clear hx hs1
          go_wp2_with fail
          go_roundw
          case rel => exact ⟨k + 1, by omega, by rw [H1.out]; rfl, by go_num, by trivial⟩
          case measure => simp [intOf]; omega
      · have hks : k = s.size := by omega
        subst hks
        have HD : (0 : Int) < ((lnN s s.size : Nat) : Int) ∨ (((lnN s s.size : Nat) : Int) = 0 ∧ (100 : Int) < (s.size : Int)) := by
          rcases Nat.eq_zero_or_pos (lnN s s.size) with h | h
          · right
            have := (lnN_all s).1 h
            have h2 := HG.out
            refine ⟨by omega, ?_⟩
            rcases Nat.lt_or_ge 100 s.size with g | g
            · omega
            · exact absurd ⟨g, this⟩ h2
          · left; omega
        rcases HD with h | ⟨h1, h2⟩
        · go_wp2_with fail
          go_ret
          exact ⟨rfl, U3.out⟩
        · rw [h1]
          go_wp2_with fail
          go_ret
          exact ⟨rfl, U3.out⟩

set_option maxRecDepth 100000 in
theorem readable : ∀ t ∈ Try.f5.params.toList, Try.prog.readableRec t = true ∧ t < Try.prog.types.size := by
  rw [Try.params5]
  intro t ht
  have hall : ([9, 3].all fun u => Try.prog.readableRec u && decide (u < Try.prog.types.size)) = true := by kernel_rfl
  have := List.all_eq_true.1 hall t (by simpa using ht)
  simpa using this

set_option maxRecDepth 100000 in
theorem lifted (os : Os) (started : os.Started) (H : Type) (enc : TypeId × Value → H) :
    ReturnsInHanded {} Try.checked os 5 .any (Rows.tzifLinesSpec.pre6 enc Try.prog Try.f5 Rows.tzifLinesRow.domain false) (Rows.tzifLinesSpec.post enc Try.prog Try.f5 false true false false) := by
  refine returnsInHanded_of_change (C := Try.checked) own started (by kernel_rfl) Try.func5
    (ChangeSpec.witness6 (enc := enc) (C := Try.checked) false ⟨#[], #[.string ByteArray.empty, .int .i64 0], []⟩ 8 (by kernel_rfl) (by kernel_rfl) (by kernel_rfl) (by kernel_rfl)) ?_
  intro W base args ds gs before hval0 hW hcnd _
  have hval : ∀ (j : Nat) t v, Try.f5.params[j]? = some t → args[j]? = some v → Value.okWide Try.prog W .any base t v := hval0
  have hW' := hW
  obtain ⟨p, q, hA0, hV, rfl, hfz, hnd⟩ := hW
  have hA : DataW.TrodAll enc Try.prog W 0 (fun _ => true) true Try.f5.params.toList args.toList ds p := hA0
  rw [Try.params5] at hA hval
  obtain ⟨v0, vs0, d0, ds0, p0, q0, hargs, rfl, rfl, h0, r0⟩ := trodAll_cons hA
  obtain ⟨v1, vs1, d1, ds1, p1, q1, rfl, rfl, rfl, h1, r1⟩ := trodAll_cons r0
  obtain ⟨rfl, rfl, rfl⟩ := trodAll_nil r1
  obtain rfl : args = #[v0, v1] := by cases args; simp_all
  obtain ⟨rfl, rfl⟩ := trodVars_none hV
  obtain ⟨a0, rfl, rfl, rfl, w0⟩ := Go.ChangeMaps.open_string Try.underlying9 (hval 0 9 v0 rfl rfl) h0
  obtain ⟨a1, rfl, rfl, rfl, w1⟩ := open_int Try.underlying3 (hval 1 3 v1 rfl rfl) h1
  clear hA0 hval0
  refine (walk W a0 a1 w0 w1).mono fun e W' ⟨he, hg⟩ => ?_
  subst he
  exact ⟨_, rfl, post_up laidOut readable rfl hW' (fun _ _ _ => (trodAll_cons_mk (shut_bool Try.underlying4 _) trodAll_mk0)) rfl rfl
    hg (ok_one (by kernel_rfl) rfl (okWide_bool_mk Try.underlying4 _))⟩

set_option maxRecDepth 100000 in
theorem over : Rows.tzifLinesRow.holds Try.pinned (OpenSpec.ofChange Rows.tzifLinesSpec) :=
  OpenClaim.holds_of_wide 5 Try.f5 rfl rfl rfl rfl rfl rfl rfl ⟨rfl, rfl, rfl, rfl, rfl⟩ rfl rfl rfl rfl rfl (by kernel_rfl) Try.func5 (by kernel_rfl)
    (of_decide_eq_true (by kernel_rfl)) (by unfold Func.isWrapper; first | (rw [if_pos (by decide +kernel)]; kernel_rfl) | (rw [if_neg (by decide +kernel)]; exact ⟨rfl, rfl⟩))
    (fun os started H enc _ => lifted os started H enc)

set_option maxRecDepth 100000 in
theorem proved : Rows.TzifLinesSaid :=
  over
end Go.Proofs.Ytaljddoenjgbfaa.tzifLines
