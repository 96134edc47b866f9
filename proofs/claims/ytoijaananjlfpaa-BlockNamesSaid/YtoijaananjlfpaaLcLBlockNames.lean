/-
  BlockNames answers true: kinds of one name share it, and each name is told once.
-/
import Derived.Test.YtoijaananjlfpaaLcShown6
import Derived.Test.YtoijaananjlfpaaLcPst
import Derived.Test.YtoijaananjlfpaaLcHdO
import Derived.Test.YtoijaananjlfpaaLcBkO
import Derived.Test.YtoijaananjlfpaaLcBkW
import Derived.Test.YtoijaananjlfpaaLcApp
import Derived.Test.YtoijaananjlfpaaLcRow
import Derived.WalkKit
import Derived.Deep.RegionHeld
import Derived.BigQuiet
import Derived.ProofKit
import Derived.OpenShut
import Derived.Deep.CutRange
import Derived.StillTailTactics
namespace Go.Proofs.Ytoijaananjlfpaa.blockNames
open Go.ChangeShapes Go.WideShapes Go.ChangeAt Go.RowKit Lc
set_option linter.unusedVariables false

theorem own : ownKnob Try.prog.godebug = none := by kernel_rfl

/-- No byte 0. -/
def fx (l : List UInt8) : List UInt8 := l.map fun x => if x = 0 then 1 else x
/-- The first j are turned. -/
def mx (j : Nat) (l : List UInt8) : List UInt8 := (fx l).take j ++ l.drop j
theorem fx_len (l : List UInt8) : (fx l).length = l.length := by simp [fx]
theorem mx_len {j : Nat} {l : List UInt8} (h : j ≤ l.length) : (mx j l).length = l.length := by
  unfold mx; rw [List.length_append, List.length_take, fx_len, List.length_drop]; omega
theorem mx_zero (l : List UInt8) : mx 0 l = l := by simp [mx]
theorem mx_all (l : List UInt8) : mx l.length l = fx l := by
  unfold mx; rw [List.take_of_length_le (by rw [fx_len]; exact Nat.le_refl _), List.drop_eq_nil_of_le (Nat.le_refl _), List.append_nil]
theorem mx_split {j : Nat} {l : List UInt8} (h : j < l.length) : mx j l = (fx l).take j ++ l.getD j 0 :: l.drop (j + 1) ∧ mx (j + 1) l = (fx l).take j ++ (if l.getD j 0 = 0 then 1 else l.getD j 0) :: l.drop (j + 1) := by
  have hf : j < (fx l).length := by rw [fx_len]; exact h
  constructor
  · unfold mx; rw [List.drop_eq_getElem_cons h]; simp [h]
  · unfold mx; rw [List.take_succ_eq_append_getElem hf]; simp [fx, h]
theorem mx_at {j : Nat} {l : List UInt8} (h : j < l.length) : (mx j l).getD j 0 = l.getD j 0 := by
  rw [(mx_split h).1]
  have : ((fx l).take j).length = j := by rw [List.length_take, fx_len]; omega
  rw [List.getD_eq_getElem?_getD, List.getElem?_append_right (by omega), this]
  simp
theorem mx_keep {j : Nat} {l : List UInt8} (h : j < l.length) (hx : l.getD j 0 ≠ 0) : mx (j + 1) l = mx j l := by
  rw [(mx_split h).1, (mx_split h).2, if_neg hx]
theorem mx_turn {j : Nat} {l : List UInt8} (h : j < l.length) (hx : l.getD j 0 = 0) : mx (j + 1) l = (mx j l).set j 1 := by
  rw [(mx_split h).1, (mx_split h).2, if_pos hx]
  have : ((fx l).take j).length = j := by rw [List.length_take, fx_len]; omega
  rw [List.set_append_right _ _ (by omega), this, Nat.sub_self]
  rfl
theorem toNat_zero {x : UInt8} : x.toNat = 0 ↔ x = 0 := by
  constructor
  · intro h; exact UInt8.toNat_inj.1 h
  · intro h; subst h; rfl
theorem fx_no (l : List UInt8) : ∀ x ∈ fx l, x ≠ 0 := by
  intro x hx
  obtain ⟨y, _, rfl⟩ := List.mem_map.1 hx
  by_cases h : y = 0
  · rw [if_pos h]; decide
  · rw [if_neg h]; exact h

/-- A text of at most ten bytes, without bytes 0. -/
def nmz (s : ByteArray) : List UInt8 := fx (s.extract 0 (min s.size 10)).data.toList
def nmT (s : ByteArray) : ByteArray := str (nmz s)
theorem nmz_len (s : ByteArray) : (nmz s).length = min s.size 10 := by
  unfold nmz
  rw [fx_len, Array.length_toList]
  show (s.extract 0 (min s.size 10)).size = _
  rw [ByteArray.size_extract]; omega
theorem nmT_size (s : ByteArray) : (nmT s).size = min s.size 10 := by
  rw [← nmz_len]; rfl
theorem nmT_noz (s : ByteArray) : noz (nmT s) = true := by
  unfold noz
  have : (tx (nmT s)).contains 0 = false := by
    rw [← Bool.not_eq_true, List.contains_iff_mem]
    intro h
    exact fx_no _ 0 h rfl
  rw [this]; rfl
/-- The first n names. -/
def nsN (l : List ByteArray) (n : Nat) : List ByteArray := (List.range n).map fun i => nmT (l.getD i ByteArray.empty)
/-- The first k kinds. -/
def kdN (l : List ByteArray) (k : Nat) : List Knd := (List.range k).map fun (i : Nat) => ⟨(i : Int), false, nmT (l.getD i ByteArray.empty)⟩
theorem nsN_len (l : List ByteArray) (n : Nat) : (nsN l n).length = n := by simp [nsN]
theorem kdN_len (l : List ByteArray) (n : Nat) : (kdN l n).length = n := by simp [kdN]
theorem nsN_get {l : List ByteArray} {n i : Nat} (h : i < n) : (nsN l n).getD i ByteArray.empty = nmT (l.getD i ByteArray.empty) := by simp [nsN, List.getD, h]
theorem kdN_get {l : List ByteArray} {n i : Nat} (h : i < n) : (kdN l n).getD i k0 = ⟨(i : Int), false, nmT (l.getD i ByteArray.empty)⟩ := by simp [kdN, List.getD, h]
theorem kdN_succ (l : List ByteArray) (k : Nat) : kdN l (k + 1) = kdN l k ++ [⟨(k : Int), false, nmT (l.getD k ByteArray.empty)⟩] := by simp [kdN, List.range_succ]
theorem kdN_name (l : List ByteArray) (k : Nat) : (kdN l k).map Knd.name = nsN l k := by simp [kdN, nsN]
theorem kd_right {l : List ByteArray} {n : Nat} (h1 : 1 ≤ n) (h2 : n ≤ 20) : rightB ⟨kdN l n, [], [], [], []⟩ 8 2 = true := by
  have L := layN_le (nsN l n) n 10 (fun i hi => by rw [nsN_get hi, nmT_size]; omega)
  have a : rkB (kdN l n) = true := by
    unfold rkB
    rw [kdN_len, kdN_name]
    simp only [Bool.and_eq_true, decide_eq_true_eq, allB_true]
    refine ⟨⟨⟨h1, by omega⟩, fun i hi => ?_⟩, by omega⟩
    rw [kdN_get hi]
    unfold rkOne
    rw [nmT_noz, nmT_size]
    simp only [Bool.and_eq_true, decide_eq_true_eq]
    refine ⟨⟨⟨by omega, by omega⟩, by omega⟩, trivial⟩
  have b : rmB [] [] (kdN l n).length = true := by simp [rmB, allB]
  have c : rjB [] (kdN l n).length 8 = true := by simp [rjB, allB]
  have d : rlB [] 8 2 = true := by simp [rlB, allB]
  unfold rightB
  simp only [a, b, c, d]
  rfl
theorem kd_none (v : Int) : rightB ⟨[], [], [], [], []⟩ 8 v = false := by
  unfold rightB rkB; simp
theorem txt_ne' {a b : ByteArray} (h : a ≠ b) : (a.toList == b.toList) = false := by
  rw [beq_eq_false_iff_ne]
  intro e
  rw [ByteArray.toList_eq, ByteArray.toList_eq] at e
  exact h (Go.WideShapes.bytes_inj e)
theorem mem_take' {ns : List ByteArray} {k : Nat} {s : ByteArray} (hk : k < ns.length) : (s ∈ ns.take (k + 1)) ↔ (s ∈ ns.take k ∨ ns.getD k ByteArray.empty = s) := by
  rw [List.take_succ_eq_append_getElem hk, List.mem_append, List.mem_singleton]
  have : ns.getD k ByteArray.empty = ns[k] := by simp [List.getD, hk]
  rw [this]
  exact ⟨fun h => h.imp id Eq.symm, fun h => h.imp id Eq.symm⟩
theorem sc_get {l : List ByteArray} {i : Nat} (h : i < l.length) : (sc l)[i]? = some (.string (l.getD i ByteArray.empty)) := by simp [sc, h]
theorem Rc_txt {w : World} {A : Option Addr} {l : List ByteArray} (h : Rc w A (sc l)) {i : Nat} (hi : i < l.length) : ∃ b o, A = some ⟨b, o, none⟩ ∧ w.cell? ⟨b, o + i, none⟩ = some (.string (l.getD i ByteArray.empty)) := by
  obtain ⟨b, o, e, hc⟩ := h (by simp [sc]; omega)
  exact ⟨b, o, e, hc _ _ (sc_get hi)⟩
theorem put0 {w : World} {b : Nat} {y0 y1 y2 y3 y4 : Value} {t : TypeId} (h : w.heap[b]? = some (.cells #[y0, y1, y2, y3, y4] t (0, 0))) (u : Value) : (w.setCell ⟨b, 0, none⟩ u).heap[b]? = some (.cells #[u, y1, y2, y3, y4] t (0, 0)) := heap_setCell_same w b 0 _ t u h
/-- The box B holds the first k kinds, in a row of one's own, and nothing else. -/
def Bn (w : World) (base B : Nat) (l : List ByteArray) (k : Nat) : Prop := ∃ P c, w.heap[B]? = some (.cells #[.slice P k c, .slice none 0 0, .slice none 0 0, .slice none 0 0, .slice none 0 0] 27 (0, 0)) ∧ w.ownsRow base 56 3 (.slice P k c) k (kc (kdN l k))
theorem Bn.up {w w' : World} {base B : Nat} {l : List ByteArray} {k : Nat} (h : Bn w base B l k) (u : Up w w') : Bn w' base B l k := by
  obtain ⟨P, c, h1, h2⟩ := h
  exact ⟨P, c, heap_up u h1, row_up h2 u⟩

theorem encN {l : List ByteArray} {n sm : Nat} (h1 : 1 ≤ n) (h2 : n ≤ 20) (hs : (layN (nsN l n) n).length = sm) (v : Value) (w : World) (hb : BkR w v ⟨kdN l n, [], [], [], []⟩) :
    Calls Try.prog 15 #[v, .int .i64 8, .int .i64 2] w fun e w' => ∃ A c, e = .returned (.tuple #[.slice A (6 * n + sm) c, hv 2 0 0 0 0 (n : Nat) (sm : Nat), .int .i64 0]) ∧ 6 * n + sm ≤ c ∧ c ≤ maxLen ∧ Up w w' := by
  refine (enc8 ⟨kdN l n, [], [], [], []⟩ 2 (by decide) (by decide) (kd_right h1 h2) v w hb).mono ?_
  rintro e w' ⟨A, c, rfl, hc, hm, _, u⟩
  have e1 : (nmB ⟨kdN l n, [], [], [], []⟩).length = sm := by
    unfold nmB; rw [kdN_name, kdN_len]; exact hs
  have e2 : (encL ⟨kdN l n, [], [], [], []⟩ 8).length = 6 * n + sm := by
    rw [encL_len, e1, kdN_len]; simp; omega
  rw [e2] at hc
  refine ⟨A, c, ?_, hc, hm, u⟩
  rw [e1, e2, kdN_len]
  rfl

set_option maxHeartbeats 4000000 in
set_option maxRecDepth 100000 in
theorem walk (w : World) (v0 : Value) (l0 : List ByteArray) (r0 : Sl w v0 l0.length (sc l0)) (s0 : ∀ i, i < l0.length → (l0.getD i ByteArray.empty).size ≤ maxLen) :
    Calls Try.prog 9 #[v0] w fun e w' => e = .returned (.bool true) ∧ Up w w' := by
  obtain ⟨A, c, rfl, hlc, hcm, RL⟩ := r0
  obtain ⟨q, hq⟩ : ∃ q, l0.length = q := ⟨_, rfl⟩
  obtain ⟨n, hn⟩ : ∃ n, min q 20 = n := ⟨_, rfl⟩
  have hnq : n ≤ q := by omega
  have hn20 : n ≤ 20 := by omega
  have HN := Lib.hid (show n = q ∨ n = 20 by omega)
  have HQ := Lib.hid hq
  have RA := Lib.hid RL
  have HS := Lib.hid s0
  simp only [hq] at hlc ⊢
  unfold maxLen at hcm
  clear hq hn RL s0
  go_enter Try.func9, Try.ntmps9
  go_wp2_with fail
  refine (shown_any _).mono ?_; rintro e w1 ⟨rfl, u1⟩
  have U1 := Lib.hid u1
  clear u1
  go_wp2_with fail
  go_loopw [5, 6] (fun s i wr => ∃ k : Nat, k ≤ n ∧ i = .int .i64 k ∧ s = .int .i64 ((layN (nsN l0 n) k).length : Nat) ∧ Bn wr w1.heap.size w1.heap.size l0 k ∧ Up w1 wr) (fun _ i _ => n - (intOf i).toNat)
  case atStart => exact ⟨0, Nat.zero_le _, rfl, rfl, ⟨none, 0, heap_alloc_new _ _, (show World.ownsRow _ _ _ _ _ _ [] from World.ownsRow_nil _ _ _ _)⟩, Up.alloc _ _⟩
  case round =>
    obtain ⟨k, hkn, rfl, rfl, hb, hu⟩ := hrel
    have HB := Lib.hid hb
    have HU := Lib.hid hu
    clear hb hu
    obtain ⟨sm, hsm⟩ : ∃ sm, (layN (nsN l0 n) k).length = sm := ⟨_, rfl⟩
    have hsm2 : sm ≤ 220 := by
      have L := layN_le (nsN l0 n) k 10 (fun i hi => by rw [nsN_get (by omega), nmT_size]; omega)
      omega
    rw [hsm]
    have HSM := Lib.hid hsm
    clear hsm
    by_cases hlt : k < n
    · obtain ⟨b, o, rfl, c1⟩ := Rc_txt (RA.out.up (U1.out.trans HU.out)) (i := k) (by rw [HQ.out]; omega)
      obtain ⟨t, et⟩ : ∃ t, Hid (l0.getD k ByteArray.empty = t) := ⟨_, rfl⟩
      rw [et.out] at c1
      have ts : t.size ≤ 9223372036854775807 := by have := HS.out k (by rw [HQ.out]; omega); rw [et.out] at this; unfold maxLen at this; omega
      have i1 : (k : Int) < (q : Int) := by omega
      have i2 : (k : Int) < 20 := by omega
      obtain ⟨p1, p1a, p1b, q1⟩ : ∃ p : Nat, p ≤ 10 ∧ p ≤ t.size ∧ min (t.size : Int) 10 = p := ⟨min t.size 10, by omega, by omega, by omega⟩
      go_wp2_with fail
      have x0 := cell_lt c1
      refine wp_region_still_tail 11 (by kernel_rfl) (by kernel_rfl) ?_
      have HU' : Hid (Up wr ({ wr with drawn := wr.drawn + 1 } : World)) := Up.drewN wr 1
      generalize ({ wr with drawn := wr.drawn + 1 } : World) = V at HU' ⊢
      replace c1 := HU'.out.cell c1
      replace HB := Lib.hid (HB.out.up HU'.out)
      replace HU := Lib.hid (HU.out.trans HU'.out)
      clear HU' x0
      have x0 := cell_lt c1
      simp only [List.take_succ_cons, List.take_zero, List.drop_succ_cons, List.drop_zero]
      repeat still_step
      refine wpStill_nil ?_
      have hk := of_string
      go_wp2_with fail
      have gc := grownCap_ge V p1 0 5
      have gm := grownCap_le_maxLen V p1 0 5 (by unfold maxLen; omega)
      generalize grownCap V p1 0 5 = cap at gc gm ⊢
      have B := Bk.bytes V (t.extract 0 p1)
      have U := Up.bytes V (t.extract 0 p1)
      have hL : (t.extract 0 p1).data.toList.length = p1 := by
        rw [Array.length_toList]; show (t.extract 0 p1).size = p1; rw [ByteArray.size_extract]; omega
      have hT : Hid (nmz t = fx (t.extract 0 p1).data.toList) := by
        unfold Hid nmz
        rw [show min t.size 10 = p1 by omega]
      generalize Lib.bytesWorld V 5 (t.extract 0 p1) = w2 at B U ⊢
      generalize (t.extract 0 p1).data.toList = L at B hL hT
      have gl : V.heap.size ≤ V.heap.size := Nat.le_refl _
      generalize hgg : V.heap.size = g at B x0 ⊢
      rw [hgg] at gl
      have HG : Hid (V.heap.size ≤ g) := Lib.hid (by omega)
      have HL := Lib.hid hL
      clear gl hgg hL hk x0 c1 i1 i2
      go_loopw [8] (fun i wr => ∃ j : Nat, j ≤ p1 ∧ i = .int .i64 j ∧ Bk wr g (mx j L) ∧ Up V wr) (fun i _ => p1 - (intOf i).toNat)
      case atStart => exact ⟨0, Nat.zero_le _, rfl, by rw [mx_zero]; exact B, U⟩
      case round =>
        clear B U
        obtain ⟨j, hj, rfl, B, U⟩ := hrel
        have B := Lib.hid B; have U := Lib.hid U
        by_cases hlt2 : j < p1
        · obtain ⟨c1, c2⟩ := B.out j (by rw [mx_len (by rw [HL.out]; exact hj), HL.out]; exact hlt2)
          rw [mx_at (by rw [HL.out]; exact hlt2)] at c1
          by_cases hx : L.getD j 0 = 0
          · rw [hx] at c1
            have c1 : wr.cell? ⟨g, j, none⟩ = some (.int .u8 0) := c1
            go_wp2
            go_roundw
            case rel =>
              refine ⟨j + 1, by omega, by go_num, ?_, U.out.setCell' (p := ⟨g, j, none⟩) HG.out _⟩
              rw [mx_turn (by rw [HL.out]; exact hlt2) hx]
              exact B.out.set (by rw [mx_len (by rw [HL.out]; exact hj), HL.out]; exact hlt2) 1
            case measure => simp [intOf]; omega
          · have hx' : ¬ (L.getD j 0).toNat = 0 := fun h => hx (toNat_zero.1 h)
            have hn : Hid (mx (j + 1) L = mx j L) := Lib.hid (mx_keep (by rw [HL.out]; exact hlt2) hx)
            generalize (L.getD j 0).toNat = x at c1 hx'
            have hx2 : (((x : Nat) : Int) == 0) = false := by simp; omega
            go_wp2
            go_roundw
            case rel => exact ⟨j + 1, by omega, by go_num, by rw [hn.out]; exact B.out, U.out⟩
            case measure => simp [intOf]; omega
        · have hjp : j = p1 := by omega
          subst hjp
          have B' : Bk wr g (nmz t) := by
            have := B.out
            rw [show j = L.length from HL.out.symm, mx_all, ← hT.out] at this; exact this
          have B' := Lib.hid B'
          have F : Hid ((nmz t).length = j) := Lib.hid (by rw [hT.out, fx_len]; exact HL.out)
          have HB2 := Lib.hid (HB.out.up U.out)
          have HU2 := Lib.hid (HU.out.trans U.out)
          clear B HB HU U HG hT HL hlt2
          have MT : Hid (∀ m, m < k → ((nmT t ∈ (nsN l0 n).take (m + 1)) ↔ (nmT t ∈ (nsN l0 n).take m ∨ nmT (l0.getD m ByteArray.empty) = nmT t))) := fun m hm => by
            rw [mem_take' (by rw [nsN_len]; omega), nsN_get (by omega)]
          have HT : Hid ((nsN l0 n).getD k ByteArray.empty = nmT t) := by
            unfold Hid; rw [nsN_get hlt, et.out]
          have CV : Hid (∀ w', Up wr w' → (convert 33 9 (.slice (some ⟨g, 0, none⟩) j cap)).run Try.prog w' = .ok (.string (nmT t)) w') := fun w' u => convert_at w' g 0 j cap (nmz t) F.out (B'.out.rd.up u)
          generalize hTt : nmT t = T at *
          go_wp2_with fail
          go_loopw [9, 10] (fun s i wi => ∃ m : Nat, m ≤ k ∧ i = .int .i64 m ∧ s = .bool (decide (T ∈ (nsN l0 n).take m)) ∧ Up wr wi) (fun _ i _ => k - (intOf i).toNat)
          case atStart => exact ⟨0, Nat.zero_le _, rfl, by simp, Up.refl _⟩
          case round =>
            obtain ⟨m, hm, rfl, rfl, hui⟩ := hrel
            have HI := Lib.hid hui
            have HB3 := Lib.hid (HB2.out.up hui)
            clear hui
            obtain ⟨P, cp, hbx, hrow⟩ := HB3.out
            obtain ⟨a0, a1, a2, a3, a4⟩ := (bx_heap hbx).1
            have HR := Lib.hid hrow
            have HX := Lib.hid hbx
            clear hrow hbx a1 a2 a3 a4
            by_cases hlt3 : m < k
            · obtain ⟨A', c', hs, hc1, hc2, hr⟩ := row_sl HR.out
              injection hs with hs1 _ hs3
              subst hs1 hs3
              obtain ⟨b2, o2, rfl, _, _, d3⟩ := hr.knd (i := m) (by rw [kdN_len]; exact hlt3)
              rw [kdN_get hlt3] at d3
              clear hr
              have mt := MT.out m hlt3
              have CV2 := fun nd => CV.out (wr.drewN nd) (HI.out.drewN' nd)
              have x0 := cell_lt a0
              have x1 := cell_lt d3
              have i1 : (m : Int) < (k : Int) := by omega
              by_cases kn : T ∈ (nsN l0 n).take m
              · have dk : decide (T ∈ (nsN l0 n).take m) = true := decide_eq_true kn
                have nx : Hid (decide (T ∈ (nsN l0 n).take (m + 1)) = true) := decide_eq_true (mt.2 (.inl kn))
                rw [dk]
                clear mt kn dk
                go_wp2_with fail
                go_quiet (fail)
                go_wp2_with fail
                go_roundw
                case rel => exact ⟨m + 1, by omega, by go_num, by rw [nx.out], HI.out.drewN' _⟩
                case measure => simp [intOf]; omega
              · have dk : decide (T ∈ (nsN l0 n).take m) = false := decide_eq_false kn
                rw [dk]
                by_cases en : nmT (l0.getD m ByteArray.empty) = T
                · have nx : Hid (decide (T ∈ (nsN l0 n).take (m + 1)) = true) := decide_eq_true (mt.2 (.inr en))
                  rw [en] at d3
                  have he : (T.toList == T.toList) = true := by simp
                  clear mt kn dk en
                  go_wp2_with fail
                  go_quiet (fail)
                  go_wp2_with fail
                  go_roundw
                  case rel => exact ⟨m + 1, by omega, by go_num, by rw [nx.out], HI.out.drewN' _⟩
                  case measure => simp [intOf]; omega
                · have nx : Hid (decide (T ∈ (nsN l0 n).take (m + 1)) = false) := decide_eq_false fun h => by
                    rcases mt.1 h with h | h
                    · exact kn h
                    · exact en h
                  have he := txt_ne' en
                  generalize nmT (l0.getD m ByteArray.empty) = T2 at d3 he
                  clear mt kn dk en
                  go_wp2_with fail
                  go_quiet (fail)
                  go_wp2_with fail
                  go_roundw
                  case rel => exact ⟨m + 1, by omega, by go_num, by rw [nx.out], HI.out.drewN' _⟩
                  case measure => simp [intOf]; omega
            · have hmk : k = m := by omega
              subst hmk
              have U9 := Lib.hid (HU2.out.trans HI.out)
              have CV2 := CV.out wr HI.out
              have KS : Hid (kdN l0 (k + 1) = kdN l0 k ++ [⟨(k : Int), false, T⟩]) := by
                unfold Hid; rw [kdN_succ, et.out, hTt]
              have OW : Hid ((wr.alloc (.cells #[.int .i64 (k : Int), .bool false, .string T] 56)).ownsRow w1.heap.size 56 3 (.slice P k cp) (kdN l0 k).length (kc (kdN l0 k))) := by
                unfold Hid; rw [kdN_len]; exact row_up HR.out (Up.alloc _ _)
              have HX2 : Hid ((wr.alloc (.cells #[.int .i64 (k : Int), .bool false, .string T] 56)).heap[w1.heap.size]? = _) := heap_up (Up.alloc wr _) HX.out
              have Tz : T.size = j := by rw [← hTt]; exact F.out
              have szw : w1.heap.size ≤ wr.heap.size := U9.out.size
              have x0 := cell_lt a0
              have kl : (kdN l0 k).length = k := kdN_len _ _
              clear MT CV HB2 HB3 B' HR HX HU2 HI hlt3 hm
              by_cases kn : T ∈ (nsN l0 n).take k
              · have dk : decide (T ∈ (nsN l0 n).take k) = true := decide_eq_true kn
                have NS : Hid ((layN (nsN l0 n) (k + 1)).length = sm) := by
                  unfold Hid; rw [layN_old (by rw [HT.out]; exact kn), HSM.out]
                rw [dk]
                clear kn dk HT hTt et Tz F
                go_wp2_with (at_builtin; refine wpList_append_knd _ rfl _ _ rfl w1.heap.size _ (kdN l0 k) rfl OW.out (some ⟨wr.heap.size, 0, none⟩) [⟨(k : Int), false, T⟩] 1 1 rfl rfl (rc_new wr #[.int .i64 (k : Int), .bool false, .string T] _) ?e1 ?e2 ?_)
                case e1 => rw [kl]; simp; omega
                case e2 => simp; omega
                intro v6 w6 ho6 hg6 _
                replace ho6 : w6.ownsRow w1.heap.size 56 3 v6 (k + 1) (kc (kdN l0 (k + 1))) := by
                  rw [KS.out]
                  exact ho6
                have HX6 := Lib.hid (heap_grown hg6 HX2.out (row_ty OW.out HX2.out (by decide)))
                have U6 := Lib.hid (Up.grown (U9.out.alloc' (.cells #[.int .i64 (k : Int), .bool false, .string T] 56)) hg6 (fun j hj => (World.ownsRow.lt OW.out j hj).1))
                obtain ⟨P', c', rfl⟩ := row_form ho6
                have HB7 : Hid (Bn (w6.setCell ⟨w1.heap.size, 0, none⟩ (.slice P' (k + 1) c')) w1.heap.size w1.heap.size l0 (k + 1)) := ⟨P', c', put0 HX6.out _, row_else ho6 (row_ty ho6 HX6.out (by decide)) _ _⟩
                have U7 := Lib.hid (U6.out.setCell' (p := ⟨w1.heap.size, 0, none⟩) (Nat.le_refl _) (.slice P' (k + 1) c'))
                obtain ⟨b0, _, _, _, _⟩ := (bx_heap HX6.out).1
                have f0 := (bx_heap HX6.out).2.2 0
                have ltb := cell_lt b0
                clear ho6 hg6 OW HX2 U6 HX6 U9
                go_wp2_with fail
                go_roundw
                case rel => exact ⟨k + 1, by omega, by go_num, by rw [NS.out], HB7.out, U7.out⟩
                case measure => simp [intOf]; omega
              · have dk : decide (T ∈ (nsN l0 n).take k) = false := decide_eq_false kn
                have NS : Hid ((layN (nsN l0 n) (k + 1)).length = sm + j + 1) := by
                  unfold Hid; rw [layN_new (by rw [HT.out]; exact kn), HT.out, List.length_append, HSM.out, List.length_append]
                  have : (tx T).length = T.size := rfl
                  rw [this, Tz]; rfl
                rw [dk]
                clear kn dk HT hTt et Tz F
                go_wp2_with (at_builtin; refine wpList_append_knd _ rfl _ _ rfl w1.heap.size _ (kdN l0 k) rfl OW.out (some ⟨wr.heap.size, 0, none⟩) [⟨(k : Int), false, T⟩] 1 1 rfl rfl (rc_new wr #[.int .i64 (k : Int), .bool false, .string T] _) ?e1 ?e2 ?_)
                case e1 => rw [kl]; simp; omega
                case e2 => simp; omega
                intro v6 w6 ho6 hg6 _
                replace ho6 : w6.ownsRow w1.heap.size 56 3 v6 (k + 1) (kc (kdN l0 (k + 1))) := by
                  rw [KS.out]
                  exact ho6
                have HX6 := Lib.hid (heap_grown hg6 HX2.out (row_ty OW.out HX2.out (by decide)))
                have U6 := Lib.hid (Up.grown (U9.out.alloc' (.cells #[.int .i64 (k : Int), .bool false, .string T] 56)) hg6 (fun j hj => (World.ownsRow.lt OW.out j hj).1))
                obtain ⟨P', c', rfl⟩ := row_form ho6
                have HB7 : Hid (Bn (w6.setCell ⟨w1.heap.size, 0, none⟩ (.slice P' (k + 1) c')) w1.heap.size w1.heap.size l0 (k + 1)) := ⟨P', c', put0 HX6.out _, row_else ho6 (row_ty ho6 HX6.out (by decide)) _ _⟩
                have U7 := Lib.hid (U6.out.setCell' (p := ⟨w1.heap.size, 0, none⟩) (Nat.le_refl _) (.slice P' (k + 1) c'))
                obtain ⟨b0, _, _, _, _⟩ := (bx_heap HX6.out).1
                have f0 := (bx_heap HX6.out).2.2 0
                have ltb := cell_lt b0
                clear ho6 hg6 OW HX2 U6 HX6 U9
                go_wp2_with fail
                go_roundw
                case rel => exact ⟨k + 1, by omega, by go_num, by rw [NS.out]; go_num, HB7.out, U7.out⟩
                case measure => simp [intOf]; omega
    · have hkn' : n = k := by omega
      subst hkn'
      obtain ⟨P, cp, hbx, hrow⟩ := HB.out
      have BR : Hid (BkR wr (.agg #[.slice P n cp, .slice none 0 0, .slice none 0 0, .slice none 0 0, .slice none 0 0]) ⟨kdN l0 n, [], [], [], []⟩) := by
        refine ⟨_, _, _, _, _, rfl, by rw [kdN_len]; exact row_sl hrow, ?_, ?_, ?_, ?_⟩
        all_goals exact ⟨none, 0, rfl, Nat.le_refl _, Nat.zero_le _, Rc.nil _ _⟩
      have U2 := Lib.hid (U1.out.trans HU.out)
      obtain ⟨a0, a1, a2, a3, a4⟩ := (bx_heap hbx).1
      have x0 := cell_lt a0
      have LE : ¬ ((n : Int) < (q : Int)) ∨ ((n : Int) < (q : Int) ∧ ¬ ((n : Int) < 20)) := by
        rcases HN.out with h | h
        · exact .inl (by omega)
        · by_cases g : (n : Int) < (q : Int)
          · exact .inr ⟨g, by omega⟩
          · exact .inl g
      clear hbx hrow HB HU hlt
      by_cases h0 : n = 0
      · subst h0
        have RI := Lib.hid (fun w1 v h => bright_any v ⟨kdN l0 0, [], [], [], []⟩ 8 2 w1 h)
        have rn : rightB ⟨kdN l0 0, [], [], [], []⟩ 8 2 = false := kd_none 2
        rw [rn] at RI
        have nlt : ¬ ((0 : Int) < (q : Int)) := by
          rcases LE with h | ⟨_, h⟩
          · simpa using h
          · omega
        go_wp2_with (go_at_call 16; refine (RI.out _ _ BR.out).mono ?_; rintro e w9 ⟨rfl, u9⟩)
        go_ret
        exact ⟨rfl, U2.out.trans u9⟩
      · have EN := Lib.hid (fun w v h => encN (l := l0) (n := n) (by omega) hn20 HSM.out v w h)
        obtain ⟨m6, e6⟩ : ∃ m, 6 * n + sm = m := ⟨_, rfl⟩
        rw [e6] at EN
        have e7 : 6 * (n : Int) + (sm : Int) = (m6 : Int) := by omega
        have nz : ¬ ((n : Int) = 0) := by omega
        have nz2 : ((n : Int) == 0) = false := by simp; omega
        have UU := Lib.hid (fun w2 (u : Up wr w2) => (⟨u.cell a0, u.cell a1, u.cell a2, u.cell a3, u.cell a4⟩ : Bx5 w2 w1.heap.size (.slice P n cp) (.slice none 0 0) (.slice none 0 0) (.slice none 0 0) (.slice none 0 0)))
        rcases LE with h | ⟨h, h'⟩
        all_goals
          go_wp2_with fail
          refine (EN.out _ _ BR.out).mono ?_; rintro e w9 ⟨A9, c9, rfl, hc9, hm9, u9⟩
          have U9 := Lib.hid (U2.out.trans u9)
          have b0 := u9.cell a0
          have y0 := cell_lt b0
          clear a0 a1 a2 a3 a4 x0
          go_wp2_with fail
          go_ret
          exact ⟨rfl, U9.out.alloc' _⟩

theorem readable : ∀ t ∈ Try.f9.params.toList, Try.prog.readableRec t = true ∧ t < Try.prog.types.size := by
  rw [Try.params9]
  intro t ht
  have hall : ([58].all fun u => Try.prog.readableRec u && decide (u < Try.prog.types.size)) = true := by kernel_rfl
  have := List.all_eq_true.1 hall t (by simpa using ht)
  simpa using this

set_option maxRecDepth 100000 in
theorem lifted (os : Os) (started : os.Started) (H : Type) (enc : TypeId × Value → H) :
    ReturnsInHanded {} Try.checked os 9 .any (Rows.blockNamesSpec.pre6 enc Try.prog Try.f9 Rows.blockNamesRow.domain false) (Rows.blockNamesSpec.post enc Try.prog Try.f9 false true false false) := by
  refine returnsInHanded_of_change (C := Try.checked) own started (by kernel_rfl) Try.func9
    (ChangeSpec.witness6 (enc := enc) (C := Try.checked) false ⟨#[], #[.slice none 0 0], []⟩ 8 (by kernel_rfl) (by kernel_rfl) (by kernel_rfl) (by kernel_rfl)) ?_
  intro W base args ds gs before hval0 hW hcnd _
  have hval : ∀ (j : Nat) t v, Try.f9.params[j]? = some t → args[j]? = some v → Value.okWide Try.prog W .any base t v := hval0
  have hW' := hW
  obtain ⟨p, q, hA0, hV, rfl, hfz, hnd⟩ := hW
  have hA : DataW.TrodAll enc Try.prog W 0 (fun _ => true) true Try.f9.params.toList args.toList ds p := hA0
  rw [Try.params9] at hA hval
  obtain ⟨v0, vs0, d0, ds0, p0, q0, hargs, rfl, rfl, h0, r0⟩ := trodAll_cons hA
  obtain ⟨rfl, rfl, rfl⟩ := trodAll_nil r0
  obtain rfl : args = #[v0] := by cases args; simp_all
  obtain ⟨rfl, rfl⟩ := trodVars_none hV
  obtain ⟨l0, R0, s0⟩ := open_strs (hval 0 58 v0 rfl rfl) h0
  clear hA0 hval0
  refine (walk W v0 l0 R0 s0).mono fun e W' ⟨he, hg⟩ => ?_
  subst he
  exact ⟨_, rfl, post_up laidOut readable rfl hW' (fun _ _ _ => (trodAll_cons_mk (shut_bool Try.underlying4 _) trodAll_mk0)) rfl rfl
    hg (ok_one (by kernel_rfl) rfl (okWide_bool_mk Try.underlying4 _))⟩

theorem over : Rows.blockNamesRow.holds Try.pinned (OpenSpec.ofChange Rows.blockNamesSpec) :=
  OpenClaim.holds_of_wide 9 Try.f9 rfl rfl rfl rfl rfl rfl rfl ⟨rfl, rfl, rfl, rfl, rfl⟩ rfl rfl rfl rfl rfl (by kernel_rfl) Try.func9 (by kernel_rfl)
    (of_decide_eq_true (by kernel_rfl)) (by unfold Func.isWrapper; first | (rw [if_pos (by decide +kernel)]; kernel_rfl) | (rw [if_neg (by decide +kernel)]; exact ⟨rfl, rfl⟩))
    (fun os started H enc _ => lifted os started H enc)

theorem proved : Rows.BlockNamesSaid :=
  over
end Go.Proofs.Ytoijaananjlfpaa.blockNames
