/-
  A name is what stands ahead of the next byte 0: the law OctetsNames answers true for every text, and all bytes ahead and behind it, and leaves them as they were. No condition.
-/
import Derived.Test.YtdhlcnmiibfhgaaLcShown4
import Derived.Test.YtdhlcnmiibfhgaaLcRow
import Derived.WalkKit
import Derived.ProofKit
import Derived.OpenShut
namespace Go.Proofs.Ytdhlcnmiibfhgaa.octetsNames
open Go.ChangeShapes Go.WideShapes Go.ChangeAt Go.RowKit Lc
set_option linter.unusedVariables false

theorem own : ownKnob Try.prog.godebug = none := by kernel_rfl

theorem cut50 {w : World} {A : Option Addr} {l : List UInt8} {c : Nat} (n : l.length ≤ c) (r : Rd w A l) : ∃ (k : List UInt8) (p : Nat), k.length = p ∧ p ≤ 50 ∧ p ≤ l.length ∧ p ≤ c ∧ min (l.length : Int) 50 = (p : Int) ∧ Rd w A k :=
  ⟨l.take 50, _, rfl, by rw [List.length_take]; omega, by rw [List.length_take]; omega, by rw [List.length_take]; omega, by rw [List.length_take]; omega, r.take 50⟩
/-- No byte 0. -/
def fx (l : List UInt8) : List UInt8 := l.map fun x => if x = 0 then 1 else x
/-- The first j are turned. -/
def mx (j : Nat) (l : List UInt8) : List UInt8 := (fx l).take j ++ l.drop j
theorem fx_len (l : List UInt8) : (fx l).length = l.length := by simp [fx]
theorem mx_len {j : Nat} {l : List UInt8} (h : j ≤ l.length) : (mx j l).length = l.length := by
  unfold mx; rw [List.length_append, List.length_take, fx_len, List.length_drop]; omega
theorem mx_zero (l : List UInt8) : mx 0 l = l := by simp [mx]
theorem mx_all (l : List UInt8) : mx l.length l = fx l := by
  unfold mx; rw [List.take_of_length_le (by rw [fx_len]; exact Nat.le_refl _), List.drop_eq_nil_of_le (Nat.le_refl _), List.append_nil]
theorem mx_split {j : Nat} {l : List UInt8} (h : j < l.length) : mx j l = (fx l).take j ++ l.getD j 0 :: l.drop (j + 1) ∧ mx (j + 1) l = (fx l).take j ++ (if l.getD j 0 = 0 then 1 else l.getD j 0) :: l.drop (j + 1) := by
  have hf : j < (fx l).length := by rw [fx_len]; exact h
  constructor
  · unfold mx; rw [List.drop_eq_getElem_cons h]; simp [h]
  · unfold mx; rw [List.take_succ_eq_append_getElem hf]; simp [fx, h]
theorem mx_at {j : Nat} {l : List UInt8} (h : j < l.length) : (mx j l).getD j 0 = l.getD j 0 := by
  rw [(mx_split h).1]
  have : ((fx l).take j).length = j := by rw [List.length_take, fx_len]; omega
  rw [List.getD_eq_getElem?_getD, List.getElem?_append_right (by omega), this]
  simp
theorem mx_keep {j : Nat} {l : List UInt8} (h : j < l.length) (hx : l.getD j 0 ≠ 0) : mx (j + 1) l = mx j l := by
  rw [(mx_split h).1, (mx_split h).2, if_neg hx]
theorem mx_turn {j : Nat} {l : List UInt8} (h : j < l.length) (hx : l.getD j 0 = 0) : mx (j + 1) l = (mx j l).set j 1 := by
  rw [(mx_split h).1, (mx_split h).2, if_pos hx]
  have : ((fx l).take j).length = j := by rw [List.length_take, fx_len]; omega
  rw [List.set_append_right _ _ (by omega), this, Nat.sub_self]
  rfl
theorem toNat_zero {x : UInt8} : x.toNat = 0 ↔ x = 0 := by
  constructor
  · intro h; exact UInt8.toNat_inj.1 h
  · intro h; subst h; rfl
theorem fx_no (l : List UInt8) : ∀ x ∈ fx l, x ≠ 0 := by
  intro x hx
  obtain ⟨y, _, rfl⟩ := List.mem_map.1 hx
  by_cases h : y = 0
  · rw [if_pos h]; decide
  · rw [if_neg h]; exact h
theorem idx_yes : ∀ (l m : List UInt8), (∀ x ∈ l, x ≠ 0) → Lib.indexByte (l ++ 0 :: m) 0 = (l.length : Int)
  | [], m, _ => by simp [Lib.indexByte]
  | x :: l, m, h => by
    have hx : x ≠ 0 := h x (List.mem_cons_self ..)
    have ih := idx_yes l m (fun y hy => h y (List.mem_cons_of_mem _ hy))
    rw [List.cons_append, Lib.indexByte, if_neg (by simpa using hx), ih, if_neg (by simp)]
    simp
theorem idx_no : ∀ (l : List UInt8), (∀ x ∈ l, x ≠ 0) → Lib.indexByte l 0 = -1
  | [], _ => rfl
  | x :: l, h => by
    have hx : x ≠ 0 := h x (List.mem_cons_self ..)
    have ih := idx_no l (fun y hy => h y (List.mem_cons_of_mem _ hy))
    rw [Lib.indexByte, if_neg (by simpa using hx), ih]
    rfl
/-- The three looks at the row, and the one at its beginning. -/
theorem looks (A : Option Addr) (k f m : List UInt8) (p j q c : Nat) (w : World) (hk : k.length = p) (hf : f.length = j) (h0 : ∀ x ∈ f, x ≠ 0) (hq : (k ++ f ++ [0] ++ m).length = q) (hc : q ≤ c) (hm : c ≤ maxLen) (r : Rd w A (k ++ f ++ [0] ++ m)) :
    (Calls Try.prog 10 #[.slice A q c, .int .i64 p] w fun e w' => e = .returned (.tuple #[.string (str f), .bool true]) ∧ w = w') ∧
    (Calls Try.prog 10 #[.slice A q c, .int .i64 ((p : Int) + (j : Int))] w fun e w' => e = .returned (.tuple #[.string ⟨#[]⟩, .bool true]) ∧ w = w') ∧
    (Calls Try.prog 10 #[.slice A (p + j) c, .int .i64 p] w fun e w' => e = .returned (.tuple #[.string ByteArray.empty, .bool false]) ∧ w = w') ∧
    (Calls Try.prog 10 #[.slice A q c, .int .i64 (-1)] w fun e w' => e = .returned (.tuple #[.string ByteArray.empty, .bool false]) ∧ w = w') := by
  subst hq
  have hl : (k ++ f ++ [0] ++ m).length = p + j + 1 + m.length := by simp; omega
  refine ⟨?_, ?_, ?_, ?_⟩
  · have e : (k ++ f ++ [0] ++ m).drop p = f ++ 0 :: m := by subst hk; simp
    have h := name_yes A (k ++ f ++ [0] ++ m) c p j w hc hm (by omega) r (by rw [e, idx_yes f m h0, hf])
    rw [e, List.take_append_of_le_length (by omega), List.take_of_length_le (by omega)] at h
    exact h
  · have e : (k ++ f ++ [0] ++ m).drop (p + j) = 0 :: m := by subst hk; subst hf; simp [List.drop_append]
    have h := name_yes A (k ++ f ++ [0] ++ m) c (p + j) 0 w hc hm (by omega) r (by rw [e]; exact idx_yes [] m (by simp))
    rw [List.take_zero, show ((p + j : Nat) : Int) = (p : Int) + (j : Int) by omega] at h
    exact h
  · have e : (k ++ f ++ [0] ++ m).take (p + j) = k ++ f := by
      rw [show k ++ f ++ [0] ++ m = (k ++ f) ++ ([0] ++ m) by simp, List.take_append_of_le_length (by rw [List.length_append]; omega), List.take_of_length_le (by rw [List.length_append]; omega)]
    have r' := r.take (p + j)
    rw [e] at r'
    have hl' : (k ++ f).length = p + j := by rw [List.length_append, hk, hf]
    have ed : (k ++ f).drop p = f := by subst hk; simp
    have h := name_none A (k ++ f) c p w (by omega) (by omega) r' (by rw [ed]; exact idx_no f h0)
    rw [hl'] at h
    exact h
  · exact name_out A _ c (-1) w (.inl (by decide))

set_option maxHeartbeats 2000000 in
set_option maxRecDepth 100000 in
theorem walk (w : World) (A0 : Option Addr) (l0 : List UInt8) (c0 : Nat) (a1 : ByteArray) (A2 : Option Addr) (l2 : List UInt8) (c2 : Nat) (n0 : l0.length ≤ c0) (m0 : c0 ≤ maxLen) (r0 : Rd w A0 l0) (w1 : a1.size ≤ maxLen) (n2 : l2.length ≤ c2) (m2 : c2 ≤ maxLen) (r2 : Rd w A2 l2) :
    Calls Try.prog 4 #[.slice A0 l0.length c0, .string a1, .slice A2 l2.length c2] w fun e w' => e = .returned (.bool true) ∧ Up w w' := by
  have hk := of_string
  obtain ⟨k0, p0, e0, p0a, p0b, p0c, q0, R0⟩ := cut50 n0 r0
  obtain ⟨k2, p2, e2, p2a, p2b, p2c, q2, R2⟩ := cut50 n2 r2
  obtain ⟨p1, p1a, p1b, q1⟩ : ∃ p : Nat, p ≤ 50 ∧ p ≤ a1.size ∧ min (a1.size : Int) 50 = p := ⟨min a1.size 50, by omega, by omega, by omega⟩
  have R0 := Lib.hid R0; have R2 := Lib.hid R2
  have E0 := Lib.hid e0; have E2 := Lib.hid e2
  clear e0 e2 r0 r2
  go_enter Try.func4, Try.ntmps4
  go_wp2_with fail
  refine (shown_any _).mono ?_; rintro e w1 ⟨rfl, hu⟩; replace hu := Lib.hid hu
  go_wp2
  have gc := grownCap_ge w1 p1 0 5
  have gm := grownCap_le_maxLen w1 p1 0 5 (by unfold maxLen; omega)
  generalize grownCap w1 p1 0 5 = cap at gc gm ⊢
  have B := Bk.bytes w1 (a1.extract 0 p1)
  have U := Up.bytes w1 (a1.extract 0 p1)
  have hL : (a1.extract 0 p1).data.toList.length = p1 := by
    rw [Array.length_toList]; show (a1.extract 0 p1).size = p1; rw [ByteArray.size_extract]; omega
  generalize Lib.bytesWorld w1 5 (a1.extract 0 p1) = w2 at B U ⊢
  generalize (a1.extract 0 p1).data.toList = L at B hL
  have gl : w1.heap.size ≤ w1.heap.size := Nat.le_refl _
  generalize hgg : w1.heap.size = g at B ⊢
  rw [hgg] at gl
  have HG : Hid (w1.heap.size ≤ g) := Lib.hid (by omega)
  have HL := Lib.hid hL
  clear gl hgg hL hk
  go_loopw [9] (fun i wr => ∃ j : Nat, j ≤ p1 ∧ i = .int .i64 j ∧ Bk wr g (mx j L) ∧ Up w1 wr) (fun i _ => p1 - (intOf i).toNat)
  case atStart => exact ⟨0, Nat.zero_le _, rfl, by rw [mx_zero]; exact B, U⟩
  case round =>
    clear B U
    obtain ⟨j, hj, rfl, B, U⟩ := hrel
    have B := Lib.hid B; have U := Lib.hid U
    by_cases hlt : j < p1
    · obtain ⟨c1, c2⟩ := B.out j (by rw [mx_len (by rw [HL.out]; exact hj), HL.out]; exact hlt)
      rw [mx_at (by rw [HL.out]; exact hlt)] at c1
      by_cases hx : L.getD j 0 = 0
      · rw [hx] at c1
        have c1 : wr.cell? ⟨g, j, none⟩ = some (.int .u8 0) := c1
        go_wp2
        go_roundw
        case rel =>
          refine ⟨j + 1, by omega, by go_num, ?_, U.out.setCell' (p := ⟨g, j, none⟩) HG.out _⟩
          rw [mx_turn (by rw [HL.out]; exact hlt) hx]
          exact B.out.set (by rw [mx_len (by rw [HL.out]; exact hj), HL.out]; exact hlt) 1
        case measure => simp [intOf]; omega
      · have hx' : ¬ (L.getD j 0).toNat = 0 := fun h => hx (toNat_zero.1 h)
        have hn : Hid (mx (j + 1) L = mx j L) := Lib.hid (mx_keep (by rw [HL.out]; exact hlt) hx)
        generalize (L.getD j 0).toNat = x at c1 hx'
        have hx2 : (((x : Nat) : Int) == 0) = false := by simp; omega
        go_wp2
        go_roundw
        case rel => exact ⟨j + 1, by omega, by go_num, by rw [hn.out]; exact B.out, U.out⟩
        case measure => simp [intOf]; omega
    · have hjp : j = p1 := by omega
      subst hjp
      have B' : Bk wr g (fx L) := by
        have := B.out
        rw [show j = L.length from HL.out.symm, mx_all] at this; exact this
      have B' := Lib.hid B'
      clear B
      have V := Lib.hid (hu.out.trans U.out)
      have F : Hid ((fx L).length = j) := Lib.hid (by rw [fx_len]; exact HL.out)
      clear hu U HG
      go_wp2_with (at_builtin; refine wpList_append_bytes _ rfl (.tmp 50) (.tmp 51) rfl wr.heap.size _ [] rfl (Ow.empty wr _ (Nat.le_refl _)) A0 k0 p0 c0 rfl E0.out (R0.out.up (V.out.alloc' _)) ?d1 ?d2 ?_)
      case d1 => have := E0.out; simp; omega
      case d2 => simp
      intro v1 w3 o1 g1 _
      have o1 : Ow w3 wr.heap.size v1 k0 := by simpa using o1
      have u1 : Up wr w3 := (Up.alloc wr _).grown g1 (fun k hk => by simp [Value.ownBlock] at hk; omega)
      have o1 := Lib.hid o1; have u1 := Lib.hid u1
      clear g1
      go_wp2_with (at_builtin; refine wpList_append_bytes _ rfl (.tmp 52) (.tmp 53) rfl wr.heap.size _ _ rfl o1.out (some ⟨g, 0, none⟩) (fx L) j cap rfl F.out (B'.out.rd.up u1.out) ?d3 u1.out.size ?_)
      case d3 => have := E0.out; have := F.out; omega
      intro v2 w4 o2 g2 _
      have u2 := Lib.hid (u1.out.grown g2 o1.out.block)
      have o2 := Lib.hid o2
      clear g2 o1
      go_wp2_with (at_builtin; refine wpList_append_bytes _ rfl (.tmp 54) (.tmp 55) rfl wr.heap.size _ _ rfl (o2.out.up (Up.alloc _ _)) (some ⟨w4.heap.size, 0, none⟩) [0] 1 1 rfl rfl (Rd.one w4 0 0 5 rfl) ?d4 ?d5 ?_)
      case d4 => have := E0.out; have := F.out; simp; omega
      case d5 => have := u2.out.size; simp; omega
      intro v3 w5 o3 g3 _
      have o3 : Ow w5 wr.heap.size v3 (k0 ++ fx L ++ [0]) := by simpa using o3
      have u3 := Lib.hid ((u2.out.alloc' _).grown g3 o2.out.block)
      have o3 := Lib.hid o3
      clear g3 o2 u1 u2
      go_wp2_with (at_builtin; refine wpList_append_bytes _ rfl (.tmp 56) (.tmp 57) rfl wr.heap.size _ _ rfl o3.out A2 k2 p2 c2 rfl E2.out (R2.out.up (V.out.trans u3.out)) ?d6 u3.out.size ?_)
      case d6 => have := E0.out; have := E2.out; have := F.out; simp; omega
      intro v4 w6 o4 g4 _
      have o4 : Ow w6 wr.heap.size v4 (k0 ++ fx L ++ [0] ++ k2) := by simpa using o4
      have u4 := u3.out.grown g4 o3.out.block
      obtain ⟨A, c, rfl, hc, hcm, hr, _⟩ := o4.form
      have B6 := B'.out.rd.up u4
      have Z := convert_at w6 g 0 j cap (fx L) F.out B6
      obtain ⟨N1, N2, N3, N4⟩ := looks A k0 (fx L) k2 p0 j _ c w6 E0.out F.out (fx_no L) rfl hc hcm hr
      have hq : (k0 ++ fx L ++ [0] ++ k2).length = p0 + j + 1 + p2 := by
        rw [List.length_append, List.length_append, List.length_append, E0.out, F.out, E2.out]; rfl
      rw [hq] at N1 N2 N4 hc ⊢
      have V6 := Lib.hid (V.out.trans u4)
      have N1 := Lib.hid N1; have N2 := Lib.hid N2; have N3 := Lib.hid N3; have N4 := Lib.hid N4
      generalize str (fx L) = S at Z N1
      clear hq hr o4 g4 o3 u3 u4 B6 B' V
      unfold maxLen at hcm
      go_wp2_with fail
      refine N1.out.mono ?_; rintro e w' ⟨rfl, rfl⟩
      go_wp2_with fail
      refine N2.out.mono ?_; rintro e w' ⟨rfl, rfl⟩
      go_wp2_with fail
      refine N3.out.mono ?_; rintro e w' ⟨rfl, rfl⟩
      go_wp2_with fail
      refine N4.out.mono ?_; rintro e w' ⟨rfl, rfl⟩
      go_wp2
      go_ret
      exact ⟨rfl, V6.out⟩

theorem readable : ∀ t ∈ Try.f4.params.toList, Try.prog.readableRec t = true ∧ t < Try.prog.types.size := by
  rw [Try.params4]
  intro t ht
  have hall : ([22, 9, 22].all fun u => Try.prog.readableRec u && decide (u < Try.prog.types.size)) = true := by kernel_rfl
  have := List.all_eq_true.1 hall t (by simpa using ht)
  simpa using this

set_option maxRecDepth 100000 in
theorem lifted (os : Os) (started : os.Started) (H : Type) (enc : TypeId × Value → H) :
    ReturnsInHanded {} Try.checked os 4 .any (Rows.octetsNamesSpec.pre6 enc Try.prog Try.f4 Rows.octetsNamesRow.domain false) (Rows.octetsNamesSpec.post enc Try.prog Try.f4 false true false false) := by
  refine returnsInHanded_of_change (C := Try.checked) own started (by kernel_rfl) Try.func4
    (ChangeSpec.witness6 (enc := enc) (C := Try.checked) false ⟨#[], #[.slice none 0 0, .string ByteArray.empty, .slice none 0 0], []⟩ 8 (by kernel_rfl) (by kernel_rfl) (by kernel_rfl) (by kernel_rfl)) ?_
  intro W base args ds gs before hval0 hW hcnd _
  have hval : ∀ (j : Nat) t v, Try.f4.params[j]? = some t → args[j]? = some v → Value.okWide Try.prog W .any base t v := hval0
  have hW' := hW
  obtain ⟨p, q, hA0, hV, rfl, hfz, hnd⟩ := hW
  have hA : DataW.TrodAll enc Try.prog W 0 (fun _ => true) true Try.f4.params.toList args.toList ds p := hA0
  rw [Try.params4] at hA hval
  obtain ⟨v0, vs0, d0, ds0, p0, q0, hargs, rfl, rfl, h0, r0⟩ := trodAll_cons hA
  obtain ⟨v1, vs1, d1, ds1, p1, q1, rfl, rfl, rfl, h1, r1⟩ := trodAll_cons r0
  obtain ⟨v2, vs2, d2, ds2, p2, q2, rfl, rfl, rfl, h2, r2⟩ := trodAll_cons r1
  obtain ⟨rfl, rfl, rfl⟩ := trodAll_nil r2
  obtain rfl : args = #[v0, v1, v2] := by cases args; simp_all
  obtain ⟨rfl, rfl⟩ := trodVars_none hV
  obtain ⟨A0, l0, c0, rfl, n0, m0, R0⟩ := open_bytes (hval 0 22 v0 rfl rfl) h0
  obtain ⟨a1, rfl, rfl, rfl, w1⟩ := Go.ChangeMaps.open_string Try.underlying9 (hval 1 9 v1 rfl rfl) h1
  obtain ⟨A2, l2, c2, rfl, n2, m2, R2⟩ := open_bytes (hval 2 22 v2 rfl rfl) h2
  clear hA0 hval0
  refine (walk W A0 l0 c0 a1 A2 l2 c2 n0 m0 R0 w1 n2 m2 R2).mono fun e W' ⟨he, hg⟩ => ?_
  subst he
  exact ⟨_, rfl, post_up laidOut readable rfl hW' (fun _ _ _ => (trodAll_cons_mk (shut_bool Try.underlying4 _) trodAll_mk0)) rfl rfl
    hg (ok_one (by kernel_rfl) rfl (okWide_bool_mk Try.underlying4 _))⟩

theorem over : Rows.octetsNamesRow.holds Try.pinned (OpenSpec.ofChange Rows.octetsNamesSpec) :=
  OpenClaim.holds_of_wide 4 Try.f4 rfl rfl rfl rfl rfl rfl rfl ⟨rfl, rfl, rfl, rfl, rfl⟩ rfl rfl rfl rfl rfl (by kernel_rfl) Try.func4 (by kernel_rfl)
    (of_decide_eq_true (by kernel_rfl)) (by unfold Func.isWrapper; first | (rw [if_pos (by decide +kernel)]; kernel_rfl) | (rw [if_neg (by decide +kernel)]; exact ⟨rfl, rfl⟩))
    (fun os started H enc _ => lifted os started H enc)

theorem proved : Rows.OctetsNamesSaid :=
  over
end Go.Proofs.Ytdhlcnmiibfhgaa.octetsNames
