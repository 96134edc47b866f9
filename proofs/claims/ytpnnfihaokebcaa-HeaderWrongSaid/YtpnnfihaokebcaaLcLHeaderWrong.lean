/-
  Whatever the header, place, and bytes: another one of the first four bytes, or a version that is none, is no header (longcaselaw05.HeaderWrong). No condition.
-/
import Derived.Test.YtpnnfihaokebcaaLcShown5
import Derived.Test.YtpnnfihaokebcaaLcPst
import Derived.Test.YtpnnfihaokebcaaLcHdO
import Derived.Test.YtpnnfihaokebcaaLcRow
import Derived.WalkKit
import Derived.Deep.RegionHeld
import Derived.BigQuiet
import Derived.ProofKit
import Derived.OpenShut
namespace Go.Proofs.Ytpnnfihaokebcaa.headerWrong
open Go.ChangeShapes Go.WideShapes Go.ChangeAt Go.RowKit Lc
set_option linter.unusedVariables false

theorem own : ownKnob Try.prog.godebug = none := by kernel_rfl

theorem mask3 (a : Int) : ∃ n : Nat, n < 4 ∧ bits .and .i64 a 3 = n := by
  refine ⟨(BitVec.ofInt 64 a).toNat &&& 3, ?_, ?_⟩
  · have := Nat.and_le_right (n := (BitVec.ofInt 64 a).toNat) (m := 3); omega
  · have l := Nat.and_le_right (n := (BitVec.ofInt 64 a).toNat) (m := 3)
    show IntKind.i64.wrap (((BitVec.ofInt 64 a &&& BitVec.ofInt 64 3).toNat : Nat) : Int) = _
    rw [BitVec.toNat_and, show (BitVec.ofInt 64 3).toNat = 3 from by decide]
    exact IntWalk.i64_in _ (by omega)
theorem byte_of {a : Int} (h : (Lit.int .u8 a).wf = true) : ∃ b : UInt8, a = b.toNat := by
  have : 0 ≤ a ∧ a ≤ 255 := by simpa [Lit.wf, IntKind.min, IntKind.max, IntKind.bits, IntKind.signed] using h
  refine ⟨UInt8.ofNat a.toNat, ?_⟩
  rw [UInt8.toNat_ofNat']
  omega
theorem xor8 (x y : UInt8) : bits .xor .u8 (x.toNat : Int) (y.toNat : Int) = ((x ^^^ y).toNat : Int) := by
  have hx := x.toNat_lt; have hy := y.toNat_lt
  show IntKind.u8.wrap (((BitVec.ofInt 8 x.toNat ^^^ BitVec.ofInt 8 y.toNat).toNat : Nat) : Int) = _
  rw [BitVec.toNat_xor, UInt8.toNat_xor]
  have e : ∀ z : UInt8, (BitVec.ofInt 8 (z.toNat : Int)).toNat = z.toNat := fun z => by
    have hz := z.toNat_lt
    rw [BitVec.ofInt_natCast, BitVec.toNat_ofNat]
    omega
  rw [e, e]
  have l : x.toNat ^^^ y.toNat < 2 ^ 8 := Nat.xor_lt_two_pow (by omega) (by omega)
  simp [IntKind.wrap, IntKind.bits, IntKind.signed]
  omega
theorem xor_self_zero (x : UInt8) : x ^^^ 0 = x := by simp
theorem xor_other {x y : UInt8} (h : ¬ y = 0) : ¬ x ^^^ y = x := fun e => h (by
  have : x ^^^ (x ^^^ y) = x ^^^ x := by rw [e]
  simpa [← UInt8.xor_assoc] using this)
theorem set_same (X : List UInt8) (s : Nat) (h : s < X.length) : X.set s (X.getD s 0) = X := by
  have : X.getD s 0 = X[s] := by simp [List.getD, h]
  rw [this, List.set_getElem_self]
/-- One of the first four bytes is another one, or not. -/
theorem wrong1 {v u s l t y c : Int} {X : List UInt8} (hb : IsB X v u s l t y c) (r : rightH v u s l t y c = true) (k : Nat) (hk : k < 4) (b : UInt8) : errH (X.set k (X.getD k 0 ^^^ b)) = if b = 0 then 0 else 4 := by
  have hl := isB_len hb
  by_cases h0 : b = 0
  · subst h0
    rw [xor_self_zero, set_same _ _ (by omega), if_pos rfl]
    exact (isB_read hb r).2.1
  · rw [if_neg h0]
    obtain ⟨p, q, hp, rfl⟩ := hb
    have : ((tz ++ (markB v :: p) ++ (numB [u, s, l, t, y, c] ++ q)).set k ((tz ++ (markB v :: p) ++ (numB [u, s, l, t, y, c] ++ q)).getD k 0 ^^^ b)).take 4 ≠ tz := by
      have hk4 : k = 0 ∨ k = 1 ∨ k = 2 ∨ k = 3 := by omega
      rcases hk4 with rfl | rfl | rfl | rfl
      · intro e; have := congrArg (fun z => z.getD 0 0) e; exact xor_other h0 this
      · intro e; have := congrArg (fun z => z.getD 1 0) e; exact xor_other h0 this
      · intro e; have := congrArg (fun z => z.getD 2 0) e; exact xor_other h0 this
      · intro e; have := congrArg (fun z => z.getD 3 0) e; exact xor_other h0 this
    unfold errH
    rw [isH_form this, List.length_set, if_neg (by omega)]
    rfl
theorem isB_vers {v u s l t y c : Int} {X : List UInt8} (hb : IsB X v u s l t y c) (v' : Int) : IsB (X.set 4 (markB v')) v' u s l t y c := by
  obtain ⟨p, q, hp, rfl⟩ := hb
  exact ⟨p, q, hp, rfl⟩
theorem rightH_v {v v' u s l t y c : Int} (r : rightH v u s l t y c = true) (h1 : 1 ≤ v') (h4 : v' ≤ 4) : rightH v' u s l t y c = true := by
  have := rightH_true.1 r
  exact rightH_true.2 (by omega)
/-- Another version's byte, one of the four. -/
theorem may2 {v u s l t y c : Int} {X : List UInt8} (hb : IsB X v u s l t y c) (r : rightH v u s l t y c = true) (b : UInt8) (h : b.toNat = 0 ∨ (50 ≤ b.toNat ∧ b.toNat ≤ 52)) : ∃ v', errH (X.set 4 b) = 0 ∧ decH (X.set 4 b) = hv v' u s l t y c := by
  have : ∃ v' : Int, 1 ≤ v' ∧ v' ≤ 4 ∧ b = markB v' := by
    have : b.toNat = 0 ∨ b.toNat = 50 ∨ b.toNat = 51 ∨ b.toNat = 52 := by omega
    rcases this with h | h | h | h
    · exact ⟨1, by omega, by omega, UInt8.toNat_inj.1 h⟩
    · exact ⟨2, by omega, by omega, UInt8.toNat_inj.1 h⟩
    · exact ⟨3, by omega, by omega, UInt8.toNat_inj.1 h⟩
    · exact ⟨4, by omega, by omega, UInt8.toNat_inj.1 h⟩
  obtain ⟨v', h1, h4, rfl⟩ := this
  have h := isB_read (isB_vers hb v') (rightH_v r h1 h4)
  exact ⟨v', h.2.1, h.2.2⟩
theorem vers_no {b : UInt8} (h0 : ¬ b.toNat = 0) (h : b.toNat < 50 ∨ 52 < b.toNat) : versI b = 0 := by
  unfold versI
  rw [if_neg, if_neg, if_neg, if_neg]
  all_goals (intro e; subst e; revert h0 h; decide)
theorem not2 {v u s l t y c : Int} {X : List UInt8} (hb : IsB X v u s l t y c) (b : UInt8) (h0 : ¬ b.toNat = 0) (h : b.toNat < 50 ∨ 52 < b.toNat) : errH (X.set 4 b) = 4 ∧ decH (X.set 4 b) = hv 0 0 0 0 0 0 0 := by
  have hl := isB_len hb
  have hg : (X.set 4 b).getD 4 0 = b := by
    obtain ⟨p, q, hp, rfl⟩ := hb
    rfl
  have : isH (X.set 4 b) = false := by
    unfold isH rawB
    rw [hg, vers_no h0 h]
    simp [rightH]
  unfold errH decH
  rw [this, List.length_set, if_neg (by omega)]
  exact ⟨rfl, rfl⟩
theorem decH_hv (x : List UInt8) : ∃ v u s l t y c : Int, decH x = hv v u s l t y c := by
  unfold decH
  split
  · exact ⟨_, _, _, _, _, _, _, rfl⟩
  · exact ⟨_, _, _, _, _, _, _, rfl⟩
theorem decB (g : Nat) (Y : List UInt8) (c : Nat) (w : World) (hl : Y.length = 44) (hc : 44 ≤ c) (hcm : c ≤ maxLen) (hb : Bk w g Y) :
    Calls Try.prog 17 #[.slice (some ⟨g, 0, none⟩) 44 c] w fun e w' => e = .returned (.tuple #[decH Y, .int .i64 (errH Y)]) ∧ Up w w' := by
  have := decode_any (some ⟨g, 0, none⟩) Y c w (by omega) hcm hb.rd
  rw [hl] at this
  exact this

set_option maxHeartbeats 4000000 in
set_option maxRecDepth 100000 in
theorem walk (w : World) (ve0 ut0 st0 le0 ti0 ty0 ch0 : Int) (a1 : Int) (a2 : Int) (a3 : Int) (wve0 : (Lit.int .i64 ve0).wf = true) (wut0 : (Lit.int .i64 ut0).wf = true) (wst0 : (Lit.int .i64 st0).wf = true) (wle0 : (Lit.int .i64 le0).wf = true) (wti0 : (Lit.int .i64 ti0).wf = true) (wty0 : (Lit.int .i64 ty0).wf = true) (wch0 : (Lit.int .i64 ch0).wf = true) (w1 : (Lit.int .i64 a1).wf = true) (w2 : (Lit.int .u8 a2).wf = true) (w3 : (Lit.int .u8 a3).wf = true) :
    Calls Try.prog 6 #[hv ve0 ut0 st0 le0 ti0 ty0 ch0, .int .i64 a1, .int .u8 a2, .int .u8 a3] w fun e w' => e = .returned (.bool true) ∧ Up w w' := by
  obtain ⟨s, hs, he⟩ := mask3 a1
  obtain ⟨by', rfl⟩ := byte_of w2
  obtain ⟨ver, rfl⟩ := byte_of w3
  have B0 := Lib.hid (HBox.new w ve0 ut0 st0 le0 ti0 ty0 ch0 23)
  cases r : rightH ve0 ut0 st0 le0 ti0 ty0 ch0
  · have E := Lib.hid fun w => encode_no ve0 ut0 st0 le0 ti0 ty0 ch0 w r
    clear r
    go_enter Try.func6, Try.ntmps6
    go_wp2_with fail
    refine (shown_any _).mono ?_; rintro e w1 ⟨rfl, u1⟩
    have B1 := Lib.hid (B0.out.up u1)
    have U1 := Lib.hid ((Up.alloc w (.cells #[.int .i64 ve0, .int .i64 ut0, .int .i64 st0, .int .i64 le0, .int .i64 ti0, .int .i64 ty0, .int .i64 ch0] 23)).trans u1)
    clear u1 B0
    obtain ⟨a0, a1, a2, a3, a4, a5, a6⟩ := B1.out
    go_wp2_with fail
    refine (E.out _).mono ?_; rintro e w4 ⟨rfl, u4⟩
    have U4 := Lib.hid (U1.out.trans u4)
    clear u4 B1 U1 a0 a1 a2 a3 a4 a5 a6
    go_wp2_with fail
    go_ret
    exact ⟨rfl, U4.out⟩
  · have E := Lib.hid fun w => encode_yes ve0 ut0 st0 le0 ti0 ty0 ch0 w r
    have eL := encB_len ve0 ut0 st0 le0 ti0 ty0 ch0
    have IS : IsB (encB ve0 ut0 st0 le0 ti0 ty0 ch0) ve0 ut0 st0 le0 ti0 ty0 ch0 := by have := isB_enc ve0 ut0 st0 le0 ti0 ty0 ch0 []; rwa [List.append_nil] at this
    have W1 := Lib.hid (wrong1 IS r s hs by')
    have M2 := Lib.hid (may2 IS r ver)
    have N2 := Lib.hid (not2 IS ver)
    clear IS
    generalize encB ve0 ut0 st0 le0 ti0 ty0 ch0 = X at *
    have XL := Lib.hid eL
    clear eL
    go_enter Try.func6, Try.ntmps6
    go_wp2_with fail
    refine (shown_any _).mono ?_; rintro e w1 ⟨rfl, u1⟩
    have B1 := Lib.hid (B0.out.up u1)
    have U1 := Lib.hid ((Up.alloc w (.cells #[.int .i64 ve0, .int .i64 ut0, .int .i64 st0, .int .i64 le0, .int .i64 ti0, .int .i64 ty0, .int .i64 ch0] 23)).trans u1)
    clear u1 B0
    obtain ⟨a0, a1, a2, a3, a4, a5, a6⟩ := B1.out
    go_wp2_with fail
    refine (E.out _).mono ?_; rintro e w4 ⟨a, rfl, ho, u4⟩
    obtain ⟨A, c, rfl, hc, hcm, hr, _⟩ := ho.form
    rw [XL.out] at hc ⊢
    have R4 := Lib.hid hr
    have B4 := Lib.hid (B1.out.up u4)
    have U4 := Lib.hid (U1.out.trans u4)
    clear u4 B1 U1 a0 a1 a2 a3 a4 a5 a6 ho hr
    go_wp2_with (at_builtin; refine wpList_append_bytes _ rfl _ _ rfl w4.heap.size _ [] rfl (Ow.empty w4 _ (Nat.le_refl _)) A X 44 c rfl XL.out (R4.out.up (Up.alloc _ _)) (by rw [XL.out]; decide) (by simp) ?_)
    intro v5 w5 ho5 hg5 hat5
    replace ho5 : Ow w5 w4.heap.size v5 X := by simpa using ho5
    have U5 : Hid (Up w4 w5) := (Up.alloc w4 _).grown hg5 (by intro k hk; simp [Value.ownBlock] at hk; omega)
    obtain ⟨g, c5, rfl, g0, g1, hc5, hcm5, bk5⟩ := ho5.bk (by rw [XL.out]; omega)
    rw [XL.out] at hc5 ⊢
    have K5 := Lib.hid bk5
    clear ho5 hg5 hat5 bk5
    obtain ⟨y1, y2⟩ := K5.out s (by rw [XL.out]; omega)
    have xx := xor8 (X.getD s 0) by'
    have T1 := Lib.hid (K5.out.set (i := s) (by rw [XL.out]; omega) (X.getD s 0 ^^^ by'))
    have D1 := decB g (X.set s (X.getD s 0 ^^^ by')) c5 _ (by rw [List.length_set]; exact XL.out) hc5 hcm5 T1.out
    rw [W1.out] at D1
    obtain ⟨n0, n1, n2, n3, n4, n5, n6, hn⟩ := decH_hv (X.set s (X.getD s 0 ^^^ by'))
    rw [hn] at D1
    obtain ⟨e1, E1⟩ : ∃ e1 : Int, e1 = if by' = 0 then 0 else 4 := ⟨_, rfl⟩
    rw [← E1] at D1
    replace D1 := Lib.hid D1; replace E1 := Lib.hid E1
    have U5' : Hid (Up w4 (w5.setCell ⟨g, s, none⟩ (.int .u8 (X.getD s 0 ^^^ by').toNat))) := U5.out.setCell' g0 _
    clear hn T1 K5 W1
    generalize X.getD s 0 ^^^ by' = z at *
    generalize ((X.getD s 0).toNat : Int) = x at *
    go_wp2_with fail
    refine D1.out.mono ?_; rintro e w6 ⟨rfl, u6⟩
    have U6 := Lib.hid ((U5'.out.trans u6).alloc' (.cells #[.int .i64 n0, .int .i64 n1, .int .i64 n2, .int .i64 n3, .int .i64 n4, .int .i64 n5, .int .i64 n6] 23))
    have OE := Ow.empty (w6.alloc (.cells #[.int .i64 n0, .int .i64 n1, .int .i64 n2, .int .i64 n3, .int .i64 n4, .int .i64 n5, .int .i64 n6] 23)) w4.heap.size U6.out.size
    rw [World.size_alloc] at OE
    replace OE := Lib.hid OE
    clear u6 D1 U5' U5 xx y1 y2
    go_wp2_with (at_builtin; refine wpList_append_bytes _ rfl _ _ rfl w4.heap.size _ [] rfl OE.out A X 44 c rfl XL.out (R4.out.up (U6.out.alloc' _)) (by rw [XL.out]; decide) ?e3 ?_)
    case e3 => have := U6.out.size; simp at this ⊢; omega
    intro v7 w7 ho7 hg7 hat7
    replace ho7 : Ow w7 w4.heap.size v7 X := by simpa using ho7
    have U7 : Hid (Up w4 w7) := (U6.out.alloc' _).grown hg7 (by intro k hk; simp [Value.ownBlock] at hk; have := U6.out.size; simp at this; omega)
    obtain ⟨h, c7, rfl, h0, h1, hc7, hcm7, bk7⟩ := ho7.bk (by rw [XL.out]; omega)
    rw [XL.out] at hc7 ⊢
    obtain ⟨y1, y2⟩ := bk7 4 (by rw [XL.out]; omega)
    have T2 := bk7.set (i := 4) (by rw [XL.out]; omega) ver
    have D2 := decB h (X.set 4 ver) c7 _ (by rw [List.length_set]; exact XL.out) hc7 hcm7 T2
    have U8 : Hid (Up w4 (w7.setCell ⟨h, 4, none⟩ (.int .u8 ver.toNat))) := U7.out.setCell' h0 _
    clear ho7 hg7 hat7 bk7 T2 OE U6
    have HB : (by'.toNat = 0 ∧ e1 = 0) ∨ (0 < by'.toNat ∧ e1 = 4) := by
      rw [E1.out]
      by_cases hb : by' = 0
      · exact .inl ⟨by rw [hb]; rfl, by rw [if_pos hb]⟩
      · exact .inr ⟨Nat.pos_of_ne_zero fun h => hb (UInt8.toNat_inj.1 h), by rw [if_neg hb]⟩
    have HV : ∃ m0 m1 m2 m3 m4 m5 m6 e2 : Int, decH (X.set 4 ver) = hv m0 m1 m2 m3 m4 m5 m6 ∧ errH (X.set 4 ver) = e2 ∧ ((ver.toNat = 0 ∨ (50 ≤ ver.toNat ∧ ver.toNat ≤ 52)) ∧ e2 = 0 ∧ m4 = ti0 ∨ ((0 < ver.toNat ∧ ver.toNat < 50) ∨ 52 < ver.toNat) ∧ e2 = 4 ∧ m0 = 0 ∧ m1 = 0 ∧ m2 = 0 ∧ m3 = 0 ∧ m4 = 0 ∧ m5 = 0 ∧ m6 = 0) := by
      by_cases hm : ver.toNat = 0 ∨ (50 ≤ ver.toNat ∧ ver.toNat ≤ 52)
      · obtain ⟨v', q1, q2⟩ := M2.out hm
        exact ⟨_, _, _, _, _, _, _, _, q2, q1, .inl ⟨hm, rfl, rfl⟩⟩
      · obtain ⟨q1, q2⟩ := N2.out (by omega) (by omega)
        exact ⟨_, _, _, _, _, _, _, _, q2, q1, .inr ⟨by omega, rfl, rfl, rfl, rfl, rfl, rfl, rfl, rfl⟩⟩
    obtain ⟨m0, m1, m2, m3, m4, m5, m6, e2, q1, q2, HV⟩ := HV
    rw [q1, q2] at D2
    have vl := ver.toNat_lt
    have bl := by'.toNat_lt
    clear q1 q2 E1 M2 N2
    generalize ver.toNat = vn at *
    generalize by'.toNat = bn at *
    replace D2 := Lib.hid D2
    rcases HB with ⟨rfl, rfl⟩ | ⟨b0, rfl⟩ <;> rcases HV with ⟨rfl | ⟨v0, v0'⟩, rfl, rfl⟩ | ⟨⟨v0, v0'⟩ | v0, rfl, rfl, rfl, rfl, rfl, rfl, rfl, rfl⟩
    all_goals (try have vb0 : ((vn : Int) == 0) = false := by simp; omega)
    all_goals (try have vb1 : decide ((vn : Int) ≤ 52) = true := by simp; omega)
    all_goals (try have vb2 : decide ((vn : Int) ≤ 52) = false := by simp; omega)
    all_goals (try have vb3 : decide ((50 : Int) ≤ (vn : Int)) = true := by simp; omega)
    all_goals (try have vb4 : decide ((50 : Int) ≤ (vn : Int)) = false := by simp; omega)
    all_goals (try have bb0 : ((bn : Int) == 0) = false := by simp; omega)
    all_goals
      go_wp2_with fail
      refine D2.out.mono ?_; rintro e w9 ⟨rfl, u9⟩
      have U9 := Lib.hid (U8.out.trans u9)
      obtain ⟨a0, a1, a2, a3, a4, a5, a6⟩ := B4.out.up U9.out
      have lt := cell_lt a0
      clear u9 U8 D2 B4 U7
      go_wp2_with fail
      go_ret
      exact ⟨rfl, U4.out.trans (U9.out.alloc' _)⟩

theorem readable : ∀ t ∈ Try.f6.params.toList, Try.prog.readableRec t = true ∧ t < Try.prog.types.size := by
  rw [Try.params6]
  intro t ht
  have hall : ([23, 3, 5, 5].all fun u => Try.prog.readableRec u && decide (u < Try.prog.types.size)) = true := by kernel_rfl
  have := List.all_eq_true.1 hall t (by simpa using ht)
  simpa using this

set_option maxRecDepth 100000 in
theorem lifted (os : Os) (started : os.Started) (H : Type) (enc : TypeId × Value → H) :
    ReturnsInHanded {} Try.checked os 6 .any (Rows.headerWrongSpec.pre6 enc Try.prog Try.f6 Rows.headerWrongRow.domain false) (Rows.headerWrongSpec.post enc Try.prog Try.f6 false true false false) := by
  refine returnsInHanded_of_change (C := Try.checked) own started (by kernel_rfl) Try.func6
    (ChangeSpec.witness6 (enc := enc) (C := Try.checked) false ⟨#[], #[hv 0 0 0 0 0 0 0, .int .i64 0, .int .u8 0, .int .u8 0], []⟩ 8 (by kernel_rfl) (by kernel_rfl) (by kernel_rfl) (by kernel_rfl)) ?_
  intro W base args ds gs before hval0 hW hcnd _
  have hval : ∀ (j : Nat) t v, Try.f6.params[j]? = some t → args[j]? = some v → Value.okWide Try.prog W .any base t v := hval0
  have hW' := hW
  obtain ⟨p, q, hA0, hV, rfl, hfz, hnd⟩ := hW
  have hA : DataW.TrodAll enc Try.prog W 0 (fun _ => true) true Try.f6.params.toList args.toList ds p := hA0
  rw [Try.params6] at hA hval
  obtain ⟨v0, vs0, d0, ds0, p0, q0, hargs, rfl, rfl, h0, r0⟩ := trodAll_cons hA
  obtain ⟨v1, vs1, d1, ds1, p1, q1, rfl, rfl, rfl, h1, r1⟩ := trodAll_cons r0
  obtain ⟨v2, vs2, d2, ds2, p2, q2, rfl, rfl, rfl, h2, r2⟩ := trodAll_cons r1
  obtain ⟨v3, vs3, d3, ds3, p3, q3, rfl, rfl, rfl, h3, r3⟩ := trodAll_cons r2
  obtain ⟨rfl, rfl, rfl⟩ := trodAll_nil r3
  obtain rfl : args = #[v0, v1, v2, v3] := by cases args; simp_all
  obtain ⟨rfl, rfl⟩ := trodVars_none hV
  obtain ⟨ve0, ut0, st0, le0, ti0, ty0, ch0, rfl, wve0, wut0, wst0, wle0, wti0, wty0, wch0⟩ := open_hdr (hval 0 23 v0 rfl rfl) h0
  obtain ⟨a1, rfl, rfl, rfl, w1⟩ := open_int Try.underlying3 (hval 1 3 v1 rfl rfl) h1
  obtain ⟨a2, rfl, rfl, rfl, w2⟩ := open_int Try.underlying5 (hval 2 5 v2 rfl rfl) h2
  obtain ⟨a3, rfl, rfl, rfl, w3⟩ := open_int Try.underlying5 (hval 3 5 v3 rfl rfl) h3
  clear hA0 hval0
  refine (walk W ve0 ut0 st0 le0 ti0 ty0 ch0 a1 a2 a3 wve0 wut0 wst0 wle0 wti0 wty0 wch0 w1 w2 w3).mono fun e W' ⟨he, hg⟩ => ?_
  subst he
  exact ⟨_, rfl, post_up laidOut readable rfl hW' (fun _ _ _ => (trodAll_cons_mk (shut_bool Try.underlying4 _) trodAll_mk0)) rfl rfl
    hg (ok_one (by kernel_rfl) rfl (okWide_bool_mk Try.underlying4 _))⟩

theorem over : Rows.headerWrongRow.holds Try.pinned (OpenSpec.ofChange Rows.headerWrongSpec) :=
  OpenClaim.holds_of_wide 6 Try.f6 rfl rfl rfl rfl rfl rfl rfl ⟨rfl, rfl, rfl, rfl, rfl⟩ rfl rfl rfl rfl rfl (by kernel_rfl) Try.func6 (by kernel_rfl)
    (of_decide_eq_true (by kernel_rfl)) (by unfold Func.isWrapper; first | (rw [if_pos (by decide +kernel)]; kernel_rfl) | (rw [if_neg (by decide +kernel)]; exact ⟨rfl, rfl⟩))
    (fun os started H enc _ => lifted os started H enc)

theorem proved : Rows.HeaderWrongSaid :=
  over
end Go.Proofs.Ytpnnfihaokebcaa.headerWrong
