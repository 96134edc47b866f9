/-
  PosixEnds is proved: for every rule, form, place and byte the statement answers true: a text that is cut is read as another rule, or none; with something behind it is none. Conditions: the tied card's own (the listed variables as the text of the program lays them).
-/
import Derived.Test.YtalpbbgkallohaaDoorLcSh8
import Derived.Test.YtalpbbgkallohaaDoorLcPs8
import Derived.Test.YtalpbbgkallohaaDoorLcOpR
import Derived.Test.YtalpbbgkallohaaDoorLcLd8
import Derived.Test.YtalpbbgkallohaaDoorTie
import Derived.Test.YtalpbbgkallohaaDoorCards
import Derived.WalkKit
import Derived.ProofKit
import Derived.OpenShut
import Derived.LaidMore
import Derived.Stop.Joined
import Derived.SevenTiedAt
namespace Go.Proofs.YtalpbbgkallohaaDoor.posixEnds
open Go.ChangeShapes Go.WideShapes Go.ChangeAt Go.RowKit Lc
set_option linter.unusedVariables false

theorem own : ownKnob Tryd.prog.godebug = none := by kernel_rfl

theorem mask16 (a : Int) : ∃ n : Nat, n < 65536 ∧ bits .and .i64 a 65535 = n := by
  refine ⟨(BitVec.ofInt 64 a).toNat &&& 65535, ?_, ?_⟩
  · have := Nat.and_le_right (n := (BitVec.ofInt 64 a).toNat) (m := 65535); omega
  · have l := Nat.and_le_right (n := (BitVec.ofInt 64 a).toNat) (m := 65535)
    show IntKind.i64.wrap (((BitVec.ofInt 64 a &&& BitVec.ofInt 64 65535).toNat : Nat) : Int) = _
    rw [BitVec.toNat_and, show (BitVec.ofInt 64 65535).toNat = 65535 from by decide]
    exact IntWalk.i64_in _ (by omega)
theorem conv_b (w : World) (a : Int) : (convert 46 9 (.slice (some ⟨w.heap.size, 0, none⟩) 1 1)).run Tryd.prog (w.alloc (.cells #[.int .u8 a] 5)) = .ok (.string (tx [UInt8.ofNat a.toNat])) (w.alloc (.cells #[.int .u8 a] 5)) := by
  have h := run_convert_bytes_arg (P := Tryd.prog) (w.alloc (.cells #[.int .u8 a] 5)) 46 5 Tryd.underlying46 Tryd.underlying5 w.heap.size 0 1 1 [a] rfl (fun i hi => by
    obtain rfl : i = 0 := by omega
    simp) 9 Tryd.underlying9
  rw [h]; rfl
/-- What a cut text is read as. -/
theorem e_cut {r : Ru} {wide : Bool} {m : Nat} (h : m < (ruleT r).length) : parE wide ((ruleT r).take m) = 4 ∨ (parE wide ((ruleT r).take m) = 0 ∧ parR wide ((ruleT r).take m) ≠ r) := by
  have q := whole_cut (wide := wide) h
  unfold parE parR
  cases k : wholeP wide ((ruleT r).take m) with
  | none => exact .inl rfl
  | some s =>
    refine .inr ⟨rfl, fun e => ?_⟩
    simp only [Option.getD_some] at e
    rw [k, e] at q; exact q rfl
theorem e_more {r : Ru} {wide : Bool} (h : rightB r wide = true) (hb : r.both = true) {a : Int} (h0 : 0 ≤ a) (h1 : a < 256) (hd : ¬ (48 ≤ a ∧ a ≤ 57)) (n1 : ¬ a = 58) (n2 : ¬ a = 47) : parE wide (ruleT r ++ [UInt8.ofNat a.toNat]) = 4 := by
  have ta : ((UInt8.ofNat a.toNat).toNat : Int) = a := by rw [UInt8.toNat_ofNat']; omega
  generalize UInt8.ofNat a.toNat = c at ta
  unfold parE
  rw [whole_more h hb (by rw [isD_i, ta]; simp; omega) (fun e => by subst e; exact n1 ta.symm) (fun e => by subst e; exact n2 ta.symm)]
  rfl

set_option maxHeartbeats 8000000 in
set_option maxRecDepth 100000 in
theorem walk (x0 : Ru) (a1 : Bool) (a2 : Int) (a3 : Int) (fo0 : fitB x0.std.off = true) (fd0 : fitB x0.dst.off = true) (ns0 : x0.std.name.length ≤ maxLen) (nd0 : x0.dst.name.length ≤ maxLen) (ft0 : fitB x0.st.tm = true) (fe0 : fitB x0.en.tm = true)  (w2 : (Lit.int .i64 a2).wf = true) (w3 : (Lit.int .u8 a3).wf = true) (w : World) (T : Tabs w) :
    Calls Tryd.prog 11 #[.agg (rA x0), .bool a1, .int .i64 a2, .int .u8 a3] w fun e w' => e = .returned (.bool true) ∧ Up w w' := by
  have SH := Lib.hid (fun w T => shown_any w T)
  have B0 := Lib.hid (Bk.new w (rA x0) 27 (by decide))
  have U0 := Lib.hid (Up.alloc w (.cells (rA x0) 27))
  have TT := Lib.hid T
  clear T
  have ab : 0 ≤ a3 ∧ a3 < 256 := by
    have := bounds_u8 w3
    omega
  have PN := Lib.hid (fun w T => print_any x0 a1 w T ns0 nd0)
  obtain ⟨n, hn, en⟩ := mask16 a2
  have rs : ∀ r, (rA r).size = 17 := fun r => rfl
  cases hr : rightB x0 a1
  · have e1 : prE x0 a1 = 1 := by unfold prE; rw [hr]; rfl
    have e2 : prT x0 a1 = [] := by unfold prT; rw [hr]; rfl
    rw [e1, e2] at PN
    clear e1 e2 en hn ab hr
    go_enter Tryd.func11, Tryd.ntmps11
    go_wp2_with fail
    refine (SH.out _ (Tabs.up TT.out U0.out)).mono ?_; rintro e w1 ⟨rfl, u1⟩
    have B1 := Lib.hid (B0.out.up u1)
    have U1 := Lib.hid (U0.out.trans u1)
    clear u1 B0 U0 SH
    go_upto_region 2 with (fail)
    refine wp_region_lit ?_
    refine wpList_ld rfl 4 w.heap.size x0 _ rfl B1.out rfl ?_
    go_wp2_with fail
    refine (PN.out _ (Tabs.up TT.out U1.out)).mono ?_; rintro e w2 ⟨rfl, u2⟩
    go_wp2_with fail
    go_ret
    exact ⟨rfl, U1.out.trans u2⟩
  have e1 : prE x0 a1 = 0 := by unfold prE; rw [hr]; rfl
  have e2 : prT x0 a1 = ruleT x0 := by unfold prT; rw [hr]; rfl
  rw [e1, e2] at PN
  clear e1 e2
  have tp : 0 < (ruleT x0).length := List.length_pos_iff.2 (ruleT_ne x0)
  have tl := rule_100 hr
  obtain ⟨m, hm, em⟩ : ∃ m : Nat, m < (ruleT x0).length ∧ (n : Int).tmod ((ruleT x0).length : Int) = (m : Int) := ⟨n % (ruleT x0).length, Nat.mod_lt _ tp, by rw [Int.tmod_eq_emod_of_nonneg (by omega)]; simp⟩
  have ex := tx_take (ruleT x0) m
  have QC := Lib.hid (fun w => parse_any ((ruleT x0).take m) a1 w (by rw [List.length_take]; omega))
  have HC := e_cut (r := x0) (wide := a1) hm
  have QM := Lib.hid (fun w => parse_any (ruleT x0 ++ [UInt8.ofNat a3.toNat]) a1 w (by simp; omega))
  have HM := Lib.hid (fun hb hd n1 n2 => e_more (r := x0) (wide := a1) hr hb ab.1 ab.2 hd n1 n2)
  have CV := fun w => conv_b w a3
  have ap := tx_append (ruleT x0) [UInt8.ofNat a3.toNat]
  have s2 : (tx [UInt8.ofNat a3.toNat]).size = 1 := tx_size _
  have s1 := tx_size (ruleT x0)
  have ne : (tx (ruleT x0)).toList.isEmpty = false := by
    rw [tx_toList]
    cases hz : ruleT x0 with
    | nil => exact absurd hz (ruleT_ne x0)
    | cons a b => rfl
  have QE : ∀ w, _ := fun w => ru_eql (parR a1 ((ruleT x0).take m)) x0 w
  clear hr
  generalize (ruleT x0).take m = k1 at *
  generalize ruleT x0 ++ [UInt8.ofNat a3.toNat] = k2 at *
  generalize ruleT x0 = t1 at *
  generalize UInt8.ofNat a3.toNat = ch at *
  generalize parR a1 k1 = r1 at *
  generalize parE a1 k1 = f1 at *
  generalize parR a1 k2 = r2 at *
  generalize parE a1 k2 = f2 at *
  generalize tx t1 = S at *
  generalize tx k2 = S2 at *
  have ov : ¬ 9223372036854775807 < S.size + 1 := by omega
  rcases HC with rfl | ⟨rfl, hne⟩
  · go_enter Tryd.func11, Tryd.ntmps11
    go_wp2_with fail
    refine (SH.out _ (Tabs.up TT.out U0.out)).mono ?_; rintro e w1 ⟨rfl, u1⟩
    have B1 := Lib.hid (B0.out.up u1)
    have U1 := Lib.hid (U0.out.trans u1)
    clear u1 B0 U0 SH
    go_upto_region 2 with (fail)
    refine wp_region_lit ?_
    refine wpList_ld rfl 4 w.heap.size x0 _ rfl B1.out rfl ?_
    go_wp2_with fail
    refine (PN.out _ (Tabs.up TT.out U1.out)).mono ?_; rintro e w2 ⟨rfl, u1⟩
    have B2 := Lib.hid (B1.out.up u1)
    have U2 := Lib.hid (U1.out.trans u1)
    clear u1 B1 U1 PN
    go_wp2_with fail
    refine (QC.out _).mono ?_; rintro e w4 ⟨rfl, u1⟩
    have z1 := Bk.new w4 (rA ru0) 27 (by decide)
    have ST := st_cells (r := r1) z1
    have b5 := putR_bk (r := r1) z1
    have v1 := u1.trans (putR_up (r := r1) (Up.alloc w4 (.cells (rA ru0) 27)) (Nat.le_refl _))
    rw [ru0_lit] at ST b5 v1
    clear z1
    have b5 := Lib.hid b5
    have v5 := Lib.hid v1
    clear v1 u1
    generalize hP : PutR _ w4.heap.size r1 = w5 at *
    clear hP
    have U5 := Lib.hid (U2.out.trans v5.out)
    have B5 := Lib.hid (B2.out.up v5.out)
    clear U2 v5 B2
    go_upto_region 6 with (fail)
    clear ST
    have c6 : w5.cell? ⟨w.heap.size, 6, none⟩ = some (.bool x0.both) := B5.out.cell 6
    refine wp_region_lit ?_
    go_wp2_with fail
    all_goals first
      | (go_ret
         exact ⟨rfl, U5.out⟩)
      | (have hb : x0.both = true := by assumption
         have hd : ¬ (48 ≤ a3 ∧ a3 ≤ 57) := by omega
         have n1 : ¬ a3 = 58 := by assumption
         have n2' : (a3 == 47) = false := by simp_all
         have n2 : ¬ a3 = 47 := by simpa using n2'
         obtain rfl : f2 = 4 := HM.out hb hd n1 n2
         clear n2'
         refine (QM.out _).mono ?_; rintro e w6 ⟨rfl, u1⟩
         have z1 := Bk.new w6 (rA ru0) 27 (by decide)
         have ST := st_cells (r := r2) z1
         have b7 := putR_bk (r := r2) z1
         have v1 := u1.trans (putR_up (r := r2) (Up.alloc w6 (.cells (rA ru0) 27)) (Nat.le_refl _))
         rw [ru0_lit] at ST b7 v1
         clear z1
         have b7 := Lib.hid b7
         have v7 := Lib.hid v1
         clear v1 u1
         generalize hP : PutR _ w6.heap.size r2 = w7 at *
         clear hP
         have U7 := Lib.hid (U5.out.trans ((Up.alloc _ _).trans v7.out))
         clear v7
         go_wp2_with fail
         go_ret
         exact ⟨rfl, U7.out⟩)
  · have dn : decide (r1 = x0) = false := by simpa using hne
    rw [dn] at QE
    clear dn hne
    go_enter Tryd.func11, Tryd.ntmps11
    go_wp2_with fail
    refine (SH.out _ (Tabs.up TT.out U0.out)).mono ?_; rintro e w1 ⟨rfl, u1⟩
    have B1 := Lib.hid (B0.out.up u1)
    have U1 := Lib.hid (U0.out.trans u1)
    clear u1 B0 U0 SH
    go_upto_region 2 with (fail)
    refine wp_region_lit ?_
    refine wpList_ld rfl 4 w.heap.size x0 _ rfl B1.out rfl ?_
    go_wp2_with fail
    refine (PN.out _ (Tabs.up TT.out U1.out)).mono ?_; rintro e w2 ⟨rfl, u1⟩
    have B2 := Lib.hid (B1.out.up u1)
    have U2 := Lib.hid (U1.out.trans u1)
    clear u1 B1 U1 PN
    go_wp2_with fail
    refine (QC.out _).mono ?_; rintro e w4 ⟨rfl, u1⟩
    have z1 := Bk.new w4 (rA ru0) 27 (by decide)
    have ST := st_cells (r := r1) z1
    have b5 := putR_bk (r := r1) z1
    have v1 := u1.trans (putR_up (r := r1) (Up.alloc w4 (.cells (rA ru0) 27)) (Nat.le_refl _))
    rw [ru0_lit] at ST b5 v1
    clear z1
    have b5 := Lib.hid b5
    have v5 := Lib.hid v1
    clear v1 u1
    generalize hP : PutR _ w4.heap.size r1 = w5 at *
    clear hP
    have U5 := Lib.hid (U2.out.trans v5.out)
    have B5 := Lib.hid (B2.out.up v5.out)
    clear U2 v5 B2
    go_upto_region 6 with (fail)
    clear ST
    have c6 : w5.cell? ⟨w.heap.size, 6, none⟩ = some (.bool x0.both) := B5.out.cell 6
    refine wp_region_lit ?_
    refine wpList_step (fun K hK => ?_)
    go_simp
    refine hK _ _ ?_
    clear hK K
    refine wpList_step (fun K hK => ?_)
    go_simp
    refine hK _ _ ?_
    clear hK K
    refine wpList_step (fun K hK => ?_)
    go_simp
    refine hK _ _ ?_
    clear hK K
    refine wpList_ldg (by go_simp) 12 w4.heap.size r1 _ rfl b5.out rfl ?_
    refine wpList_ldg (by go_simp) 4 w.heap.size x0 _ rfl B5.out rfl ?_
    go_wp2_with fail
    all_goals first
      | (go_ret
         exact ⟨rfl, U5.out⟩)
      | (have hb : x0.both = true := by assumption
         have hd : ¬ (48 ≤ a3 ∧ a3 ≤ 57) := by omega
         have n1 : ¬ a3 = 58 := by assumption
         have n2' : (a3 == 47) = false := by simp_all
         have n2 : ¬ a3 = 47 := by simpa using n2'
         obtain rfl : f2 = 4 := HM.out hb hd n1 n2
         clear n2'
         refine (QM.out _).mono ?_; rintro e w6 ⟨rfl, u1⟩
         have z1 := Bk.new w6 (rA ru0) 27 (by decide)
         have ST := st_cells (r := r2) z1
         have b7 := putR_bk (r := r2) z1
         have v1 := u1.trans (putR_up (r := r2) (Up.alloc w6 (.cells (rA ru0) 27)) (Nat.le_refl _))
         rw [ru0_lit] at ST b7 v1
         clear z1
         have b7 := Lib.hid b7
         have v7 := Lib.hid v1
         clear v1 u1
         generalize hP : PutR _ w6.heap.size r2 = w7 at *
         clear hP
         have U7 := Lib.hid (U5.out.trans ((Up.alloc _ _).trans v7.out))
         clear v7
         go_wp2_with fail
         go_ret
         exact ⟨rfl, U7.out⟩)

theorem readable : ∀ t ∈ Tryd.f11.params.toList, Tryd.prog.readableRec t = true ∧ t < Tryd.prog.types.size := by
  rw [Tryd.params11]
  intro t ht
  have hall : ([27, 4, 3, 5].all fun u => Tryd.prog.readableRec u && decide (u < Tryd.prog.types.size)) = true := by kernel_rfl
  have := List.all_eq_true.1 hall t (by simpa using ht)
  simpa using this

set_option maxRecDepth 100000 in
theorem lifted (os : Os) (started : os.Started) (H : Type) (enc : TypeId × Value → H) :
    ReturnsInHanded {} Tryd.checked os 11 .any (fun w args => (Rows.posixEndsSpec.pre enc Tryd.prog Tryd.f11 [] false w args ∧ laidMetH Tryd.prog laidE w) ∧ sizedMet enc Tryd.prog Tryd.f11 (OpenSpec.ofChange Rows.posixEndsSpec) false w args) (Rows.posixEndsSpec.post enc Tryd.prog Tryd.f11 false true false false) := by
  refine returnsInHanded_of_change_and (C := Tryd.checked) (X := fun w _ => laidMetH Tryd.prog laidE w) (fun _ _ _ hh h => h.of_heap hh) own started (by kernel_rfl) Tryd.func11
    (ChangeSpec.witness_shaped (enc := enc) (C := Tryd.checked) (os := os) (X := fun w _ => laidMetH Tryd.prog laidE w) false (World.doorLaid Tryd.prog 400 os) #[.agg #[.int .i64 0, .bool false, .string ⟨#[]⟩, .int .i64 0, .bool false, .string ⟨#[]⟩, .bool false, .int .i64 0, .int .i64 0, .int .i64 0, .int .i64 0, .int .i64 0, .int .i64 0, .int .i64 0, .int .i64 0, .int .i64 0, .int .i64 0], .bool false, .int .i64 0, .int .u8 0] 8 rfl (World.shaped_of_RefB (by kernel_rfl) (by kernel_rfl)) (by kernel_rfl) (by kernel_rfl) (by kernel_rfl) (door_metE os _)) ?_
  intro W base args ds gs before hval0 hW _ _ hL _
  have hval : ∀ (j : Nat) t v, Tryd.f11.params[j]? = some t → args[j]? = some v → Value.okWide Tryd.prog W .any base t v := hval0
  have hW' := hW
  obtain ⟨p, q, hA0, hV, rfl, hfz, hnd⟩ := hW
  have hA : DataW.TrodAll enc Tryd.prog W 0 (fun _ => true) true Tryd.f11.params.toList args.toList ds p := hA0
  rw [Tryd.params11] at hA hval
  obtain ⟨v0, vs0, d0, ds0, p0, q0, hargs, rfl, rfl, h0, r0⟩ := trodAll_cons hA
  obtain ⟨v1, vs1, d1, ds1, p1, q1, rfl, rfl, rfl, h1, r1⟩ := trodAll_cons r0
  obtain ⟨v2, vs2, d2, ds2, p2, q2, rfl, rfl, rfl, h2, r2⟩ := trodAll_cons r1
  obtain ⟨v3, vs3, d3, ds3, p3, q3, rfl, rfl, rfl, h3, r3⟩ := trodAll_cons r2
  obtain ⟨rfl, rfl, rfl⟩ := trodAll_nil r3
  obtain rfl : args = #[v0, v1, v2, v3] := by cases args; simp_all
  obtain ⟨rfl, rfl⟩ := trodVars_none hV
  obtain ⟨x0, rfl, fo0, fd0, ns0, nd0, ft0, fe0⟩ := open_rul (hval 0 27 v0 rfl rfl) h0
  obtain ⟨a1, rfl, rfl, rfl⟩ := open_bool Tryd.underlying4 (hval 1 4 v1 rfl rfl) h1
  obtain ⟨a2, rfl, rfl, rfl, w2⟩ := open_int Tryd.underlying3 (hval 2 3 v2 rfl rfl) h2
  obtain ⟨a3, rfl, rfl, rfl, w3⟩ := open_int Tryd.underlying5 (hval 3 5 v3 rfl rfl) h3
  clear hA0 hval0
  refine (walk x0 a1 a2 a3 fo0 fd0 ns0 nd0 ft0 fe0  w2 w3 W (tabs_of_laid hL)).mono fun e W' ⟨he, hg⟩ => ?_
  subst he
  exact ⟨_, rfl, post_up laidOut readable rfl hW' (fun _ _ _ => (trodAll_cons_mk (shut_bool Tryd.underlying4 _) trodAll_mk0)) rfl rfl
    hg (ok_one (by kernel_rfl) rfl (okWide_bool_mk Tryd.underlying4 _))⟩

theorem over : Rows.posixEndsRow.holds Tryd.pinned (OpenSpec.ofChange Rows.posixEndsSpec) :=
  OpenClaim.holds_of_wide 11 Tryd.f11 rfl rfl rfl rfl rfl rfl rfl ⟨rfl, rfl, rfl, rfl, rfl⟩ rfl rfl rfl rfl rfl (by kernel_rfl) Tryd.func11 (by kernel_rfl)
    (of_decide_eq_true (by kernel_rfl)) (by unfold Func.isWrapper; first | (rw [if_pos (by decide +kernel)]; kernel_rfl) | (rw [if_neg (by decide +kernel)]; exact ⟨rfl, rfl⟩))
    (fun os started H enc _ => lifted os started H enc)

set_option maxRecDepth 100000 in
theorem proved : Rows.PosixEndsCardSaid :=
  Claim7.holds_tied_plain_at .later [] [.data, .data, .data] true _ true
    over (fun _ h => by cases h) (by kernel_rfl) (fun _ h => by cases h) posixEnds_row_tie rfl ⟨rfl, rfl⟩ (by kernel_rfl) rfl
    (fun f fn hf hfn => by
      obtain rfl : f = 11 := Option.some.inj ((show Tryd.prog.funcNamed "longcase/longcaselaw08.PosixEnds" = some 11 by kernel_rfl).symm.trans hf) |>.symm
      obtain rfl : fn = Tryd.f11 := (Option.some.inj (Tryd.func11.symm.trans hfn)).symm
      exact ⟨by kernel_rfl, fun j t ht => by
        rw [Tryd.params11] at ht
        have hm : t ∈ [27, 4, 3, 5] := by simpa using Array.mem_of_getElem? ht
        have hall : ([27, 4, 3, 5].all fun u => !Tryd.prog.wantsStandIn u) = true := by kernel_rfl
        exact (show Tryd.prog.wantsStandIn t = false by simpa using List.all_eq_true.1 hall t hm)⟩)
    (by kernel_rfl)
end Go.Proofs.YtalpbbgkallohaaDoor.posixEnds
