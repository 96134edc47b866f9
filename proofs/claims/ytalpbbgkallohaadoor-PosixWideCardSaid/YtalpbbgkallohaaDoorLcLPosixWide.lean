/-
  PosixWide is proved: for every rule and text the statement answers true: what is right in the narrow form is told in the wide one as the same text, and what the narrow form reads the wide one reads as the same. Conditions: the tied card's own (the listed variables as the text of the program lays them).
-/
import Derived.Test.YtalpbbgkallohaaDoorLcSh8
import Derived.Test.YtalpbbgkallohaaDoorLcPs8
import Derived.Test.YtalpbbgkallohaaDoorLcOpR
import Derived.Test.YtalpbbgkallohaaDoorLcLd8
import Derived.Test.YtalpbbgkallohaaDoorTie
import Derived.Test.YtalpbbgkallohaaDoorCards
import Derived.WalkKit
import Derived.ProofKit
import Derived.OpenShut
import Derived.LaidMore
import Derived.Stop.Joined
import Derived.SevenTiedAt
namespace Go.Proofs.YtalpbbgkallohaaDoor.posixWide
open Go.ChangeShapes Go.WideShapes Go.ChangeAt Go.RowKit Lc
set_option linter.unusedVariables false

theorem own : ownKnob Tryd.prog.godebug = none := by kernel_rfl

theorem pWide (r : Ru) : (prE r false = 0 ∧ prE r true = 0 ∧ prT r false = prT r true) ∨ prE r false = 1 := by
  unfold prE prT
  cases h : rightB r false
  · exact .inr rfl
  · rw [right_wide h]; exact .inl ⟨rfl, rfl, rfl⟩
theorem qWide (l : List UInt8) : (parE false l = 0 ∧ parE true l = 0 ∧ parR false l = parR true l) ∨ parE false l = 4 := by
  unfold parE parR
  cases h : wholeP false l with
  | none => exact .inr rfl
  | some r => rw [whole_wide h]; exact .inl ⟨rfl, rfl, rfl⟩

set_option maxHeartbeats 8000000 in
set_option maxRecDepth 100000 in
theorem walk (x0 : Ru) (l1 : List UInt8) (fo0 : fitB x0.std.off = true) (fd0 : fitB x0.dst.off = true) (ns0 : x0.std.name.length ≤ maxLen) (nd0 : x0.dst.name.length ≤ maxLen) (ft0 : fitB x0.st.tm = true) (fe0 : fitB x0.en.tm = true) (s1 : l1.length ≤ maxLen) (w : World) (T : Tabs w) :
    Calls Tryd.prog 6 #[.agg (rA x0), .string (tx l1)] w fun e w' => e = .returned (.bool true) ∧ Up w w' := by
  have SH := Lib.hid (fun w T => shown_any w T)
  have B0 := Lib.hid (Bk.new w (rA x0) 27 (by decide))
  have U0 := Lib.hid (Up.alloc w (.cells (rA x0) 27))
  have TT := Lib.hid T
  clear T
  have PN := Lib.hid (fun w T => print_any x0 false w T ns0 nd0)
  have PW := Lib.hid (fun w T => print_any x0 true w T ns0 nd0)
  have HC := pWide x0
  have sz := tx_size l1
  unfold maxLen at *
  obtain ⟨p, hp⟩ : ∃ p : Nat, min (l1.length : Int) 200 = (p : Int) := ⟨min l1.length 200, by omega⟩
  have hp2 : p ≤ 200 := by omega
  have hp3 : (p : Int) ≤ (l1.length : Int) := by omega
  have ex := tx_take l1 p
  have kl : (l1.take p).length ≤ 100000 := by rw [List.length_take]; omega
  generalize l1.take p = k1 at *
  have QN := Lib.hid (fun w => parse_any k1 false w kl)
  have QW := Lib.hid (fun w => parse_any k1 true w kl)
  have HD := qWide k1
  have QE : ∀ w, _ := fun w => ru_eql (parR false k1) (parR true k1) w
  have rs : ∀ r, (rA r).size = 17 := fun r => rfl
  generalize prT x0 false = t1 at *
  generalize prT x0 true = t2 at *
  generalize prE x0 false = e1 at *
  generalize prE x0 true = e2 at *
  generalize parR false k1 = r1 at *
  generalize parR true k1 = r2 at *
  generalize parE false k1 = g1 at *
  generalize parE true k1 = g2 at *
  rcases HC with ⟨rfl, rfl, rfl⟩ | rfl
  · rcases HD with ⟨rfl, rfl, rfl⟩ | rfl
    · go_enter Tryd.func6, Tryd.ntmps6
      go_wp2_with fail
      refine (SH.out _ (Tabs.up TT.out U0.out)).mono ?_; rintro e w1 ⟨rfl, u1⟩
      have B1 := Lib.hid (B0.out.up u1)
      have U1 := Lib.hid (U0.out.trans u1)
      clear u1 B0 U0 SH
      go_upto_region 3 with (fail)
      refine wp_region_lit ?_
      refine wpList_ld rfl 2 w.heap.size x0 _ rfl B1.out rfl ?_
      go_wp2_with fail
      refine (PN.out _ (Tabs.up TT.out U1.out)).mono ?_; rintro e w2 ⟨rfl, u1⟩
      have B2 := Lib.hid (B1.out.up u1)
      have U2 := Lib.hid (U1.out.trans u1)
      clear u1 B1 U1 PN
      go_upto_region 4 with (fail)
      refine wp_region_lit ?_
      refine wpList_ld rfl 2 w.heap.size x0 _ rfl B2.out rfl ?_
      go_wp2_with fail
      refine (PW.out _ (Tabs.up TT.out U2.out)).mono ?_; rintro e w3 ⟨rfl, u1⟩
      have U3 := Lib.hid (U2.out.trans u1)
      clear u1 B2 U2 PW
      go_wp2_with fail
      refine (QN.out _).mono ?_; rintro e w4 ⟨rfl, u1⟩
      have z1 := Bk.new w4 (rA ru0) 27 (by decide)
      have ST := st_cells (r := r1) z1
      have b5 := putR_bk (r := r1) z1
      have v1 := u1.trans (putR_up (r := r1) (Up.alloc w4 (.cells (rA ru0) 27)) (Nat.le_refl _))
      rw [ru0_lit] at ST b5 v1
      clear z1
      have b5 := Lib.hid b5
      have v5 := Lib.hid v1
      clear v1 u1
      generalize hP : PutR _ w4.heap.size r1 = w5 at *
      clear hP
      have U5 := Lib.hid (U3.out.trans v5.out)
      clear U3 v5
      go_wp2_with fail
      clear ST
      refine (QW.out _).mono ?_; rintro e w6 ⟨rfl, u1⟩
      have z1 := Bk.new w6 (rA ru0) 27 (by decide)
      have ST := st_cells (r := r1) z1
      have b7 := putR_bk (r := r1) z1
      have v1 := u1.trans (putR_up (r := r1) (Up.alloc w6 (.cells (rA ru0) 27)) (Nat.le_refl _))
      rw [ru0_lit] at ST b7 v1
      clear z1
      have b7 := Lib.hid b7
      have v7 := Lib.hid v1
      clear v1 u1
      generalize hP : PutR _ w6.heap.size r1 = w7 at *
      clear hP
      have B5 := Lib.hid (b5.out.up v7.out)
      have U7 := Lib.hid (U5.out.trans v7.out)
      clear v7 U5 b5
      go_upto_region 9 with (fail)
      clear ST
      refine wp_region_lit ?_
      refine wpList_step (fun K hK => ?_)
      go_simp
      refine hK _ _ ?_
      clear hK K
      refine wpList_step (fun K hK => ?_)
      go_simp
      refine hK _ _ ?_
      clear hK K
      refine wpList_step (fun K hK => ?_)
      go_simp
      refine hK _ _ ?_
      clear hK K
      refine wpList_step (fun K hK => ?_)
      go_simp
      refine hK _ _ ?_
      clear hK K
      refine wpList_step (fun K hK => ?_)
      go_simp
      refine hK _ _ ?_
      clear hK K
      refine wpList_step (fun K hK => ?_)
      go_simp
      refine hK _ _ ?_
      clear hK K
      refine wpList_step (fun K hK => ?_)
      go_simp
      refine hK _ _ ?_
      clear hK K
      refine wpList_step (fun K hK => ?_)
      go_simp
      refine hK _ _ ?_
      clear hK K
      refine wpList_ldg (by go_simp) 10 w4.heap.size r1 _ rfl B5.out rfl ?_
      refine wpList_ldg (by go_simp) 12 w6.heap.size r1 _ rfl b7.out rfl ?_
      go_wp2_with fail
      go_ret
      exact ⟨ret_b (by simp), U7.out⟩
    · go_enter Tryd.func6, Tryd.ntmps6
      go_wp2_with fail
      refine (SH.out _ (Tabs.up TT.out U0.out)).mono ?_; rintro e w1 ⟨rfl, u1⟩
      have B1 := Lib.hid (B0.out.up u1)
      have U1 := Lib.hid (U0.out.trans u1)
      clear u1 B0 U0 SH
      go_upto_region 3 with (fail)
      refine wp_region_lit ?_
      refine wpList_ld rfl 2 w.heap.size x0 _ rfl B1.out rfl ?_
      go_wp2_with fail
      refine (PN.out _ (Tabs.up TT.out U1.out)).mono ?_; rintro e w2 ⟨rfl, u1⟩
      have B2 := Lib.hid (B1.out.up u1)
      have U2 := Lib.hid (U1.out.trans u1)
      clear u1 B1 U1 PN
      go_upto_region 4 with (fail)
      refine wp_region_lit ?_
      refine wpList_ld rfl 2 w.heap.size x0 _ rfl B2.out rfl ?_
      go_wp2_with fail
      refine (PW.out _ (Tabs.up TT.out U2.out)).mono ?_; rintro e w3 ⟨rfl, u1⟩
      have U3 := Lib.hid (U2.out.trans u1)
      clear u1 B2 U2 PW
      go_wp2_with fail
      refine (QN.out _).mono ?_; rintro e w4 ⟨rfl, u1⟩
      have z1 := Bk.new w4 (rA ru0) 27 (by decide)
      have ST := st_cells (r := r1) z1
      have b5 := putR_bk (r := r1) z1
      have v1 := u1.trans (putR_up (r := r1) (Up.alloc w4 (.cells (rA ru0) 27)) (Nat.le_refl _))
      rw [ru0_lit] at ST b5 v1
      clear z1
      have b5 := Lib.hid b5
      have v5 := Lib.hid v1
      clear v1 u1
      generalize hP : PutR _ w4.heap.size r1 = w5 at *
      clear hP
      have U5 := Lib.hid (U3.out.trans v5.out)
      clear U3 v5
      go_wp2_with fail
      clear ST
      refine (QW.out _).mono ?_; rintro e w6 ⟨rfl, u1⟩
      have z1 := Bk.new w6 (rA ru0) 27 (by decide)
      have ST := st_cells (r := r2) z1
      have b7 := putR_bk (r := r2) z1
      have v1 := u1.trans (putR_up (r := r2) (Up.alloc w6 (.cells (rA ru0) 27)) (Nat.le_refl _))
      rw [ru0_lit] at ST b7 v1
      clear z1
      have b7 := Lib.hid b7
      have v7 := Lib.hid v1
      clear v1 u1
      generalize hP : PutR _ w6.heap.size r2 = w7 at *
      clear hP
      have B5 := Lib.hid (b5.out.up v7.out)
      have U7 := Lib.hid (U5.out.trans v7.out)
      clear v7 U5 b5
      go_upto_region 9 with (fail)
      clear ST
      go_wp2_with fail
      go_ret
      exact ⟨ret_b (by simp), U7.out⟩
  · rcases HD with ⟨rfl, rfl, rfl⟩ | rfl
    · go_enter Tryd.func6, Tryd.ntmps6
      go_wp2_with fail
      refine (SH.out _ (Tabs.up TT.out U0.out)).mono ?_; rintro e w1 ⟨rfl, u1⟩
      have B1 := Lib.hid (B0.out.up u1)
      have U1 := Lib.hid (U0.out.trans u1)
      clear u1 B0 U0 SH
      go_upto_region 3 with (fail)
      refine wp_region_lit ?_
      refine wpList_ld rfl 2 w.heap.size x0 _ rfl B1.out rfl ?_
      go_wp2_with fail
      refine (PN.out _ (Tabs.up TT.out U1.out)).mono ?_; rintro e w2 ⟨rfl, u1⟩
      have B2 := Lib.hid (B1.out.up u1)
      have U2 := Lib.hid (U1.out.trans u1)
      clear u1 B1 U1 PN
      go_upto_region 4 with (fail)
      refine wp_region_lit ?_
      refine wpList_ld rfl 2 w.heap.size x0 _ rfl B2.out rfl ?_
      go_wp2_with fail
      refine (PW.out _ (Tabs.up TT.out U2.out)).mono ?_; rintro e w3 ⟨rfl, u1⟩
      have U3 := Lib.hid (U2.out.trans u1)
      clear u1 B2 U2 PW
      go_wp2_with fail
      refine (QN.out _).mono ?_; rintro e w4 ⟨rfl, u1⟩
      have z1 := Bk.new w4 (rA ru0) 27 (by decide)
      have ST := st_cells (r := r1) z1
      have b5 := putR_bk (r := r1) z1
      have v1 := u1.trans (putR_up (r := r1) (Up.alloc w4 (.cells (rA ru0) 27)) (Nat.le_refl _))
      rw [ru0_lit] at ST b5 v1
      clear z1
      have b5 := Lib.hid b5
      have v5 := Lib.hid v1
      clear v1 u1
      generalize hP : PutR _ w4.heap.size r1 = w5 at *
      clear hP
      have U5 := Lib.hid (U3.out.trans v5.out)
      clear U3 v5
      go_wp2_with fail
      clear ST
      refine (QW.out _).mono ?_; rintro e w6 ⟨rfl, u1⟩
      have z1 := Bk.new w6 (rA ru0) 27 (by decide)
      have ST := st_cells (r := r1) z1
      have b7 := putR_bk (r := r1) z1
      have v1 := u1.trans (putR_up (r := r1) (Up.alloc w6 (.cells (rA ru0) 27)) (Nat.le_refl _))
      rw [ru0_lit] at ST b7 v1
      clear z1
      have b7 := Lib.hid b7
      have v7 := Lib.hid v1
      clear v1 u1
      generalize hP : PutR _ w6.heap.size r1 = w7 at *
      clear hP
      have B5 := Lib.hid (b5.out.up v7.out)
      have U7 := Lib.hid (U5.out.trans v7.out)
      clear v7 U5 b5
      go_upto_region 9 with (fail)
      clear ST
      refine wp_region_lit ?_
      refine wpList_step (fun K hK => ?_)
      go_simp
      refine hK _ _ ?_
      clear hK K
      refine wpList_step (fun K hK => ?_)
      go_simp
      refine hK _ _ ?_
      clear hK K
      refine wpList_step (fun K hK => ?_)
      go_simp
      refine hK _ _ ?_
      clear hK K
      refine wpList_step (fun K hK => ?_)
      go_simp
      refine hK _ _ ?_
      clear hK K
      refine wpList_step (fun K hK => ?_)
      go_simp
      refine hK _ _ ?_
      clear hK K
      refine wpList_step (fun K hK => ?_)
      go_simp
      refine hK _ _ ?_
      clear hK K
      refine wpList_step (fun K hK => ?_)
      go_simp
      refine hK _ _ ?_
      clear hK K
      refine wpList_step (fun K hK => ?_)
      go_simp
      refine hK _ _ ?_
      clear hK K
      refine wpList_ldg (by go_simp) 10 w4.heap.size r1 _ rfl B5.out rfl ?_
      refine wpList_ldg (by go_simp) 12 w6.heap.size r1 _ rfl b7.out rfl ?_
      go_wp2_with fail
      go_ret
      exact ⟨ret_b (by simp), U7.out⟩
    · go_enter Tryd.func6, Tryd.ntmps6
      go_wp2_with fail
      refine (SH.out _ (Tabs.up TT.out U0.out)).mono ?_; rintro e w1 ⟨rfl, u1⟩
      have B1 := Lib.hid (B0.out.up u1)
      have U1 := Lib.hid (U0.out.trans u1)
      clear u1 B0 U0 SH
      go_upto_region 3 with (fail)
      refine wp_region_lit ?_
      refine wpList_ld rfl 2 w.heap.size x0 _ rfl B1.out rfl ?_
      go_wp2_with fail
      refine (PN.out _ (Tabs.up TT.out U1.out)).mono ?_; rintro e w2 ⟨rfl, u1⟩
      have B2 := Lib.hid (B1.out.up u1)
      have U2 := Lib.hid (U1.out.trans u1)
      clear u1 B1 U1 PN
      go_upto_region 4 with (fail)
      refine wp_region_lit ?_
      refine wpList_ld rfl 2 w.heap.size x0 _ rfl B2.out rfl ?_
      go_wp2_with fail
      refine (PW.out _ (Tabs.up TT.out U2.out)).mono ?_; rintro e w3 ⟨rfl, u1⟩
      have U3 := Lib.hid (U2.out.trans u1)
      clear u1 B2 U2 PW
      go_wp2_with fail
      refine (QN.out _).mono ?_; rintro e w4 ⟨rfl, u1⟩
      have z1 := Bk.new w4 (rA ru0) 27 (by decide)
      have ST := st_cells (r := r1) z1
      have b5 := putR_bk (r := r1) z1
      have v1 := u1.trans (putR_up (r := r1) (Up.alloc w4 (.cells (rA ru0) 27)) (Nat.le_refl _))
      rw [ru0_lit] at ST b5 v1
      clear z1
      have b5 := Lib.hid b5
      have v5 := Lib.hid v1
      clear v1 u1
      generalize hP : PutR _ w4.heap.size r1 = w5 at *
      clear hP
      have U5 := Lib.hid (U3.out.trans v5.out)
      clear U3 v5
      go_wp2_with fail
      clear ST
      refine (QW.out _).mono ?_; rintro e w6 ⟨rfl, u1⟩
      have z1 := Bk.new w6 (rA ru0) 27 (by decide)
      have ST := st_cells (r := r2) z1
      have b7 := putR_bk (r := r2) z1
      have v1 := u1.trans (putR_up (r := r2) (Up.alloc w6 (.cells (rA ru0) 27)) (Nat.le_refl _))
      rw [ru0_lit] at ST b7 v1
      clear z1
      have b7 := Lib.hid b7
      have v7 := Lib.hid v1
      clear v1 u1
      generalize hP : PutR _ w6.heap.size r2 = w7 at *
      clear hP
      have B5 := Lib.hid (b5.out.up v7.out)
      have U7 := Lib.hid (U5.out.trans v7.out)
      clear v7 U5 b5
      go_upto_region 9 with (fail)
      clear ST
      go_wp2_with fail
      go_ret
      exact ⟨ret_b (by simp), U7.out⟩

theorem readable : ∀ t ∈ Tryd.f6.params.toList, Tryd.prog.readableRec t = true ∧ t < Tryd.prog.types.size := by
  rw [Tryd.params6]
  intro t ht
  have hall : ([27, 9].all fun u => Tryd.prog.readableRec u && decide (u < Tryd.prog.types.size)) = true := by kernel_rfl
  have := List.all_eq_true.1 hall t (by simpa using ht)
  simpa using this

set_option maxRecDepth 100000 in
theorem lifted (os : Os) (started : os.Started) (H : Type) (enc : TypeId × Value → H) :
    ReturnsInHanded {} Tryd.checked os 6 .any (fun w args => (Rows.posixWideSpec.pre enc Tryd.prog Tryd.f6 [] false w args ∧ laidMetH Tryd.prog laidE w) ∧ sizedMet enc Tryd.prog Tryd.f6 (OpenSpec.ofChange Rows.posixWideSpec) false w args) (Rows.posixWideSpec.post enc Tryd.prog Tryd.f6 false true false false) := by
  refine returnsInHanded_of_change_and (C := Tryd.checked) (X := fun w _ => laidMetH Tryd.prog laidE w) (fun _ _ _ hh h => h.of_heap hh) own started (by kernel_rfl) Tryd.func6
    (ChangeSpec.witness_shaped (enc := enc) (C := Tryd.checked) (os := os) (X := fun w _ => laidMetH Tryd.prog laidE w) false (World.doorLaid Tryd.prog 400 os) #[.agg #[.int .i64 0, .bool false, .string ⟨#[]⟩, .int .i64 0, .bool false, .string ⟨#[]⟩, .bool false, .int .i64 0, .int .i64 0, .int .i64 0, .int .i64 0, .int .i64 0, .int .i64 0, .int .i64 0, .int .i64 0, .int .i64 0, .int .i64 0], .string ⟨#[]⟩] 8 rfl (World.shaped_of_RefB (by kernel_rfl) (by kernel_rfl)) (by kernel_rfl) (by kernel_rfl) (by kernel_rfl) (door_metE os _)) ?_
  intro W base args ds gs before hval0 hW _ _ hL _
  have hval : ∀ (j : Nat) t v, Tryd.f6.params[j]? = some t → args[j]? = some v → Value.okWide Tryd.prog W .any base t v := hval0
  have hW' := hW
  obtain ⟨p, q, hA0, hV, rfl, hfz, hnd⟩ := hW
  have hA : DataW.TrodAll enc Tryd.prog W 0 (fun _ => true) true Tryd.f6.params.toList args.toList ds p := hA0
  rw [Tryd.params6] at hA hval
  obtain ⟨v0, vs0, d0, ds0, p0, q0, hargs, rfl, rfl, h0, r0⟩ := trodAll_cons hA
  obtain ⟨v1, vs1, d1, ds1, p1, q1, rfl, rfl, rfl, h1, r1⟩ := trodAll_cons r0
  obtain ⟨rfl, rfl, rfl⟩ := trodAll_nil r1
  obtain rfl : args = #[v0, v1] := by cases args; simp_all
  obtain ⟨rfl, rfl⟩ := trodVars_none hV
  obtain ⟨x0, rfl, fo0, fd0, ns0, nd0, ft0, fe0⟩ := open_rul (hval 0 27 v0 rfl rfl) h0
  obtain ⟨a1, rfl, rfl, rfl, z1⟩ := Go.ChangeMaps.open_string Tryd.underlying9 (hval 1 9 v1 rfl rfl) h1
  obtain ⟨l1, rfl⟩ : ∃ l, a1 = tx l := ⟨_, tx_of a1⟩
  have s1 : l1.length ≤ maxLen := by rw [tx_size] at z1; exact z1
  clear hA0 hval0
  refine (walk x0 l1 fo0 fd0 ns0 nd0 ft0 fe0 s1 W (tabs_of_laid hL)).mono fun e W' ⟨he, hg⟩ => ?_
  subst he
  exact ⟨_, rfl, post_up laidOut readable rfl hW' (fun _ _ _ => (trodAll_cons_mk (shut_bool Tryd.underlying4 _) trodAll_mk0)) rfl rfl
    hg (ok_one (by kernel_rfl) rfl (okWide_bool_mk Tryd.underlying4 _))⟩

theorem over : Rows.posixWideRow.holds Tryd.pinned (OpenSpec.ofChange Rows.posixWideSpec) :=
  OpenClaim.holds_of_wide 6 Tryd.f6 rfl rfl rfl rfl rfl rfl rfl ⟨rfl, rfl, rfl, rfl, rfl⟩ rfl rfl rfl rfl rfl (by kernel_rfl) Tryd.func6 (by kernel_rfl)
    (of_decide_eq_true (by kernel_rfl)) (by unfold Func.isWrapper; first | (rw [if_pos (by decide +kernel)]; kernel_rfl) | (rw [if_neg (by decide +kernel)]; exact ⟨rfl, rfl⟩))
    (fun os started H enc _ => lifted os started H enc)

set_option maxRecDepth 100000 in
theorem proved : Rows.PosixWideCardSaid :=
  Claim7.holds_tied_plain_at .later [] [.data, .data, .data] true _ true
    over (fun _ h => by cases h) (by kernel_rfl) (fun _ h => by cases h) posixWide_row_tie rfl ⟨rfl, rfl⟩ (by kernel_rfl) rfl
    (fun f fn hf hfn => by
      obtain rfl : f = 6 := Option.some.inj ((show Tryd.prog.funcNamed "longcase/longcaselaw08.PosixWide" = some 6 by kernel_rfl).symm.trans hf) |>.symm
      obtain rfl : fn = Tryd.f6 := (Option.some.inj (Tryd.func6.symm.trans hfn)).symm
      exact ⟨by kernel_rfl, fun j t ht => by
        rw [Tryd.params6] at ht
        have hm : t ∈ [27, 9] := by simpa using Array.mem_of_getElem? ht
        have hall : ([27, 9].all fun u => !Tryd.prog.wantsStandIn u) = true := by kernel_rfl
        exact (show Tryd.prog.wantsStandIn t = false by simpa using List.all_eq_true.1 hall t hm)⟩)
    (by kernel_rfl)
end Go.Proofs.YtalpbbgkallohaaDoor.posixWide
