/-
  PosixTells is proved: for every rule and form the statement answers true: rules are right, and texts, as the document says. Conditions: the tied card's own (the listed variables as the text of the program lays them).
-/
import Derived.Test.YtalpbbgkallohaaDoorLcSh8
import Derived.Test.YtalpbbgkallohaaDoorLcPs8
import Derived.Test.YtalpbbgkallohaaDoorLcOpR
import Derived.Test.YtalpbbgkallohaaDoorLcLd8
import Derived.Test.YtalpbbgkallohaaDoorLcDb
import Derived.Test.YtalpbbgkallohaaDoorLcDf
import Derived.Test.YtalpbbgkallohaaDoorTie
import Derived.Test.YtalpbbgkallohaaDoorCards
import Derived.WalkKit
import Derived.ProofKit
import Derived.OpenShut
import Derived.LaidMore
import Derived.Stop.Joined
import Derived.SevenTiedAt
namespace Go.Proofs.YtalpbbgkallohaaDoor.posixTells
open Go.ChangeShapes Go.WideShapes Go.ChangeAt Go.RowKit Lc
set_option linter.unusedVariables false

theorem own : ownKnob Tryd.prog.godebug = none := by kernel_rfl

theorem pTells (r : Ru) (wide : Bool) : (rightB r wide = true ∧ prE r wide = 0 ∧ ruleT r = prT r wide) ∨ (rightB r wide = false ∧ prE r wide = 1 ∧ [] = prT r wide) := by
  cases h : rightB r wide
  · exact .inr ⟨rfl, by unfold prE; rw [h]; rfl, by unfold prT; rw [h]; rfl⟩
  · exact .inl ⟨rfl, by unfold prE; rw [h]; rfl, by unfold prT; rw [h]; rfl⟩

set_option maxHeartbeats 8000000 in
set_option maxRecDepth 100000 in
theorem walk (x0 : Ru) (a1 : Bool) (fo0 : fitB x0.std.off = true) (fd0 : fitB x0.dst.off = true) (ns0 : x0.std.name.length ≤ maxLen) (nd0 : x0.dst.name.length ≤ maxLen) (ft0 : fitB x0.st.tm = true) (fe0 : fitB x0.en.tm = true)  (w : World) (T : Tabs w) :
    Calls Tryd.prog 3 #[.agg (rA x0), .bool a1] w fun e w' => e = .returned (.bool true) ∧ Up w w' := by
  have SH := Lib.hid (fun w T => shown_any w T)
  have B0 := Lib.hid (Bk.new w (rA x0) 27 (by decide))
  have U0 := Lib.hid (Up.alloc w (.cells (rA x0) 27))
  have TT := Lib.hid T
  clear T
  unfold maxLen at *
  have sz1 := tx_size x0.std.name
  have sz2 := tx_size x0.dst.name
  obtain ⟨p, hp⟩ : ∃ p : Nat, min (x0.std.name.length : Int) 100 = (p : Int) := ⟨min x0.std.name.length 100, by omega⟩
  have hp2 : p ≤ 100 := by omega
  have hp3 : (p : Int) ≤ (x0.std.name.length : Int) := by omega
  obtain ⟨q, hq⟩ : ∃ q : Nat, min (x0.dst.name.length : Int) 100 = (q : Int) := ⟨min x0.dst.name.length 100, by omega⟩
  have hq2 : q ≤ 100 := by omega
  have hq3 : (q : Int) ≤ (x0.dst.name.length : Int) := by omega
  have ex := tx_take x0.std.name p
  have ey := tx_take x0.dst.name q
  have kl : (x0.std.name.take p).length ≤ 100 := by rw [List.length_take]; omega
  have jl : (x0.dst.name.take q).length ≤ 100 := by rw [List.length_take]; omega
  obtain ⟨X, hX⟩ : ∃ X : Ru, X = ⟨⟨x0.std.off, x0.std.dst, x0.std.name.take p⟩, ⟨x0.dst.off, x0.dst.dst, x0.dst.name.take q⟩, x0.both, x0.st, x0.en⟩ := ⟨_, rfl⟩
  have xl : X.std.name.length ≤ maxLen ∧ X.dst.name.length ≤ maxLen := by rw [hX]; exact ⟨by show (x0.std.name.take p).length ≤ maxLen; unfold maxLen; omega, by show (x0.dst.name.take q).length ≤ maxLen; unfold maxLen; omega⟩
  have HX : Hid (∀ V b T, Bk V b (rA x0) T → Bk ((V.setCell ⟨b, 2, none⟩ (.string (tx (x0.std.name.take p)))).setCell ⟨b, 5, none⟩ (.string (tx (x0.dst.name.take q)))) b (rA X) T) := Lib.hid (fun V b T h => by rw [hX]; exact (h.set 2 _).set 5 _)
  clear hX
  have DR := Lib.hid (fun w => dright_any X a1 w xl.1 xl.2)
  have PR := Lib.hid (fun w T => print_any X a1 w T xl.1 xl.2)
  have RR := Lib.hid (fun w => right_any X a1 w xl.1 xl.2)
  have DP := Lib.hid (fun (h : rightB X a1 = true) w => dprint_any X a1 w h)
  have HC := pTells X a1
  generalize List.take p x0.std.name = n1 at *
  generalize List.take q x0.dst.name = n2 at *
  generalize prT X a1 = t1 at *
  generalize prE X a1 = e1 at *
  generalize rightB X a1 = b1 at *
  generalize ruleT X = t2 at *
  clear xl kl jl
  rcases HC with ⟨rfl, rfl, rfl⟩ | ⟨rfl, rfl, rfl⟩
  · go_enter Tryd.func3, Tryd.ntmps3
    go_wp2_with fail
    refine (SH.out _ (Tabs.up TT.out U0.out)).mono ?_; rintro e w1 ⟨rfl, u1⟩
    have B1 := Lib.hid (B0.out.up u1)
    have U1 := Lib.hid (U0.out.trans u1)
    have c2 : w1.cell? ⟨w.heap.size, 2, none⟩ = some (.string (tx x0.std.name)) := B1.out.cell 2
    have c5 : w1.cell? ⟨w.heap.size, 5, none⟩ = some (.string (tx x0.dst.name)) := B1.out.cell 5
    have z2 : w1.frozen? ⟨w.heap.size, 2, none⟩ = false := B1.out.frozen 2
    have z5 : w1.frozen? ⟨w.heap.size, 5, none⟩ = false := B1.out.frozen 5
    have B2 := Lib.hid (HX.out w1 w.heap.size _ B1.out)
    have U2 : Hid (Up w ((w1.setCell ⟨w.heap.size, 2, none⟩ (.string (tx n1))).setCell ⟨w.heap.size, 5, none⟩ (.string (tx n2)))) := Lib.hid (Up.setCell' (Up.setCell' U1.out (Nat.le_refl _) _) (Nat.le_refl _) _)
    clear u1 B0 U0 SH
    go_upto_region 4 with (fail)
    clear c2 c5 z2 z5 B1 U1
    generalize hV : (w1.setCell ⟨w.heap.size, 2, none⟩ (.string (tx n1))).setCell ⟨w.heap.size, 5, none⟩ (.string (tx n2)) = V at *
    clear hV
    refine wp_region_lit ?_
    refine wpList_ld rfl 2 w.heap.size X _ rfl B2.out rfl ?_
    go_wp2_with fail
    refine (DR.out _).mono ?_; rintro e w3 ⟨rfl, u3⟩
    have B3 := Lib.hid (B2.out.up u3)
    have U3 := Lib.hid (U2.out.trans u3)
    clear u3 B2 U2 DR
    go_upto_region 5 with (fail)
    refine wp_region_lit ?_
    refine wpList_ld rfl 2 w.heap.size X _ rfl B3.out rfl ?_
    go_wp2_with fail
    refine (PR.out _ (Tabs.up TT.out U3.out)).mono ?_; rintro e w4 ⟨rfl, u4⟩
    have B4 := Lib.hid (B3.out.up u4)
    have U4 := Lib.hid (U3.out.trans u4)
    clear u4 B3 U3 PR
    go_upto_region 6 with (fail)
    refine wp_region_lit ?_
    refine wpList_ld rfl 2 w.heap.size X _ rfl B4.out rfl ?_
    go_wp2_with fail
    refine (RR.out _).mono ?_; rintro e w5 ⟨rfl, u5⟩
    have B5 := Lib.hid (B4.out.up u5)
    have U5 := Lib.hid (U4.out.trans u5)
    clear u5 B4 U4 RR
    go_upto_region 10 with (fail)
    refine wp_region_lit ?_
    refine wpList_step (fun K hK => ?_)
    go_simp
    refine hK _ _ ?_
    clear hK K
    refine wpList_step (fun K hK => ?_)
    go_simp
    refine hK _ _ ?_
    clear hK K
    refine wpList_step (fun K hK => ?_)
    go_simp
    refine hK _ _ ?_
    clear hK K
    refine wpList_step (fun K hK => ?_)
    go_simp
    refine hK _ _ ?_
    clear hK K
    refine wpList_step (fun K hK => ?_)
    go_simp
    refine hK _ _ ?_
    clear hK K
    refine wpList_step (fun K hK => ?_)
    go_simp
    refine hK _ _ ?_
    clear hK K
    refine wpList_step (fun K hK => ?_)
    go_simp
    refine hK _ _ ?_
    clear hK K
    refine wpList_ldg (by go_simp) 2 w.heap.size X _ rfl B5.out rfl ?_
    go_wp2_with fail
    refine (DP.out (by trivial) _).mono ?_; rintro e w6 ⟨rfl, u6⟩
    go_wp2_with fail
    go_ret
    exact ⟨rfl, U5.out.trans u6⟩
  · go_enter Tryd.func3, Tryd.ntmps3
    go_wp2_with fail
    refine (SH.out _ (Tabs.up TT.out U0.out)).mono ?_; rintro e w1 ⟨rfl, u1⟩
    have B1 := Lib.hid (B0.out.up u1)
    have U1 := Lib.hid (U0.out.trans u1)
    have c2 : w1.cell? ⟨w.heap.size, 2, none⟩ = some (.string (tx x0.std.name)) := B1.out.cell 2
    have c5 : w1.cell? ⟨w.heap.size, 5, none⟩ = some (.string (tx x0.dst.name)) := B1.out.cell 5
    have z2 : w1.frozen? ⟨w.heap.size, 2, none⟩ = false := B1.out.frozen 2
    have z5 : w1.frozen? ⟨w.heap.size, 5, none⟩ = false := B1.out.frozen 5
    have B2 := Lib.hid (HX.out w1 w.heap.size _ B1.out)
    have U2 : Hid (Up w ((w1.setCell ⟨w.heap.size, 2, none⟩ (.string (tx n1))).setCell ⟨w.heap.size, 5, none⟩ (.string (tx n2)))) := Lib.hid (Up.setCell' (Up.setCell' U1.out (Nat.le_refl _) _) (Nat.le_refl _) _)
    clear u1 B0 U0 SH
    go_upto_region 4 with (fail)
    clear c2 c5 z2 z5 B1 U1
    generalize hV : (w1.setCell ⟨w.heap.size, 2, none⟩ (.string (tx n1))).setCell ⟨w.heap.size, 5, none⟩ (.string (tx n2)) = V at *
    clear hV
    refine wp_region_lit ?_
    refine wpList_ld rfl 2 w.heap.size X _ rfl B2.out rfl ?_
    go_wp2_with fail
    refine (DR.out _).mono ?_; rintro e w3 ⟨rfl, u3⟩
    have B3 := Lib.hid (B2.out.up u3)
    have U3 := Lib.hid (U2.out.trans u3)
    clear u3 B2 U2 DR
    go_upto_region 5 with (fail)
    refine wp_region_lit ?_
    refine wpList_ld rfl 2 w.heap.size X _ rfl B3.out rfl ?_
    go_wp2_with fail
    refine (PR.out _ (Tabs.up TT.out U3.out)).mono ?_; rintro e w4 ⟨rfl, u4⟩
    have B4 := Lib.hid (B3.out.up u4)
    have U4 := Lib.hid (U3.out.trans u4)
    clear u4 B3 U3 PR
    go_upto_region 6 with (fail)
    refine wp_region_lit ?_
    refine wpList_ld rfl 2 w.heap.size X _ rfl B4.out rfl ?_
    go_wp2_with fail
    refine (RR.out _).mono ?_; rintro e w5 ⟨rfl, u5⟩
    have B5 := Lib.hid (B4.out.up u5)
    have U5 := Lib.hid (U4.out.trans u5)
    clear u5 B4 U4 RR
    have tx0 : tx [] = (⟨#[]⟩ : ByteArray) := rfl
    go_wp2_with fail
    go_ret
    exact ⟨rfl, U5.out⟩

theorem readable : ∀ t ∈ Tryd.f3.params.toList, Tryd.prog.readableRec t = true ∧ t < Tryd.prog.types.size := by
  rw [Tryd.params3]
  intro t ht
  have hall : ([27, 4].all fun u => Tryd.prog.readableRec u && decide (u < Tryd.prog.types.size)) = true := by kernel_rfl
  have := List.all_eq_true.1 hall t (by simpa using ht)
  simpa using this

set_option maxRecDepth 100000 in
theorem lifted (os : Os) (started : os.Started) (H : Type) (enc : TypeId × Value → H) :
    ReturnsInHanded {} Tryd.checked os 3 .any (fun w args => (Rows.posixTellsSpec.pre enc Tryd.prog Tryd.f3 [] false w args ∧ laidMetH Tryd.prog laidE w) ∧ sizedMet enc Tryd.prog Tryd.f3 (OpenSpec.ofChange Rows.posixTellsSpec) false w args) (Rows.posixTellsSpec.post enc Tryd.prog Tryd.f3 false true false false) := by
  refine returnsInHanded_of_change_and (C := Tryd.checked) (X := fun w _ => laidMetH Tryd.prog laidE w) (fun _ _ _ hh h => h.of_heap hh) own started (by kernel_rfl) Tryd.func3
    (ChangeSpec.witness_shaped (enc := enc) (C := Tryd.checked) (os := os) (X := fun w _ => laidMetH Tryd.prog laidE w) false (World.doorLaid Tryd.prog 400 os) #[.agg #[.int .i64 0, .bool false, .string ⟨#[]⟩, .int .i64 0, .bool false, .string ⟨#[]⟩, .bool false, .int .i64 0, .int .i64 0, .int .i64 0, .int .i64 0, .int .i64 0, .int .i64 0, .int .i64 0, .int .i64 0, .int .i64 0, .int .i64 0], .bool false] 8 rfl (World.shaped_of_RefB (by kernel_rfl) (by kernel_rfl)) (by kernel_rfl) (by kernel_rfl) (by kernel_rfl) (door_metE os _)) ?_
  intro W base args ds gs before hval0 hW _ _ hL _
  have hval : ∀ (j : Nat) t v, Tryd.f3.params[j]? = some t → args[j]? = some v → Value.okWide Tryd.prog W .any base t v := hval0
  have hW' := hW
  obtain ⟨p, q, hA0, hV, rfl, hfz, hnd⟩ := hW
  have hA : DataW.TrodAll enc Tryd.prog W 0 (fun _ => true) true Tryd.f3.params.toList args.toList ds p := hA0
  rw [Tryd.params3] at hA hval
  obtain ⟨v0, vs0, d0, ds0, p0, q0, hargs, rfl, rfl, h0, r0⟩ := trodAll_cons hA
  obtain ⟨v1, vs1, d1, ds1, p1, q1, rfl, rfl, rfl, h1, r1⟩ := trodAll_cons r0
  obtain ⟨rfl, rfl, rfl⟩ := trodAll_nil r1
  obtain rfl : args = #[v0, v1] := by cases args; simp_all
  obtain ⟨rfl, rfl⟩ := trodVars_none hV
  obtain ⟨x0, rfl, fo0, fd0, ns0, nd0, ft0, fe0⟩ := open_rul (hval 0 27 v0 rfl rfl) h0
  obtain ⟨a1, rfl, rfl, rfl⟩ := open_bool Tryd.underlying4 (hval 1 4 v1 rfl rfl) h1
  clear hA0 hval0
  refine (walk x0 a1 fo0 fd0 ns0 nd0 ft0 fe0  W (tabs_of_laid hL)).mono fun e W' ⟨he, hg⟩ => ?_
  subst he
  exact ⟨_, rfl, post_up laidOut readable rfl hW' (fun _ _ _ => (trodAll_cons_mk (shut_bool Tryd.underlying4 _) trodAll_mk0)) rfl rfl
    hg (ok_one (by kernel_rfl) rfl (okWide_bool_mk Tryd.underlying4 _))⟩

theorem over : Rows.posixTellsRow.holds Tryd.pinned (OpenSpec.ofChange Rows.posixTellsSpec) :=
  OpenClaim.holds_of_wide 3 Tryd.f3 rfl rfl rfl rfl rfl rfl rfl ⟨rfl, rfl, rfl, rfl, rfl⟩ rfl rfl rfl rfl rfl (by kernel_rfl) Tryd.func3 (by kernel_rfl)
    (of_decide_eq_true (by kernel_rfl)) (by unfold Func.isWrapper; first | (rw [if_pos (by decide +kernel)]; kernel_rfl) | (rw [if_neg (by decide +kernel)]; exact ⟨rfl, rfl⟩))
    (fun os started H enc _ => lifted os started H enc)

set_option maxRecDepth 100000 in
theorem proved : Rows.PosixTellsCardSaid :=
  Claim7.holds_tied_plain_at .later [] [.data, .data, .data] true _ true
    over (fun _ h => by cases h) (by kernel_rfl) (fun _ h => by cases h) posixTells_row_tie rfl ⟨rfl, rfl⟩ (by kernel_rfl) rfl
    (fun f fn hf hfn => by
      obtain rfl : f = 3 := Option.some.inj ((show Tryd.prog.funcNamed "longcase/longcaselaw08.PosixTells" = some 3 by kernel_rfl).symm.trans hf) |>.symm
      obtain rfl : fn = Tryd.f3 := (Option.some.inj (Tryd.func3.symm.trans hfn)).symm
      exact ⟨by kernel_rfl, fun j t ht => by
        rw [Tryd.params3] at ht
        have hm : t ∈ [27, 4] := by simpa using Array.mem_of_getElem? ht
        have hall : ([27, 4].all fun u => !Tryd.prog.wantsStandIn u) = true := by kernel_rfl
        exact (show Tryd.prog.wantsStandIn t = false by simpa using List.all_eq_true.1 hall t hm)⟩)
    (by kernel_rfl)
end Go.Proofs.YtalpbbgkallohaaDoor.posixTells
