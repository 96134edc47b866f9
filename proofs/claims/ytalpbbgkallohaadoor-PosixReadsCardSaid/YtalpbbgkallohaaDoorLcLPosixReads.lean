/-
  PosixReads is proved: for every text and form the statement answers true: texts are rules, or none, as the document says. Conditions: the tied card's own (the listed variables as the text of the program lays them).
-/
import Derived.Test.YtalpbbgkallohaaDoorLcSh8
import Derived.Test.YtalpbbgkallohaaDoorLcPs8
import Derived.Test.YtalpbbgkallohaaDoorLcOpR
import Derived.Test.YtalpbbgkallohaaDoorLcLd8
import Derived.Test.YtalpbbgkallohaaDoorLcDp
import Derived.Test.YtalpbbgkallohaaDoorTie
import Derived.Test.YtalpbbgkallohaaDoorCards
import Derived.WalkKit
import Derived.ProofKit
import Derived.OpenShut
import Derived.LaidMore
import Derived.Stop.Joined
import Derived.SevenTiedAt
namespace Go.Proofs.YtalpbbgkallohaaDoor.posixReads
open Go.ChangeShapes Go.WideShapes Go.ChangeAt Go.RowKit Lc
set_option linter.unusedVariables false

theorem own : ownKnob Tryd.prog.godebug = none := by kernel_rfl

theorem dres (l : List UInt8) (wide : Bool) : ∃ ok, resD (wholeD wide l) = .returned (.tuple #[.agg (rA (parR wide l)), .bool ok]) ∧ ((ok = true ∧ parE wide l = 0) ∨ (ok = false ∧ parE wide l = 4)) := by
  rw [whole_D]
  unfold parR parE
  cases wholeP wide l with
  | none => exact ⟨false, rfl, .inr ⟨rfl, rfl⟩⟩
  | some r => exact ⟨true, rfl, .inl ⟨rfl, rfl⟩⟩

set_option maxHeartbeats 8000000 in
set_option maxRecDepth 100000 in
theorem walk (l0 : List UInt8) (a1 : Bool) (s0 : l0.length ≤ maxLen)  (w : World) (T : Tabs w) :
    Calls Tryd.prog 4 #[.string (tx l0), .bool a1] w fun e w' => e = .returned (.bool true) ∧ Up w w' := by
  have SH := Lib.hid (fun w T => shown_any w T)
  have TT := Lib.hid T
  clear T
  have sz := tx_size l0
  unfold maxLen at *
  obtain ⟨p, hp⟩ : ∃ p : Nat, min (l0.length : Int) 200 = (p : Int) := ⟨min l0.length 200, by omega⟩
  have hp2 : p ≤ 200 := by omega
  have hp3 : (p : Int) ≤ (l0.length : Int) := by omega
  have ex := tx_take l0 p
  have kl : (l0.take p).length ≤ 100000 := by rw [List.length_take]; omega
  generalize l0.take p = k1 at *
  have QN := Lib.hid (fun w => parse_any k1 a1 w kl)
  have DN := fun w => dparse_any k1 a1 w kl
  obtain ⟨ok, e0, HD⟩ := dres k1 a1
  rw [e0] at DN
  clear e0
  have DN := Lib.hid DN
  have rs : ∀ r, (rA r).size = 17 := fun r => rfl
  have QE : ∀ w, (binOp .eql 27 (.agg (rA (parR a1 k1))) (.agg (rA (parR a1 k1)))).run Tryd.prog w = .ok (.bool true) w := fun w => by have := ru_eql (parR a1 k1) (parR a1 k1) w; rw [decide_eq_true rfl] at this; exact this
  generalize parR a1 k1 = r1 at *
  generalize parE a1 k1 = g1 at *
  rcases HD with ⟨rfl, rfl⟩ | ⟨rfl, rfl⟩
  · go_enter Tryd.func4, Tryd.ntmps4
    go_wp2_with fail
    refine (SH.out _ TT.out).mono ?_; rintro e w1 ⟨rfl, u1⟩
    have U1 := Lib.hid u1
    clear u1 SH
    go_wp2_with fail
    refine (QN.out _).mono ?_; rintro e w4 ⟨rfl, u1⟩
    have z1 := Bk.new w4 (rA ru0) 27 (by decide)
    have ST := st_cells (r := r1) z1
    have b5 := putR_bk (r := r1) z1
    have v1 := u1.trans (putR_up (r := r1) (Up.alloc w4 (.cells (rA ru0) 27)) (Nat.le_refl _))
    rw [ru0_lit] at ST b5 v1
    clear z1
    have b5 := Lib.hid b5
    have v5 := Lib.hid v1
    clear v1 u1
    generalize hP : PutR _ w4.heap.size r1 = w5 at *
    clear hP
    have U5 := Lib.hid (U1.out.trans v5.out)
    clear U1 v5
    go_wp2_with fail
    clear ST
    refine (DN.out _).mono ?_; rintro e w6 ⟨rfl, u1⟩
    have z1 := Bk.new w6 (rA ru0) 27 (by decide)
    have ST := st_cells (r := r1) z1
    have b7 := putR_bk (r := r1) z1
    have v1 := u1.trans (putR_up (r := r1) (Up.alloc w6 (.cells (rA ru0) 27)) (Nat.le_refl _))
    rw [ru0_lit] at ST b7 v1
    clear z1
    have b7 := Lib.hid b7
    have v7 := Lib.hid v1
    clear v1 u1
    generalize hP : PutR _ w6.heap.size r1 = w7 at *
    clear hP
    have B5 := Lib.hid (b5.out.up v7.out)
    have U7 := Lib.hid (U5.out.trans v7.out)
    clear v7 U5 b5
    go_upto_region 5 with (fail)
    clear ST
    refine wp_region_lit ?_
    refine wpList_step (fun K hK => ?_)
    go_simp
    refine hK _ _ ?_
    clear hK K
    refine wpList_step (fun K hK => ?_)
    go_simp
    refine hK _ _ ?_
    clear hK K
    refine wpList_ldg (by go_simp) 6 w4.heap.size r1 _ rfl B5.out rfl ?_
    refine wpList_ldg (by go_simp) 8 w6.heap.size r1 _ rfl b7.out rfl ?_
    go_wp2_with fail
    go_ret
    exact ⟨ret_b (by simp), U7.out⟩
  · go_enter Tryd.func4, Tryd.ntmps4
    go_wp2_with fail
    refine (SH.out _ TT.out).mono ?_; rintro e w1 ⟨rfl, u1⟩
    have U1 := Lib.hid u1
    clear u1 SH
    go_wp2_with fail
    refine (QN.out _).mono ?_; rintro e w4 ⟨rfl, u1⟩
    have z1 := Bk.new w4 (rA ru0) 27 (by decide)
    have ST := st_cells (r := r1) z1
    have b5 := putR_bk (r := r1) z1
    have v1 := u1.trans (putR_up (r := r1) (Up.alloc w4 (.cells (rA ru0) 27)) (Nat.le_refl _))
    rw [ru0_lit] at ST b5 v1
    clear z1
    have b5 := Lib.hid b5
    have v5 := Lib.hid v1
    clear v1 u1
    generalize hP : PutR _ w4.heap.size r1 = w5 at *
    clear hP
    have U5 := Lib.hid (U1.out.trans v5.out)
    clear U1 v5
    go_wp2_with fail
    clear ST
    refine (DN.out _).mono ?_; rintro e w6 ⟨rfl, u1⟩
    have z1 := Bk.new w6 (rA ru0) 27 (by decide)
    have ST := st_cells (r := r1) z1
    have b7 := putR_bk (r := r1) z1
    have v1 := u1.trans (putR_up (r := r1) (Up.alloc w6 (.cells (rA ru0) 27)) (Nat.le_refl _))
    rw [ru0_lit] at ST b7 v1
    clear z1
    have b7 := Lib.hid b7
    have v7 := Lib.hid v1
    clear v1 u1
    generalize hP : PutR _ w6.heap.size r1 = w7 at *
    clear hP
    have B5 := Lib.hid (b5.out.up v7.out)
    have U7 := Lib.hid (U5.out.trans v7.out)
    clear v7 U5 b5
    go_upto_region 5 with (fail)
    clear ST
    refine wp_region_lit ?_
    refine wpList_step (fun K hK => ?_)
    go_simp
    refine hK _ _ ?_
    clear hK K
    refine wpList_step (fun K hK => ?_)
    go_simp
    refine hK _ _ ?_
    clear hK K
    refine wpList_ldg (by go_simp) 6 w4.heap.size r1 _ rfl B5.out rfl ?_
    refine wpList_ldg (by go_simp) 8 w6.heap.size r1 _ rfl b7.out rfl ?_
    go_wp2_with fail
    go_ret
    exact ⟨ret_b (by simp), U7.out⟩

theorem readable : ∀ t ∈ Tryd.f4.params.toList, Tryd.prog.readableRec t = true ∧ t < Tryd.prog.types.size := by
  rw [Tryd.params4]
  intro t ht
  have hall : ([9, 4].all fun u => Tryd.prog.readableRec u && decide (u < Tryd.prog.types.size)) = true := by kernel_rfl
  have := List.all_eq_true.1 hall t (by simpa using ht)
  simpa using this

set_option maxRecDepth 100000 in
theorem lifted (os : Os) (started : os.Started) (H : Type) (enc : TypeId × Value → H) :
    ReturnsInHanded {} Tryd.checked os 4 .any (fun w args => (Rows.posixReadsSpec.pre enc Tryd.prog Tryd.f4 [] false w args ∧ laidMetH Tryd.prog laidE w) ∧ sizedMet enc Tryd.prog Tryd.f4 (OpenSpec.ofChange Rows.posixReadsSpec) false w args) (Rows.posixReadsSpec.post enc Tryd.prog Tryd.f4 false true false false) := by
  refine returnsInHanded_of_change_and (C := Tryd.checked) (X := fun w _ => laidMetH Tryd.prog laidE w) (fun _ _ _ hh h => h.of_heap hh) own started (by kernel_rfl) Tryd.func4
    (ChangeSpec.witness_shaped (enc := enc) (C := Tryd.checked) (os := os) (X := fun w _ => laidMetH Tryd.prog laidE w) false (World.doorLaid Tryd.prog 400 os) #[.string ⟨#[]⟩, .bool false] 8 rfl (World.shaped_of_RefB (by kernel_rfl) (by kernel_rfl)) (by kernel_rfl) (by kernel_rfl) (by kernel_rfl) (door_metE os _)) ?_
  intro W base args ds gs before hval0 hW _ _ hL _
  have hval : ∀ (j : Nat) t v, Tryd.f4.params[j]? = some t → args[j]? = some v → Value.okWide Tryd.prog W .any base t v := hval0
  have hW' := hW
  obtain ⟨p, q, hA0, hV, rfl, hfz, hnd⟩ := hW
  have hA : DataW.TrodAll enc Tryd.prog W 0 (fun _ => true) true Tryd.f4.params.toList args.toList ds p := hA0
  rw [Tryd.params4] at hA hval
  obtain ⟨v0, vs0, d0, ds0, p0, q0, hargs, rfl, rfl, h0, r0⟩ := trodAll_cons hA
  obtain ⟨v1, vs1, d1, ds1, p1, q1, rfl, rfl, rfl, h1, r1⟩ := trodAll_cons r0
  obtain ⟨rfl, rfl, rfl⟩ := trodAll_nil r1
  obtain rfl : args = #[v0, v1] := by cases args; simp_all
  obtain ⟨rfl, rfl⟩ := trodVars_none hV
  obtain ⟨a0, rfl, rfl, rfl, z0⟩ := Go.ChangeMaps.open_string Tryd.underlying9 (hval 0 9 v0 rfl rfl) h0
  obtain ⟨l0, rfl⟩ : ∃ l, a0 = tx l := ⟨_, tx_of a0⟩
  have s0 : l0.length ≤ maxLen := by rw [tx_size] at z0; exact z0
  obtain ⟨a1, rfl, rfl, rfl⟩ := open_bool Tryd.underlying4 (hval 1 4 v1 rfl rfl) h1
  clear hA0 hval0
  refine (walk l0 a1 s0  W (tabs_of_laid hL)).mono fun e W' ⟨he, hg⟩ => ?_
  subst he
  exact ⟨_, rfl, post_up laidOut readable rfl hW' (fun _ _ _ => (trodAll_cons_mk (shut_bool Tryd.underlying4 _) trodAll_mk0)) rfl rfl
    hg (ok_one (by kernel_rfl) rfl (okWide_bool_mk Tryd.underlying4 _))⟩

theorem over : Rows.posixReadsRow.holds Tryd.pinned (OpenSpec.ofChange Rows.posixReadsSpec) :=
  OpenClaim.holds_of_wide 4 Tryd.f4 rfl rfl rfl rfl rfl rfl rfl ⟨rfl, rfl, rfl, rfl, rfl⟩ rfl rfl rfl rfl rfl (by kernel_rfl) Tryd.func4 (by kernel_rfl)
    (of_decide_eq_true (by kernel_rfl)) (by unfold Func.isWrapper; first | (rw [if_pos (by decide +kernel)]; kernel_rfl) | (rw [if_neg (by decide +kernel)]; exact ⟨rfl, rfl⟩))
    (fun os started H enc _ => lifted os started H enc)

set_option maxRecDepth 100000 in
theorem proved : Rows.PosixReadsCardSaid :=
  Claim7.holds_tied_plain_at .later [] [.data, .data, .data] true _ true
    over (fun _ h => by cases h) (by kernel_rfl) (fun _ h => by cases h) posixReads_row_tie rfl ⟨rfl, rfl⟩ (by kernel_rfl) rfl
    (fun f fn hf hfn => by
      obtain rfl : f = 4 := Option.some.inj ((show Tryd.prog.funcNamed "longcase/longcaselaw08.PosixReads" = some 4 by kernel_rfl).symm.trans hf) |>.symm
      obtain rfl : fn = Tryd.f4 := (Option.some.inj (Tryd.func4.symm.trans hfn)).symm
      exact ⟨by kernel_rfl, fun j t ht => by
        rw [Tryd.params4] at ht
        have hm : t ∈ [9, 4] := by simpa using Array.mem_of_getElem? ht
        have hall : ([9, 4].all fun u => !Tryd.prog.wantsStandIn u) = true := by kernel_rfl
        exact (show Tryd.prog.wantsStandIn t = false by simpa using List.all_eq_true.1 hall t hm)⟩)
    (by kernel_rfl)
end Go.Proofs.YtalpbbgkallohaaDoor.posixReads
