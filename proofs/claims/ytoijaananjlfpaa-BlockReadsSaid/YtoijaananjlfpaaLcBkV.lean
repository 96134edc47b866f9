/-
  The program's block: tellKinds.
-/
import Derived.Test.YtoijaananjlfpaaLcBkU
import Derived.Test.YtoijaananjlfpaaLcBkN
import Derived.Deep.RegionHeldLaw
namespace Go.Proofs.Ytoijaananjlfpaa
open Go.ChangeShapes Go.WideShapes Go.ChangeAt Go.RowKit Lc Go.Maps

theorem flipS {f : FuncId} {args : Array Value} {w : World} {v : Value} (h : Calls Try.prog f args w fun e w' => e = .returned v ∧ w = w') : Calls Try.prog f args w fun e w' => e = .returned v ∧ w' = w :=
  h.mono fun _ _ ⟨a, b⟩ => ⟨a, b.symm⟩
/-- The place of a name, asked. -/
theorem Plm.look {w : World} {B : Nat} {ns : List ByteArray} {k : Nat} (h : Plm w B ns k) {s : ByteArray} (hs : s ∈ ns.take k) (hz : s.size ≤ 255) : (Instr.lookup 69 (.map (some B)) (.string s) false).run Try.prog w = .ok (.int .i64 (plcN ns s)) w := by
  obtain ⟨D, h1, h2⟩ := h
  obtain ⟨c, hr, hat, _⟩ := h1.lookup_int skey Try.underlying69 Try.underlying3 (zint _) (nk_key hz)
  rw [((h2 s).1 hs).2] at hat
  simp only [DataW.lit.injEq, Lit.int.injEq, true_and] at hat
  rw [hr, hat]

set_option maxRecDepth 100000 in
set_option maxHeartbeats 2000000 in
theorem tkinds_any (w0 w : World) (u : Up w0 w) (v : Value) (l : List UInt8) (A : Option Addr) (ks : List Knd) (c B : Nat) (ho : Ow w w0.heap.size v l) (hl : l.length ≤ 500000) (hq : ks.length ≤ 256) (hsz : ∀ i, i < ks.length → (ks.getD i k0).name.size ≤ 255) (ra : Rc w0 A (kc ks)) (hp : Plm w0 B (ks.map Knd.name) ks.length) :
    Calls Try.prog 29 #[v, .slice A ks.length c, .map (some B)] w fun e w' => ∃ v', e = .returned v' ∧ Ow w' w0.heap.size v' (l ++ tkB (ks.map Knd.name) ks) ∧ Up w0 w' := by
  have RA := Lib.hid ra
  have HO := Lib.hid ho
  have HU := Lib.hid u
  have HS := Lib.hid hsz
  have HP := Lib.hid hp
  clear ra ho u hsz hp
  obtain ⟨q, hq'⟩ : ∃ q, ks.length = q := ⟨_, rfl⟩
  have HM : Hid (∀ i, i < ks.length → (ks.getD i k0).name ∈ (ks.map Knd.name).take ks.length) := Lib.hid (fun i hi => by
    rw [List.take_of_length_le (by simp), ← getD_name hi]
    exact getD_mem (by simpa using hi))
  obtain ⟨ns, hns⟩ : ∃ ns, ks.map Knd.name = ns := ⟨_, rfl⟩
  simp only [hq', hns] at hq ⊢
  simp only [hns] at HM HP
  have HQ := Lib.hid hq'
  clear hq' hns
  go_enter Try.func29, Try.ntmps29
  go_wp2
  go_loopw [0, 11] (fun v i wr => ∃ k : Nat, k ≤ q ∧ i = .int .i64 k ∧ Ow wr w0.heap.size v (l ++ tkB ns (ks.take k)) ∧ Up w0 wr) (fun _ i _ => q - (intOf i).toNat)
  case atStart => exact ⟨0, Nat.zero_le _, rfl, by rw [List.take_zero]; simpa [tkB] using HO.out, HU.out⟩
  case round =>
    clear HO HU
    obtain ⟨k, hk, rfl, ho, hu⟩ := hrel
    have HO := Lib.hid ho
    have HU := Lib.hid hu
    clear ho hu
    by_cases hlt : k < q
    · obtain ⟨b, o, rfl, c1, c2, c3⟩ := (RA.out.up HU.out).knd (i := k) (by rw [HQ.out]; exact hlt)
      have HT : Hid (l ++ tkB ns (ks.take (k + 1)) = l ++ tkB ns (ks.take k) ++ beB 4 (un (ks.getD k k0).off) ++ [mkB (ks.getD k k0).dst, loB (plcN ns (ks.getD k k0).name)]) := Lib.hid (by unfold tkB; rw [fm_take _ ks k0 (by rw [HQ.out]; exact hlt), List.append_assoc, List.append_assoc])
      have HLn : (l ++ tkB ns (ks.take k)).length ≤ 520000 := by
        rw [List.length_append, tkB_len, List.length_take]; omega
      have LK : Hid (∀ V, Up w0 V → (Instr.lookup 69 (.map (some B)) (.string (ks.getD k k0).name) false).run Try.prog V = .ok (.int .i64 (plcN ns (ks.getD k k0).name)) V) := Lib.hid (fun V hV => (HP.out.up hV).look (HM.out k (by rw [HQ.out]; exact hlt)) (HS.out k (by rw [HQ.out]; exact hlt)))
      obtain ⟨ko, e1⟩ : ∃ x, Hid ((ks.getD k k0).off = x) := ⟨_, rfl⟩
      obtain ⟨kd, e2⟩ : ∃ x, Hid ((ks.getD k k0).dst = x) := ⟨_, rfl⟩
      obtain ⟨kn, e3⟩ : ∃ x, Hid ((ks.getD k k0).name = x) := ⟨_, rfl⟩
      rw [e1.out] at c1 HT
      rw [e2.out] at c2 HT
      rw [e3.out] at c3 HT LK
      generalize hL : l ++ tkB ns (ks.take k) = L at *
      have HL := Lib.hid hL
      clear hL
      generalize hpl : plcN ns kn = pl at *
      clear hpl
      obtain ⟨wa, hwa⟩ : ∃ wa, wa = wr.alloc (.cells #[.int .i64 ko, .bool kd, .string kn] 56) := ⟨_, rfl⟩
      have OA : Hid (Ow wa w0.heap.size u0 L) := Lib.hid (by rw [hwa]; exact HO.out.up (Up.alloc _ _))
      have UA : Hid (Up w0 wa) := Lib.hid (by rw [hwa]; exact HU.out.alloc' _)
      have CA : Hid (wa.cell? ⟨wr.heap.size, 1, none⟩ = some (.bool kd) ∧ wa.cell? ⟨wr.heap.size, 2, none⟩ = some (.string kn)) := Lib.hid (by rw [hwa]; simp)
      have HW := Lib.hid hwa
      clear hwa
      go_wp2_with fail
      rw [← HW.out]
      refine (tell_any w0.heap.size wa u0 L 4 (.inl rfl) ko UA.out.size OA.out (by omega)).mono ?_
      rintro e w1 ⟨v1, rfl, ho1, hg1, hx1⟩
      have d1 := gb_cell hg1 CA.out.1 (HO.out.ne (Nat.le_refl _))
      have d2 := gb_cell hg1 CA.out.2 (HO.out.ne (Nat.le_refl _))
      have U1 := Lib.hid (UA.out.grown hg1 OA.out.block)
      have O1 := Lib.hid ho1
      have NE : Hid (∀ k, v1.ownBlock = some k → k ≠ wr.heap.size) := Lib.hid (fun k hk => by
        rcases hx1 k hk with h | h
        · exact HO.out.ne (Nat.le_refl _) k h
        · have : wr.heap.size < wa.heap.size := cell_lt CA.out.1
          omega)
      clear hx1 hg1 ho1 OA UA CA HW c1 c2 c3
      have M := fun w => mark_any kd w
      have ml := (mkB kd).toNat_lt
      generalize hm : mkB kd = m at *
      clear hm
      have KS : Hid (∀ V, w1.grownBy V v1.ownBlock → (V.cell? ⟨wr.heap.size, 1, none⟩ = some (.bool kd) ∧ V.cell? ⟨wr.heap.size, 2, none⟩ = some (.string kn)) ∧ (Instr.lookup 69 (.map (some B)) (.string kn) false).run Try.prog V = .ok (.int .i64 (pl : Int)) V) := Lib.hid (fun V hV => ⟨⟨gb_cell hV d1 NE.out, gb_cell hV d2 NE.out⟩, LK.out V (U1.out.grown hV O1.out.block)⟩)
      have HR := Lib.hid (Rd.new w1.drew [m, loB pl] #[.int .u8 m.toNat, .int .u8 ((pl : Int) % 256)] 5 (by
        have := low_byte pl
        rw [IntKind.wrap_u8] at this
        show [Value.int .u8 _, Value.int .u8 _] = [Value.int .u8 _, Value.int .u8 _]
        rw [this]))
      have S1 : Hid (w0.heap.size ≤ (w1.drew.alloc (.cells #[.int .u8 m.toNat, .int .u8 ((pl : Int) % 256)] 5)).heap.size) := Lib.hid ((U1.out.drewN' 1).alloc' _).size
      have S2 : Hid ((L ++ beB 4 (un ko)).length + 2 ≤ 140737488355328) := Lib.hid (by simp only [List.length_append, beB_len]; omega)
      have O2 : Hid (Ow (w1.drew.alloc (.cells #[.int .u8 m.toNat, .int .u8 ((pl : Int) % 256)] 5)) w0.heap.size v1 (L ++ beB 4 (un ko))) := Lib.hid ((O1.out.up (Up.drewN w1 1)).up (Up.alloc _ _))
      clear d1 d2
      go_wp2_with fail
      go_region_held_law (fun V => (V.cell? ⟨wr.heap.size, 1, none⟩ = some (.bool kd) ∧ V.cell? ⟨wr.heap.size, 2, none⟩ = some (.string kn)) ∧ (Instr.lookup 69 (.map (some B)) (.string kn) false).run Try.prog V = .ok (.int .i64 (pl : Int)) V)
        (first | exact KS.out _ ((Up.drewN w1 1).gb _) | exact KS.out _ (((Up.drewN w1 1).alloc' _).gb _) | exact KS.out _ ((((Up.drewN w1 1).alloc' _).gb _).trans hg2))
        (first | (go_at_call 48; refine (M _).mono ?_; rintro e w' ⟨rfl, rfl⟩) | (refine step_append_bytes _ (by rfl) _ _ (by rfl) w0.heap.size _ (L ++ beB 4 (un ko)) (by rfl) O2.out (some ⟨w1.drew.heap.size, 0, none⟩) [m, loB pl] 2 2 (by rfl) rfl HR.out S2.out S1.out ?_; intro v2 w2 ho2 hg2 hx2))
      all_goals
        have HU2 := Lib.hid (((U1.out.drewN' 1).alloc' _).grown hg2 O1.out.block)
        have HO2 : Hid (Ow w2 w0.heap.size v2 (l ++ tkB ns (ks.take (k + 1)))) := Lib.hid (by rw [HT.out]; exact ho2)
        clear ho2 hg2 HT HL
        go_wp2
        go_roundw
        case rel => exact ⟨k + 1, by omega, by go_num, HO2.out, HU2.out⟩
        case measure => simp [intOf]; omega
    · have hkq : k = q := by omega
      subst hkq
      have HO' : Hid (Ow wr w0.heap.size u0 (l ++ tkB ns ks)) := Lib.hid (by have := HO.out; rw [List.take_of_length_le (by rw [HQ.out]; exact Nat.le_refl _)] at this; exact this)
      clear HO
      go_wp2
      go_ret
      exact ⟨_, rfl, HO'.out, HU.out⟩
end Go.Proofs.Ytoijaananjlfpaa
