/-
  'append(b, s...)' of a text; the program's block: layNames.
-/
import Derived.Test.YtaljddoenjgbfaaGreatLcMc
import Derived.Test.YtaljddoenjgbfaaGreatLcMa
import Derived.Test.YtaljddoenjgbfaaGreatLcMb
import Derived.Maps.OwnSet
import Derived.Maps.Views
import Derived.Lib.AppendStr
import Derived.StringKeys
import Derived.Deep.RegionHeldLaw
namespace Go.Proofs.YtaljddoenjgbfaaGreat
open Go.ChangeShapes Go.WideShapes Go.ChangeAt Go.RowKit Lc Go.Maps

set_option maxRecDepth 100000 in
theorem wpList_append_str (w : World) {ops : Array Oper} {rest : List Oper} {o : Oper} {a : Act} {Q : Exit → Act → World → Prop} (hgd : o.guard = none) (s x : Operand)
    (ho : o.op = .call { callee := .builtin .append, args := #[s, x], argTypes := #[32, 9] })
    (base : Nat) (v : Value) (l : List UInt8) (hs : a.eval s = v) (h : Ow w base v l) (t : ByteArray) (hx : a.eval x = .string t)
    (hsz : l.length + t.size ≤ 140737488355328) (hb : base ≤ w.heap.size)
    (k : ∀ v' w', Ow w' base v' (l ++ tx t) → w.grownBy w' v.ownBlock → wpList Tryz.prog ops Q rest (a.put o.dst v') w') : wpList Tryz.prog ops Q (o :: rest) a w := by
  obtain ⟨i0, hi, hz0, hz1, hz2⟩ := info_parts byteInfo
  refine Lib.wpList_append_own_string w hgd s x 32 9 ho base 5 i0 Tryz.underlying32 Tryz.underlying9 hi hz0 hz1 hz2 v l.length (bc l) hs h t hx (by unfold maxLen; omega) hsz hb fun v' w' h1 h2 _ => k v' w' ?_ h2
  unfold Ow
  rw [bc_append, List.length_append]
  exact h1

set_option maxRecDepth 100000 in
theorem skey : Keyed Tryz.prog 9 := string_keyed Tryz.underlying9
set_option maxRecDepth 100000 in
theorem zint (w : World) : (zeroValue 3).run Tryz.prog w = .ok (.int .i64 0) w := by kernel_rfl
/-- A name, as a key. -/
def nk (s : ByteArray) : Lit := .string s.data.toList
set_option maxRecDepth 100000 in
theorem nk_inj {s t : ByteArray} (h : nk s = nk t) : s = t := by
  unfold nk at h
  injection h with h
  exact ByteArray.ext (Array.toList_inj.1 h)
set_option maxRecDepth 100000 in
theorem nk_key {s : ByteArray} (h : s.size ≤ 255) : keyOf Tryz.prog 9 (.string s) = some (nk s) := WideMaps.keyOf_string_mk Tryz.underlying9 (by unfold maxLen; omega)
/-- The map D holds the places of the first k names. -/
def PlD (D : DataW Unit) (ns : List ByteArray) (k : Nat) : Prop :=
  ∀ s, (s ∈ ns.take k → Maps.has D (nk s) = true ∧ D.atKey (nk s) (.lit (.int .i64 0)) = .lit (.int .i64 (plcN ns s))) ∧ (¬ s ∈ ns.take k → Maps.has D (nk s) = false)
/-- Block B is such a map. -/
def Plm (w : World) (B : Nat) (ns : List ByteArray) (k : Nat) : Prop := ∃ D : DataW Unit, w.ownsMap Tryz.prog 9 (plainElem Tryz.prog 3) B k D ∧ PlD D ns k
set_option maxRecDepth 100000 in
theorem Plm.up {w w' : World} {B : Nat} {ns : List ByteArray} {k : Nat} (h : Plm w B ns k) (u : Up w w') : Plm w' B ns k := by
  obtain ⟨D, h1, h2⟩ := h
  exact ⟨D, h1.kept (row := none) ⟨u.os, u.tape, u.output, u.size, fun k hk _ => u.block k hk⟩ (by simp), h2⟩
set_option maxRecDepth 100000 in
theorem PlD.nil (ns : List ByteArray) : PlD (.map []) ns 0 := fun s => ⟨fun h => by simp at h, fun _ => rfl⟩
set_option maxRecDepth 100000 in
theorem PlD.old {D : DataW Unit} {ns : List ByteArray} {k : Nat} (h : PlD D ns k) (hk : k < ns.length) (hm : ns.getD k ByteArray.empty ∈ ns.take k) : PlD D ns (k + 1) := fun s => by
  have e : ∀ s, s ∈ ns.take (k + 1) ↔ s ∈ ns.take k := fun s => by
    rw [List.take_succ_eq_append_getElem hk, List.mem_append, List.mem_singleton]
    have : ns.getD k ByteArray.empty = ns[k] := by simp [List.getD, hk]
    rw [this] at hm
    exact ⟨fun h => h.elim id fun h => h ▸ hm, .inl⟩
  rw [e]; exact h s
set_option maxRecDepth 100000 in
theorem PlD.new {D : DataW Unit} {ns : List ByteArray} {k : Nat} (h : PlD D ns k) (hD : IsMap D) (hk : k < ns.length) (hm : ¬ ns.getD k ByteArray.empty ∈ ns.take k) (hs : WideAt.IsKeyLit (nk (ns.getD k ByteArray.empty))) :
    PlD (D.put (nk (ns.getD k ByteArray.empty)) (.lit (.int .i64 ((layN ns k).length : Int)))) ns (k + 1) := fun s => by
  have e : s ∈ ns.take (k + 1) ↔ s ∈ ns.take k ∨ s = ns.getD k ByteArray.empty := by
    rw [List.take_succ_eq_append_getElem hk, List.mem_append, List.mem_singleton]
    have : ns.getD k ByteArray.empty = ns[k] := by simp [List.getD, hk]
    rw [this]
  rw [e]
  by_cases c : s = ns.getD k ByteArray.empty
  · subst c
    refine ⟨fun _ => ⟨has_put_same hD hs _, ?_⟩, fun h => absurd (Or.inr rfl) h⟩
    rw [atKey_put_same hD hs]
    unfold plcN
    rw [idx_new hk hm]
  · have ne : nk s ≠ nk (ns.getD k ByteArray.empty) := fun h => c (nk_inj h)
    rw [has_put_other ne, atKey_put_other ne]
    refine ⟨fun g => (h s).1 (g.resolve_right c), fun g => (h s).2 fun x => g (.inl x)⟩

set_option maxRecDepth 100000 in
theorem getD_name {ks : List Knd} {k : Nat} (h : k < ks.length) : (ks.map Knd.name).getD k ByteArray.empty = (ks.getD k k0).name := by simp [List.getD, h]

set_option maxRecDepth 100000 in
set_option maxHeartbeats 2000000 in
theorem laynames_any (A : Option Addr) (ks : List Knd) (c : Nat) (w : World) (h256 : ks.length ≤ 256) (hsz : ∀ i, i < ks.length → (ks.getD i k0).name.size ≤ 255) (ra : Rc w A (kc ks)) :
    Calls Tryz.prog 46 #[.slice A ks.length c] w fun e w' => ∃ v, e = .returned (.tuple #[v, .map (some w.heap.size)]) ∧ Ow w' (w.heap.size + 1) v (layN (ks.map Knd.name) ks.length) ∧ Plm w' w.heap.size (ks.map Knd.name) ks.length ∧ Up w w' := by
  have RA := Lib.hid ra
  have HS := Lib.hid hsz
  clear ra hsz
  obtain ⟨q, hq⟩ : ∃ q, ks.length = q := ⟨_, rfl⟩
  obtain ⟨ns, hns⟩ : ∃ ns, ks.map Knd.name = ns := ⟨_, rfl⟩
  simp only [hq, hns] at h256 ⊢
  have HQ := Lib.hid hq
  have HN := Lib.hid hns
  have HL : Hid (ns.length = q) := Lib.hid (by rw [← hns, List.length_map, hq])
  have HG : Hid (∀ i, i < q → ns.getD i ByteArray.empty = (ks.getD i k0).name) := Lib.hid (fun i hi => by rw [← hns]; exact getD_name (by omega))
  have HZ : Hid (∀ i, i < q → (ns.getD i ByteArray.empty).size ≤ 255) := Lib.hid (fun i hi => by rw [HG.out i hi]; exact HS.out i (by omega))
  clear hq hns
  have hmm := @run_makeMap Tryz.prog
  go_enter Tryz.func46, Tryz.ntmps46
  go_wp2
  clear hmm
  go_loopw [4, 13] (fun v i wr => ∃ k : Nat, k ≤ q ∧ i = .int .i64 k ∧ Ow wr (w.heap.size + 1) v (layN ns k) ∧ Plm wr w.heap.size ns k ∧ Up w wr) (fun _ i _ => q - (intOf i).toNat)
  case atStart => exact ⟨0, Nat.zero_le _, rfl, Ow.nil _ _, ⟨_, World.ownsMap_made _ _ _ _, PlD.nil _⟩, Up.alloc _ _⟩
  case round =>
    obtain ⟨k, hk, rfl, ho, hp, hu⟩ := hrel
    have HO := Lib.hid ho
    have HP := Lib.hid hp
    have HU := Lib.hid hu
    clear ho hp hu
    by_cases hlt : k < q
    · obtain ⟨b, o, rfl, c1, c2, c3⟩ := (RA.out.up HU.out).knd (i := k) (by rw [HQ.out]; exact hlt)
      obtain ⟨ko, e1⟩ : ∃ x, Hid ((ks.getD k k0).off = x) := ⟨_, rfl⟩
      obtain ⟨kd, e2⟩ : ∃ x, Hid ((ks.getD k k0).dst = x) := ⟨_, rfl⟩
      obtain ⟨kn, e3⟩ : ∃ x, Hid ((ks.getD k k0).name = x) := ⟨_, rfl⟩
      rw [e1.out] at c1
      rw [e2.out] at c2
      rw [e3.out] at c3
      have hkn : kn.size ≤ 255 := by have := HS.out k (by rw [HQ.out]; exact hlt); rw [e3.out] at this; exact this
      have EN : Hid (ns.getD k ByteArray.empty = kn) := Lib.hid (by rw [HG.out k hlt, e3.out])
      obtain ⟨D, hown, hpl⟩ := HP.out
      have LL := layN_le ns k 255 (fun i hi => HZ.out i (by omega))
      have LL2 : (layN ns k).length ≤ 65536 := by omega
      clear LL
      by_cases hm : kn ∈ ns.take k
      · have hh := ((hpl kn).1 hm).1
        have HP' : Hid (Plm wr w.heap.size ns (k + 1)) := Lib.hid ⟨D, hown.mono (by omega), hpl.old (by rw [HL.out]; exact hlt) (by rw [EN.out]; exact hm)⟩
        have HO' : Hid (layN ns (k + 1) = layN ns k) := Lib.hid (layN_old (by rw [EN.out]; exact hm))
        have HM := Lib.hid hm
        have HW := Lib.hid hown
        have HH := Lib.hid hh
        clear hm hown hpl hh
        go_wp2_with (at_lookup; refine wpList_lookup_own_ok_int _ rfl _ _ 95 rfl 9 3 .i64 skey Tryz.underlying95 Tryz.underlying3 (zint _) w.heap.size k D rfl (HW.out.alloc _) _ _ rfl (nk_key hkn) ?_; intro cc hcc hwc; rw [HH.out])
        go_roundw
        case rel => exact ⟨k + 1, by omega, by go_num, by rw [HO'.out]; exact HO.out.up (Up.alloc _ _), HP'.out.up (Up.alloc _ _), HU.out.alloc' _⟩
        case measure => simp [intOf]; omega
      · have hh := (hpl kn).2 hm
        have hD := hown.isMap
        have ks0 : WideAt.IsKeyLit (nk kn) := skey.key (nk_key hkn)
        have HPD : Hid (PlD (D.put (nk kn) (.lit (.int .i64 ((layN ns k).length : Int)))) ns (k + 1)) := Lib.hid (by
          have := hpl.new hD (by rw [HL.out]; exact hlt) (by rw [EN.out]; exact hm) (by rw [EN.out]; exact ks0)
          rw [EN.out] at this; exact this)
        have HO' : Hid (layN ns (k + 1) = layN ns k ++ (tx kn ++ [0])) := Lib.hid (by rw [layN_new (by rw [EN.out]; exact hm), EN.out])
        have HW := Lib.hid hown
        have HH := Lib.hid hh
        clear hm hown hpl hh ks0 hD
        obtain ⟨A', c', rfl, q1, q2, q3, q4⟩ := HO.out.form
        have HF := Lib.hid q4
        have HR := Lib.hid q3
        clear q4 q3
        have WF : (Lit.int .i64 ((layN ns k).length : Int)).wf = true := WalkArith.wf_i64 (by omega)
        have blt : w.heap.size < wr.heap.size := HW.out.lt
        obtain ⟨L, hL⟩ : ∃ L, layN ns k = L := ⟨_, rfl⟩
        rw [hL] at HO HPD HO' LL2 WF q1 ⊢
        have HL := Lib.hid hL
        clear hL
        go_wp2_with (first
          | (at_lookup; refine wpList_lookup_own_ok_int _ rfl _ _ 95 rfl 9 3 .i64 skey Tryz.underlying95 Tryz.underlying3 (zint _) w.heap.size k D rfl (HW.out.alloc _) _ _ rfl (nk_key hkn) ?_; intro cc hcc hwc; rw [HH.out])
          | (at_mapUpdate; refine wpList_mapUpdate_own _ rfl _ _ _ 95 rfl 9 3 skey Tryz.underlying95 _ w.heap.size k _ rfl (HW.out.alloc _) (by unfold maxLen; omega) _ _ _ rfl rfl (nk_key hkn) _ [] (plainElem_int Tryz.underlying3 WF) ?_))
        intro w1 hown1 hgrow1
        have nb : (Value.slice A' L.length c').ownBlock = none ∨ (Value.slice A' L.length c').ownBlock ≠ some w.heap.size := by
          rcases hb : (Value.slice A' L.length c').ownBlock with _ | g
          · exact .inl rfl
          · refine .inr fun e => ?_
            injection e with e
            have := HO.out.block g hb
            omega
        have HO1 : Hid (Ow w1 (w.heap.size + 1) (.slice A' L.length c') L) := Lib.hid (World.ownsRow.kept (HO.out.up (Up.alloc _ _)) hgrow1 nb)
        have U1 : Hid (Up w w1) := Lib.hid (Below.grown (HU.out.alloc' _) hgrow1 (HU.out.alloc' _).size (fun j hj => by cases hj; exact Nat.le_refl _))
        have HM1 : Hid (Plm w1 w.heap.size ns (k + 1)) := Lib.hid ⟨_, hown1, HPD.out⟩
        have cn : w1.cell? ⟨wr.heap.size, 2, none⟩ = some (.string kn) := by
          rw [hgrow1.cell_far _ (by simp) (by simp; omega)]
          simp
        have sz1 : w.heap.size + 1 ≤ w1.heap.size := by have := hown1.lt; omega
        clear hown1 hgrow1 HO HPD HW HP
        go_wp2_with (at_builtin; refine wpList_append_str _ rfl _ _ rfl (w.heap.size + 1) _ L rfl HO1.out kn rfl ?e1 ?e2 ?_)
        case e1 => omega
        case e2 => exact sz1
        intro v2 w2 ho2 hg2
        have nb2 : some w.heap.size ≠ (Value.slice A' L.length c').ownBlock := fun e => by
          have := HO1.out.block w.heap.size e.symm
          omega
        have U2 : Hid (Up w w2) := Lib.hid (U1.out.grown hg2 (fun j hj => by have := HO1.out.block j hj; omega))
        have HM2 : Hid (Plm w2 w.heap.size ns (k + 1)) := Lib.hid (by
          obtain ⟨D', x1, x2⟩ := HM1.out
          exact ⟨D', x1.kept hg2 nb2, x2⟩)
        have HO2 := Lib.hid ho2
        have sz2 : w.heap.size + 1 ≤ w2.heap.size := by have := hg2.size; omega
        clear ho2 hg2 HM1 HO1 U1 cn nb nb2
        go_wp2_with (at_builtin; refine wpList_append_bytes _ rfl _ _ rfl (w.heap.size + 1) _ (L ++ tx kn) rfl (HO2.out.up (Up.alloc _ _)) (some ⟨w2.heap.size, 0, none⟩) [0] 1 1 rfl rfl (Rd.one _ _ _ _ ?e1) ?e2 ?e3 ?_)
        case e1 => rfl
        case e2 => 
          have : (tx kn).length = kn.size := rfl
          simp only [List.length_append, List.length_cons, List.length_nil]; omega
        case e3 => simp; omega
        intro v3 w3 ho3 hg3 _
        have U3 : Hid (Up w w3) := Lib.hid ((U2.out.alloc' _).grown hg3 (fun j hj => by have := HO2.out.block j hj; omega))
        have HM3 : Hid (Plm w3 w.heap.size ns (k + 1)) := Lib.hid (by
          obtain ⟨D', x1, x2⟩ := HM2.out
          exact ⟨D', (x1.alloc _).kept hg3 (fun e => by have := HO2.out.block w.heap.size e.symm; omega), x2⟩)
        have HO3 : Hid (Ow w3 (w.heap.size + 1) v3 (layN ns (k + 1))) := Lib.hid (by rw [HO'.out]; exact ho3)
        clear ho3 hg3 HM2 HO2 U2
        go_wp2
        go_roundw
        case rel => exact ⟨k + 1, by omega, by go_num, HO3.out, HM3.out, U3.out⟩
        case measure => simp [intOf]; omega
    · have hkq : k = q := by omega
      subst hkq
      go_wp2
      go_ret2
      exact ⟨_, rfl, HO.out, HP.out, HU.out⟩
end Go.Proofs.YtaljddoenjgbfaaGreat
/-
  The program's block: tell, tellMarks, tellJumps, tellLeaps.
-/
namespace Go.Proofs.YtaljddoenjgbfaaGreat
open Go.ChangeShapes Go.WideShapes Go.ChangeAt Go.RowKit Lc

set_option maxRecDepth 100000 in
theorem Up.gb {w w' : World} (u : Up w w') (row : Option Nat) : w.grownBy w' row := ⟨u.os, u.tape, u.output, u.size, fun k hk _ => u.block k hk⟩
set_option maxRecDepth 100000 in
/-- A cell elsewhere is as it was. -/
theorem gb_cell {w w' : World} {v : Value} (h : w.grownBy w' v.ownBlock) {b o : Nat} {u : Value} (hc : w.cell? ⟨b, o, none⟩ = some u) (hn : ∀ k, v.ownBlock = some k → k ≠ b) : w'.cell? ⟨b, o, none⟩ = some u := by
  rw [h.cell_far _ (cell_lt hc) (fun e => hn b e.symm rfl)]; exact hc
set_option maxRecDepth 100000 in
theorem un_wrap (n : Int) : (IntKind.u64.wrap n).toNat = un n := by
  unfold un; rw [IntKind.wrap_u64]
set_option maxRecDepth 100000 in
theorem un_pos (n : Int) : 0 ≤ IntKind.u64.wrap n := by rw [IntKind.wrap_u64]; omega
set_option maxRecDepth 100000 in
theorem put_nil (z : Nat) (hz : z = 4 ∨ z = 8) (n : Int) (w : World) : Calls Tryz.prog 67 #[.slice none 0 0, .int .i64 z, .int .u64 (IntKind.u64.wrap n)] w fun e w' => ∃ v', e = .returned v' ∧ Ow w' w.heap.size v' (beB z (un n)) ∧ Up w w' := by
  have h := put_any none [] 0 (z : Int) (IntKind.u64.wrap n) w (by simp) (WalkArith.wf_i64 (by omega)) (un_pos n) (Rd.nil _ _)
  rw [un_wrap, List.nil_append] at h
  have e : putM (z : Int) = z := by unfold putM; omega
  rw [e] at h
  exact h

set_option maxRecDepth 100000 in
set_option maxHeartbeats 1000000 in
theorem tell_any (base : Nat) (w : World) (v : Value) (l : List UInt8) (z : Nat) (hz : z = 4 ∨ z = 8) (n : Int) (hb : base ≤ w.heap.size) (ho : Ow w base v l) (hl : l.length ≤ 1000000) :
    Calls Tryz.prog 73 #[v, .int .i64 z, .int .i64 n] w fun e w' => ∃ v', e = .returned v' ∧ Ow w' base v' (l ++ beB z (un n)) ∧ w.grownBy w' v.ownBlock ∧ (∀ k, v'.ownBlock = some k → v.ownBlock = some k ∨ w.heap.size ≤ k) := by
  have C := Lib.hid (fun w => put_nil z hz n w)
  have HO := Lib.hid ho
  have BL := Lib.hid (beB_len z (un n))
  have hz8 : z ≤ 8 := by omega
  clear ho hz
  generalize beB z (un n) = B at *
  go_enter Tryz.func73, Tryz.ntmps73
  go_wp2_with fail
  refine (C.out _).mono ?_; rintro e w1 ⟨v1, rfl, ho1, hu1⟩
  obtain ⟨A1, c1, rfl, q1, q2, q3, _⟩ := ho1.form
  have HU1 := Lib.hid hu1
  have HO1 := Lib.hid (HO.out.up hu1)
  have HR := Lib.hid q3
  have sz : w.heap.size ≤ w1.heap.size := hu1.size
  clear q3 ho1 hu1 C
  go_wp2_with (at_builtin; refine wpList_append_bytes _ rfl _ _ rfl base _ l rfl HO1.out A1 B _ c1 rfl rfl HR.out ?e1 ?e2 ?_)
  case e1 => have := BL.out; omega
  case e2 => omega
  intro v2 w2 ho2 hg2 hx2
  have HG2 := Lib.hid ((HU1.out.gb v.ownBlock).trans hg2)
  have HO2 := Lib.hid ho2
  have HX2 : Hid (∀ k, v2.ownBlock = some k → v.ownBlock = some k ∨ w.heap.size ≤ k) := Lib.hid (fun k hk => by
    rcases hx2 with h | h
    · exact .inl (h ▸ hk)
    · rw [h] at hk; injection hk with hk; exact .inr (by omega))
  clear ho2 hg2 hx2
  go_wp2
  go_ret
  exact ⟨_, rfl, HO2.out, HG2.out, HX2.out⟩

set_option maxRecDepth 100000 in
/-- A row of one's own has no block that is not there yet. -/
theorem Ow.ne {w : World} {base : Nat} {v : Value} {l : List UInt8} (h : Ow w base v l) {w' : World} (u : w.heap.size ≤ w'.heap.size) : ∀ k, v.ownBlock = some k → k ≠ w'.heap.size := fun k hk => by
  have := (World.ownsRow.lt h k hk).2; omega

set_option maxRecDepth 100000 in
set_option maxHeartbeats 1000000 in
theorem tmarks_any (w0 w : World) (u : Up w0 w) (v : Value) (l : List UInt8) (A : Option Addr) (bs : List Bool) (c : Nat) (ho : Ow w w0.heap.size v l) (hl : l.length ≤ 1000000) (hq : bs.length ≤ 10000) (ra : Rc w0 A (oc bs)) :
    Calls Tryz.prog 63 #[v, .slice A bs.length c] w fun e w' => ∃ v', e = .returned v' ∧ Ow w' w0.heap.size v' (l ++ tmB bs) ∧ Up w0 w' := by
  have RA := Lib.hid ra
  have HO := Lib.hid ho
  have HU := Lib.hid u
  clear ra ho u
  obtain ⟨q, hq'⟩ : ∃ q, bs.length = q := ⟨_, rfl⟩
  simp only [hq'] at hq ⊢
  have HQ := Lib.hid hq'
  clear hq'
  go_enter Tryz.func63, Tryz.ntmps63
  go_wp2
  go_loopw [0, 9] (fun v i wr => ∃ k : Nat, k ≤ q ∧ i = .int .i64 k ∧ Ow wr w0.heap.size v (l ++ tmB (bs.take k)) ∧ Up w0 wr) (fun _ i _ => q - (intOf i).toNat)
  case atStart => exact ⟨0, Nat.zero_le _, rfl, by rw [List.take_zero]; simpa [tmB] using HO.out, HU.out⟩
  case round =>
    clear HO HU
    obtain ⟨k, hk, rfl, ho, hu⟩ := hrel
    have HO := Lib.hid ho
    have HU := Lib.hid hu
    clear ho hu
    by_cases hlt : k < q
    · obtain ⟨b, o, rfl, c1⟩ := (RA.out.up HU.out).bol (i := k) (by rw [HQ.out]; exact hlt)
      have HT : Hid (l ++ tmB (bs.take (k + 1)) = l ++ tmB (bs.take k) ++ [mkB (bs.getD k false)]) := Lib.hid (by unfold tmB; rw [mp_take mkB bs false (by rw [HQ.out]; exact hlt), List.append_assoc])
      have HLn : Hid ((l ++ tmB (bs.take k)).length ≤ 1010000) := Lib.hid (by rw [List.length_append, tmB_len, List.length_take]; omega)
      obtain ⟨x, hx⟩ : ∃ x, bs.getD k false = x := ⟨_, rfl⟩
      rw [hx] at c1 HT
      clear hx
      have M := fun w => mark_any x w
      generalize hL : l ++ tmB (bs.take k) = L at *
      have HL := Lib.hid hL
      clear hL
      generalize hm : mkB x = m at *
      clear hm
      have ml := m.toNat_lt
      go_wp2_with (first
        | (go_at_call 74; refine (M _).mono ?_; rintro e w' ⟨rfl, rfl⟩)
        | (at_builtin; refine wpList_append_bytes _ rfl _ _ rfl w0.heap.size _ L rfl (HO.out.up (Up.alloc _ _)) (some ⟨wr.heap.size, 0, none⟩) [m] 1 1 rfl rfl (Rd.one _ _ _ _ ?e1) ?e2 ?e3 ?_))
      case e1 => rfl
      case e2 => have := HLn.out; simp only [List.length_cons, List.length_nil]; omega
      case e3 => have := HU.out.size; simp; omega
      intro v2 w2 ho2 hg2 _
      have HU2 := Lib.hid ((HU.out.alloc' _).grown hg2 HO.out.block)
      have HO2 : Hid (Ow w2 w0.heap.size v2 (l ++ tmB (bs.take (k + 1)))) := Lib.hid (by rw [HT.out]; exact ho2)
      clear ho2 hg2 HT HL HLn M
      go_wp2
      go_roundw
      case rel => exact ⟨k + 1, by omega, by go_num, HO2.out, HU2.out⟩
      case measure => simp [intOf]; omega
    · have hkq : k = q := by omega
      subst hkq
      have HO' : Hid (Ow wr w0.heap.size u0 (l ++ tmB bs)) := Lib.hid (by have := HO.out; rw [List.take_of_length_le (by rw [HQ.out]; exact Nat.le_refl _)] at this; exact this)
      clear HO
      go_wp2
      go_ret
      exact ⟨_, rfl, HO'.out, HU.out⟩
end Go.Proofs.YtaljddoenjgbfaaGreat
/-
  The program's block: tellLeaps, tellJumps.
-/
namespace Go.Proofs.YtaljddoenjgbfaaGreat
open Go.ChangeShapes Go.WideShapes Go.ChangeAt Go.RowKit Lc

set_option maxRecDepth 100000 in
theorem low_byte (n : Int) : IntKind.u8.wrap n = (loB n).toNat := by
  rw [IntKind.wrap_u8]; unfold loB; simp; omega
set_option maxRecDepth 100000 in
set_option maxHeartbeats 1000000 in
theorem tleaps_any (w0 w : World) (u : Up w0 w) (v : Value) (l : List UInt8) (A : Option Addr) (ls : List Lep) (c z : Nat) (hz : z = 4 ∨ z = 8) (ho : Ow w w0.heap.size v l) (hl : l.length ≤ 500000) (hq : ls.length ≤ 10000) (ra : Rc w0 A (lc ls)) :
    Calls Tryz.prog 62 #[v, .slice A ls.length c, .int .i64 z] w fun e w' => ∃ v', e = .returned v' ∧ Ow w' w0.heap.size v' (l ++ tlB z ls) ∧ Up w0 w' := by
  have RA := Lib.hid ra
  have HO := Lib.hid ho
  have HU := Lib.hid u
  have HZ := Lib.hid hz
  have hz8 : z ≤ 8 := by omega
  clear ra ho u hz
  obtain ⟨q, hq'⟩ : ∃ q, ls.length = q := ⟨_, rfl⟩
  simp only [hq'] at hq ⊢
  have HQ := Lib.hid hq'
  clear hq'
  go_enter Tryz.func62, Tryz.ntmps62
  go_wp2
  go_loopw [0, 11] (fun v i wr => ∃ k : Nat, k ≤ q ∧ i = .int .i64 k ∧ Ow wr w0.heap.size v (l ++ tlB z (ls.take k)) ∧ Up w0 wr) (fun _ i _ => q - (intOf i).toNat)
  case atStart => exact ⟨0, Nat.zero_le _, rfl, by rw [List.take_zero]; simpa [tlB] using HO.out, HU.out⟩
  case round =>
    clear HO HU
    obtain ⟨k, hk, rfl, ho, hu⟩ := hrel
    have HO := Lib.hid ho
    have HU := Lib.hid hu
    clear ho hu
    by_cases hlt : k < q
    · obtain ⟨b, o, rfl, c1, c2⟩ := (RA.out.up HU.out).lep (i := k) (by rw [HQ.out]; exact hlt)
      have HT : Hid (l ++ tlB z (ls.take (k + 1)) = l ++ tlB z (ls.take k) ++ beB z (un (ls.getD k l0).t) ++ beB 4 (un (ls.getD k l0).c)) := Lib.hid (by unfold tlB; rw [fm_take _ ls l0 (by rw [HQ.out]; exact hlt), List.append_assoc, List.append_assoc])
      have HLn : (l ++ tlB z (ls.take k)).length ≤ 620000 := by
        rw [List.length_append, tlB_len, List.length_take]
        have h1 : min k ls.length * (z + 4) ≤ 10000 * 12 := Nat.mul_le_mul (by omega) (by omega)
        omega
      obtain ⟨lt, e1⟩ : ∃ x, Hid ((ls.getD k l0).t = x) := ⟨_, rfl⟩
      obtain ⟨lk, e2⟩ : ∃ x, Hid ((ls.getD k l0).c = x) := ⟨_, rfl⟩
      rw [e1.out] at c1 HT
      rw [e2.out] at c2 HT
      generalize hL : l ++ tlB z (ls.take k) = L at *
      have HL := Lib.hid hL
      clear hL
      obtain ⟨wa, hwa⟩ : ∃ wa, wa = wr.alloc (.cells #[.int .i64 lt, .int .i64 lk] 73) := ⟨_, rfl⟩
      have OA : Hid (Ow wa w0.heap.size u0 L) := Lib.hid (by rw [hwa]; exact HO.out.up (Up.alloc _ _))
      have UA : Hid (Up w0 wa) := Lib.hid (by rw [hwa]; exact HU.out.alloc' _)
      have CA : Hid (wa.cell? ⟨wr.heap.size, 1, none⟩ = some (.int .i64 lk)) := Lib.hid (by rw [hwa]; simp)
      have HW := Lib.hid hwa
      clear hwa
      go_wp2_with fail
      rw [← HW.out]
      refine (tell_any w0.heap.size wa u0 L z HZ.out lt UA.out.size OA.out (by omega)).mono ?_
      rintro e w1 ⟨v1, rfl, ho1, hg1, _⟩
      have c3 := gb_cell hg1 CA.out (HO.out.ne (Nat.le_refl _))
      have U1 := Lib.hid (UA.out.grown hg1 OA.out.block)
      have O1 := Lib.hid ho1
      clear hg1 ho1 OA UA CA HW
      go_wp2_with fail
      refine (tell_any w0.heap.size w1 v1 (L ++ beB z (un lt)) 4 (.inl rfl) lk U1.out.size O1.out (by rw [List.length_append, beB_len]; omega)).mono ?_
      rintro e w2 ⟨v2, rfl, ho2, hg2, _⟩
      have U2 := Lib.hid (U1.out.grown hg2 O1.out.block)
      have O2 : Hid (Ow w2 w0.heap.size v2 (l ++ tlB z (ls.take (k + 1)))) := Lib.hid (by rw [HT.out]; exact ho2)
      clear hg2 ho2 O1 U1 HT c3
      go_wp2
      go_roundw
      case rel => exact ⟨k + 1, by omega, by go_num, O2.out, U2.out⟩
      case measure => simp [intOf]; omega
    · have hkq : k = q := by omega
      subst hkq
      have HO' : Hid (Ow wr w0.heap.size u0 (l ++ tlB z ls)) := Lib.hid (by have := HO.out; rw [List.take_of_length_le (by rw [HQ.out]; exact Nat.le_refl _)] at this; exact this)
      clear HO
      go_wp2
      go_ret
      exact ⟨_, rfl, HO'.out, HU.out⟩

set_option maxRecDepth 100000 in
set_option maxHeartbeats 1000000 in
theorem tjumps_any (w0 w : World) (u : Up w0 w) (v : Value) (l : List UInt8) (A : Option Addr) (js : List Jmp) (c z : Nat) (hz : z = 4 ∨ z = 8) (ho : Ow w w0.heap.size v l) (hl : l.length ≤ 500000) (hq : js.length ≤ 10000) (ra : Rc w0 A (jc js)) :
    Calls Tryz.prog 60 #[v, .slice A js.length c, .int .i64 z] w fun e w' => ∃ v', e = .returned v' ∧ Ow w' w0.heap.size v' (l ++ mtB z js ++ mjB js) ∧ Up w0 w' := by
  have RA := Lib.hid ra
  have HO := Lib.hid ho
  have HU := Lib.hid u
  have HZ := Lib.hid hz
  have hz8 : z ≤ 8 := by omega
  clear ra ho u hz
  obtain ⟨q, hq'⟩ : ∃ q, js.length = q := ⟨_, rfl⟩
  simp only [hq'] at hq ⊢
  have HQ := Lib.hid hq'
  clear hq'
  go_enter Tryz.func60, Tryz.ntmps60
  go_wp2
  go_loopw [0, 13] (fun v i wr => ∃ k : Nat, k ≤ q ∧ i = .int .i64 k ∧ Ow wr w0.heap.size v (l ++ mtB z (js.take k)) ∧ Up w0 wr) (fun _ i _ => q - (intOf i).toNat)
  case atStart => exact ⟨0, Nat.zero_le _, rfl, by rw [List.take_zero]; simpa [mtB] using HO.out, HU.out⟩
  case round =>
    clear HO HU
    obtain ⟨k, hk, rfl, ho, hu⟩ := hrel
    have HO := Lib.hid ho
    have HU := Lib.hid hu
    clear ho hu
    by_cases hlt : k < q
    · obtain ⟨b, o, rfl, hc⟩ := (RA.out.up HU.out).jmp (i := k) (by rw [HQ.out]; exact hlt)
      obtain ⟨c1, c2⟩ := hc k (by rw [HQ.out]; exact hlt)
      clear hc
      have HT : Hid (l ++ mtB z (js.take (k + 1)) = l ++ mtB z (js.take k) ++ beB z (un (js.getD k j0).t)) := Lib.hid (by unfold mtB; rw [fm_take _ js j0 (by rw [HQ.out]; exact hlt), List.append_assoc])
      have HLn : (l ++ mtB z (js.take k)).length ≤ 580000 := by
        rw [List.length_append, mtB_len, List.length_take]
        have h1 : min k js.length * z ≤ 10000 * 8 := Nat.mul_le_mul (by omega) (by omega)
        omega
      obtain ⟨lt, e1⟩ : ∃ x, Hid ((js.getD k j0).t = x) := ⟨_, rfl⟩
      obtain ⟨lk, e2⟩ : ∃ x, Hid ((js.getD k j0).k = x) := ⟨_, rfl⟩
      rw [e1.out] at c1 HT
      rw [e2.out] at c2
      generalize hL : l ++ mtB z (js.take k) = L at *
      have HL := Lib.hid hL
      clear hL
      obtain ⟨wa, hwa⟩ : ∃ wa, wa = wr.alloc (.cells #[.int .i64 lt, .int .i64 lk] 70) := ⟨_, rfl⟩
      have OA : Hid (Ow wa w0.heap.size u0 L) := Lib.hid (by rw [hwa]; exact HO.out.up (Up.alloc _ _))
      have UA : Hid (Up w0 wa) := Lib.hid (by rw [hwa]; exact HU.out.alloc' _)
      have HW := Lib.hid hwa
      clear hwa
      go_wp2_with fail
      rw [← HW.out]
      refine (tell_any w0.heap.size wa u0 L z HZ.out lt UA.out.size OA.out (by omega)).mono ?_
      rintro e w1 ⟨v1, rfl, ho1, hg1, _⟩
      have U1 := Lib.hid (UA.out.grown hg1 OA.out.block)
      have O1 : Hid (Ow w1 w0.heap.size v1 (l ++ mtB z (js.take (k + 1)))) := Lib.hid (by rw [HT.out]; exact ho1)
      clear hg1 ho1 OA UA HW HT
      go_wp2
      go_roundw
      case rel => exact ⟨k + 1, by omega, by go_num, O1.out, U1.out⟩
      case measure => simp [intOf]; omega
    · have hkq : k = q := by omega
      subst hkq
      have HO' : Hid (Ow wr w0.heap.size u0 (l ++ mtB z js)) := Lib.hid (by have := HO.out; rw [List.take_of_length_le (by rw [HQ.out]; exact Nat.le_refl _)] at this; exact this)
      have HLn : (l ++ mtB z js).length ≤ 580000 := by
        rw [List.length_append, mtB_len, HQ.out]
        have h1 : k * z ≤ 10000 * 8 := Nat.mul_le_mul (by omega) (by omega)
        omega
      clear HO
      obtain ⟨L, hL⟩ : ∃ L, l ++ mtB z js = L := ⟨_, rfl⟩
      rw [hL] at HO' HLn
      have HL0 := Lib.hid hL
      clear hL
      have HU0 := HU
      have HOL := HO'
      clear HU HO'
      go_wp2
      go_loopw [0, 25] (fun v i wr => ∃ j : Nat, j ≤ k ∧ i = .int .i64 j ∧ Ow wr w0.heap.size v (L ++ mjB (js.take j)) ∧ Up w0 wr) (fun _ i _ => k - (intOf i).toNat)
      case atStart => exact ⟨0, Nat.zero_le _, rfl, by rw [List.take_zero]; simpa [mjB] using HOL.out, HU0.out⟩
      case round =>
        clear HU0 HOL
        obtain ⟨j, hj, rfl, ho, hu⟩ := hrel
        have HO := Lib.hid ho
        have HU := Lib.hid hu
        clear ho hu
        by_cases hlt2 : j < k
        · obtain ⟨b, o, rfl, hc⟩ := (RA.out.up HU.out).jmp (i := j) (by rw [HQ.out]; exact hlt2)
          obtain ⟨c1, c2⟩ := hc j (by rw [HQ.out]; exact hlt2)
          clear hc
          have HT : Hid (L ++ mjB (js.take (j + 1)) = L ++ mjB (js.take j) ++ [loB (js.getD j j0).k]) := Lib.hid (by unfold mjB; rw [mp_take _ js j0 (by rw [HQ.out]; exact hlt2), List.append_assoc])
          have HLn2 : (L ++ mjB (js.take j)).length ≤ 600000 := by
            rw [List.length_append, mjB_len, List.length_take]; omega
          obtain ⟨lt, e1⟩ : ∃ x, Hid ((js.getD j j0).t = x) := ⟨_, rfl⟩
          obtain ⟨lk, e2⟩ : ∃ x, Hid ((js.getD j j0).k = x) := ⟨_, rfl⟩
          rw [e1.out] at c1
          rw [e2.out] at c2 HT
          generalize hL : L ++ mjB (js.take j) = M at *
          have HL := Lib.hid hL
          clear hL
          go_wp2_with (at_builtin; refine wpList_append_bytes _ rfl _ _ rfl w0.heap.size _ M rfl ((HO.out.up (Up.alloc _ _)).up (Up.alloc _ _)) (some ⟨wr.heap.size + 1, 0, none⟩) [loB lk] 1 1 rfl rfl ?e1 ?e2 ?e3 ?_)
          case e1 =>
            have h := Rd.one (wr.alloc (.cells #[.int .i64 lt, .int .i64 lk] 70)) (lk % 256) (loB lk) 5 (by have := low_byte lk; rw [IntKind.wrap_u8] at this; exact this)
            simpa using h
          case e2 => simp only [List.length_cons, List.length_nil]; omega
          case e3 => have := HU.out.size; simp; omega
          intro v2 w2 ho2 hg2 _
          have HU2 := Lib.hid (((HU.out.alloc' _).alloc' _).grown hg2 HO.out.block)
          have HO2 : Hid (Ow w2 w0.heap.size v2 (L ++ mjB (js.take (j + 1)))) := Lib.hid (by rw [HT.out]; exact ho2)
          clear ho2 hg2 HT HL
          go_wp2
          go_roundw
          case rel => exact ⟨j + 1, by omega, by go_num, HO2.out, HU2.out⟩
          case measure => simp [intOf]; omega
        · have hjq : j = k := by omega
          subst hjq
          have HO' : Hid (Ow wr w0.heap.size u0 (l ++ mtB z js ++ mjB js)) := Lib.hid (by have := HO.out; rw [List.take_of_length_le (by rw [HQ.out]; exact Nat.le_refl _)] at this; rw [HL0.out]; exact this)
          clear HO
          go_wp2
          go_ret
          exact ⟨_, rfl, HO'.out, HU.out⟩
end Go.Proofs.YtaljddoenjgbfaaGreat
/-
  The program's block: tellKinds.
-/
namespace Go.Proofs.YtaljddoenjgbfaaGreat
open Go.ChangeShapes Go.WideShapes Go.ChangeAt Go.RowKit Lc Go.Maps

set_option maxRecDepth 100000 in
theorem flipS {f : FuncId} {args : Array Value} {w : World} {v : Value} (h : Calls Tryz.prog f args w fun e w' => e = .returned v ∧ w = w') : Calls Tryz.prog f args w fun e w' => e = .returned v ∧ w' = w :=
  h.mono fun _ _ ⟨a, b⟩ => ⟨a, b.symm⟩
set_option maxRecDepth 100000 in
/-- The place of a name, asked. -/
theorem Plm.look {w : World} {B : Nat} {ns : List ByteArray} {k : Nat} (h : Plm w B ns k) {s : ByteArray} (hs : s ∈ ns.take k) (hz : s.size ≤ 255) : (Instr.lookup 95 (.map (some B)) (.string s) false).run Tryz.prog w = .ok (.int .i64 (plcN ns s)) w := by
  obtain ⟨D, h1, h2⟩ := h
  obtain ⟨c, hr, hat, _⟩ := h1.lookup_int skey Tryz.underlying95 Tryz.underlying3 (zint _) (nk_key hz)
  rw [((h2 s).1 hs).2] at hat
  simp only [DataW.lit.injEq, Lit.int.injEq, true_and] at hat
  rw [hr, hat]

set_option maxRecDepth 100000 in
set_option maxHeartbeats 2000000 in
theorem tkinds_any (w0 w : World) (u : Up w0 w) (v : Value) (l : List UInt8) (A : Option Addr) (ks : List Knd) (c B : Nat) (ho : Ow w w0.heap.size v l) (hl : l.length ≤ 500000) (hq : ks.length ≤ 256) (hsz : ∀ i, i < ks.length → (ks.getD i k0).name.size ≤ 255) (ra : Rc w0 A (kc ks)) (hp : Plm w0 B (ks.map Knd.name) ks.length) :
    Calls Tryz.prog 61 #[v, .slice A ks.length c, .map (some B)] w fun e w' => ∃ v', e = .returned v' ∧ Ow w' w0.heap.size v' (l ++ tkB (ks.map Knd.name) ks) ∧ Up w0 w' := by
  have RA := Lib.hid ra
  have HO := Lib.hid ho
  have HU := Lib.hid u
  have HS := Lib.hid hsz
  have HP := Lib.hid hp
  clear ra ho u hsz hp
  obtain ⟨q, hq'⟩ : ∃ q, ks.length = q := ⟨_, rfl⟩
  have HM : Hid (∀ i, i < ks.length → (ks.getD i k0).name ∈ (ks.map Knd.name).take ks.length) := Lib.hid (fun i hi => by
    rw [List.take_of_length_le (by simp), ← getD_name hi]
    exact getD_mem (by simpa using hi))
  obtain ⟨ns, hns⟩ : ∃ ns, ks.map Knd.name = ns := ⟨_, rfl⟩
  simp only [hq', hns] at hq ⊢
  simp only [hns] at HM HP
  have HQ := Lib.hid hq'
  clear hq' hns
  go_enter Tryz.func61, Tryz.ntmps61
  go_wp2
  go_loopw [0, 11] (fun v i wr => ∃ k : Nat, k ≤ q ∧ i = .int .i64 k ∧ Ow wr w0.heap.size v (l ++ tkB ns (ks.take k)) ∧ Up w0 wr) (fun _ i _ => q - (intOf i).toNat)
  case atStart => exact ⟨0, Nat.zero_le _, rfl, by rw [List.take_zero]; simpa [tkB] using HO.out, HU.out⟩
  case round =>
    clear HO HU
    obtain ⟨k, hk, rfl, ho, hu⟩ := hrel
    have HO := Lib.hid ho
    have HU := Lib.hid hu
    clear ho hu
    by_cases hlt : k < q
    · obtain ⟨b, o, rfl, c1, c2, c3⟩ := (RA.out.up HU.out).knd (i := k) (by rw [HQ.out]; exact hlt)
      have HT : Hid (l ++ tkB ns (ks.take (k + 1)) = l ++ tkB ns (ks.take k) ++ beB 4 (un (ks.getD k k0).off) ++ [mkB (ks.getD k k0).dst, loB (plcN ns (ks.getD k k0).name)]) := Lib.hid (by unfold tkB; rw [fm_take _ ks k0 (by rw [HQ.out]; exact hlt), List.append_assoc, List.append_assoc])
      have HLn : (l ++ tkB ns (ks.take k)).length ≤ 520000 := by
        rw [List.length_append, tkB_len, List.length_take]; omega
      have LK : Hid (∀ V, Up w0 V → (Instr.lookup 95 (.map (some B)) (.string (ks.getD k k0).name) false).run Tryz.prog V = .ok (.int .i64 (plcN ns (ks.getD k k0).name)) V) := Lib.hid (fun V hV => (HP.out.up hV).look (HM.out k (by rw [HQ.out]; exact hlt)) (HS.out k (by rw [HQ.out]; exact hlt)))
      obtain ⟨ko, e1⟩ : ∃ x, Hid ((ks.getD k k0).off = x) := ⟨_, rfl⟩
      obtain ⟨kd, e2⟩ : ∃ x, Hid ((ks.getD k k0).dst = x) := ⟨_, rfl⟩
      obtain ⟨kn, e3⟩ : ∃ x, Hid ((ks.getD k k0).name = x) := ⟨_, rfl⟩
      rw [e1.out] at c1 HT
      rw [e2.out] at c2 HT
      rw [e3.out] at c3 HT LK
      generalize hL : l ++ tkB ns (ks.take k) = L at *
      have HL := Lib.hid hL
      clear hL
      generalize hpl : plcN ns kn = pl at *
      clear hpl
      obtain ⟨wa, hwa⟩ : ∃ wa, wa = wr.alloc (.cells #[.int .i64 ko, .bool kd, .string kn] 51) := ⟨_, rfl⟩
      have OA : Hid (Ow wa w0.heap.size u0 L) := Lib.hid (by rw [hwa]; exact HO.out.up (Up.alloc _ _))
      have UA : Hid (Up w0 wa) := Lib.hid (by rw [hwa]; exact HU.out.alloc' _)
      have CA : Hid (wa.cell? ⟨wr.heap.size, 1, none⟩ = some (.bool kd) ∧ wa.cell? ⟨wr.heap.size, 2, none⟩ = some (.string kn)) := Lib.hid (by rw [hwa]; simp)
      have HW := Lib.hid hwa
      clear hwa
      go_wp2_with fail
      rw [← HW.out]
      refine (tell_any w0.heap.size wa u0 L 4 (.inl rfl) ko UA.out.size OA.out (by omega)).mono ?_
      rintro e w1 ⟨v1, rfl, ho1, hg1, hx1⟩
      have d1 := gb_cell hg1 CA.out.1 (HO.out.ne (Nat.le_refl _))
      have d2 := gb_cell hg1 CA.out.2 (HO.out.ne (Nat.le_refl _))
      have U1 := Lib.hid (UA.out.grown hg1 OA.out.block)
      have O1 := Lib.hid ho1
      have NE : Hid (∀ k, v1.ownBlock = some k → k ≠ wr.heap.size) := Lib.hid (fun k hk => by
        rcases hx1 k hk with h | h
        · exact HO.out.ne (Nat.le_refl _) k h
        · have : wr.heap.size < wa.heap.size := cell_lt CA.out.1
          omega)
      clear hx1 hg1 ho1 OA UA CA HW c1 c2 c3
      have M := fun w => mark_any kd w
      have ml := (mkB kd).toNat_lt
      generalize hm : mkB kd = m at *
      clear hm
      have KS : Hid (∀ V, w1.grownBy V v1.ownBlock → (V.cell? ⟨wr.heap.size, 1, none⟩ = some (.bool kd) ∧ V.cell? ⟨wr.heap.size, 2, none⟩ = some (.string kn)) ∧ (Instr.lookup 95 (.map (some B)) (.string kn) false).run Tryz.prog V = .ok (.int .i64 (pl : Int)) V) := Lib.hid (fun V hV => ⟨⟨gb_cell hV d1 NE.out, gb_cell hV d2 NE.out⟩, LK.out V (U1.out.grown hV O1.out.block)⟩)
      have HR := Lib.hid (Rd.new w1.drew [m, loB pl] #[.int .u8 m.toNat, .int .u8 ((pl : Int) % 256)] 5 (by
        have := low_byte pl
        rw [IntKind.wrap_u8] at this
        show [Value.int .u8 _, Value.int .u8 _] = [Value.int .u8 _, Value.int .u8 _]
        rw [this]))
      have S1 : Hid (w0.heap.size ≤ (w1.drew.alloc (.cells #[.int .u8 m.toNat, .int .u8 ((pl : Int) % 256)] 5)).heap.size) := Lib.hid ((U1.out.drewN' 1).alloc' _).size
      have S2 : Hid ((L ++ beB 4 (un ko)).length + 2 ≤ 140737488355328) := Lib.hid (by simp only [List.length_append, beB_len]; omega)
      have O2 : Hid (Ow (w1.drew.alloc (.cells #[.int .u8 m.toNat, .int .u8 ((pl : Int) % 256)] 5)) w0.heap.size v1 (L ++ beB 4 (un ko))) := Lib.hid ((O1.out.up (Up.drewN w1 1)).up (Up.alloc _ _))
      clear d1 d2
      go_wp2_with fail
      go_region_held_law (fun V => (V.cell? ⟨wr.heap.size, 1, none⟩ = some (.bool kd) ∧ V.cell? ⟨wr.heap.size, 2, none⟩ = some (.string kn)) ∧ (Instr.lookup 95 (.map (some B)) (.string kn) false).run Tryz.prog V = .ok (.int .i64 (pl : Int)) V)
        (first | exact KS.out _ ((Up.drewN w1 1).gb _) | exact KS.out _ (((Up.drewN w1 1).alloc' _).gb _) | exact KS.out _ ((((Up.drewN w1 1).alloc' _).gb _).trans hg2))
        (first | (go_at_call 74; refine (M _).mono ?_; rintro e w' ⟨rfl, rfl⟩) | (refine step_append_bytes _ (by rfl) _ _ (by rfl) w0.heap.size _ (L ++ beB 4 (un ko)) (by rfl) O2.out (some ⟨w1.drew.heap.size, 0, none⟩) [m, loB pl] 2 2 (by rfl) rfl HR.out S2.out S1.out ?_; intro v2 w2 ho2 hg2 hx2))
      all_goals
        have HU2 := Lib.hid (((U1.out.drewN' 1).alloc' _).grown hg2 O1.out.block)
        have HO2 : Hid (Ow w2 w0.heap.size v2 (l ++ tkB ns (ks.take (k + 1)))) := Lib.hid (by rw [HT.out]; exact ho2)
        clear ho2 hg2 HT HL
        go_wp2
        go_roundw
        case rel => exact ⟨k + 1, by omega, by go_num, HO2.out, HU2.out⟩
        case measure => simp [intOf]; omega
    · have hkq : k = q := by omega
      subst hkq
      have HO' : Hid (Ow wr w0.heap.size u0 (l ++ tkB ns ks)) := Lib.hid (by have := HO.out; rw [List.take_of_length_le (by rw [HQ.out]; exact Nat.le_refl _)] at this; exact this)
      clear HO
      go_wp2
      go_ret
      exact ⟨_, rfl, HO'.out, HU.out⟩
end Go.Proofs.YtaljddoenjgbfaaGreat
