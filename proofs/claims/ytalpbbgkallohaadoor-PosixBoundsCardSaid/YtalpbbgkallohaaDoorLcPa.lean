/-
  Parse, in the program.
-/
import Derived.Test.YtalpbbgkallohaaDoorLcRw
import Derived.Defers
import Derived.Recover
namespace Go.Proofs.YtalpbbgkallohaaDoor
open Go.ChangeShapes Go.WideShapes Go.ChangeAt Go.RowKit Lc

theorem whole_no {b : Nat} {wide : Bool} {l : List UInt8} {w : World} (h : In w b l wide) (q : wholeP wide l = none) :
    Calls Tryd.prog 49 #[.pointer (some ⟨b, 0, none⟩)] w fun e w' => e = .panicked pn4 ∧ Gb b w w' := by
  unfold wholeP at q
  cases h1 : ruleP wide l with
  | none => exact whole_no1 b wide l w h h1
  | some x =>
    obtain ⟨r, t⟩ := x
    rw [h1] at q
    simp only at q
    by_cases ht : t = []
    · cases hr : rightB r wide
      · exact whole_no3 b wide l w h r t h1 ht hr
      · rw [if_pos ⟨ht, hr⟩] at q; cases q
    · exact whole_no2 b wide l w h r t h1 ht
theorem whole_some {b : Nat} {wide : Bool} {l : List UInt8} {r : Ru} {w : World} (h : In w b l wide) (q : wholeP wide l = some r) :
    Calls Tryd.prog 49 #[.pointer (some ⟨b, 0, none⟩)] w fun e w' => e = .returned (.agg (rA r)) ∧ In w' b [] wide ∧ Gb b w w' := by
  unfold wholeP at q
  cases h1 : ruleP wide l with
  | none => rw [h1] at q; cases q
  | some x =>
    obtain ⟨r', t⟩ := x
    rw [h1] at q
    simp only at q
    split at q
    · rename_i c
      cases q
      exact whole_yes b wide l w h r t h1 c.1 c.2
    · cases q

set_option maxRecDepth 100000 in
/-- The deferred closure of a frame that returns: nothing turns. -/
theorem catch_idle (p : Addr) (w : World) :
    CallsD Tryd.prog 48 #[.pointer (some p)] .returning w fun e u' w' => e = .returned (.tuple #[]) ∧ u' = .returning ∧ w' = w := by
  have hq : ∀ w : World, (binOp .eql 20 .nilIface .nilIface).run Tryd.prog w = .ok (.bool true) w := fun _ => by kernel_rfl
  refine callsD_of_wpS Tryd.func48 rfl fun c₀ cs hu => ?_
  apply wpS_seq
  apply wpS_region
  simp [wpOpsS, go_sem, recoverD, hu, Tryd.ntmps48, Exit.thenS, Array.replicate]
  refine wpS_of_wp ?_
  go_wp2
  cases c₀
  simp_all [bodyPostS, results, Tryd.results48]
set_option maxRecDepth 100000 in
/-- The deferred closure of a frame that panics with the error: it is told. -/
theorem catch_told (b : Nat) (k : Int) (w : World) (hc : w.cell? ⟨b, 0, none⟩ = some (.int .i64 k)) (hf : w.frozen? ⟨b, 0, none⟩ = false) :
    CallsD Tryd.prog 48 #[.pointer (some ⟨b, 0, none⟩)] (.panicking pn4) w fun e u' w' => e = .returned (.tuple #[]) ∧ u' = .panicking [{ v := .iface 30 (.int .i64 4), recovered := true }] ∧ w' = w.setCell ⟨b, 0, none⟩ (.int .i64 4) := by
  have hq : ∀ w : World, (binOp .eql 20 (.iface 30 (.int .i64 4)) .nilIface).run Tryd.prog w = .ok (.bool false) w := fun _ => rfl
  have ht : ∀ w : World, (Instr.typeAssert (.iface 30 (.int .i64 4)) 20 30 true).run Tryd.prog w = .ok (.tuple #[.int .i64 4, .bool true]) w := fun _ => by kernel_rfl
  unfold pn4
  refine callsD_of_wpS Tryd.func48 rfl fun c₀ cs hu => ?_
  apply wpS_seq
  apply wpS_region
  simp [wpOpsS, go_sem, recoverD, hu, Tryd.ntmps48, Exit.thenS, Array.replicate]
  refine wpS_of_wp ?_
  go_wp2
  cases c₀
  simp_all [bodyPostS, results, Tryd.results48]

/-- The world when the reading begins: the rule's, the error's and the reader's blocks. -/
abbrev PW (w : World) (l : List UInt8) (wide : Bool) : World := ((w.alloc (.cells (rA ru0) 27)).alloc (.cells #[.int .i64 0] 30)).alloc (.cells #[.string (tx l), .bool wide] 78)
theorem pw_up (w : World) (l : List UInt8) (wide : Bool) : Up w (PW w l wide) := ((Up.alloc _ _).trans (Up.alloc _ _)).trans (Up.alloc _ _)
theorem pw_in (w : World) (l : List UInt8) (wide : Bool) (hl : l.length ≤ 100000) : In (PW w l wide) (w.heap.size + 2) l wide := by
  have n := Bk.new ((w.alloc (.cells (rA ru0) 27)).alloc (.cells #[.int .i64 0] 30)) #[.string (tx l), .bool wide] 78 (by decide)
  rw [World.size_alloc, World.size_alloc] at n
  exact ⟨n, hl⟩
theorem pw_err (w : World) (l : List UInt8) (wide : Bool) : Bk (PW w l wide) (w.heap.size + 1) #[.int .i64 0] 30 := by
  have n := Bk.new (w.alloc (.cells (rA ru0) 27)) #[.int .i64 0] 30 (by decide)
  rw [World.size_alloc] at n
  exact n.up (Up.alloc _ _)
theorem pw_rule (w : World) (l : List UInt8) (wide : Bool) : Bk (PW w l wide) w.heap.size (rA ru0) 27 :=
  ((Bk.new w (rA ru0) 27 (by decide)).up (Up.alloc _ _)).up (Up.alloc _ _)
theorem ru0_lit : rA ru0 = #[.int .i64 0, .bool false, .string ⟨#[]⟩, .int .i64 0, .bool false, .string ⟨#[]⟩, .bool false, .int .i64 0, .int .i64 0, .int .i64 0, .int .i64 0, .int .i64 0, .int .i64 0, .int .i64 0, .int .i64 0, .int .i64 0, .int .i64 0] := rfl
set_option maxRecDepth 100000 in
set_option maxHeartbeats 4000000 in
theorem attempt_no (l : List UInt8) (wide : Bool) (w : World) (hl : l.length ≤ 100000) (q : wholeP wide l = none) :
    Calls Tryd.prog 32 #[.string (tx l), .bool wide] w fun e w' => e = .returned (.tuple #[.agg (rA ru0), .int .i64 4]) ∧ Up w w' := by
  have hmf : ∀ (fn : Fn) (first cap : Array Value) (w : World), (Instr.makeFunc fn first cap).run Tryd.prog w = .ok (.func fn first cap) w := fun _ _ _ _ => rfl
  have WN := whole_no (pw_in w l wide hl) q
  have U := Lib.hid (pw_up w l wide)
  have E0 := Lib.hid (pw_err w l wide)
  have Z0 := Lib.hid (pw_rule w l wide)
  unfold PW at *
  rw [ru0_lit] at WN U E0
  clear q hl
  go_enter_defers Tryd.func32, Tryd.ntmps32
  go_wp2_with fail
  refine WN.mono ?_; rintro e w1 ⟨rfl, g1⟩
  go_wp2_with fail
  have e1 := E0.out.gb g1 (by omega)
  have z1 := Z0.out.gb g1 (by omega)
  have c1 : w1.cell? ⟨w.heap.size + 1, 0, none⟩ = some (.int .i64 0) := e1.cell 0
  refine leaves_cons (f := 48) (args := #[.pointer (some ⟨w.heap.size + 1, 0, none⟩)]) (by simp) (by simp [go_sem]) ?_
  refine (catch_told (w.heap.size + 1) 0 w1 c1 (e1.frozen 0)).mono ?_
  rintro e u' w'' ⟨rfl, rfl, rfl⟩
  have z2 := z1.oth (show w.heap.size ≠ w.heap.size + 1 by omega) 0 (.int .i64 4)
  have e2 := (e1.set 0 (.int .i64 4)).cell 0
  have UF := Lib.hid (Up.setCell' (g1.up U.out (by omega)) (p := ⟨w.heap.size + 1, 0, none⟩) (by show w.heap.size ≤ w.heap.size + 1; omega) (.int .i64 4))
  simp [Leaves, settle, go_sem]
  exact ⟨_, res_two _ 4 5 Tryd.results32 _ _ w.heap.size (w.heap.size + 1) ru0 4 _ rfl rfl z2 e2, rfl, UF.out⟩
set_option maxRecDepth 100000 in
set_option maxHeartbeats 4000000 in
theorem attempt_yes (l : List UInt8) (wide : Bool) (r : Ru) (w : World) (hl : l.length ≤ 100000) (q : wholeP wide l = some r) :
    Calls Tryd.prog 32 #[.string (tx l), .bool wide] w fun e w' => e = .returned (.tuple #[.agg (rA r), .int .i64 0]) ∧ Up w w' := by
  have hmf : ∀ (fn : Fn) (first cap : Array Value) (w : World), (Instr.makeFunc fn first cap).run Tryd.prog w = .ok (.func fn first cap) w := fun _ _ _ _ => rfl
  have WN := whole_some (pw_in w l wide hl) q
  have U := Lib.hid (pw_up w l wide)
  have E0 := Lib.hid (pw_err w l wide)
  have Z0 := Lib.hid (pw_rule w l wide)
  unfold PW at *
  rw [ru0_lit] at WN U E0
  have rs : (rA r).size = 17 := rfl
  clear q hl
  go_enter_defers Tryd.func32, Tryd.ntmps32
  go_wp2_with fail
  refine WN.mono ?_; rintro e w1 ⟨rfl, _, g1⟩
  have e1 := E0.out.gb g1 (by omega)
  have z1 := Z0.out.gb g1 (by omega)
  have ST := st_cells (r := r) z1
  have z2 := Lib.hid (putR_bk (r := r) z1)
  have e2 := putR_oth (r := r) e1 (show w.heap.size + 1 ≠ w.heap.size by omega)
  have c1 : (PutR w1 w.heap.size r).cell? ⟨w.heap.size + 1, 0, none⟩ = some (.int .i64 0) := e2.cell 0
  have f1 := e2.frozen 0
  have U1 := Lib.hid (putR_up (r := r) (g1.up U.out (by omega)) (Nat.le_refl _))
  have E2 := Lib.hid e2
  clear WN U E0 Z0 e1 z1 g1 e2
  generalize PutR w1 w.heap.size r = w2 at *
  go_wp2_with fail
  refine leaves_cons (f := 48) (args := #[.pointer (some ⟨w.heap.size + 1, 0, none⟩)]) (by simp) (by simp [go_sem]) ?_
  refine (catch_idle ⟨w.heap.size + 1, 0, none⟩ _).mono ?_
  rintro e u' w'' ⟨rfl, rfl, rfl⟩
  have z3 := z2.out.oth (show w.heap.size ≠ w.heap.size + 1 by omega) 0 (.int .i64 0)
  have e3 := (E2.out.set 0 (.int .i64 0)).cell 0
  have UF := Lib.hid (Up.setCell' U1.out (p := ⟨w.heap.size + 1, 0, none⟩) (by show w.heap.size ≤ w.heap.size + 1; omega) (.int .i64 0))
  simp [Leaves, settle, go_sem]
  exact ⟨_, res_two _ 4 5 Tryd.results32 _ _ w.heap.size (w.heap.size + 1) r 0 _ rfl rfl z3 e3, rfl, UF.out⟩
theorem attempt_any (l : List UInt8) (wide : Bool) (w : World) (hl : l.length ≤ 100000) :
    Calls Tryd.prog 32 #[.string (tx l), .bool wide] w fun e w' => e = .returned (.tuple #[.agg (rA (parR wide l)), .int .i64 (parE wide l)]) ∧ Up w w' := by
  unfold parR parE
  cases q : wholeP wide l with
  | none => exact attempt_no l wide w hl q
  | some r => exact attempt_yes l wide r w hl q
set_option maxRecDepth 100000 in
set_option maxHeartbeats 4000000 in
theorem parse_any (l : List UInt8) (wide : Bool) (w : World) (hl : l.length ≤ 100000) :
    Calls Tryd.prog 18 #[.string (tx l), .bool wide] w fun e w' => e = .returned (.tuple #[.agg (rA (parR wide l)), .int .i64 (parE wide l)]) ∧ Up w w' := by
  have AT : ∀ W, _ := fun W => attempt_any l wide W hl
  generalize parR wide l = r at *
  generalize parE wide l = n at *
  have z0 := Bk.new w (rA ru0) 27 (by decide)
  have U0 := Lib.hid (Up.alloc w (.cells (rA ru0) 27))
  have rs : (rA r).size = 17 := rfl
  have Z0 := Lib.hid z0
  clear z0
  rw [ru0_lit] at U0
  go_enter Tryd.func18, Tryd.ntmps18
  go_wp2_with fail
  refine (AT _).mono ?_; rintro e w1 ⟨rfl, u1⟩
  have z1 := Z0.out.up u1
  have ST := st_cells (r := r) z1
  have z2 := Lib.hid (putR_bk (r := r) z1)
  have U1 := Lib.hid (putR_up (r := r) (U0.out.trans u1) (Nat.le_refl _))
  clear AT U0 Z0 z1 u1
  generalize PutR w1 w.heap.size r = w2 at *
  go_wp2_with fail
  refine bodyPost_ret (v := .tuple #[.agg (rA r), .int .i64 n]) (res_mix _ 4 5 Tryd.results18 _ _ w.heap.size _ _ _ rfl rfl z2.out) rfl ?_
  exact ⟨rfl, U1.out⟩
end Go.Proofs.YtalpbbgkallohaaDoor
