/-
  Print, in the program.
-/
import Derived.Test.YtalpbbgkallohaaDoorLcWrR
import Derived.Test.YtalpbbgkallohaaDoorLcPu
import Derived.Deep.Cut
namespace Go.Proofs.YtalpbbgkallohaaDoor
open Go.ChangeShapes Go.WideShapes Go.ChangeAt Go.RowKit Lc

/-- What Print tells: a text, an error. -/
def prT (r : Ru) (wide : Bool) : List UInt8 := if rightB r wide then ruleT r else []
def prE (r : Ru) (wide : Bool) : Int := if rightB r wide then 0 else 1
theorem clockT_1 (n : Int) : 1 ≤ (clockT n).length := by
  have u : ∀ n, 1 ≤ (clockU n).length := fun n => by
    unfold clockU
    have := dec_pos (n / 3600)
    rw [List.length_append]; omega
  unfold clockT
  split
  · simp
  · exact u n
theorem ruleT_ne (r : Ru) : ruleT r ≠ [] := by
  unfold ruleT
  intro h
  have h2 := congrArg List.length h
  simp only [List.length_append, List.length_nil] at h2
  have := clockT_1 (-r.std.off)
  omega
set_option maxRecDepth 100000 in
set_option maxHeartbeats 8000000 in
theorem print_no (r : Ru) (wide : Bool) (w : World) (h1 : r.std.name.length ≤ maxLen) (h2 : r.dst.name.length ≤ maxLen) (hr : rightB r wide = false) :
    Calls Tryd.prog 15 #[.agg (rA r), .bool wide] w fun e w' => e = .returned (.tuple #[.string (tx []), .int .i64 1]) ∧ Up w w' := by
  have B0 := Lib.hid (Bk.new w (rA r) 27 (by decide))
  have U0 := Lib.hid (Up.alloc w (.cells (rA r) 27))
  have RI : ∀ w, _ := fun w => right_any r wide w h1 h2
  rw [hr] at RI
  clear h1 h2 hr
  go_enter Tryd.func15, Tryd.ntmps15
  go_upto_region 1 with (fail)
  refine wp_region_lit ?_
  refine wpList_ld rfl 2 w.heap.size r _ rfl B0.out rfl ?_
  go_wp2_with fail
  refine (RI _).mono ?_
  rintro e w1 ⟨rfl, u1⟩
  go_wp2_with fail
  go_ret2
  exact ⟨rfl, U0.out.trans u1⟩
set_option maxRecDepth 100000 in
set_option maxHeartbeats 8000000 in
theorem print_yes (r : Ru) (wide : Bool) (w : World) (T : Tabs w) (h1 : r.std.name.length ≤ maxLen) (h2 : r.dst.name.length ≤ maxLen) (hr : rightB r wide = true) :
    Calls Tryd.prog 15 #[.agg (rA r), .bool wide] w fun e w' => e = .returned (.tuple #[.string (tx (ruleT r)), .int .i64 0]) ∧ Up w w' := by
  have B0 := Lib.hid (Bk.new w (rA r) 27 (by decide))
  have U0 := Lib.hid (Up.alloc w (.cells (rA r) 27))
  have t := Lib.hid T
  have RI : ∀ w, _ := fun w => right_any r wide w h1 h2
  rw [hr] at RI
  have ne := Lib.hid (ruleT_ne r)
  have RL := Lib.hid (fun w0 b l w X => wrule_any w0 b l r wide w X hr)
  generalize ruleT r = TT at *
  have SA := Lib.hid (fun B b w W => string_any B b TT w W ne.out)
  clear T h1 h2 hr ne
  go_enter Tryd.func15, Tryd.ntmps15
  go_upto_region 1 with (fail)
  refine wp_region_lit ?_
  refine wpList_ld rfl 2 w.heap.size r _ rfl B0.out rfl ?_
  go_wp2_with fail
  refine (RI _).mono ?_
  rintro e w1 ⟨rfl, u1⟩
  clear RI
  have U1 := Lib.hid (U0.out.trans u1)
  have B1 := (B0.out.up u1).up (Up.alloc w1 (.cells #[.pointer none, .slice none 0 0] 54))
  have X1 : Hid (Wx w1 w1.heap.size [] (w1.alloc (.cells #[.pointer none, .slice none 0 0] 54))) := Lib.hid ⟨Tabs.up t.out U1.out, Up.alloc _ _, Wr.new _, by simp⟩
  clear u1 t B0 U0
  go_upto_region 4 with (fail)
  refine wp_region_lit ?_
  refine wpList_ld rfl 2 w.heap.size r _ rfl B1 rfl ?_
  go_wp2_with fail
  refine (RL.out w1 w1.heap.size [] _ X1.out (by simp)).mono ?_
  rintro e w2 ⟨rfl, x2, o2⟩
  have S2 := SA.out w1.heap.size w1.heap.size w2 x2.2.2.1
  have U2 := Lib.hid x2.2.1
  clear x2 o2 SA B1 X1 RL
  go_wp2_with fail
  refine S2.mono ?_
  rintro e w3 ⟨rfl, b3⟩
  go_wp2_with fail
  go_ret2
  exact ⟨rfl, U1.out.trans (Below.trans U2.out b3)⟩
theorem print_any (r : Ru) (wide : Bool) (w : World) (T : Tabs w) (h1 : r.std.name.length ≤ maxLen) (h2 : r.dst.name.length ≤ maxLen) :
    Calls Tryd.prog 15 #[.agg (rA r), .bool wide] w fun e w' => e = .returned (.tuple #[.string (tx (prT r wide)), .int .i64 (prE r wide)]) ∧ Up w w' := by
  unfold prT prE
  cases hr : rightB r wide
  · exact print_no r wide w h1 h2 hr
  · exact print_yes r wide w T h1 h2 hr
end Go.Proofs.YtalpbbgkallohaaDoor
