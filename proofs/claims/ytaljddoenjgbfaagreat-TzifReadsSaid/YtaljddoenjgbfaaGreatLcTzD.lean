/-
  The program's file: attempt, Decode.
-/
import Derived.Test.YtaljddoenjgbfaaGreatLcTzR
namespace Go.Proofs.YtaljddoenjgbfaaGreat
open Go.ChangeShapes Go.WideShapes Go.ChangeAt Go.RowKit Lc

set_option maxRecDepth 100000 in
theorem read_no (v : Value) (l : List UInt8) (w : World) (hs : Sb w v l) (h : readE l ≠ 0) :
    Calls Tryz.prog 39 #[v] w fun e w' => e = .panicked (pnc (readE l)) ∧ Up w w' := by
  unfold readE at h ⊢
  by_cases a : errH l = 0
  · rw [if_neg (by simp [a])] at h ⊢
    have hi := errH_yes a
    by_cases b : hB l 4 = 0
    · rw [if_neg (by simp [b])] at h ⊢
      by_cases c : vH l = 1
      · rw [if_pos c] at h ⊢
        by_cases d : hR l 4 = []
        · rw [if_pos d] at h; exact absurd rfl h
        · rw [if_neg d]; exact read_c v l w hs hi b c d
      · rw [if_neg c] at h ⊢
        unfold rest2 at h ⊢
        by_cases d : errH (hR l 4) = 0
        · rw [if_neg (by simp [d])] at h ⊢
          have hj := errH_yes d
          by_cases e : vH (hR l 4) = vH l
          · rw [if_neg (by simp [e])] at h ⊢
            by_cases f : hB (hR l 4) 8 = 0
            · rw [if_neg (by simp [f])] at h ⊢
              exact read_h v l w hs hi b c hj e f h
            · rw [if_pos f]; exact read_g v l w hs hi b c hj e f
          · rw [if_pos e]; exact read_f v l w hs hi b c hj e
        · rw [if_pos d]; exact read_e v l w hs hi b c d
    · rw [if_pos b]; exact read_b v l w hs hi b
  · rw [if_pos a]; exact read_a v l w hs a
set_option maxRecDepth 100000 in
theorem read_yes (v : Value) (l : List UInt8) (w : World) (hs : Sb w v l) (h : readE l = 0) :
    Calls Tryz.prog 39 #[v] w fun e w' => RdF w (readF l) e w' := by
  unfold readE at h
  by_cases a : errH l = 0
  · rw [if_neg (by simp [a])] at h
    have hi := errH_yes a
    by_cases b : hB l 4 = 0
    · rw [if_neg (by simp [b])] at h
      unfold readF
      by_cases c : vH l = 1
      · rw [if_pos c] at h ⊢
        by_cases d : hR l 4 = []
        · exact read_d v l w hs hi b c d
        · rw [if_neg d] at h; omega
      · rw [if_neg c] at h ⊢
        unfold rest2 at h
        by_cases d : errH (hR l 4) = 0
        · rw [if_neg (by simp [d])] at h
          have hj := errH_yes d
          by_cases e : vH (hR l 4) = vH l
          · rw [if_neg (by simp [e])] at h
            by_cases f : hB (hR l 4) 8 = 0
            · rw [if_neg (by simp [f])] at h
              exact read_i v l w hs hi b c hj e f h
            · rw [if_pos f] at h; exact absurd h f
          · rw [if_pos e] at h; omega
        · rw [if_pos d] at h; exact absurd h d
    · rw [if_pos b] at h; exact absurd h b
  · rw [if_pos a] at h; exact absurd h a

/-- What a reading tells: an error, or a file in new memory. -/
def DfP (w : World) (k : Int) (f : Fil) (e : Ending) (w' : World) : Prop := ∃ v, e = .returned (.tuple #[v, .int .i64 k]) ∧ FlR w' v f ∧ FlF w v ∧ Up w w'

set_option maxRecDepth 100000 in
set_option maxHeartbeats 2000000 in
theorem attempt_no (v : Value) (l : List UInt8) (w : World) (hs : Sb w v l) (h : readE l ≠ 0) :
    Calls Tryz.prog 22 #[v] w fun e w' => DfP w (readE l) fl0 e w' := by
  unfold DfP
  have hmf : ∀ (fn : Fn) (first cap : Array Value) (w : World), (Instr.makeFunc fn first cap).run Tryz.prog w = .ok (.func fn first cap) w := fun _ _ _ _ => rfl
  have UA := Lib.hid (Up.alloc w (.cells #[.int .i64 0, .slice none 0 0, .slice none 0 0, .slice none 0 0, .slice none 0 0, .slice none 0 0, .string ⟨#[]⟩] 29))
  have UB := Lib.hid (Up.alloc (w.alloc (.cells #[.int .i64 0, .slice none 0 0, .slice none 0 0, .slice none 0 0, .slice none 0 0, .slice none 0 0, .string ⟨#[]⟩] 29)) (.cells #[.int .i64 0] 33))
  have X0 := Lib.hid ((Bx7.new w (.int .i64 0) (.slice none 0 0) (.slice none 0 0) (.slice none 0 0) (.slice none 0 0) (.slice none 0 0) (.string ⟨#[]⟩) 29).up UB.out)
  have E0 : Hid ((((w.alloc (.cells #[.int .i64 0, .slice none 0 0, .slice none 0 0, .slice none 0 0, .slice none 0 0, .slice none 0 0, .string ⟨#[]⟩] 29)).alloc (.cells #[.int .i64 0] 33)).cell? ⟨w.heap.size + 1, 0, none⟩ = some (.int .i64 0))) := by unfold Hid; simp
  have F0 := Lib.hid (Free.new (w.alloc (.cells #[.int .i64 0, .slice none 0 0, .slice none 0 0, .slice none 0 0, .slice none 0 0, .slice none 0 0, .string ⟨#[]⟩] 29)) #[.int .i64 0] 33)
  rw [World.size_alloc] at F0
  have R := Lib.hid (read_no v l _ ((hs.up UA.out).up UB.out) h)
  obtain ⟨A, n, c, rfl⟩ := hs.form
  generalize readE l = k at *
  clear hs h
  go_enter_defers Tryz.func22, Tryz.ntmps22
  go_wp2_with fail
  refine R.out.mono ?_; rintro e w1 ⟨rfl, u1⟩
  go_wp2_with fail
  have c1 := u1.cell E0.out
  have fr := (F0.out.up u1).2 0
  obtain ⟨x0, x1, x2, x3, x4, x5, x6⟩ := X0.out.up u1
  refine leaves_cons (f := 38) (args := #[.pointer (some ⟨w.heap.size + 1, 0, none⟩)]) (by simp) (by simp [go_sem]) ?_
  refine (catch_told (w.heap.size + 1) k 0 w1 c1 fr).mono ?_
  rintro e u' w'' ⟨rfl, rfl, rfl⟩
  have UF := Lib.hid (Up.setCell' ((UA.out.trans UB.out).trans u1) (p := ⟨w.heap.size + 1, 0, none⟩) (by show w.heap.size ≤ w.heap.size + 1; omega) (.int .i64 k))
  simp [Leaves, settle, results, Tryz.results22, go_sem, x0, x1, x2, x3, x4, x5, x6, c1]
  exact ⟨flz_read _, flz_new _, UF.out⟩

set_option maxRecDepth 100000 in
set_option maxHeartbeats 2000000 in
theorem attempt_yes (v : Value) (l : List UInt8) (w : World) (hs : Sb w v l) (h : readE l = 0) :
    Calls Tryz.prog 22 #[v] w fun e w' => DfP w 0 (readF l) e w' := by
  unfold DfP
  have hmf : ∀ (fn : Fn) (first cap : Array Value) (w : World), (Instr.makeFunc fn first cap).run Tryz.prog w = .ok (.func fn first cap) w := fun _ _ _ _ => rfl
  have UA := Lib.hid (Up.alloc w (.cells #[.int .i64 0, .slice none 0 0, .slice none 0 0, .slice none 0 0, .slice none 0 0, .slice none 0 0, .string ⟨#[]⟩] 29))
  have UB := Lib.hid (Up.alloc (w.alloc (.cells #[.int .i64 0, .slice none 0 0, .slice none 0 0, .slice none 0 0, .slice none 0 0, .slice none 0 0, .string ⟨#[]⟩] 29)) (.cells #[.int .i64 0] 33))
  have X0 := Lib.hid ((Bx7.new w (.int .i64 0) (.slice none 0 0) (.slice none 0 0) (.slice none 0 0) (.slice none 0 0) (.slice none 0 0) (.string ⟨#[]⟩) 29).up UB.out)
  have E0 : Hid ((((w.alloc (.cells #[.int .i64 0, .slice none 0 0, .slice none 0 0, .slice none 0 0, .slice none 0 0, .slice none 0 0, .string ⟨#[]⟩] 29)).alloc (.cells #[.int .i64 0] 33)).cell? ⟨w.heap.size + 1, 0, none⟩ = some (.int .i64 0))) := by unfold Hid; simp
  have F0 := Lib.hid (Free.new (w.alloc (.cells #[.int .i64 0, .slice none 0 0, .slice none 0 0, .slice none 0 0, .slice none 0 0, .slice none 0 0, .string ⟨#[]⟩] 29)) #[.int .i64 0] 33)
  rw [World.size_alloc] at F0
  have G0 := Lib.hid ((Free.new w #[.int .i64 0, .slice none 0 0, .slice none 0 0, .slice none 0 0, .slice none 0 0, .slice none 0 0, .string ⟨#[]⟩] 29).up UB.out)
  have R := Lib.hid (read_yes v l _ ((hs.up UA.out).up UB.out) h)
  unfold RdF at R
  obtain ⟨A, n, c, rfl⟩ := hs.form
  generalize readF l = f at *
  clear hs h
  go_enter_defers Tryz.func22, Tryz.ntmps22
  go_wp2_with fail
  refine R.out.mono ?_; rintro e w1 ⟨fv, rfl, k1, f1, u1⟩
  obtain ⟨A0, n0, c0, A1, n1, c1, A2, n2, c2, A3, n3, c3, A4, n4, c4, rfl, _⟩ := k1.form
  have c9 := u1.cell E0.out
  have fr := (F0.out.up u1).2 0
  obtain ⟨x0, x1, x2, x3, x4, x5, x6⟩ := X0.out.up u1
  obtain ⟨_, fz⟩ := G0.out.up u1
  have g0 := fz 0; have g1 := fz 1; have g2 := fz 2; have g3 := fz 3; have g4 := fz 4; have g5 := fz 5; have g6 := fz 6
  have SZ : ((w.alloc (.cells #[.int .i64 0, .slice none 0 0, .slice none 0 0, .slice none 0 0, .slice none 0 0, .slice none 0 0, .string ⟨#[]⟩] 29)).alloc (.cells #[.int .i64 0] 33)).heap.size = w.heap.size + 2 := by rw [World.size_alloc, World.size_alloc]
  have GA := Lib.hid (gb_seven (w := w1) (V := w1) (b := w.heap.size) ((Up.refl w1).gb _) (.int .i64 f.ver) (.slice A0 n0 c0) (.slice A1 n1 c1) (.slice A2 n2 c2) (.slice A3 n3 c3) (.slice A4 n4 c4) (.string f.foot))
  have K2 := Lib.hid (k1.gb GA.out f1 (by rw [SZ]; omega))
  have U2 := Lib.hid (gb_up ((UA.out.trans UB.out).trans u1) GA.out (Nat.le_refl _))
  have GC := Lib.hid (gb_set (w := seven w1 w.heap.size (.int .i64 f.ver) (.slice A0 n0 c0) (.slice A1 n1 c1) (.slice A2 n2 c2) (.slice A3 n3 c3) (.slice A4 n4 c4) (.string f.foot)) (b := w.heap.size + 1) ((Up.refl _).gb _) 0 (.int .i64 0))
  have K3 := Lib.hid (K2.out.gb GC.out f1 (by rw [SZ]; omega))
  have U3 := Lib.hid (gb_up U2.out GC.out (by omega))
  have F3 := Lib.hid (f1.base (UA.out.trans UB.out))
  clear fz K2 U2 GA GC k1 f1 u1 X0 F0 G0 E0 SZ UA UB R
  go_wp2_with fail
  refine leaves_cons (f := 38) (args := #[.pointer (some ⟨w.heap.size + 1, 0, none⟩)]) (by simp) (by simp [go_sem]) ?_
  refine (catch_idle ⟨w.heap.size + 1, 0, none⟩ _).mono ?_
  rintro e u' w'' ⟨rfl, rfl, rfl⟩
  simp [Leaves, settle, results, Tryz.results22, go_sem, x0, x1, x2, x3, x4, x5, x6, c9]
  exact ⟨K3.out, F3.out, U3.out⟩

/-- What Decode tells: 0, or an error; a file, or none. -/
def tdE (l : List UInt8) : Int := if 100000 < l.length then 4 else readE l
def tdF (l : List UInt8) : Fil := if tdE l = 0 then readF l else fl0
set_option maxRecDepth 100000 in
theorem attempt_any (v : Value) (l : List UInt8) (w : World) (hs : Sb w v l) :
    Calls Tryz.prog 22 #[v] w fun e w' => DfP w (readE l) (if readE l = 0 then readF l else fl0) e w' := by
  by_cases h : readE l = 0
  · rw [if_pos h, h]; exact attempt_yes v l w hs h
  · rw [if_neg h]; exact attempt_no v l w hs h
set_option maxRecDepth 100000 in
set_option maxHeartbeats 2000000 in
theorem tdecode_any (v : Value) (l : List UInt8) (w : World) (hs : Sb w v l) :
    Calls Tryz.prog 13 #[v] w fun e w' => DfP w (tdE l) (tdF l) e w' := by
  have UA := Lib.hid (Up.alloc w (.cells #[.int .i64 0, .slice none 0 0, .slice none 0 0, .slice none 0 0, .slice none 0 0, .slice none 0 0, .string ⟨#[]⟩] 29))
  have X0 := Lib.hid (Bx7.new w (.int .i64 0) (.slice none 0 0) (.slice none 0 0) (.slice none 0 0) (.slice none 0 0) (.slice none 0 0) (.string ⟨#[]⟩) 29)
  have G0 := Lib.hid (Free.new w #[.int .i64 0, .slice none 0 0, .slice none 0 0, .slice none 0 0, .slice none 0 0, .slice none 0 0, .string ⟨#[]⟩] 29)
  have SZ := Lib.hid (World.size_alloc w (.cells #[.int .i64 0, .slice none 0 0, .slice none 0 0, .slice none 0 0, .slice none 0 0, .slice none 0 0, .string ⟨#[]⟩] 29))
  have R := Lib.hid (attempt_any v l _ (hs.up UA.out))
  unfold DfP at R ⊢
  obtain ⟨A, n, c, rfl⟩ := hs.form
  have Q := hs.len; subst Q
  by_cases h : 100000 < l.length
  · have e1 : tdE l = 4 := by unfold tdE; rw [if_pos h]
    have e2 : tdF l = fl0 := by unfold tdF; rw [e1]; rfl
    rw [e1, e2]
    have h' : (100000 : Int) < (l.length : Int) := by omega
    generalize l.length = m at *
    clear h R hs SZ UA X0 G0 e1 e2
    go_enter Tryz.func13, Tryz.ntmps13
    go_wp2_with fail
    refine bodyPost_ret (v := .tuple #[flz, .int .i64 4]) (by simp [results, Tryz.results13, go_sem, flz]) rfl ?_
    exact ⟨_, rfl, flz_read _, flz_new _, Up.alloc _ _⟩
  · have e1 : tdE l = readE l := by unfold tdE; rw [if_neg h]
    have e2 : tdF l = (if readE l = 0 then readF l else fl0) := by unfold tdF; rw [e1]
    rw [e1, e2]
    have h' : ¬ (100000 : Int) < (l.length : Int) := by omega
    generalize (if readE l = 0 then readF l else fl0) = f at *
    generalize readE l = k at *
    generalize l.length = m at *
    clear h hs e1 e2
    go_enter Tryz.func13, Tryz.ntmps13
    go_wp2_with fail
    refine R.out.mono ?_; rintro e w1 ⟨fv, rfl, k1, f1, u1⟩
    obtain ⟨A0, n0, c0, A1, n1, c1, A2, n2, c2, A3, n3, c3, A4, n4, c4, rfl, _⟩ := k1.form
    obtain ⟨x0, x1, x2, x3, x4, x5, x6⟩ := X0.out.up u1
    obtain ⟨_, fz⟩ := G0.out.up u1
    have g0 := fz 0; have g1 := fz 1; have g2 := fz 2; have g3 := fz 3; have g4 := fz 4; have g5 := fz 5; have g6 := fz 6
    have GA := Lib.hid (gb_seven (w := w1) (V := w1) (b := w.heap.size) ((Up.refl w1).gb _) (.int .i64 f.ver) (.slice A0 n0 c0) (.slice A1 n1 c1) (.slice A2 n2 c2) (.slice A3 n3 c3) (.slice A4 n4 c4) (.string f.foot))
    have K2 := Lib.hid (k1.gb GA.out f1 (by rw [SZ.out]; omega))
    have U2 := Lib.hid (gb_up (UA.out.trans u1) GA.out (Nat.le_refl _))
    have F2 := Lib.hid (f1.base UA.out)
    clear fz GA k1 f1 u1 X0 G0 SZ UA R
    go_wp2_with fail
    refine bodyPost_ret (v := .tuple #[.agg #[.int .i64 f.ver, .slice A0 n0 c0, .slice A1 n1 c1, .slice A2 n2 c2, .slice A3 n3 c3, .slice A4 n4 c4, .string f.foot], .int .i64 k]) (by simp [results, Tryz.results13, go_sem, x0, x1, x2, x3, x4, x5, x6]) rfl ?_
    exact ⟨_, rfl, K2.out, F2.out, U2.out⟩
end Go.Proofs.YtaljddoenjgbfaaGreat
