/-
  PosixBounds is proved: for every three numbers the statement answers true: numbers of days, months and weeks that there are not are refused. Conditions: the tied card's own (the listed variables as the text of the program lays them).
-/
import Derived.Test.YtalpbbgkallohaaDoorLcSh8
import Derived.Test.YtalpbbgkallohaaDoorLcPs8
import Derived.Test.YtalpbbgkallohaaDoorLcOpR
import Derived.Test.YtalpbbgkallohaaDoorLcLd8
import Derived.Test.YtalpbbgkallohaaDoorTie
import Derived.Test.YtalpbbgkallohaaDoorCards
import Derived.WalkKit
import Derived.ProofKit
import Derived.OpenShut
import Derived.LaidMore
import Derived.Stop.Joined
import Derived.SevenTiedAt
namespace Go.Proofs.YtalpbbgkallohaaDoor.posixBounds
open Go.ChangeShapes Go.WideShapes Go.ChangeAt Go.RowKit Lc
set_option linter.unusedVariables false

theorem own : ownKnob Tryd.prog.godebug = none := by kernel_rfl

theorem mask16 (a : Int) : ∃ n : Nat, n < 65536 ∧ bits .and .i64 a 65535 = n := by
  refine ⟨(BitVec.ofInt 64 a).toNat &&& 65535, ?_, ?_⟩
  · have := Nat.and_le_right (n := (BitVec.ofInt 64 a).toNat) (m := 65535); omega
  · have l := Nat.and_le_right (n := (BitVec.ofInt 64 a).toNat) (m := 65535)
    show IntKind.i64.wrap (((BitVec.ofInt 64 a &&& BitVec.ofInt 64 65535).toNat : Nat) : Int) = _
    rw [BitVec.toNat_and, show (BitVec.ofInt 64 65535).toNat = 65535 from by decide]
    exact IntWalk.i64_in _ (by omega)
theorem cut_k (a : Int) : ∃ n : Int, (bits .and .i64 a 65535).tmod 1000 = n ∧ 0 ≤ n ∧ n < 1000 := by
  obtain ⟨n, hn, e⟩ := mask16 a
  refine ⟨_, rfl, ?_⟩
  rw [e, Int.tmod_eq_emod_of_nonneg (by omega)]; omega
theorem conv_3 (w : World) (a b c : Int) : (convert 46 9 (.slice (some ⟨w.heap.size, 0, none⟩) 3 3)).run Tryd.prog (w.alloc (.cells #[.int .u8 a, .int .u8 b, .int .u8 c] 5)) = .ok (.string (tx [UInt8.ofNat a.toNat, UInt8.ofNat b.toNat, UInt8.ofNat c.toNat])) (w.alloc (.cells #[.int .u8 a, .int .u8 b, .int .u8 c] 5)) := by
  have h := run_convert_bytes_arg (P := Tryd.prog) (w.alloc (.cells #[.int .u8 a, .int .u8 b, .int .u8 c] 5)) 46 5 Tryd.underlying46 Tryd.underlying5 w.heap.size 0 3 3 [a, b, c] rfl (fun i hi => by
    rcases (show i = 0 ∨ i = 1 ∨ i = 2 by omega) with rfl | rfl | rfl <;> simp) 9 Tryd.underlying9
  rw [h]; rfl
/-- Three digits. -/
def th (n : Int) : List UInt8 := [UInt8.ofNat (48 + n / 100).toNat, UInt8.ofNat (48 + n / 10 % 10).toNat, UInt8.ofNat (48 + n % 10).toNat]
theorem dg_ok (k : Nat) (h : k < 10) : isDg (UInt8.ofNat (48 + k)) = true ∧ ((UInt8.ofNat (48 + k)).toNat : Int) - 48 = (k : Int) := by
  have : ∀ k : Fin 10, isDg (UInt8.ofNat (48 + k.val)) = true ∧ ((UInt8.ofNat (48 + k.val)).toNat : Int) - 48 = (k.val : Int) := by decide
  exact this ⟨k, h⟩
theorem th_parts {n : Int} (h0 : 0 ≤ n) (h1 : n < 1000) : (th n).all isDg = true ∧ val (th n) = n := by
  have a := dg_ok (n / 100).toNat (by omega)
  have b := dg_ok (n / 10 % 10).toNat (by omega)
  have c := dg_ok (n % 10).toNat (by omega)
  have ea : (48 + n / 100).toNat = 48 + (n / 100).toNat := by omega
  have eb : (48 + n / 10 % 10).toNat = 48 + (n / 10 % 10).toNat := by omega
  have ec : (48 + n % 10).toNat = 48 + (n % 10).toNat := by omega
  unfold th val
  rw [ea, eb, ec]
  constructor
  · simp only [List.all_cons, List.all_nil, a.1, b.1, c.1, Bool.and_self]
  · simp only [List.foldl_cons, List.foldl_nil, a.2, b.2, c.2]; omega
set_option maxRecDepth 100000 in
set_option maxHeartbeats 2000000 in
theorem three_any (n : Int) (w : World) (h0 : 0 ≤ n) (h1 : n < 1000) : Calls Tryd.prog 21 #[.int .i64 n] w fun e w' => e = .returned (.string (tx (th n))) ∧ Up w w' := by
  have CV : _ = Result.ok (Value.string (tx (th n))) _ := conv_3 w (48 + n / 100) (48 + n / 10 % 10) (48 + n % 10)
  have u0 := Lib.hid (Up.alloc w (.cells #[.int .u8 (48 + n / 100), .int .u8 (48 + n / 10 % 10), .int .u8 (48 + n % 10)] 5))
  have e1 : n.tdiv 100 = n / 100 := Int.tdiv_eq_ediv_of_nonneg h0
  have e2 : n.tdiv 10 = n / 10 := Int.tdiv_eq_ediv_of_nonneg h0
  have e3 : n.tmod 10 = n % 10 := Int.tmod_eq_emod_of_nonneg h0
  have e4 : (n / 10).tmod 10 = n / 10 % 10 := Int.tmod_eq_emod_of_nonneg (by omega)
  go_enter Tryd.func21, Tryd.ntmps21
  go_wp2_with fail
  go_ret
  exact ⟨rfl, u0.out⟩
theorem th_num {n : Int} {t : List UInt8} (h0 : 0 ≤ n) (h1 : n < 1000) (h : NoH isDg t) : numP 3 (th n ++ t) = some (n, t) := by
  have p := th_parts h0 h1
  rw [numP_all p.1 (fun e => by simp [th] at e) (by simp [th]) h, p.2]
theorem th_head {n : Int} {t : List UInt8} {p : UInt8 → Bool} (h0 : 0 ≤ n) (h1 : n < 1000) (hp : ∀ c, isDg c = true → p c = false) : NoH p (th n ++ t) := by
  have a := (th_parts h0 h1).1
  unfold th at *
  simp only [List.all_cons, Bool.and_eq_true] at a
  exact NoH.cons _ (hp _ a.1)
theorem d_jul {a : Int} (h0 : 0 ≤ a) (h1 : a < 1000) : dayP ((74 :: th a) ++ [44, 48]) = some ((1, a, 0, 0), [44, 48]) := by
  unfold dayP
  rw [List.cons_append]
  simp only [takeP_yes, th_num h0 h1 (NoH.cons [48] (show isDg 44 = false by decide))]
theorem d_pla {a : Int} (h0 : 0 ≤ a) (h1 : a < 1000) : dayP (th a ++ [44, 48]) = some ((2, a, 0, 0), [44, 48]) := by
  unfold dayP
  rw [takeP_no (th_head h0 h1 fun _ h => dg_ne h (by decide)), takeP_no (th_head h0 h1 fun _ h => dg_ne h (by decide))]
  simp only [th_num h0 h1 (NoH.cons [48] (show isDg 44 = false by decide))]
theorem d_wk {a b c : Int} (h0 : 0 ≤ a) (h1 : a < 1000) (h2 : 0 ≤ b) (h3 : b < 1000) (h4 : 0 ≤ c) (h5 : c < 1000) : dayP ((77 :: (th a ++ 46 :: (th b ++ 46 :: th c))) ++ [44, 48]) = some ((3, a, b, c), [44, 48]) := by
  unfold dayP
  simp only [List.cons_append, List.append_assoc]
  rw [takeP_no (NoC.cons _ (by decide))]
  simp only [takeP_yes, th_num h0 h1 (NoH.cons _ (show isDg 46 = false by decide)), th_num h2 h3 (NoH.cons _ (show isDg 46 = false by decide)), th_num h4 h5 (NoH.cons [48] (show isDg 44 = false by decide))]
/-- The rule that the texts tell. -/
def bR (h n k d : Int) : Ru := ⟨⟨0, false, [65, 65, 65]⟩, ⟨3600, true, [66, 66, 66]⟩, true, ⟨h, n, k, d, 7200⟩, ⟨2, 0, 0, 0, 7200⟩⟩
theorem b_right (h n k d : Int) : rightB (bR h n k d) false = dayB ⟨h, n, k, d, 7200⟩ := by
  have h1 : kindB ⟨0, false, [65, 65, 65]⟩ false = true := by decide
  have h2 : kindB ⟨3600, true, [66, 66, 66]⟩ true = true := by decide
  have h3 : changeB ⟨2, 0, 0, 0, 7200⟩ false = true := by decide
  have h4 : timeB 7200 false = true := by decide
  unfold rightB bR
  simp only [h1, h2, h3, if_true, Bool.true_and, Bool.and_true]
  unfold changeB
  simp only [h4, Bool.and_true]
theorem b_whole {D : List UInt8} {h n k d : Int} (e : dayP (D ++ [44, 48]) = some ((h, n, k, d), [44, 48])) :
    wholeP false ([65, 65, 65, 48, 66, 66, 66, 44] ++ (D ++ [44, 48])) = if dayB ⟨h, n, k, d, 7200⟩ = true then some (bR h n k d) else none := by
  have n1 : ∀ t, NoH isL t → nameP ([65, 65, 65] ++ t) = some ([65, 65, 65], t) := fun t ht => by
    have := nameP_nameT (l := [65, 65, 65]) (t := t) (by decide) ht
    rw [show nameT [65, 65, 65] = [65, 65, 65] by decide] at this
    exact this
  have n2 : ∀ t, NoH isL t → nameP ([66, 66, 66] ++ t) = some ([66, 66, 66], t) := fun t ht => by
    have := nameP_nameT (l := [66, 66, 66]) (t := t) (by decide) ht
    rw [show nameT [66, 66, 66] = [66, 66, 66] by decide] at this
    exact this
  have o1 : ∀ t, NoK t → offP (48 :: t) = some (0, t) := fun t ht => by
    have := offP_clockT (n := 0) (t := t) (by decide) ht
    have d0 : dec 0 = [48] := dec_1 (by decide) (by decide)
    rw [show clockT (-0) = [48] by simp [clockT, clockU, d0]] at this
    exact this
  have cE : changeP false [48] = some (⟨2, 0, 0, 0, 7200⟩, []) := by decide
  have cS : changeP false (D ++ [44, 48]) = some (⟨h, n, k, d, 7200⟩, [44, 48]) := by
    unfold changeP
    simp only [e]
    rfl
  have eS : endsP false (44 :: (D ++ [44, 48])) = some ((⟨h, n, k, d, 7200⟩, ⟨2, 0, 0, 0, 7200⟩), []) := by
    unfold endsP
    simp only [takeP_yes, cS]
    simp only [cE]
  unfold wholeP ruleP offP'
  rw [show ([65, 65, 65, 48, 66, 66, 66, 44] : List UInt8) ++ (D ++ [44, 48]) = [65, 65, 65] ++ (48 :: ([66, 66, 66] ++ 44 :: (D ++ [44, 48]))) from rfl]
  rw [n1 _ (NoH.cons _ (by decide))]
  simp only
  rw [o1 ([66, 66, 66] ++ 44 :: (D ++ [44, 48])) ⟨NoH.cons (c := 66) _ (by decide), NoC.cons (c := 66) _ (by decide)⟩]
  simp only
  rw [if_neg (by simp), n2 _ (NoH.cons _ (by decide))]
  simp only [takeP_yes, eS]
  have := b_right h n k d
  unfold bR at this
  rw [show (0 : Int) + 3600 = 3600 from rfl, this]
  simp only [true_and]
  rfl
theorem b_res {f : List UInt8} {h n k d : Int} {B : Bool} (e : wholeP false f = if dayB ⟨h, n, k, d, 7200⟩ = true then some (bR h n k d) else none) (hB : dayB ⟨h, n, k, d, 7200⟩ = B) :
    (B = true → parE false f = 0 ∧ bR h n k d = parR false f) ∧ (B = false → parE false f = 4) := by
  subst hB
  constructor
  · intro q
    rw [if_pos q] at e
    exact ⟨by unfold parE; rw [e]; rfl, by unfold parR; rw [e]; rfl⟩
  · intro q
    rw [if_neg (by rw [q]; decide)] at e
    unfold parE; rw [e]; rfl
theorem b_tx1 (v : List UInt8) : (⟨#[65, 65, 65, 48, 66, 66, 66, 44, 74]⟩ : ByteArray) ++ tx v ++ ⟨#[44, 48]⟩ = tx ([65, 65, 65, 48, 66, 66, 66, 44] ++ ((74 :: v) ++ [44, 48])) := by
  rw [show (⟨#[65, 65, 65, 48, 66, 66, 66, 44, 74]⟩ : ByteArray) = tx ([65, 65, 65, 48, 66, 66, 66, 44] ++ [74]) from rfl, show (⟨#[44, 48]⟩ : ByteArray) = tx [44, 48] from rfl, tx_append, tx_append]; simp
theorem b_tx2 (v : List UInt8) : (⟨#[65, 65, 65, 48, 66, 66, 66, 44]⟩ : ByteArray) ++ tx v ++ ⟨#[44, 48]⟩ = tx ([65, 65, 65, 48, 66, 66, 66, 44] ++ (v ++ [44, 48])) := by
  rw [show (⟨#[65, 65, 65, 48, 66, 66, 66, 44]⟩ : ByteArray) = tx [65, 65, 65, 48, 66, 66, 66, 44] from rfl, show (⟨#[44, 48]⟩ : ByteArray) = tx [44, 48] from rfl, tx_append, tx_append]; simp
theorem b_tx3 (v u z : List UInt8) : (⟨#[65, 65, 65, 48, 66, 66, 66, 44, 77]⟩ : ByteArray) ++ tx v ++ ⟨#[46]⟩ ++ tx u ++ ⟨#[46]⟩ ++ tx z ++ ⟨#[44, 48]⟩ = tx ([65, 65, 65, 48, 66, 66, 66, 44] ++ ((77 :: (v ++ 46 :: (u ++ 46 :: z))) ++ [44, 48])) := by
  rw [show (⟨#[65, 65, 65, 48, 66, 66, 66, 44, 77]⟩ : ByteArray) = tx ([65, 65, 65, 48, 66, 66, 66, 44] ++ [77]) from rfl, show (⟨#[44, 48]⟩ : ByteArray) = tx [44, 48] from rfl, show (⟨#[46]⟩ : ByteArray) = tx [46] from rfl]
  simp only [tx_append]; simp
attribute [local irreducible] wpList in
set_option maxRecDepth 100000 in
set_option maxHeartbeats 16000000 in
theorem armT (a0 a1 a2 : Int) (a b c : Int) (ha : (bits .and .i64 a0 65535).tmod 1000 = a) (a1' : 0 ≤ a) (a2' : a < 1000) (hb : (bits .and .i64 a1 65535).tmod 1000 = b) (b1' : 0 ≤ b) (b2' : b < 1000) (hc : (bits .and .i64 a2 65535).tmod 1000 = c) (c1' : 0 ≤ c) (c2' : c < 1000) (w : World) (T : Tabs w) (cc : 1 ≤ a ∧ a ≤ 12 ∧ 1 ≤ b ∧ b ≤ 5 ∧ c ≤ 6) :
    Calls Tryd.prog 8 #[.int .i64 a0, .int .i64 a1, .int .i64 a2] w fun e w' => e = .returned (.bool true) ∧ Up w w' := by
  obtain ⟨c11, c12, c13, c14, c15⟩ := cc
  have SH := Lib.hid (fun w T => shown_any w T)
  have TT := Lib.hid T
  clear T
  have rs : ∀ r, (rA r).size = 17 := fun r => rfl
  have TA := Lib.hid (fun w => three_any a w a1' a2')
  have TB := Lib.hid (fun w => three_any b w b1' b2')
  have TC := Lib.hid (fun w => three_any c w c1' c2')
  have X1 := b_tx1 (th a)
  have X2 := b_tx2 (th a)
  have X3 := b_tx3 (th a) (th b) (th c)
  have y0 : (tx (th a)).size = 3 := tx_size _
  have y1 : (tx (th b)).size = 3 := tx_size _
  have y2 : (tx (th c)).size = 3 := tx_size _
  have Q1 := Lib.hid (fun w => parse_any ([65, 65, 65, 48, 66, 66, 66, 44] ++ ((74 :: th a) ++ [44, 48])) false w (by simp [th]))
  have Q2 := Lib.hid (fun w => parse_any ([65, 65, 65, 48, 66, 66, 66, 44] ++ (th a ++ [44, 48])) false w (by simp [th]))
  have Q3 := Lib.hid (fun w => parse_any ([65, 65, 65, 48, 66, 66, 66, 44] ++ ((77 :: (th a ++ 46 :: (th b ++ 46 :: th c))) ++ [44, 48])) false w (by simp [th]))
  have R1 := Lib.hid (b_res (B := inB a 1 365) (b_whole (d_jul a1' a2')) (by unfold dayB; simp))
  have R2 := Lib.hid (b_res (B := inB a 0 365) (b_whole (d_pla a1' a2')) (by unfold dayB; simp))
  have R3 := Lib.hid (b_res (B := (inB a 1 12 && inB b 1 5 && inB c 0 6)) (b_whole (d_wk a1' a2' b1' b2' c1' c2')) (by unfold dayB; simp))
  generalize [65, 65, 65, 48, 66, 66, 66, 44] ++ ((74 :: th a) ++ [44, 48]) = f1 at *
  generalize [65, 65, 65, 48, 66, 66, 66, 44] ++ (th a ++ [44, 48]) = f2 at *
  generalize [65, 65, 65, 48, 66, 66, 66, 44] ++ ((77 :: (th a ++ 46 :: (th b ++ 46 :: th c))) ++ [44, 48]) = f3 at *
  generalize tx (th a) = v0 at *
  generalize tx (th b) = v1 at *
  generalize tx (th c) = v2 at *
  generalize parE false f1 = e1 at *
  generalize parR false f1 = r1 at *
  generalize parE false f2 = e2 at *
  generalize parR false f2 = r2 at *
  generalize parE false f3 = e3 at *
  generalize parR false f3 = r3 at *
  generalize tx f1 = F1 at *
  generalize tx f2 = F2 at *
  generalize tx f3 = F3 at *
  go_enter Tryd.func8, Tryd.ntmps8
  go_wp2_with fail
  refine (SH.out _ TT.out).mono ?_; rintro e w1 ⟨rfl, u1⟩
  have U1 := Lib.hid u1
  clear u1 SH
  go_wp2_with fail
  refine (TA.out _).mono ?_; rintro e w2 ⟨rfl, u2⟩
  go_wp2_with fail
  refine (Q1.out _).mono ?_; rintro e w3 ⟨rfl, u1⟩
  have z1 := Bk.new w3 (rA ru0) 27 (by decide)
  have ST := st_cells (r := r1) z1
  have b4 := putR_bk (r := r1) z1
  have v1 := u1.trans (putR_up (r := r1) (Up.alloc w3 (.cells (rA ru0) 27)) (Nat.le_refl _))
  rw [ru0_lit] at ST b4 v1
  clear z1
  have b4 := Lib.hid b4
  have v4 := Lib.hid v1
  clear v1 u1
  generalize hP : PutR _ w3.heap.size r1 = w4 at *
  clear hP
  have U4 := Lib.hid ((U1.out.trans u2).trans v4.out)
  clear v4 U1 u2
  go_wp2_with fail
  clear ST
  refine (TA.out _).mono ?_; rintro e w5 ⟨rfl, u2⟩
  go_wp2_with fail
  refine (Q2.out _).mono ?_; rintro e w6 ⟨rfl, u1⟩
  have z1 := Bk.new w6 (rA ru0) 27 (by decide)
  have ST := st_cells (r := r2) z1
  have b7 := putR_bk (r := r2) z1
  have v1 := u1.trans (putR_up (r := r2) (Up.alloc w6 (.cells (rA ru0) 27)) (Nat.le_refl _))
  rw [ru0_lit] at ST b7 v1
  clear z1
  have b7 := Lib.hid b7
  have v7 := Lib.hid v1
  clear v1 u1
  generalize hP : PutR _ w6.heap.size r2 = w7 at *
  clear hP
  have U7 := Lib.hid ((U4.out.trans u2).trans v7.out)
  have B7 := Lib.hid ((b4.out.up u2).up v7.out)
  clear v7 U4 u2 b4
  go_wp2_with fail
  clear ST
  refine (TA.out _).mono ?_; rintro e w8 ⟨rfl, u2⟩
  go_wp2_with fail
  refine (TB.out _).mono ?_; rintro e w9 ⟨rfl, u3⟩
  go_wp2_with fail
  refine (TC.out _).mono ?_; rintro e w10 ⟨rfl, u4⟩
  go_wp2_with fail
  refine (Q3.out _).mono ?_; rintro e w11 ⟨rfl, u1⟩
  have z1 := Bk.new w11 (rA ru0) 27 (by decide)
  have ST := st_cells (r := r3) z1
  have b12 := putR_bk (r := r3) z1
  have v1 := u1.trans (putR_up (r := r3) (Up.alloc w11 (.cells (rA ru0) 27)) (Nat.le_refl _))
  rw [ru0_lit] at ST b12 v1
  clear z1
  have b12 := Lib.hid b12
  have v12 := Lib.hid v1
  clear v1 u1
  generalize hP : PutR _ w11.heap.size r3 = w12 at *
  clear hP
  have UU := ((u2.trans u3).trans u4).trans v12.out
  have U12 := Lib.hid (U7.out.trans UU)
  have B12 := Lib.hid (B7.out.up UU)
  have D12 := Lib.hid (b7.out.up UU)
  clear v12 U7 u2 u3 u4 UU B7 b7
  have k0 : decide (1 ≤ a) = true := by simp; omega
  have l0 : 1 ≤ a := by omega
  have k1 : decide (a ≤ 365) = true := by simp; omega
  have l1 : a ≤ 365 := by omega
  have k2 : decide (a ≤ 12) = true := by simp; omega
  have l2 : a ≤ 12 := by omega
  have k3 : decide (1 ≤ b) = true := by simp; omega
  have l3 : 1 ≤ b := by omega
  have k4 : decide (b ≤ 5) = true := by simp; omega
  have l4 : b ≤ 5 := by omega
  have k5 : decide (c ≤ 6) = true := by simp; omega
  have l5 : c ≤ 6 := by omega
  go_upto_region 8 with (fail)
  clear ST
  obtain ⟨rfl, rfl⟩ := R1.out.1 (by simp [inB]; omega)
  have x7 : w12.cell? ⟨w3.heap.size, 7, none⟩ = some (.int .i64 1) := B12.out.cell 7
  have x8 : w12.cell? ⟨w3.heap.size, 8, none⟩ = some (.int .i64 a) := B12.out.cell 8
  obtain ⟨rfl, rfl⟩ := R2.out.1 (by simp [inB]; omega)
  have y7 : w12.cell? ⟨w6.heap.size, 7, none⟩ = some (.int .i64 2) := D12.out.cell 7
  have y8 : w12.cell? ⟨w6.heap.size, 8, none⟩ = some (.int .i64 a) := D12.out.cell 8
  obtain ⟨rfl, rfl⟩ := R3.out.1 (by simp [inB]; omega)
  have z7 : w12.cell? ⟨w11.heap.size, 7, none⟩ = some (.int .i64 3) := b12.out.cell 7
  have z8 : w12.cell? ⟨w11.heap.size, 8, none⟩ = some (.int .i64 a) := b12.out.cell 8
  have z9 : w12.cell? ⟨w11.heap.size, 9, none⟩ = some (.int .i64 b) := b12.out.cell 9
  have z10 : w12.cell? ⟨w11.heap.size, 10, none⟩ = some (.int .i64 c) := b12.out.cell 10
  clear R1 R2 R3 B12 D12 b12
  go_wp2_with fail
  all_goals go_ret
  all_goals exact ⟨ret_b (by simp), U12.out⟩
attribute [local irreducible] wpList in
set_option maxRecDepth 100000 in
set_option maxHeartbeats 16000000 in
theorem arm6 (a0 a1 a2 : Int) (a b c : Int) (ha : (bits .and .i64 a0 65535).tmod 1000 = a) (a1' : 0 ≤ a) (a2' : a < 1000) (hb : (bits .and .i64 a1 65535).tmod 1000 = b) (b1' : 0 ≤ b) (b2' : b < 1000) (hc : (bits .and .i64 a2 65535).tmod 1000 = c) (c1' : 0 ≤ c) (c2' : c < 1000) (w : World) (T : Tabs w) (cc : 1 ≤ a ∧ a ≤ 12 ∧ 1 ≤ b ∧ b ≤ 5 ∧ 6 < c) :
    Calls Tryd.prog 8 #[.int .i64 a0, .int .i64 a1, .int .i64 a2] w fun e w' => e = .returned (.bool true) ∧ Up w w' := by
  obtain ⟨c11, c12, c13, c14, c15⟩ := cc
  have SH := Lib.hid (fun w T => shown_any w T)
  have TT := Lib.hid T
  clear T
  have rs : ∀ r, (rA r).size = 17 := fun r => rfl
  have TA := Lib.hid (fun w => three_any a w a1' a2')
  have TB := Lib.hid (fun w => three_any b w b1' b2')
  have TC := Lib.hid (fun w => three_any c w c1' c2')
  have X1 := b_tx1 (th a)
  have X2 := b_tx2 (th a)
  have X3 := b_tx3 (th a) (th b) (th c)
  have y0 : (tx (th a)).size = 3 := tx_size _
  have y1 : (tx (th b)).size = 3 := tx_size _
  have y2 : (tx (th c)).size = 3 := tx_size _
  have Q1 := Lib.hid (fun w => parse_any ([65, 65, 65, 48, 66, 66, 66, 44] ++ ((74 :: th a) ++ [44, 48])) false w (by simp [th]))
  have Q2 := Lib.hid (fun w => parse_any ([65, 65, 65, 48, 66, 66, 66, 44] ++ (th a ++ [44, 48])) false w (by simp [th]))
  have Q3 := Lib.hid (fun w => parse_any ([65, 65, 65, 48, 66, 66, 66, 44] ++ ((77 :: (th a ++ 46 :: (th b ++ 46 :: th c))) ++ [44, 48])) false w (by simp [th]))
  have R1 := Lib.hid (b_res (B := inB a 1 365) (b_whole (d_jul a1' a2')) (by unfold dayB; simp))
  have R2 := Lib.hid (b_res (B := inB a 0 365) (b_whole (d_pla a1' a2')) (by unfold dayB; simp))
  have R3 := Lib.hid (b_res (B := (inB a 1 12 && inB b 1 5 && inB c 0 6)) (b_whole (d_wk a1' a2' b1' b2' c1' c2')) (by unfold dayB; simp))
  generalize [65, 65, 65, 48, 66, 66, 66, 44] ++ ((74 :: th a) ++ [44, 48]) = f1 at *
  generalize [65, 65, 65, 48, 66, 66, 66, 44] ++ (th a ++ [44, 48]) = f2 at *
  generalize [65, 65, 65, 48, 66, 66, 66, 44] ++ ((77 :: (th a ++ 46 :: (th b ++ 46 :: th c))) ++ [44, 48]) = f3 at *
  generalize tx (th a) = v0 at *
  generalize tx (th b) = v1 at *
  generalize tx (th c) = v2 at *
  generalize parE false f1 = e1 at *
  generalize parR false f1 = r1 at *
  generalize parE false f2 = e2 at *
  generalize parR false f2 = r2 at *
  generalize parE false f3 = e3 at *
  generalize parR false f3 = r3 at *
  generalize tx f1 = F1 at *
  generalize tx f2 = F2 at *
  generalize tx f3 = F3 at *
  go_enter Tryd.func8, Tryd.ntmps8
  go_wp2_with fail
  refine (SH.out _ TT.out).mono ?_; rintro e w1 ⟨rfl, u1⟩
  have U1 := Lib.hid u1
  clear u1 SH
  go_wp2_with fail
  refine (TA.out _).mono ?_; rintro e w2 ⟨rfl, u2⟩
  go_wp2_with fail
  refine (Q1.out _).mono ?_; rintro e w3 ⟨rfl, u1⟩
  have z1 := Bk.new w3 (rA ru0) 27 (by decide)
  have ST := st_cells (r := r1) z1
  have b4 := putR_bk (r := r1) z1
  have v1 := u1.trans (putR_up (r := r1) (Up.alloc w3 (.cells (rA ru0) 27)) (Nat.le_refl _))
  rw [ru0_lit] at ST b4 v1
  clear z1
  have b4 := Lib.hid b4
  have v4 := Lib.hid v1
  clear v1 u1
  generalize hP : PutR _ w3.heap.size r1 = w4 at *
  clear hP
  have U4 := Lib.hid ((U1.out.trans u2).trans v4.out)
  clear v4 U1 u2
  go_wp2_with fail
  clear ST
  refine (TA.out _).mono ?_; rintro e w5 ⟨rfl, u2⟩
  go_wp2_with fail
  refine (Q2.out _).mono ?_; rintro e w6 ⟨rfl, u1⟩
  have z1 := Bk.new w6 (rA ru0) 27 (by decide)
  have ST := st_cells (r := r2) z1
  have b7 := putR_bk (r := r2) z1
  have v1 := u1.trans (putR_up (r := r2) (Up.alloc w6 (.cells (rA ru0) 27)) (Nat.le_refl _))
  rw [ru0_lit] at ST b7 v1
  clear z1
  have b7 := Lib.hid b7
  have v7 := Lib.hid v1
  clear v1 u1
  generalize hP : PutR _ w6.heap.size r2 = w7 at *
  clear hP
  have U7 := Lib.hid ((U4.out.trans u2).trans v7.out)
  have B7 := Lib.hid ((b4.out.up u2).up v7.out)
  clear v7 U4 u2 b4
  go_wp2_with fail
  clear ST
  refine (TA.out _).mono ?_; rintro e w8 ⟨rfl, u2⟩
  go_wp2_with fail
  refine (TB.out _).mono ?_; rintro e w9 ⟨rfl, u3⟩
  go_wp2_with fail
  refine (TC.out _).mono ?_; rintro e w10 ⟨rfl, u4⟩
  go_wp2_with fail
  refine (Q3.out _).mono ?_; rintro e w11 ⟨rfl, u1⟩
  have z1 := Bk.new w11 (rA ru0) 27 (by decide)
  have ST := st_cells (r := r3) z1
  have b12 := putR_bk (r := r3) z1
  have v1 := u1.trans (putR_up (r := r3) (Up.alloc w11 (.cells (rA ru0) 27)) (Nat.le_refl _))
  rw [ru0_lit] at ST b12 v1
  clear z1
  have b12 := Lib.hid b12
  have v12 := Lib.hid v1
  clear v1 u1
  generalize hP : PutR _ w11.heap.size r3 = w12 at *
  clear hP
  have UU := ((u2.trans u3).trans u4).trans v12.out
  have U12 := Lib.hid (U7.out.trans UU)
  have B12 := Lib.hid (B7.out.up UU)
  have D12 := Lib.hid (b7.out.up UU)
  clear v12 U7 u2 u3 u4 UU B7 b7
  have k0 : decide (1 ≤ a) = true := by simp; omega
  have l0 : 1 ≤ a := by omega
  have k1 : decide (a ≤ 365) = true := by simp; omega
  have l1 : a ≤ 365 := by omega
  have k2 : decide (a ≤ 12) = true := by simp; omega
  have l2 : a ≤ 12 := by omega
  have k3 : decide (1 ≤ b) = true := by simp; omega
  have l3 : 1 ≤ b := by omega
  have k4 : decide (b ≤ 5) = true := by simp; omega
  have l4 : b ≤ 5 := by omega
  have k5 : decide (c ≤ 6) = false := by simp; omega
  have l5 : ¬ c ≤ 6 := by omega
  go_upto_region 8 with (fail)
  clear ST
  obtain ⟨rfl, rfl⟩ := R1.out.1 (by simp [inB]; omega)
  have x7 : w12.cell? ⟨w3.heap.size, 7, none⟩ = some (.int .i64 1) := B12.out.cell 7
  have x8 : w12.cell? ⟨w3.heap.size, 8, none⟩ = some (.int .i64 a) := B12.out.cell 8
  obtain ⟨rfl, rfl⟩ := R2.out.1 (by simp [inB]; omega)
  have y7 : w12.cell? ⟨w6.heap.size, 7, none⟩ = some (.int .i64 2) := D12.out.cell 7
  have y8 : w12.cell? ⟨w6.heap.size, 8, none⟩ = some (.int .i64 a) := D12.out.cell 8
  obtain rfl := R3.out.2 (by simp [inB]; omega)
  have z7 : w12.cell? ⟨w11.heap.size, 7, none⟩ = some (.int .i64 r3.st.how) := b12.out.cell 7
  have z8 : w12.cell? ⟨w11.heap.size, 8, none⟩ = some (.int .i64 r3.st.n) := b12.out.cell 8
  have z9 : w12.cell? ⟨w11.heap.size, 9, none⟩ = some (.int .i64 r3.st.wk) := b12.out.cell 9
  have z10 : w12.cell? ⟨w11.heap.size, 10, none⟩ = some (.int .i64 r3.st.wd) := b12.out.cell 10
  clear R1 R2 R3 B12 D12 b12
  go_wp2_with fail
  all_goals go_ret
  all_goals exact ⟨ret_b (by simp), U12.out⟩
attribute [local irreducible] wpList in
set_option maxRecDepth 100000 in
set_option maxHeartbeats 16000000 in
theorem arm5 (a0 a1 a2 : Int) (a b c : Int) (ha : (bits .and .i64 a0 65535).tmod 1000 = a) (a1' : 0 ≤ a) (a2' : a < 1000) (hb : (bits .and .i64 a1 65535).tmod 1000 = b) (b1' : 0 ≤ b) (b2' : b < 1000) (hc : (bits .and .i64 a2 65535).tmod 1000 = c) (c1' : 0 ≤ c) (c2' : c < 1000) (w : World) (T : Tabs w) (cc : 1 ≤ a ∧ a ≤ 12 ∧ 1 ≤ b ∧ 5 < b) :
    Calls Tryd.prog 8 #[.int .i64 a0, .int .i64 a1, .int .i64 a2] w fun e w' => e = .returned (.bool true) ∧ Up w w' := by
  obtain ⟨c11, c12, c13, c14⟩ := cc
  have SH := Lib.hid (fun w T => shown_any w T)
  have TT := Lib.hid T
  clear T
  have rs : ∀ r, (rA r).size = 17 := fun r => rfl
  have TA := Lib.hid (fun w => three_any a w a1' a2')
  have TB := Lib.hid (fun w => three_any b w b1' b2')
  have TC := Lib.hid (fun w => three_any c w c1' c2')
  have X1 := b_tx1 (th a)
  have X2 := b_tx2 (th a)
  have X3 := b_tx3 (th a) (th b) (th c)
  have y0 : (tx (th a)).size = 3 := tx_size _
  have y1 : (tx (th b)).size = 3 := tx_size _
  have y2 : (tx (th c)).size = 3 := tx_size _
  have Q1 := Lib.hid (fun w => parse_any ([65, 65, 65, 48, 66, 66, 66, 44] ++ ((74 :: th a) ++ [44, 48])) false w (by simp [th]))
  have Q2 := Lib.hid (fun w => parse_any ([65, 65, 65, 48, 66, 66, 66, 44] ++ (th a ++ [44, 48])) false w (by simp [th]))
  have Q3 := Lib.hid (fun w => parse_any ([65, 65, 65, 48, 66, 66, 66, 44] ++ ((77 :: (th a ++ 46 :: (th b ++ 46 :: th c))) ++ [44, 48])) false w (by simp [th]))
  have R1 := Lib.hid (b_res (B := inB a 1 365) (b_whole (d_jul a1' a2')) (by unfold dayB; simp))
  have R2 := Lib.hid (b_res (B := inB a 0 365) (b_whole (d_pla a1' a2')) (by unfold dayB; simp))
  have R3 := Lib.hid (b_res (B := (inB a 1 12 && inB b 1 5 && inB c 0 6)) (b_whole (d_wk a1' a2' b1' b2' c1' c2')) (by unfold dayB; simp))
  generalize [65, 65, 65, 48, 66, 66, 66, 44] ++ ((74 :: th a) ++ [44, 48]) = f1 at *
  generalize [65, 65, 65, 48, 66, 66, 66, 44] ++ (th a ++ [44, 48]) = f2 at *
  generalize [65, 65, 65, 48, 66, 66, 66, 44] ++ ((77 :: (th a ++ 46 :: (th b ++ 46 :: th c))) ++ [44, 48]) = f3 at *
  generalize tx (th a) = v0 at *
  generalize tx (th b) = v1 at *
  generalize tx (th c) = v2 at *
  generalize parE false f1 = e1 at *
  generalize parR false f1 = r1 at *
  generalize parE false f2 = e2 at *
  generalize parR false f2 = r2 at *
  generalize parE false f3 = e3 at *
  generalize parR false f3 = r3 at *
  generalize tx f1 = F1 at *
  generalize tx f2 = F2 at *
  generalize tx f3 = F3 at *
  go_enter Tryd.func8, Tryd.ntmps8
  go_wp2_with fail
  refine (SH.out _ TT.out).mono ?_; rintro e w1 ⟨rfl, u1⟩
  have U1 := Lib.hid u1
  clear u1 SH
  go_wp2_with fail
  refine (TA.out _).mono ?_; rintro e w2 ⟨rfl, u2⟩
  go_wp2_with fail
  refine (Q1.out _).mono ?_; rintro e w3 ⟨rfl, u1⟩
  have z1 := Bk.new w3 (rA ru0) 27 (by decide)
  have ST := st_cells (r := r1) z1
  have b4 := putR_bk (r := r1) z1
  have v1 := u1.trans (putR_up (r := r1) (Up.alloc w3 (.cells (rA ru0) 27)) (Nat.le_refl _))
  rw [ru0_lit] at ST b4 v1
  clear z1
  have b4 := Lib.hid b4
  have v4 := Lib.hid v1
  clear v1 u1
  generalize hP : PutR _ w3.heap.size r1 = w4 at *
  clear hP
  have U4 := Lib.hid ((U1.out.trans u2).trans v4.out)
  clear v4 U1 u2
  go_wp2_with fail
  clear ST
  refine (TA.out _).mono ?_; rintro e w5 ⟨rfl, u2⟩
  go_wp2_with fail
  refine (Q2.out _).mono ?_; rintro e w6 ⟨rfl, u1⟩
  have z1 := Bk.new w6 (rA ru0) 27 (by decide)
  have ST := st_cells (r := r2) z1
  have b7 := putR_bk (r := r2) z1
  have v1 := u1.trans (putR_up (r := r2) (Up.alloc w6 (.cells (rA ru0) 27)) (Nat.le_refl _))
  rw [ru0_lit] at ST b7 v1
  clear z1
  have b7 := Lib.hid b7
  have v7 := Lib.hid v1
  clear v1 u1
  generalize hP : PutR _ w6.heap.size r2 = w7 at *
  clear hP
  have U7 := Lib.hid ((U4.out.trans u2).trans v7.out)
  have B7 := Lib.hid ((b4.out.up u2).up v7.out)
  clear v7 U4 u2 b4
  go_wp2_with fail
  clear ST
  refine (TA.out _).mono ?_; rintro e w8 ⟨rfl, u2⟩
  go_wp2_with fail
  refine (TB.out _).mono ?_; rintro e w9 ⟨rfl, u3⟩
  go_wp2_with fail
  refine (TC.out _).mono ?_; rintro e w10 ⟨rfl, u4⟩
  go_wp2_with fail
  refine (Q3.out _).mono ?_; rintro e w11 ⟨rfl, u1⟩
  have z1 := Bk.new w11 (rA ru0) 27 (by decide)
  have ST := st_cells (r := r3) z1
  have b12 := putR_bk (r := r3) z1
  have v1 := u1.trans (putR_up (r := r3) (Up.alloc w11 (.cells (rA ru0) 27)) (Nat.le_refl _))
  rw [ru0_lit] at ST b12 v1
  clear z1
  have b12 := Lib.hid b12
  have v12 := Lib.hid v1
  clear v1 u1
  generalize hP : PutR _ w11.heap.size r3 = w12 at *
  clear hP
  have UU := ((u2.trans u3).trans u4).trans v12.out
  have U12 := Lib.hid (U7.out.trans UU)
  have B12 := Lib.hid (B7.out.up UU)
  have D12 := Lib.hid (b7.out.up UU)
  clear v12 U7 u2 u3 u4 UU B7 b7
  have k0 : decide (1 ≤ a) = true := by simp; omega
  have l0 : 1 ≤ a := by omega
  have k1 : decide (a ≤ 365) = true := by simp; omega
  have l1 : a ≤ 365 := by omega
  have k2 : decide (a ≤ 12) = true := by simp; omega
  have l2 : a ≤ 12 := by omega
  have k3 : decide (1 ≤ b) = true := by simp; omega
  have l3 : 1 ≤ b := by omega
  have k4 : decide (b ≤ 5) = false := by simp; omega
  have l4 : ¬ b ≤ 5 := by omega
  go_upto_region 8 with (fail)
  clear ST
  obtain ⟨rfl, rfl⟩ := R1.out.1 (by simp [inB]; omega)
  have x7 : w12.cell? ⟨w3.heap.size, 7, none⟩ = some (.int .i64 1) := B12.out.cell 7
  have x8 : w12.cell? ⟨w3.heap.size, 8, none⟩ = some (.int .i64 a) := B12.out.cell 8
  obtain ⟨rfl, rfl⟩ := R2.out.1 (by simp [inB]; omega)
  have y7 : w12.cell? ⟨w6.heap.size, 7, none⟩ = some (.int .i64 2) := D12.out.cell 7
  have y8 : w12.cell? ⟨w6.heap.size, 8, none⟩ = some (.int .i64 a) := D12.out.cell 8
  obtain rfl := R3.out.2 (by simp [inB]; omega)
  have z7 : w12.cell? ⟨w11.heap.size, 7, none⟩ = some (.int .i64 r3.st.how) := b12.out.cell 7
  have z8 : w12.cell? ⟨w11.heap.size, 8, none⟩ = some (.int .i64 r3.st.n) := b12.out.cell 8
  have z9 : w12.cell? ⟨w11.heap.size, 9, none⟩ = some (.int .i64 r3.st.wk) := b12.out.cell 9
  have z10 : w12.cell? ⟨w11.heap.size, 10, none⟩ = some (.int .i64 r3.st.wd) := b12.out.cell 10
  clear R1 R2 R3 B12 D12 b12
  go_wp2_with fail
  all_goals go_ret
  all_goals exact ⟨ret_b (by simp), U12.out⟩
attribute [local irreducible] wpList in
set_option maxRecDepth 100000 in
set_option maxHeartbeats 16000000 in
theorem arm4 (a0 a1 a2 : Int) (a b c : Int) (ha : (bits .and .i64 a0 65535).tmod 1000 = a) (a1' : 0 ≤ a) (a2' : a < 1000) (hb : (bits .and .i64 a1 65535).tmod 1000 = b) (b1' : 0 ≤ b) (b2' : b < 1000) (hc : (bits .and .i64 a2 65535).tmod 1000 = c) (c1' : 0 ≤ c) (c2' : c < 1000) (w : World) (T : Tabs w) (cc : 1 ≤ a ∧ a ≤ 12 ∧ b < 1) :
    Calls Tryd.prog 8 #[.int .i64 a0, .int .i64 a1, .int .i64 a2] w fun e w' => e = .returned (.bool true) ∧ Up w w' := by
  obtain ⟨c11, c12, c13⟩ := cc
  have SH := Lib.hid (fun w T => shown_any w T)
  have TT := Lib.hid T
  clear T
  have rs : ∀ r, (rA r).size = 17 := fun r => rfl
  have TA := Lib.hid (fun w => three_any a w a1' a2')
  have TB := Lib.hid (fun w => three_any b w b1' b2')
  have TC := Lib.hid (fun w => three_any c w c1' c2')
  have X1 := b_tx1 (th a)
  have X2 := b_tx2 (th a)
  have X3 := b_tx3 (th a) (th b) (th c)
  have y0 : (tx (th a)).size = 3 := tx_size _
  have y1 : (tx (th b)).size = 3 := tx_size _
  have y2 : (tx (th c)).size = 3 := tx_size _
  have Q1 := Lib.hid (fun w => parse_any ([65, 65, 65, 48, 66, 66, 66, 44] ++ ((74 :: th a) ++ [44, 48])) false w (by simp [th]))
  have Q2 := Lib.hid (fun w => parse_any ([65, 65, 65, 48, 66, 66, 66, 44] ++ (th a ++ [44, 48])) false w (by simp [th]))
  have Q3 := Lib.hid (fun w => parse_any ([65, 65, 65, 48, 66, 66, 66, 44] ++ ((77 :: (th a ++ 46 :: (th b ++ 46 :: th c))) ++ [44, 48])) false w (by simp [th]))
  have R1 := Lib.hid (b_res (B := inB a 1 365) (b_whole (d_jul a1' a2')) (by unfold dayB; simp))
  have R2 := Lib.hid (b_res (B := inB a 0 365) (b_whole (d_pla a1' a2')) (by unfold dayB; simp))
  have R3 := Lib.hid (b_res (B := (inB a 1 12 && inB b 1 5 && inB c 0 6)) (b_whole (d_wk a1' a2' b1' b2' c1' c2')) (by unfold dayB; simp))
  generalize [65, 65, 65, 48, 66, 66, 66, 44] ++ ((74 :: th a) ++ [44, 48]) = f1 at *
  generalize [65, 65, 65, 48, 66, 66, 66, 44] ++ (th a ++ [44, 48]) = f2 at *
  generalize [65, 65, 65, 48, 66, 66, 66, 44] ++ ((77 :: (th a ++ 46 :: (th b ++ 46 :: th c))) ++ [44, 48]) = f3 at *
  generalize tx (th a) = v0 at *
  generalize tx (th b) = v1 at *
  generalize tx (th c) = v2 at *
  generalize parE false f1 = e1 at *
  generalize parR false f1 = r1 at *
  generalize parE false f2 = e2 at *
  generalize parR false f2 = r2 at *
  generalize parE false f3 = e3 at *
  generalize parR false f3 = r3 at *
  generalize tx f1 = F1 at *
  generalize tx f2 = F2 at *
  generalize tx f3 = F3 at *
  go_enter Tryd.func8, Tryd.ntmps8
  go_wp2_with fail
  refine (SH.out _ TT.out).mono ?_; rintro e w1 ⟨rfl, u1⟩
  have U1 := Lib.hid u1
  clear u1 SH
  go_wp2_with fail
  refine (TA.out _).mono ?_; rintro e w2 ⟨rfl, u2⟩
  go_wp2_with fail
  refine (Q1.out _).mono ?_; rintro e w3 ⟨rfl, u1⟩
  have z1 := Bk.new w3 (rA ru0) 27 (by decide)
  have ST := st_cells (r := r1) z1
  have b4 := putR_bk (r := r1) z1
  have v1 := u1.trans (putR_up (r := r1) (Up.alloc w3 (.cells (rA ru0) 27)) (Nat.le_refl _))
  rw [ru0_lit] at ST b4 v1
  clear z1
  have b4 := Lib.hid b4
  have v4 := Lib.hid v1
  clear v1 u1
  generalize hP : PutR _ w3.heap.size r1 = w4 at *
  clear hP
  have U4 := Lib.hid ((U1.out.trans u2).trans v4.out)
  clear v4 U1 u2
  go_wp2_with fail
  clear ST
  refine (TA.out _).mono ?_; rintro e w5 ⟨rfl, u2⟩
  go_wp2_with fail
  refine (Q2.out _).mono ?_; rintro e w6 ⟨rfl, u1⟩
  have z1 := Bk.new w6 (rA ru0) 27 (by decide)
  have ST := st_cells (r := r2) z1
  have b7 := putR_bk (r := r2) z1
  have v1 := u1.trans (putR_up (r := r2) (Up.alloc w6 (.cells (rA ru0) 27)) (Nat.le_refl _))
  rw [ru0_lit] at ST b7 v1
  clear z1
  have b7 := Lib.hid b7
  have v7 := Lib.hid v1
  clear v1 u1
  generalize hP : PutR _ w6.heap.size r2 = w7 at *
  clear hP
  have U7 := Lib.hid ((U4.out.trans u2).trans v7.out)
  have B7 := Lib.hid ((b4.out.up u2).up v7.out)
  clear v7 U4 u2 b4
  go_wp2_with fail
  clear ST
  refine (TA.out _).mono ?_; rintro e w8 ⟨rfl, u2⟩
  go_wp2_with fail
  refine (TB.out _).mono ?_; rintro e w9 ⟨rfl, u3⟩
  go_wp2_with fail
  refine (TC.out _).mono ?_; rintro e w10 ⟨rfl, u4⟩
  go_wp2_with fail
  refine (Q3.out _).mono ?_; rintro e w11 ⟨rfl, u1⟩
  have z1 := Bk.new w11 (rA ru0) 27 (by decide)
  have ST := st_cells (r := r3) z1
  have b12 := putR_bk (r := r3) z1
  have v1 := u1.trans (putR_up (r := r3) (Up.alloc w11 (.cells (rA ru0) 27)) (Nat.le_refl _))
  rw [ru0_lit] at ST b12 v1
  clear z1
  have b12 := Lib.hid b12
  have v12 := Lib.hid v1
  clear v1 u1
  generalize hP : PutR _ w11.heap.size r3 = w12 at *
  clear hP
  have UU := ((u2.trans u3).trans u4).trans v12.out
  have U12 := Lib.hid (U7.out.trans UU)
  have B12 := Lib.hid (B7.out.up UU)
  have D12 := Lib.hid (b7.out.up UU)
  clear v12 U7 u2 u3 u4 UU B7 b7
  have k0 : decide (1 ≤ a) = true := by simp; omega
  have l0 : 1 ≤ a := by omega
  have k1 : decide (a ≤ 365) = true := by simp; omega
  have l1 : a ≤ 365 := by omega
  have k2 : decide (a ≤ 12) = true := by simp; omega
  have l2 : a ≤ 12 := by omega
  have k3 : decide (1 ≤ b) = false := by simp; omega
  have l3 : ¬ 1 ≤ b := by omega
  go_upto_region 8 with (fail)
  clear ST
  obtain ⟨rfl, rfl⟩ := R1.out.1 (by simp [inB]; omega)
  have x7 : w12.cell? ⟨w3.heap.size, 7, none⟩ = some (.int .i64 1) := B12.out.cell 7
  have x8 : w12.cell? ⟨w3.heap.size, 8, none⟩ = some (.int .i64 a) := B12.out.cell 8
  obtain ⟨rfl, rfl⟩ := R2.out.1 (by simp [inB]; omega)
  have y7 : w12.cell? ⟨w6.heap.size, 7, none⟩ = some (.int .i64 2) := D12.out.cell 7
  have y8 : w12.cell? ⟨w6.heap.size, 8, none⟩ = some (.int .i64 a) := D12.out.cell 8
  obtain rfl := R3.out.2 (by simp [inB]; omega)
  have z7 : w12.cell? ⟨w11.heap.size, 7, none⟩ = some (.int .i64 r3.st.how) := b12.out.cell 7
  have z8 : w12.cell? ⟨w11.heap.size, 8, none⟩ = some (.int .i64 r3.st.n) := b12.out.cell 8
  have z9 : w12.cell? ⟨w11.heap.size, 9, none⟩ = some (.int .i64 r3.st.wk) := b12.out.cell 9
  have z10 : w12.cell? ⟨w11.heap.size, 10, none⟩ = some (.int .i64 r3.st.wd) := b12.out.cell 10
  clear R1 R2 R3 B12 D12 b12
  go_wp2_with fail
  all_goals go_ret
  all_goals exact ⟨ret_b (by simp), U12.out⟩
attribute [local irreducible] wpList in
set_option maxRecDepth 100000 in
set_option maxHeartbeats 16000000 in
theorem arm3 (a0 a1 a2 : Int) (a b c : Int) (ha : (bits .and .i64 a0 65535).tmod 1000 = a) (a1' : 0 ≤ a) (a2' : a < 1000) (hb : (bits .and .i64 a1 65535).tmod 1000 = b) (b1' : 0 ≤ b) (b2' : b < 1000) (hc : (bits .and .i64 a2 65535).tmod 1000 = c) (c1' : 0 ≤ c) (c2' : c < 1000) (w : World) (T : Tabs w) (cc : 12 < a ∧ a ≤ 365) :
    Calls Tryd.prog 8 #[.int .i64 a0, .int .i64 a1, .int .i64 a2] w fun e w' => e = .returned (.bool true) ∧ Up w w' := by
  obtain ⟨c11, c12⟩ := cc
  have SH := Lib.hid (fun w T => shown_any w T)
  have TT := Lib.hid T
  clear T
  have rs : ∀ r, (rA r).size = 17 := fun r => rfl
  have TA := Lib.hid (fun w => three_any a w a1' a2')
  have TB := Lib.hid (fun w => three_any b w b1' b2')
  have TC := Lib.hid (fun w => three_any c w c1' c2')
  have X1 := b_tx1 (th a)
  have X2 := b_tx2 (th a)
  have X3 := b_tx3 (th a) (th b) (th c)
  have y0 : (tx (th a)).size = 3 := tx_size _
  have y1 : (tx (th b)).size = 3 := tx_size _
  have y2 : (tx (th c)).size = 3 := tx_size _
  have Q1 := Lib.hid (fun w => parse_any ([65, 65, 65, 48, 66, 66, 66, 44] ++ ((74 :: th a) ++ [44, 48])) false w (by simp [th]))
  have Q2 := Lib.hid (fun w => parse_any ([65, 65, 65, 48, 66, 66, 66, 44] ++ (th a ++ [44, 48])) false w (by simp [th]))
  have Q3 := Lib.hid (fun w => parse_any ([65, 65, 65, 48, 66, 66, 66, 44] ++ ((77 :: (th a ++ 46 :: (th b ++ 46 :: th c))) ++ [44, 48])) false w (by simp [th]))
  have R1 := Lib.hid (b_res (B := inB a 1 365) (b_whole (d_jul a1' a2')) (by unfold dayB; simp))
  have R2 := Lib.hid (b_res (B := inB a 0 365) (b_whole (d_pla a1' a2')) (by unfold dayB; simp))
  have R3 := Lib.hid (b_res (B := (inB a 1 12 && inB b 1 5 && inB c 0 6)) (b_whole (d_wk a1' a2' b1' b2' c1' c2')) (by unfold dayB; simp))
  generalize [65, 65, 65, 48, 66, 66, 66, 44] ++ ((74 :: th a) ++ [44, 48]) = f1 at *
  generalize [65, 65, 65, 48, 66, 66, 66, 44] ++ (th a ++ [44, 48]) = f2 at *
  generalize [65, 65, 65, 48, 66, 66, 66, 44] ++ ((77 :: (th a ++ 46 :: (th b ++ 46 :: th c))) ++ [44, 48]) = f3 at *
  generalize tx (th a) = v0 at *
  generalize tx (th b) = v1 at *
  generalize tx (th c) = v2 at *
  generalize parE false f1 = e1 at *
  generalize parR false f1 = r1 at *
  generalize parE false f2 = e2 at *
  generalize parR false f2 = r2 at *
  generalize parE false f3 = e3 at *
  generalize parR false f3 = r3 at *
  generalize tx f1 = F1 at *
  generalize tx f2 = F2 at *
  generalize tx f3 = F3 at *
  go_enter Tryd.func8, Tryd.ntmps8
  go_wp2_with fail
  refine (SH.out _ TT.out).mono ?_; rintro e w1 ⟨rfl, u1⟩
  have U1 := Lib.hid u1
  clear u1 SH
  go_wp2_with fail
  refine (TA.out _).mono ?_; rintro e w2 ⟨rfl, u2⟩
  go_wp2_with fail
  refine (Q1.out _).mono ?_; rintro e w3 ⟨rfl, u1⟩
  have z1 := Bk.new w3 (rA ru0) 27 (by decide)
  have ST := st_cells (r := r1) z1
  have b4 := putR_bk (r := r1) z1
  have v1 := u1.trans (putR_up (r := r1) (Up.alloc w3 (.cells (rA ru0) 27)) (Nat.le_refl _))
  rw [ru0_lit] at ST b4 v1
  clear z1
  have b4 := Lib.hid b4
  have v4 := Lib.hid v1
  clear v1 u1
  generalize hP : PutR _ w3.heap.size r1 = w4 at *
  clear hP
  have U4 := Lib.hid ((U1.out.trans u2).trans v4.out)
  clear v4 U1 u2
  go_wp2_with fail
  clear ST
  refine (TA.out _).mono ?_; rintro e w5 ⟨rfl, u2⟩
  go_wp2_with fail
  refine (Q2.out _).mono ?_; rintro e w6 ⟨rfl, u1⟩
  have z1 := Bk.new w6 (rA ru0) 27 (by decide)
  have ST := st_cells (r := r2) z1
  have b7 := putR_bk (r := r2) z1
  have v1 := u1.trans (putR_up (r := r2) (Up.alloc w6 (.cells (rA ru0) 27)) (Nat.le_refl _))
  rw [ru0_lit] at ST b7 v1
  clear z1
  have b7 := Lib.hid b7
  have v7 := Lib.hid v1
  clear v1 u1
  generalize hP : PutR _ w6.heap.size r2 = w7 at *
  clear hP
  have U7 := Lib.hid ((U4.out.trans u2).trans v7.out)
  have B7 := Lib.hid ((b4.out.up u2).up v7.out)
  clear v7 U4 u2 b4
  go_wp2_with fail
  clear ST
  refine (TA.out _).mono ?_; rintro e w8 ⟨rfl, u2⟩
  go_wp2_with fail
  refine (TB.out _).mono ?_; rintro e w9 ⟨rfl, u3⟩
  go_wp2_with fail
  refine (TC.out _).mono ?_; rintro e w10 ⟨rfl, u4⟩
  go_wp2_with fail
  refine (Q3.out _).mono ?_; rintro e w11 ⟨rfl, u1⟩
  have z1 := Bk.new w11 (rA ru0) 27 (by decide)
  have ST := st_cells (r := r3) z1
  have b12 := putR_bk (r := r3) z1
  have v1 := u1.trans (putR_up (r := r3) (Up.alloc w11 (.cells (rA ru0) 27)) (Nat.le_refl _))
  rw [ru0_lit] at ST b12 v1
  clear z1
  have b12 := Lib.hid b12
  have v12 := Lib.hid v1
  clear v1 u1
  generalize hP : PutR _ w11.heap.size r3 = w12 at *
  clear hP
  have UU := ((u2.trans u3).trans u4).trans v12.out
  have U12 := Lib.hid (U7.out.trans UU)
  have B12 := Lib.hid (B7.out.up UU)
  have D12 := Lib.hid (b7.out.up UU)
  clear v12 U7 u2 u3 u4 UU B7 b7
  have k0 : decide (1 ≤ a) = true := by simp; omega
  have l0 : 1 ≤ a := by omega
  have k1 : decide (a ≤ 365) = true := by simp; omega
  have l1 : a ≤ 365 := by omega
  have k2 : decide (a ≤ 12) = false := by simp; omega
  have l2 : ¬ a ≤ 12 := by omega
  go_upto_region 8 with (fail)
  clear ST
  obtain ⟨rfl, rfl⟩ := R1.out.1 (by simp [inB]; omega)
  have x7 : w12.cell? ⟨w3.heap.size, 7, none⟩ = some (.int .i64 1) := B12.out.cell 7
  have x8 : w12.cell? ⟨w3.heap.size, 8, none⟩ = some (.int .i64 a) := B12.out.cell 8
  obtain ⟨rfl, rfl⟩ := R2.out.1 (by simp [inB]; omega)
  have y7 : w12.cell? ⟨w6.heap.size, 7, none⟩ = some (.int .i64 2) := D12.out.cell 7
  have y8 : w12.cell? ⟨w6.heap.size, 8, none⟩ = some (.int .i64 a) := D12.out.cell 8
  obtain rfl := R3.out.2 (by simp [inB]; omega)
  have z7 : w12.cell? ⟨w11.heap.size, 7, none⟩ = some (.int .i64 r3.st.how) := b12.out.cell 7
  have z8 : w12.cell? ⟨w11.heap.size, 8, none⟩ = some (.int .i64 r3.st.n) := b12.out.cell 8
  have z9 : w12.cell? ⟨w11.heap.size, 9, none⟩ = some (.int .i64 r3.st.wk) := b12.out.cell 9
  have z10 : w12.cell? ⟨w11.heap.size, 10, none⟩ = some (.int .i64 r3.st.wd) := b12.out.cell 10
  clear R1 R2 R3 B12 D12 b12
  go_wp2_with fail
  all_goals go_ret
  all_goals exact ⟨ret_b (by simp), U12.out⟩
attribute [local irreducible] wpList in
set_option maxRecDepth 100000 in
set_option maxHeartbeats 16000000 in
theorem arm2 (a0 a1 a2 : Int) (a b c : Int) (ha : (bits .and .i64 a0 65535).tmod 1000 = a) (a1' : 0 ≤ a) (a2' : a < 1000) (hb : (bits .and .i64 a1 65535).tmod 1000 = b) (b1' : 0 ≤ b) (b2' : b < 1000) (hc : (bits .and .i64 a2 65535).tmod 1000 = c) (c1' : 0 ≤ c) (c2' : c < 1000) (w : World) (T : Tabs w) (cc : 365 < a) :
    Calls Tryd.prog 8 #[.int .i64 a0, .int .i64 a1, .int .i64 a2] w fun e w' => e = .returned (.bool true) ∧ Up w w' := by
  have SH := Lib.hid (fun w T => shown_any w T)
  have TT := Lib.hid T
  clear T
  have rs : ∀ r, (rA r).size = 17 := fun r => rfl
  have TA := Lib.hid (fun w => three_any a w a1' a2')
  have TB := Lib.hid (fun w => three_any b w b1' b2')
  have TC := Lib.hid (fun w => three_any c w c1' c2')
  have X1 := b_tx1 (th a)
  have X2 := b_tx2 (th a)
  have X3 := b_tx3 (th a) (th b) (th c)
  have y0 : (tx (th a)).size = 3 := tx_size _
  have y1 : (tx (th b)).size = 3 := tx_size _
  have y2 : (tx (th c)).size = 3 := tx_size _
  have Q1 := Lib.hid (fun w => parse_any ([65, 65, 65, 48, 66, 66, 66, 44] ++ ((74 :: th a) ++ [44, 48])) false w (by simp [th]))
  have Q2 := Lib.hid (fun w => parse_any ([65, 65, 65, 48, 66, 66, 66, 44] ++ (th a ++ [44, 48])) false w (by simp [th]))
  have Q3 := Lib.hid (fun w => parse_any ([65, 65, 65, 48, 66, 66, 66, 44] ++ ((77 :: (th a ++ 46 :: (th b ++ 46 :: th c))) ++ [44, 48])) false w (by simp [th]))
  have R1 := Lib.hid (b_res (B := inB a 1 365) (b_whole (d_jul a1' a2')) (by unfold dayB; simp))
  have R2 := Lib.hid (b_res (B := inB a 0 365) (b_whole (d_pla a1' a2')) (by unfold dayB; simp))
  have R3 := Lib.hid (b_res (B := (inB a 1 12 && inB b 1 5 && inB c 0 6)) (b_whole (d_wk a1' a2' b1' b2' c1' c2')) (by unfold dayB; simp))
  generalize [65, 65, 65, 48, 66, 66, 66, 44] ++ ((74 :: th a) ++ [44, 48]) = f1 at *
  generalize [65, 65, 65, 48, 66, 66, 66, 44] ++ (th a ++ [44, 48]) = f2 at *
  generalize [65, 65, 65, 48, 66, 66, 66, 44] ++ ((77 :: (th a ++ 46 :: (th b ++ 46 :: th c))) ++ [44, 48]) = f3 at *
  generalize tx (th a) = v0 at *
  generalize tx (th b) = v1 at *
  generalize tx (th c) = v2 at *
  generalize parE false f1 = e1 at *
  generalize parR false f1 = r1 at *
  generalize parE false f2 = e2 at *
  generalize parR false f2 = r2 at *
  generalize parE false f3 = e3 at *
  generalize parR false f3 = r3 at *
  generalize tx f1 = F1 at *
  generalize tx f2 = F2 at *
  generalize tx f3 = F3 at *
  go_enter Tryd.func8, Tryd.ntmps8
  go_wp2_with fail
  refine (SH.out _ TT.out).mono ?_; rintro e w1 ⟨rfl, u1⟩
  have U1 := Lib.hid u1
  clear u1 SH
  go_wp2_with fail
  refine (TA.out _).mono ?_; rintro e w2 ⟨rfl, u2⟩
  go_wp2_with fail
  refine (Q1.out _).mono ?_; rintro e w3 ⟨rfl, u1⟩
  have z1 := Bk.new w3 (rA ru0) 27 (by decide)
  have ST := st_cells (r := r1) z1
  have b4 := putR_bk (r := r1) z1
  have v1 := u1.trans (putR_up (r := r1) (Up.alloc w3 (.cells (rA ru0) 27)) (Nat.le_refl _))
  rw [ru0_lit] at ST b4 v1
  clear z1
  have b4 := Lib.hid b4
  have v4 := Lib.hid v1
  clear v1 u1
  generalize hP : PutR _ w3.heap.size r1 = w4 at *
  clear hP
  have U4 := Lib.hid ((U1.out.trans u2).trans v4.out)
  clear v4 U1 u2
  go_wp2_with fail
  clear ST
  refine (TA.out _).mono ?_; rintro e w5 ⟨rfl, u2⟩
  go_wp2_with fail
  refine (Q2.out _).mono ?_; rintro e w6 ⟨rfl, u1⟩
  have z1 := Bk.new w6 (rA ru0) 27 (by decide)
  have ST := st_cells (r := r2) z1
  have b7 := putR_bk (r := r2) z1
  have v1 := u1.trans (putR_up (r := r2) (Up.alloc w6 (.cells (rA ru0) 27)) (Nat.le_refl _))
  rw [ru0_lit] at ST b7 v1
  clear z1
  have b7 := Lib.hid b7
  have v7 := Lib.hid v1
  clear v1 u1
  generalize hP : PutR _ w6.heap.size r2 = w7 at *
  clear hP
  have U7 := Lib.hid ((U4.out.trans u2).trans v7.out)
  have B7 := Lib.hid ((b4.out.up u2).up v7.out)
  clear v7 U4 u2 b4
  go_wp2_with fail
  clear ST
  refine (TA.out _).mono ?_; rintro e w8 ⟨rfl, u2⟩
  go_wp2_with fail
  refine (TB.out _).mono ?_; rintro e w9 ⟨rfl, u3⟩
  go_wp2_with fail
  refine (TC.out _).mono ?_; rintro e w10 ⟨rfl, u4⟩
  go_wp2_with fail
  refine (Q3.out _).mono ?_; rintro e w11 ⟨rfl, u1⟩
  have z1 := Bk.new w11 (rA ru0) 27 (by decide)
  have ST := st_cells (r := r3) z1
  have b12 := putR_bk (r := r3) z1
  have v1 := u1.trans (putR_up (r := r3) (Up.alloc w11 (.cells (rA ru0) 27)) (Nat.le_refl _))
  rw [ru0_lit] at ST b12 v1
  clear z1
  have b12 := Lib.hid b12
  have v12 := Lib.hid v1
  clear v1 u1
  generalize hP : PutR _ w11.heap.size r3 = w12 at *
  clear hP
  have UU := ((u2.trans u3).trans u4).trans v12.out
  have U12 := Lib.hid (U7.out.trans UU)
  have B12 := Lib.hid (B7.out.up UU)
  have D12 := Lib.hid (b7.out.up UU)
  clear v12 U7 u2 u3 u4 UU B7 b7
  have k0 : decide (1 ≤ a) = true := by simp; omega
  have l0 : 1 ≤ a := by omega
  have k1 : decide (a ≤ 365) = false := by simp; omega
  have l1 : ¬ a ≤ 365 := by omega
  have k7 : decide (a ≤ 12) = false := by simp; omega
  have l7 : ¬ a ≤ 12 := by omega
  go_upto_region 8 with (fail)
  clear ST
  obtain rfl := R1.out.2 (by simp [inB]; omega)
  have x7 : w12.cell? ⟨w3.heap.size, 7, none⟩ = some (.int .i64 r1.st.how) := B12.out.cell 7
  have x8 : w12.cell? ⟨w3.heap.size, 8, none⟩ = some (.int .i64 r1.st.n) := B12.out.cell 8
  have x9 : w12.cell? ⟨w3.heap.size, 9, none⟩ = some (.int .i64 r1.st.wk) := B12.out.cell 9
  have x10 : w12.cell? ⟨w3.heap.size, 10, none⟩ = some (.int .i64 r1.st.wd) := B12.out.cell 10
  obtain rfl := R2.out.2 (by simp [inB]; omega)
  have y7 : w12.cell? ⟨w6.heap.size, 7, none⟩ = some (.int .i64 r2.st.how) := D12.out.cell 7
  have y8 : w12.cell? ⟨w6.heap.size, 8, none⟩ = some (.int .i64 r2.st.n) := D12.out.cell 8
  have y9 : w12.cell? ⟨w6.heap.size, 9, none⟩ = some (.int .i64 r2.st.wk) := D12.out.cell 9
  have y10 : w12.cell? ⟨w6.heap.size, 10, none⟩ = some (.int .i64 r2.st.wd) := D12.out.cell 10
  obtain rfl := R3.out.2 (by simp [inB]; omega)
  have z7 : w12.cell? ⟨w11.heap.size, 7, none⟩ = some (.int .i64 r3.st.how) := b12.out.cell 7
  have z8 : w12.cell? ⟨w11.heap.size, 8, none⟩ = some (.int .i64 r3.st.n) := b12.out.cell 8
  have z9 : w12.cell? ⟨w11.heap.size, 9, none⟩ = some (.int .i64 r3.st.wk) := b12.out.cell 9
  have z10 : w12.cell? ⟨w11.heap.size, 10, none⟩ = some (.int .i64 r3.st.wd) := b12.out.cell 10
  clear R1 R2 R3 B12 D12 b12
  go_wp2_with fail
  all_goals go_ret
  all_goals exact ⟨ret_b (by simp), U12.out⟩
attribute [local irreducible] wpList in
set_option maxRecDepth 100000 in
set_option maxHeartbeats 16000000 in
theorem arm1 (a0 a1 a2 : Int) (a b c : Int) (ha : (bits .and .i64 a0 65535).tmod 1000 = a) (a1' : 0 ≤ a) (a2' : a < 1000) (hb : (bits .and .i64 a1 65535).tmod 1000 = b) (b1' : 0 ≤ b) (b2' : b < 1000) (hc : (bits .and .i64 a2 65535).tmod 1000 = c) (c1' : 0 ≤ c) (c2' : c < 1000) (w : World) (T : Tabs w) (cc : a < 1) :
    Calls Tryd.prog 8 #[.int .i64 a0, .int .i64 a1, .int .i64 a2] w fun e w' => e = .returned (.bool true) ∧ Up w w' := by
  have SH := Lib.hid (fun w T => shown_any w T)
  have TT := Lib.hid T
  clear T
  have rs : ∀ r, (rA r).size = 17 := fun r => rfl
  have TA := Lib.hid (fun w => three_any a w a1' a2')
  have TB := Lib.hid (fun w => three_any b w b1' b2')
  have TC := Lib.hid (fun w => three_any c w c1' c2')
  have X1 := b_tx1 (th a)
  have X2 := b_tx2 (th a)
  have X3 := b_tx3 (th a) (th b) (th c)
  have y0 : (tx (th a)).size = 3 := tx_size _
  have y1 : (tx (th b)).size = 3 := tx_size _
  have y2 : (tx (th c)).size = 3 := tx_size _
  have Q1 := Lib.hid (fun w => parse_any ([65, 65, 65, 48, 66, 66, 66, 44] ++ ((74 :: th a) ++ [44, 48])) false w (by simp [th]))
  have Q2 := Lib.hid (fun w => parse_any ([65, 65, 65, 48, 66, 66, 66, 44] ++ (th a ++ [44, 48])) false w (by simp [th]))
  have Q3 := Lib.hid (fun w => parse_any ([65, 65, 65, 48, 66, 66, 66, 44] ++ ((77 :: (th a ++ 46 :: (th b ++ 46 :: th c))) ++ [44, 48])) false w (by simp [th]))
  have R1 := Lib.hid (b_res (B := inB a 1 365) (b_whole (d_jul a1' a2')) (by unfold dayB; simp))
  have R2 := Lib.hid (b_res (B := inB a 0 365) (b_whole (d_pla a1' a2')) (by unfold dayB; simp))
  have R3 := Lib.hid (b_res (B := (inB a 1 12 && inB b 1 5 && inB c 0 6)) (b_whole (d_wk a1' a2' b1' b2' c1' c2')) (by unfold dayB; simp))
  generalize [65, 65, 65, 48, 66, 66, 66, 44] ++ ((74 :: th a) ++ [44, 48]) = f1 at *
  generalize [65, 65, 65, 48, 66, 66, 66, 44] ++ (th a ++ [44, 48]) = f2 at *
  generalize [65, 65, 65, 48, 66, 66, 66, 44] ++ ((77 :: (th a ++ 46 :: (th b ++ 46 :: th c))) ++ [44, 48]) = f3 at *
  generalize tx (th a) = v0 at *
  generalize tx (th b) = v1 at *
  generalize tx (th c) = v2 at *
  generalize parE false f1 = e1 at *
  generalize parR false f1 = r1 at *
  generalize parE false f2 = e2 at *
  generalize parR false f2 = r2 at *
  generalize parE false f3 = e3 at *
  generalize parR false f3 = r3 at *
  generalize tx f1 = F1 at *
  generalize tx f2 = F2 at *
  generalize tx f3 = F3 at *
  go_enter Tryd.func8, Tryd.ntmps8
  go_wp2_with fail
  refine (SH.out _ TT.out).mono ?_; rintro e w1 ⟨rfl, u1⟩
  have U1 := Lib.hid u1
  clear u1 SH
  go_wp2_with fail
  refine (TA.out _).mono ?_; rintro e w2 ⟨rfl, u2⟩
  go_wp2_with fail
  refine (Q1.out _).mono ?_; rintro e w3 ⟨rfl, u1⟩
  have z1 := Bk.new w3 (rA ru0) 27 (by decide)
  have ST := st_cells (r := r1) z1
  have b4 := putR_bk (r := r1) z1
  have v1 := u1.trans (putR_up (r := r1) (Up.alloc w3 (.cells (rA ru0) 27)) (Nat.le_refl _))
  rw [ru0_lit] at ST b4 v1
  clear z1
  have b4 := Lib.hid b4
  have v4 := Lib.hid v1
  clear v1 u1
  generalize hP : PutR _ w3.heap.size r1 = w4 at *
  clear hP
  have U4 := Lib.hid ((U1.out.trans u2).trans v4.out)
  clear v4 U1 u2
  go_wp2_with fail
  clear ST
  refine (TA.out _).mono ?_; rintro e w5 ⟨rfl, u2⟩
  go_wp2_with fail
  refine (Q2.out _).mono ?_; rintro e w6 ⟨rfl, u1⟩
  have z1 := Bk.new w6 (rA ru0) 27 (by decide)
  have ST := st_cells (r := r2) z1
  have b7 := putR_bk (r := r2) z1
  have v1 := u1.trans (putR_up (r := r2) (Up.alloc w6 (.cells (rA ru0) 27)) (Nat.le_refl _))
  rw [ru0_lit] at ST b7 v1
  clear z1
  have b7 := Lib.hid b7
  have v7 := Lib.hid v1
  clear v1 u1
  generalize hP : PutR _ w6.heap.size r2 = w7 at *
  clear hP
  have U7 := Lib.hid ((U4.out.trans u2).trans v7.out)
  have B7 := Lib.hid ((b4.out.up u2).up v7.out)
  clear v7 U4 u2 b4
  go_wp2_with fail
  clear ST
  refine (TA.out _).mono ?_; rintro e w8 ⟨rfl, u2⟩
  go_wp2_with fail
  refine (TB.out _).mono ?_; rintro e w9 ⟨rfl, u3⟩
  go_wp2_with fail
  refine (TC.out _).mono ?_; rintro e w10 ⟨rfl, u4⟩
  go_wp2_with fail
  refine (Q3.out _).mono ?_; rintro e w11 ⟨rfl, u1⟩
  have z1 := Bk.new w11 (rA ru0) 27 (by decide)
  have ST := st_cells (r := r3) z1
  have b12 := putR_bk (r := r3) z1
  have v1 := u1.trans (putR_up (r := r3) (Up.alloc w11 (.cells (rA ru0) 27)) (Nat.le_refl _))
  rw [ru0_lit] at ST b12 v1
  clear z1
  have b12 := Lib.hid b12
  have v12 := Lib.hid v1
  clear v1 u1
  generalize hP : PutR _ w11.heap.size r3 = w12 at *
  clear hP
  have UU := ((u2.trans u3).trans u4).trans v12.out
  have U12 := Lib.hid (U7.out.trans UU)
  have B12 := Lib.hid (B7.out.up UU)
  have D12 := Lib.hid (b7.out.up UU)
  clear v12 U7 u2 u3 u4 UU B7 b7
  have k0 : decide (1 ≤ a) = false := by simp; omega
  have l0 : ¬ 1 ≤ a := by omega
  have k7 : decide (a ≤ 365) = true := by simp; omega
  have l7 : a ≤ 365 := by omega
  go_upto_region 8 with (fail)
  clear ST
  obtain rfl := R1.out.2 (by simp [inB]; omega)
  have x7 : w12.cell? ⟨w3.heap.size, 7, none⟩ = some (.int .i64 r1.st.how) := B12.out.cell 7
  have x8 : w12.cell? ⟨w3.heap.size, 8, none⟩ = some (.int .i64 r1.st.n) := B12.out.cell 8
  have x9 : w12.cell? ⟨w3.heap.size, 9, none⟩ = some (.int .i64 r1.st.wk) := B12.out.cell 9
  have x10 : w12.cell? ⟨w3.heap.size, 10, none⟩ = some (.int .i64 r1.st.wd) := B12.out.cell 10
  obtain ⟨rfl, rfl⟩ := R2.out.1 (by simp [inB]; omega)
  have y7 : w12.cell? ⟨w6.heap.size, 7, none⟩ = some (.int .i64 2) := D12.out.cell 7
  have y8 : w12.cell? ⟨w6.heap.size, 8, none⟩ = some (.int .i64 a) := D12.out.cell 8
  obtain rfl := R3.out.2 (by simp [inB]; omega)
  have z7 : w12.cell? ⟨w11.heap.size, 7, none⟩ = some (.int .i64 r3.st.how) := b12.out.cell 7
  have z8 : w12.cell? ⟨w11.heap.size, 8, none⟩ = some (.int .i64 r3.st.n) := b12.out.cell 8
  have z9 : w12.cell? ⟨w11.heap.size, 9, none⟩ = some (.int .i64 r3.st.wk) := b12.out.cell 9
  have z10 : w12.cell? ⟨w11.heap.size, 10, none⟩ = some (.int .i64 r3.st.wd) := b12.out.cell 10
  clear R1 R2 R3 B12 D12 b12
  go_wp2_with fail
  all_goals go_ret
  all_goals exact ⟨ret_b (by simp), U12.out⟩

set_option maxHeartbeats 1000000 in
set_option maxRecDepth 100000 in
theorem walk (a0 : Int) (a1 : Int) (a2 : Int) (w0 : (Lit.int .i64 a0).wf = true) (w1 : (Lit.int .i64 a1).wf = true) (w2 : (Lit.int .i64 a2).wf = true) (w : World) (T : Tabs w) :
    Calls Tryd.prog 8 #[.int .i64 a0, .int .i64 a1, .int .i64 a2] w fun e w' => e = .returned (.bool true) ∧ Up w w' := by
  obtain ⟨a, ha, a1', a2'⟩ := cut_k a0
  obtain ⟨b, hb, b1', b2'⟩ := cut_k a1
  obtain ⟨c, hc, c1', c2'⟩ := cut_k a2
  by_cases q1 : a < 1
  · exact arm1 a0 a1 a2 a b c ha a1' a2' hb b1' b2' hc c1' c2' w T q1
  by_cases q2 : 365 < a
  · exact arm2 a0 a1 a2 a b c ha a1' a2' hb b1' b2' hc c1' c2' w T q2
  by_cases q3 : 12 < a
  · exact arm3 a0 a1 a2 a b c ha a1' a2' hb b1' b2' hc c1' c2' w T ⟨q3, by omega⟩
  by_cases q4 : b < 1
  · exact arm4 a0 a1 a2 a b c ha a1' a2' hb b1' b2' hc c1' c2' w T ⟨by omega, by omega, q4⟩
  by_cases q5 : 5 < b
  · exact arm5 a0 a1 a2 a b c ha a1' a2' hb b1' b2' hc c1' c2' w T ⟨by omega, by omega, by omega, q5⟩
  by_cases q6 : 6 < c
  · exact arm6 a0 a1 a2 a b c ha a1' a2' hb b1' b2' hc c1' c2' w T ⟨by omega, by omega, by omega, by omega, q6⟩
  exact armT a0 a1 a2 a b c ha a1' a2' hb b1' b2' hc c1' c2' w T ⟨by omega, by omega, by omega, by omega, by omega⟩

theorem readable : ∀ t ∈ Tryd.f8.params.toList, Tryd.prog.readableRec t = true ∧ t < Tryd.prog.types.size := by
  rw [Tryd.params8]
  intro t ht
  have hall : ([3, 3, 3].all fun u => Tryd.prog.readableRec u && decide (u < Tryd.prog.types.size)) = true := by kernel_rfl
  have := List.all_eq_true.1 hall t (by simpa using ht)
  simpa using this

set_option maxRecDepth 100000 in
theorem lifted (os : Os) (started : os.Started) (H : Type) (enc : TypeId × Value → H) :
    ReturnsInHanded {} Tryd.checked os 8 .any (fun w args => (Rows.posixBoundsSpec.pre enc Tryd.prog Tryd.f8 [] false w args ∧ laidMetH Tryd.prog laidE w) ∧ sizedMet enc Tryd.prog Tryd.f8 (OpenSpec.ofChange Rows.posixBoundsSpec) false w args) (Rows.posixBoundsSpec.post enc Tryd.prog Tryd.f8 false true false false) := by
  refine returnsInHanded_of_change_and (C := Tryd.checked) (X := fun w _ => laidMetH Tryd.prog laidE w) (fun _ _ _ hh h => h.of_heap hh) own started (by kernel_rfl) Tryd.func8
    (ChangeSpec.witness_shaped (enc := enc) (C := Tryd.checked) (os := os) (X := fun w _ => laidMetH Tryd.prog laidE w) false (World.doorLaid Tryd.prog 400 os) #[.int .i64 0, .int .i64 0, .int .i64 0] 8 rfl (World.shaped_of_RefB (by kernel_rfl) (by kernel_rfl)) (by kernel_rfl) (by kernel_rfl) (by kernel_rfl) (door_metE os _)) ?_
  intro W base args ds gs before hval0 hW _ _ hL _
  have hval : ∀ (j : Nat) t v, Tryd.f8.params[j]? = some t → args[j]? = some v → Value.okWide Tryd.prog W .any base t v := hval0
  have hW' := hW
  obtain ⟨p, q, hA0, hV, rfl, hfz, hnd⟩ := hW
  have hA : DataW.TrodAll enc Tryd.prog W 0 (fun _ => true) true Tryd.f8.params.toList args.toList ds p := hA0
  rw [Tryd.params8] at hA hval
  obtain ⟨v0, vs0, d0, ds0, p0, q0, hargs, rfl, rfl, h0, r0⟩ := trodAll_cons hA
  obtain ⟨v1, vs1, d1, ds1, p1, q1, rfl, rfl, rfl, h1, r1⟩ := trodAll_cons r0
  obtain ⟨v2, vs2, d2, ds2, p2, q2, rfl, rfl, rfl, h2, r2⟩ := trodAll_cons r1
  obtain ⟨rfl, rfl, rfl⟩ := trodAll_nil r2
  obtain rfl : args = #[v0, v1, v2] := by cases args; simp_all
  obtain ⟨rfl, rfl⟩ := trodVars_none hV
  obtain ⟨a0, rfl, rfl, rfl, w0⟩ := open_int Tryd.underlying3 (hval 0 3 v0 rfl rfl) h0
  obtain ⟨a1, rfl, rfl, rfl, w1⟩ := open_int Tryd.underlying3 (hval 1 3 v1 rfl rfl) h1
  obtain ⟨a2, rfl, rfl, rfl, w2⟩ := open_int Tryd.underlying3 (hval 2 3 v2 rfl rfl) h2
  clear hA0 hval0
  refine (walk a0 a1 a2 w0 w1 w2 W (tabs_of_laid hL)).mono fun e W' ⟨he, hg⟩ => ?_
  subst he
  exact ⟨_, rfl, post_up laidOut readable rfl hW' (fun _ _ _ => (trodAll_cons_mk (shut_bool Tryd.underlying4 _) trodAll_mk0)) rfl rfl
    hg (ok_one (by kernel_rfl) rfl (okWide_bool_mk Tryd.underlying4 _))⟩

theorem over : Rows.posixBoundsRow.holds Tryd.pinned (OpenSpec.ofChange Rows.posixBoundsSpec) :=
  OpenClaim.holds_of_wide 8 Tryd.f8 rfl rfl rfl rfl rfl rfl rfl ⟨rfl, rfl, rfl, rfl, rfl⟩ rfl rfl rfl rfl rfl (by kernel_rfl) Tryd.func8 (by kernel_rfl)
    (of_decide_eq_true (by kernel_rfl)) (by unfold Func.isWrapper; first | (rw [if_pos (by decide +kernel)]; kernel_rfl) | (rw [if_neg (by decide +kernel)]; exact ⟨rfl, rfl⟩))
    (fun os started H enc _ => lifted os started H enc)

set_option maxRecDepth 100000 in
theorem proved : Rows.PosixBoundsCardSaid :=
  Claim7.holds_tied_plain_at .later [] [.data, .data, .data] true _ true
    over (fun _ h => by cases h) (by kernel_rfl) (fun _ h => by cases h) posixBounds_row_tie rfl ⟨rfl, rfl⟩ (by kernel_rfl) rfl
    (fun f fn hf hfn => by
      obtain rfl : f = 8 := Option.some.inj ((show Tryd.prog.funcNamed "longcase/longcaselaw08.PosixBounds" = some 8 by kernel_rfl).symm.trans hf) |>.symm
      obtain rfl : fn = Tryd.f8 := (Option.some.inj (Tryd.func8.symm.trans hfn)).symm
      exact ⟨by kernel_rfl, fun j t ht => by
        rw [Tryd.params8] at ht
        have hm : t ∈ [3, 3, 3] := by simpa using Array.mem_of_getElem? ht
        have hall : ([3, 3, 3].all fun u => !Tryd.prog.wantsStandIn u) = true := by kernel_rfl
        exact (show Tryd.prog.wantsStandIn t = false by simpa using List.all_eq_true.1 hall t hm)⟩)
    (by kernel_rfl)
end Go.Proofs.YtalpbbgkallohaaDoor.posixBounds
