/-
  The row's last step where a call made new memory and left all that came in as it was, whatever came in; a slice of bytes handed in, opened.
-/
import Derived.Test.YtaljddoenjgbfaaGreatLcMa
import Derived.Carry
import Derived.WideKeyArgs
import Derived.ChangeSlices
import Derived.ChangeMaps5
import Derived.Lib.ConvBytes
import Derived.Shelf.LaysM
import Derived.Shelf.Strings.Repeat
import Derived.Test.YtaljddoenjgbfaaGreatLcMh
import Derived.Test.YtaljddoenjgbfaaGreatLcMb
import Derived.Lib.QuietBelow
namespace Go.Proofs.YtaljddoenjgbfaaGreat
open Go.ChangeShapes Go.WideShapes Go.ChangeAt Go.RowKit Lc

set_option maxRecDepth 100000 in
theorem laidOut : laidOutB Tryz.prog = true := by kernel_rfl
section
variable {H : Type} {enc : TypeId × Value → H}
set_option maxRecDepth 100000 in
/-- What came in reads as it did. -/
theorem trodAll_stays {P : Program} (hl : laidOutB P = true) {W W' : World} (hb : Up W W') {sp : Nat → Bool} : ∀ (ts : List TypeId) (vs : List Value) (ds : List (DataW H)) (ps : List MemPlace), (∀ t ∈ ts, P.readableRec t = true ∧ t < P.types.size) →
    DataW.TrodAll enc P W 0 (fun _ => true) true ts vs ds ps → (∀ p ∈ ps, p.block < W.heap.size) → (∀ p ∈ ps, sp p.block = true) → DataW.TrodAll enc P W' 0 sp true ts vs ds ps
  | [], vs, ds, ps, _, h, _, _ => by
    cases vs <;> cases ds <;> simp [DataW.TrodAll] at h ⊢
    exact h
  | t :: ts, vs, ds, ps, hr, h, hlt, hs => by
    obtain ⟨v, vs', d, ds', p, q, rfl, rfl, rfl, h1, h2⟩ := trodAll_cons h
    have ht := hr t (List.mem_cons_self ..)
    exact trodAll_cons_mk (WideElems.Trod_stays hl ht.1 ht.2 h1 (fun x hx => Below.same hb (hlt x (List.mem_append_left _ hx))) (fun x hx => hs x (List.mem_append_left _ hx)))
      (trodAll_stays hl hb ts vs' ds' q (fun t ht => hr t (List.mem_cons_of_mem _ ht)) h2 (fun x hx => hlt x (List.mem_append_right _ hx)) (fun x hx => hs x (List.mem_append_right _ hx)))

set_option maxRecDepth 100000 in
/-- The row's last step. -/
theorem post_up {P : Program} {f : Func} {s : ChangeSpec} {apart fresh handsOn again : Bool} {W W' : World} {args : Array Value} {v : Value} {ds gs : List (DataW H)} {before : List MemPlace}
    (hl : laidOutB P = true) (hr : ∀ t ∈ f.params.toList, P.readableRec t = true ∧ t < P.types.size) (hn : s.vars = [])
    (hW : DataW.Whole enc P f.params.toList s.vars apart W args.toList ds gs before)
    (hres : ∀ (b : Nat) (sp : Nat → Bool) (hd : Bool), DataW.TrodAll enc P W' b sp hd f.resultTypes.toList (v.resultList f.resultTypes.size) (s.fn H (ds ++ gs)).results [])
    (ha : (s.fn H (ds ++ gs)).args = ds) (hv : (s.fn H (ds ++ gs)).vars = gs)
    (hb : Up W W')
    (hok : ∀ (j : Nat) (t : TypeId) (r : Value), f.resultTypes[j]? = some t → (v.resultList f.resultTypes.size)[j]? = some r → Value.okWide P W' .any 0 t r) :
    s.post enc P f apart fresh handsOn again W args v W' := by
  have hlt : ∀ p ∈ before, p.block < W.heap.size := fun p hp => hW.lt p hp
  have hW' := hW
  obtain ⟨pa, pv, hA, hV, hps, hz, hd⟩ := hW'
  rw [hn] at hV
  have hV' : ∀ sp : Nat → Bool, DataW.TrodVars enc P W' sp s.vars gs pv := fun sp => by
    rw [hn]
    cases gs <;> simp [DataW.TrodVars] at hV ⊢
    exact hV
  have hA' : ∀ sp : Nat → Bool, (∀ p ∈ before, sp p.block = true) → DataW.TrodAll enc P W' 0 sp true f.params.toList args.toList ds pa := fun sp hs =>
    trodAll_stays hl hb _ _ _ _ hr hA (fun p hp => hlt p (by rw [hps]; exact List.mem_append_left _ hp)) (fun p hp => hs p (by rw [hps]; exact List.mem_append_left _ hp))
  have hold : ∀ p ∈ before, (fun b => decide (b < W.heap.size)) p.block = true := fun p hp => by simpa using hlt p hp
  refine ⟨ds, gs, before, [], pa, pv, hW, hres _ _ _, by rw [ha]; exact hA' _ hold, by rw [hv]; exact hV' _, World.keptBut_mono (fun p hp => ⟨hp, ?_⟩) (Below.frame hb (· ∈ before)), fun _ => ?_⟩
  · rw [hps, List.mem_append] at hp
    exact Or.inr hp
  · refine ⟨hok, _, _, ([] ++ pa) ++ pv, ⟨[] ++ pa, pv, trodAll_append (hA' _ (fun _ _ => rfl)) (hres _ _ _), hV' _, rfl, ?_, ?_⟩, ?_⟩
    · intro b off hp
      have hin : MemPlace.cell b off ∈ before := by rw [hps]; simpa using hp
      rw [Below.frozen hb (hlt _ hin)]
      exact hz b off hin
    · intro ha
      have := hd ha
      rw [hps] at this
      simpa using this
    · intro p hp _
      rw [hps]
      simpa using hp

set_option maxRecDepth 100000 in
/-- A slice of bytes handed in. -/
theorem open_bytes {w : World} {r : Reach} {b0 : Nat} {v : Value} {d : DataW H} {p : List MemPlace} (hv : Value.okWide Tryz.prog w r b0 32 v) (h : DataW.Trod enc Tryz.prog w 0 (fun _ => true) true 32 v d p) :
    ∃ (A : Option Addr) (l : List UInt8) (c : Nat), v = .slice A l.length c ∧ l.length ≤ c ∧ c ≤ maxLen ∧ Rd w A l := by
  obtain ⟨a0, n, c, rfl⟩ := okWide_slice Tryz.underlying32 hv
  obtain ⟨fuel, hf⟩ := h
  rcases open_ints Tryz.underlying32 Tryz.underlying5 (by kernel_rfl) hf with ⟨hcs, _⟩ | ⟨a, len, cap, zs, hcs, _, hl, hm, hz, _, hcell, hwz⟩
  · simp [Value.cells] at hcs
    obtain ⟨rfl, rfl, rfl⟩ := hcs
    exact ⟨none, [], 0, rfl, Nat.le_refl _, Nat.zero_le _, Rd.nil _ _⟩
  · simp [Value.cells] at hcs
    obtain ⟨rfl, rfl, rfl⟩ := hcs
    simp only [if_true] at hz
    have hlen : ((zs.take n).map fun z => UInt8.ofNat z.toNat).length = n := by simp; omega
    refine ⟨some a, (zs.take n).map fun z => UInt8.ofNat z.toNat, c, by rw [hlen], by rw [hlen]; exact hl, hm, fun h0 => ?_⟩
    rw [hlen] at h0 ⊢
    obtain ⟨b, o, s⟩ := a
    obtain rfl : s = none := by simpa [Addr.add] using World.cell?_spot (hcell 0 (by omega))
    refine ⟨b, o, rfl, fun i hi => ?_⟩
    rw [← Go.WideShapes.add_plain, hcell i (by omega)]
    have hin : zs.getD i 0 ∈ zs := by
      rw [List.getD_eq_getElem?_getD, List.getElem?_eq_getElem (show i < zs.length by omega)]; exact List.getElem_mem _
    have hb := hwz _ hin
    have h1 : IntKind.u8.min = 0 := rfl
    have h2 : IntKind.u8.max = 255 := rfl
    simp only [Lit.wf, Bool.and_eq_true, decide_eq_true_eq] at hb
    have e : ((zs.take n).map fun z => UInt8.ofNat z.toNat).getD i 0 = UInt8.ofNat (zs.getD i 0).toNat := by
      simp [List.getD, List.getElem?_take_of_lt hi, List.getElem?_eq_getElem (show i < zs.length by omega)]
    rw [e]
    congr 2
    generalize zs.getD i 0 = z at hb
    have : z.toNat < 256 := by omega
    simp [Nat.mod_eq_of_lt this]
    omega
end
end Go.Proofs.YtaljddoenjgbfaaGreat
/-
  A row of bytes that may be written; a text turned into such a row.
-/
namespace Go.Proofs.YtaljddoenjgbfaaGreat
open Go.ChangeShapes Go.WideShapes Go.ChangeAt Go.RowKit Lc

/-- Block g begins with the bytes l, and they may be written. -/
def Bk (w : World) (g : Nat) (l : List UInt8) : Prop := ∀ j, j < l.length → w.cell? ⟨g, j, none⟩ = some (.int .u8 (l.getD j 0).toNat) ∧ w.frozen? ⟨g, j, none⟩ = false
set_option maxRecDepth 100000 in
theorem Bk.rd {w : World} {g : Nat} {l : List UInt8} (h : Bk w g l) : Rd w (some ⟨g, 0, none⟩) l := fun _ => ⟨g, 0, rfl, fun i hi => by rw [Nat.zero_add]; exact (h i hi).1⟩
set_option maxRecDepth 100000 in
theorem Bk.set {w : World} {g : Nat} {l : List UInt8} (h : Bk w g l) {i : Nat} (hi : i < l.length) (x : UInt8) : Bk (w.setCell ⟨g, i, none⟩ (.int .u8 x.toNat)) g (l.set i x) := fun j hj => by
  rw [List.length_set] at hj
  refine ⟨?_, by rw [World.frozen?_setCell]; exact (h j hj).2⟩
  by_cases e : j = i
  · subst e
    rw [World.cell?_setCell_same _ _ _ (h j hj).1]
    simp [hj]
  · rw [World.cell?_setCell_other _ _ _ _ (fun c => e (by injection c with _ c; exact c.symm)), (h j hj).1]
    simp [Ne.symm e]
set_option maxRecDepth 100000 in
theorem Ow.bk {w : World} {base : Nat} {v : Value} {l : List UInt8} (h : Ow w base v l) (h0 : 0 < l.length) : ∃ g c, v = .slice (some ⟨g, 0, none⟩) l.length c ∧ base ≤ g ∧ g < w.heap.size ∧ l.length ≤ c ∧ c ≤ maxLen ∧ Bk w g l := by
  have h' : w.ownsRow base 5 1 v l.length (bc l) := h
  rcases h'.2 with ⟨rfl, hn⟩ | ⟨g, cap, cur, rfl, hb, hh, h1, h2, _⟩
  · omega
  · refine ⟨g, cap, rfl, hb, (World.ownsRow.lt h' g rfl).2, h1, h2, fun i hi => ⟨?_, ?_⟩⟩
    · have := h'.cells (g := g) rfl i _ (bc_get hi)
      have ea : (⟨g, 0, none⟩ : Addr).add i = ⟨g, 0 + i, none⟩ := by unfold Addr.add; split <;> simp_all
      rw [ea, Nat.zero_add] at this; exact this
    · simp [World.frozen?, hh]
set_option maxRecDepth 100000 in
theorem Bk.up {w w' : World} {g : Nat} {l : List UInt8} (h : Bk w g l) (u : Up w w') : Bk w' g l := fun j hj => by
  have lt := cell_lt (h j hj).1
  exact ⟨u.cell (h j hj).1, by rw [World.frozen?_of_block (Below.block u _ lt)]; exact (h j hj).2⟩
set_option maxRecDepth 100000 in
theorem Bk.bytes (w : World) (s : ByteArray) : Bk (Lib.bytesWorld w 5 s) w.heap.size s.data.toList := fun j hj => by
  have hj' : j < s.size := by rwa [Array.length_toList] at hj
  refine ⟨by rw [Lib.bytesWorld_cell _ _ _ _ hj'], ?_⟩
  have hc : j < (Lib.bytesCells w 5 s).size := by
    unfold Lib.bytesCells
    rw [Array.size_append, Array.size_map]
    have : s.data.size = s.size := rfl
    omega
  have h := Lib.bytesWorld_at_new w 5 s
  generalize (Lib.bytesCells w 5 s).size = n at h hc
  simp only [World.frozen?, h]
  simp
  omega
set_option maxRecDepth 100000 in
theorem Up.bytes (w : World) (s : ByteArray) : Up w (Lib.bytesWorld w 5 s) :=
  ⟨rfl, rfl, rfl, by rw [Lib.bytesWorld_size]; omega, fun k hk => Lib.bytesWorld_at_old w _ s k hk⟩
set_option maxRecDepth 100000 in
theorem of_string (w : World) (s : ByteArray) : (convert 9 32 (.string s)).run Tryz.prog w = .ok (.slice (some ⟨w.heap.size, 0, none⟩) s.size (grownCap w s.size 0 5)) (Lib.bytesWorld w 5 s) :=
  Lib.run_convert_string_bytes w _ _ _ s Tryz.underlying9 Tryz.underlying32 Tryz.underlying5
end Go.Proofs.YtaljddoenjgbfaaGreat
/-
  The library's Repeat at this program: what it answers (the shelf's contract, laid).
-/
namespace Go.Proofs.YtaljddoenjgbfaaGreat
open Go.Shelf Go.RowKit Lc
def laysR_ren : Go.Shelf.Ren := ⟨fun | 105 => 66 | 212 => 76 | 99 => 77 | 165 => 78 | 166 => 79 | 170 => 80 | 169 => 81 | 263 => 93 | 264 => 94 | 206 => 95 | 240 => 96 | 241 => 97 | 276 => 110 | 277 => 111 | n => n, fun | 9 => 9 | 3 => 3 | 4 => 4 | 20 => 20 | 0 => 0 | 46 => 125 | 109 => 135 | 5 => 5 | 72 => 139 | 76 => 143 | 51 => 158 | 146 => 159 | 53 => 100 | 148 => 161 | 70 => 137 | 37 => 32 | 75 => 142 | 127 => 163 | 164 => 174 | 80 => 146 | n => n, fun | n => n⟩
set_option maxRecDepth 100000 in
theorem laysR : Go.Proofs.Lays.n105 Tryz.prog laysR_ren := {
  mixed := by kernel_rfl
  f99 := Tryz.func77.trans (congrArg some (by kernel_rfl))
  f105 := Tryz.func66.trans (congrArg some (by kernel_rfl))
  f165 := Tryz.func78.trans (congrArg some (by kernel_rfl))
  f166 := Tryz.func79.trans (congrArg some (by kernel_rfl))
  f169 := Tryz.func81.trans (congrArg some (by kernel_rfl))
  f170 := Tryz.func80.trans (congrArg some (by kernel_rfl))
  f206 := Tryz.func95.trans (congrArg some (by kernel_rfl))
  f212 := Tryz.func76.trans (congrArg some (by kernel_rfl))
  f240 := Tryz.func96.trans (congrArg some (by kernel_rfl))
  f241 := Tryz.func97.trans (congrArg some (by kernel_rfl))
  f263 := Tryz.func93.trans (congrArg some (by kernel_rfl))
  f264 := Tryz.func94.trans (congrArg some (by kernel_rfl))
  f276 := Tryz.func110.trans (congrArg some (by kernel_rfl))
  f277 := Tryz.func111.trans (congrArg some (by kernel_rfl))
  t0 := Tryz.underlying0
  a0 := Tryz.isAgg0
  z0 := Tryz.sizeOf0
  v0 := Tryz.zeroValue0
  t3 := Tryz.underlying3
  a3 := Tryz.isAgg3
  z3 := Tryz.sizeOf3
  v3 := Tryz.zeroValue3
  t4 := Tryz.underlying4
  a4 := Tryz.isAgg4
  z4 := Tryz.sizeOf4
  v4 := Tryz.zeroValue4
  t5 := Tryz.underlying5
  a5 := Tryz.isAgg5
  z5 := Tryz.sizeOf5
  v5 := Tryz.zeroValue5
  t9 := Tryz.underlying9
  a9 := Tryz.isAgg9
  z9 := Tryz.sizeOf9
  v9 := Tryz.zeroValue9
  t20 := Tryz.underlying20
  a20 := Tryz.isAgg20
  z20 := Tryz.sizeOf20
  v20 := Tryz.zeroValue20
  t37 := Tryz.underlying32
  a37 := Tryz.isAgg32
  z37 := Tryz.sizeOf32
  v37 := Tryz.zeroValue32
  t46 := Tryz.underlying125
  a46 := Tryz.isAgg125
  z46 := Tryz.sizeOf125
  v46 := Tryz.zeroValue125
  t51 := Tryz.underlying158
  a51 := Tryz.isAgg158
  z51 := Tryz.sizeOf158
  v51 := Tryz.zeroValue158
  t53 := Tryz.underlying100
  a53 := Tryz.isAgg100
  z53 := Tryz.sizeOf100
  v53 := Tryz.zeroValue100
  t70 := Tryz.underlying137
  a70 := Tryz.isAgg137
  z70 := Tryz.sizeOf137
  v70 := Tryz.zeroValue137
  t72 := Tryz.underlying139
  a72 := Tryz.isAgg139
  z72 := Tryz.sizeOf139
  v72 := Tryz.zeroValue139
  t75 := Tryz.underlying142
  a75 := Tryz.isAgg142
  z75 := Tryz.sizeOf142
  v75 := Tryz.zeroValue142
  t76 := Tryz.underlying143
  a76 := Tryz.isAgg143
  z76 := Tryz.sizeOf143
  v76 := Tryz.zeroValue143
  t109 := Tryz.underlying135
  a109 := Tryz.isAgg135
  z109 := Tryz.sizeOf135
  v109 := Tryz.zeroValue135
  t127 := Tryz.underlying163
  a127 := Tryz.isAgg163
  z127 := Tryz.sizeOf163
  v127 := Tryz.zeroValue163
  t146 := Tryz.underlying159
  a146 := Tryz.isAgg159
  z146 := Tryz.sizeOf159
  v146 := Tryz.zeroValue159
  t148 := Tryz.underlying161
  a148 := Tryz.isAgg161
  z148 := Tryz.sizeOf161
  v148 := Tryz.zeroValue161
  t164 := Tryz.underlying174
  a164 := Tryz.isAgg174
  z164 := Tryz.sizeOf174
  v164 := Tryz.zeroValue174 }
set_option maxRecDepth 100000 in
theorem extraR : Builder.Extra Tryz.prog laysR_ren := {
  sizeBuilder := by kernel_rfl
  liesBuilder := by kernel_rfl
  t5 := Tryz.underlying5
  a5 := Tryz.isAgg5
  z5 := Tryz.sizeOf5
  v5 := Tryz.zeroValue5
  infoByte := by kernel_rfl
  cellsByte := by kernel_rfl
  sizeByte := by kernel_rfl
  neB5 := by decide }

set_option maxRecDepth 100000 in
theorem repeat_0 (s : ByteArray) (w : World) : Calls Tryz.prog 66 #[.string s, .int .i64 0] w fun e w' => e = .returned (.string ⟨#[]⟩) ∧ w = w' := by
  refine (Any.strings_Repeat_zero laysR s w).mono ?_
  rintro e w' ⟨rfl, rfl⟩
  exact ⟨rfl, rfl⟩
set_option maxRecDepth 100000 in
theorem repeat_1 (s : ByteArray) (w : World) : Calls Tryz.prog 66 #[.string s, .int .i64 1] w fun e w' => e = .returned (.string s) ∧ w = w' := by
  refine (Any.strings_Repeat_one laysR s w).mono ?_
  rintro e w' ⟨rfl, rfl⟩
  exact ⟨rfl, rfl⟩
set_option maxRecDepth 100000 in
theorem repeat_any (s : ByteArray) (c : Nat) (w : World) (hc : c ≤ 9223372036854775807) (h : s.size * c ≤ 140737488355328) : Calls Tryz.prog 66 #[.string s, .int .i64 c] w fun e w' => e = .returned (.string ⟨(Lib.repeatL s.data.toList c).toArray⟩) ∧ Up w w' :=
  Any.strings_Repeat laysR extraR s c w hc h
end Go.Proofs.YtaljddoenjgbfaaGreat
/-
  The program's header: Encode, in plain words.
-/
namespace Go.Proofs.YtaljddoenjgbfaaGreat
open Go.ChangeShapes Go.WideShapes Go.ChangeAt Go.RowKit Go.Sort Lc

set_option maxRecDepth 100000 in
set_option maxHeartbeats 400000 in
theorem encode_no (v u s l t y c : Int) (w : World) (r : rightH v u s l t y c = false) : Calls Tryz.prog 44 #[hv v u s l t y c] w fun e w' => e = .returned (.tuple #[.slice none 0 0, .int .i64 1]) ∧ Up w w' := by
  have R := fun w => hright_any v u s l t y c w
  rw [r] at R; clear r
  go_enter Tryz.func44, Tryz.ntmps44
  go_wp2_with fail
  refine (R _).mono ?_; rintro e w1 ⟨rfl, u1⟩
  go_wp2_with fail
  go_ret2
  exact ⟨rfl, (Up.alloc _ _).trans u1⟩

/-- The six numbers as bytes. -/
def numB : List Int → List UInt8
  | [] => []
  | n :: r => beB 4 n.toNat ++ numB r
/-- The first twenty bytes. -/
def frontB (v : Int) : List UInt8 := [84, 90, 105, 102, markB v, 0, 0, 0, 0, 0, 0, 0, 0, 0, 0, 0, 0, 0, 0, 0]
/-- A header's bytes. -/
def encB (v u s l t y c : Int) : List UInt8 := frontB v ++ numB [u, s, l, t, y, c]
set_option maxRecDepth 100000 in
theorem numB_append (a b : List Int) : numB (a ++ b) = numB a ++ numB b := by
  induction a with
  | nil => rfl
  | cons x a ih => show beB 4 x.toNat ++ numB (a ++ b) = _; rw [ih, ← List.append_assoc]; rfl
set_option maxRecDepth 100000 in
theorem numB_len (a : List Int) : (numB a).length = 4 * a.length := by
  induction a with
  | nil => rfl
  | cons x a ih => show (beB 4 x.toNat ++ numB a).length = _; rw [List.length_append, beB_len, ih, List.length_cons]; omega
set_option maxRecDepth 100000 in
theorem encB_len (v u s l t y c : Int) : (encB v u s l t y c).length = 44 := by
  unfold encB; rw [List.length_append, numB_len]; rfl

set_option maxRecDepth 100000 in
theorem rep15 (w : World) : Calls Tryz.prog 66 #[.string ⟨#[0]⟩, .int .i64 15] w fun e w' => e = .returned (.string ⟨#[0, 0, 0, 0, 0, 0, 0, 0, 0, 0, 0, 0, 0, 0, 0]⟩) ∧ Up w w' := by
  have C := repeat_any ⟨#[0]⟩ 15 w (by decide) (by decide)
  exact C

set_option maxRecDepth 100000 in
/-- Put by four bytes, of a number of a right header. -/
theorem putN (A : Option Addr) (L : List UInt8) (p c : Nat) (n : Int) (w : World) (hp : L.length = p) (hL : p ≤ 44) (n0 : 0 ≤ n) (hr : Rd w A L) :
    Calls Tryz.prog 67 #[.slice A p c, .int .i64 4, .int .u64 n] w fun e w' => ∃ v', e = .returned v' ∧ Ow w' w.heap.size v' (L ++ beB 4 n.toNat) ∧ Up w w' := by
  subst hp
  exact put_any A L c 4 n w (by omega) (by decide) n0 hr
set_option maxRecDepth 100000 in
theorem numB_take (x0 x1 x2 x3 x4 x5 : Int) (k : Nat) (hk : k < 6) : numB ([x0, x1, x2, x3, x4, x5].take (k + 1)) = numB ([x0, x1, x2, x3, x4, x5].take k) ++ beB 4 ([x0, x1, x2, x3, x4, x5].getD k 0).toNat := by
  rw [List.take_succ_eq_append_getElem (by simpa using hk), numB_append]
  congr 1
  show beB 4 _ ++ [] = _
  rw [List.append_nil]
  simp [List.getD, hk]
/-- The row behind k numbers. -/
def rowN (v u s l t y c : Int) (k : Nat) : List UInt8 := frontB v ++ numB ([u, s, l, t, y, c].take k)
set_option maxRecDepth 100000 in
theorem rowN_len (v u s l t y c : Int) (k : Nat) (h : k ≤ 6) : (rowN v u s l t y c k).length = 20 + 4 * k := by
  unfold rowN; rw [List.length_append, numB_len, List.length_take]
  show 20 + 4 * min k 6 = _
  omega
set_option maxRecDepth 100000 in
theorem rowN_0 (v u s l t y c : Int) : rowN v u s l t y c 0 = frontB v := by
  unfold rowN; rw [List.take_zero]; exact List.append_nil _
set_option maxRecDepth 100000 in
theorem rowN_6 (v u s l t y c : Int) : rowN v u s l t y c 6 = encB v u s l t y c := rfl
set_option maxRecDepth 100000 in
theorem rowN_succ (v u s l t y c : Int) (k : Nat) (hk : k < 6) : rowN v u s l t y c k ++ beB 4 ([u, s, l, t, y, c].getD k 0).toNat = rowN v u s l t y c (k + 1) := by
  unfold rowN; rw [numB_take _ _ _ _ _ _ k hk, List.append_assoc]

/-- The state of the row: so many bytes, from A on; the call's own, once a number is put. -/
def St (w wr : World) (L : List UInt8) (k : Nat) (x : Value) : Prop := ∃ A c, x = .slice A L.length c ∧ Rd wr A L ∧ (0 < k → Ow wr w.heap.size x L)

set_option maxRecDepth 100000 in
set_option maxHeartbeats 2000000 in
theorem encode_yes (v u s l t y c : Int) (w : World) (r : rightH v u s l t y c = true) : Calls Tryz.prog 44 #[hv v u s l t y c] w fun e w' => ∃ a, e = .returned (.tuple #[a, .int .i64 0]) ∧ Ow w' w.heap.size a (encB v u s l t y c) ∧ Up w w' := by
  have R := fun w => hright_any v u s l t y c w
  have b := rightH_true.1 r
  have M := fun w => hmark_any v w b.1 b.2.1
  have OS := of_string
  rw [r] at R; clear r
  obtain ⟨mb, hmb⟩ : ∃ m, m = markB v := ⟨_, rfl⟩
  rw [← hmb] at M
  have FR : Hid (frontB v = [84, 90, 105, 102, mb, 0, 0, 0, 0, 0, 0, 0, 0, 0, 0, 0, 0, 0, 0, 0]) := by rw [hmb]; rfl
  clear hmb
  go_enter Tryz.func44, Tryz.ntmps44
  go_wp2_with fail
  have x0 := Lib.hid (HBox.new w v u s l t y c 90)
  refine (R _).mono ?_; rintro e w1 ⟨rfl, u1⟩
  have U1 := Lib.hid ((Up.alloc w (.cells #[.int .i64 v, .int .i64 u, .int .i64 s, .int .i64 l, .int .i64 t, .int .i64 y, .int .i64 c] 90)).trans u1)
  have X1 := Lib.hid (HBox.up x0.out u1)
  clear u1 x0
  obtain ⟨c0, c1, c2, c3, c4, c5, c6⟩ := X1.out
  go_wp2_with fail
  refine (M _).mono ?_; rintro e w' ⟨rfl, rfl⟩
  clear c0 c1 c2 c3 c4 c5 c6
  go_wp2_with fail
  refine (rep15 _).mono ?_; rintro e w2 ⟨rfl, u2⟩
  have U2 := Lib.hid (U1.out.trans u2)
  have X2 := Lib.hid (HBox.up X1.out u2)
  clear u2 U1 X1
  obtain ⟨W, hW⟩ : ∃ W, W = Lib.bytesWorld w2 5 (({ data := #[84, 90, 105, 102] } : ByteArray) ++ { data := #[mb] } ++ { data := #[0, 0, 0, 0, 0, 0, 0, 0, 0, 0, 0, 0, 0, 0, 0] }) := ⟨_, rfl⟩
  have X3 : HBox W w.heap.size v u s l t y c := by rw [hW]; exact X2.out.up (Up.bytes _ _)
  have U3 : Hid (Up w W) := by rw [hW]; exact U2.out.trans (Up.bytes _ _)
  have R3 : Hid (Rd W (some ⟨w2.heap.size, 0, none⟩) (frontB v)) := by
    rw [hW, FR.out]; exact (Bk.bytes w2 _).rd
  obtain ⟨c0, c1, c2, c3, c4, c5, c6⟩ := X3
  rw [hW] at c0 c1 c2 c3 c4 c5 c6
  go_wp2_with fail
  clear c0 c1 c2 c3 c4 c5 c6 OS M R
  rw [← hW]
  clear hW
  generalize grownCap w2 20 0 5 = cap
  obtain ⟨L, hL⟩ : ∃ L : Nat → List UInt8, L = rowN v u s l t y c := ⟨_, rfl⟩
  have LL : Hid (∀ k, k ≤ 6 → (L k).length = 20 + 4 * k) := by rw [hL]; exact rowN_len v u s l t y c
  have LS : Hid (∀ k, k < 6 → L k ++ beB 4 ([u, s, l, t, y, c].getD k 0).toNat = L (k + 1)) := by rw [hL]; exact rowN_succ v u s l t y c
  have L6 : Hid (L 6 = encB v u s l t y c) := by rw [hL]; rfl
  have R3 : Hid (Rd W (some ⟨w2.heap.size, 0, none⟩) (L 0)) := by rw [hL, rowN_0]; exact R3.out
  clear hL FR
  have PP : Hid (∀ k, k < 6 → ∀ (n : Int) (A : Option Addr) (p cp : Nat) (wr : World), (20 + 4 * k = p) → n = [u, s, l, t, y, c].getD k 0 → 0 ≤ n → Rd wr A (L k) → Calls Tryz.prog 67 #[.slice A p cp, .int .i64 4, .int .u64 n] wr fun e w' => ∃ v', e = .returned v' ∧ Ow w' wr.heap.size v' (L (k + 1)) ∧ Up wr w') := by
    intro k hk n A p cp wr hp hn h0 hr
    have := putN A (L k) p cp n wr (by rw [LL.out k (by omega)]; exact hp) (by omega) h0 hr
    rw [hn, LS.out k hk] at this
    rw [hn]; exact this
  have i0 : ∀ w : World, (Instr.index 123 (.agg #[.int .i64 u, .int .i64 s, .int .i64 l, .int .i64 t, .int .i64 y, .int .i64 c]) (.int .i64 0)).run Tryz.prog w = .ok (.int .i64 u) w := fun _ => by kernel_rfl
  have i1 : ∀ w : World, (Instr.index 123 (.agg #[.int .i64 u, .int .i64 s, .int .i64 l, .int .i64 t, .int .i64 y, .int .i64 c]) (.int .i64 1)).run Tryz.prog w = .ok (.int .i64 s) w := fun _ => by kernel_rfl
  have i2 : ∀ w : World, (Instr.index 123 (.agg #[.int .i64 u, .int .i64 s, .int .i64 l, .int .i64 t, .int .i64 y, .int .i64 c]) (.int .i64 2)).run Tryz.prog w = .ok (.int .i64 l) w := fun _ => by kernel_rfl
  have i3 : ∀ w : World, (Instr.index 123 (.agg #[.int .i64 u, .int .i64 s, .int .i64 l, .int .i64 t, .int .i64 y, .int .i64 c]) (.int .i64 3)).run Tryz.prog w = .ok (.int .i64 t) w := fun _ => by kernel_rfl
  have i4 : ∀ w : World, (Instr.index 123 (.agg #[.int .i64 u, .int .i64 s, .int .i64 l, .int .i64 t, .int .i64 y, .int .i64 c]) (.int .i64 4)).run Tryz.prog w = .ok (.int .i64 y) w := fun _ => by kernel_rfl
  have i5 : ∀ w : World, (Instr.index 123 (.agg #[.int .i64 u, .int .i64 s, .int .i64 l, .int .i64 t, .int .i64 y, .int .i64 c]) (.int .i64 5)).run Tryz.prog w = .ok (.int .i64 c) w := fun _ => by kernel_rfl
  have hu0 : 0 ≤ u ∧ u ≤ 256 := by omega
  have hs0 : 0 ≤ s ∧ s ≤ 256 := by omega
  obtain ⟨_, _, y0, y1, d0, d1, t0, t1, l0, l1, _, _⟩ := b
  obtain ⟨u0, u1⟩ := hu0; obtain ⟨s0, s1⟩ := hs0
  go_loopw [4, 30] (fun x i wr => ∃ k : Nat, k ≤ 6 ∧ i = .int .i64 k ∧ Hid (St w wr (L k) k x) ∧ Hid (Up w wr)) (fun _ i _ => (7 - intOf i).toNat)
  case atStart => exact ⟨0, by omega, rfl, ⟨_, _, by rw [LL.out 0 (by omega)], R3.out, fun h => absurd h (by omega)⟩, U3⟩
  case round =>
    obtain ⟨k, hk, rfl, ⟨A, cp, rfl, hr, hO⟩, U⟩ := hrel
    have HR := Lib.hid hr; have HO := Lib.hid hO
    clear hr hO R3 U3
    rw [LL.out k hk]
    have k7 : k = 0 ∨ k = 1 ∨ k = 2 ∨ k = 3 ∨ k = 4 ∨ k = 5 ∨ k = 6 := by omega
    rcases k7 with rfl | rfl | rfl | rfl | rfl | rfl | rfl
    · go_wp2_with fail
      refine (PP.out 0 (by omega) u _ 20 _ _ rfl rfl (by omega) HR.out).mono ?_; rintro e w4 ⟨v', rfl, ho, hu⟩
      go_wp2_with fail
      go_roundw
      case rel =>
        refine ⟨1, by omega, by go_num, ?_, U.out.trans hu⟩
        have ho := ho.base U.out.size
        obtain ⟨A', c', rfl, _, _, hr, _⟩ := ho.form
        exact ⟨A', c', rfl, hr, fun _ => ho⟩
      case measure => simp [intOf]
    · go_wp2_with fail
      refine (PP.out 1 (by omega) s _ 24 _ _ rfl rfl (by omega) HR.out).mono ?_; rintro e w4 ⟨v', rfl, ho, hu⟩
      go_wp2_with fail
      go_roundw
      case rel =>
        refine ⟨2, by omega, by go_num, ?_, U.out.trans hu⟩
        have ho := ho.base U.out.size
        obtain ⟨A', c', rfl, _, _, hr, _⟩ := ho.form
        exact ⟨A', c', rfl, hr, fun _ => ho⟩
      case measure => simp [intOf]
    · go_wp2_with fail
      refine (PP.out 2 (by omega) l _ 28 _ _ rfl rfl (by omega) HR.out).mono ?_; rintro e w4 ⟨v', rfl, ho, hu⟩
      go_wp2_with fail
      go_roundw
      case rel =>
        refine ⟨3, by omega, by go_num, ?_, U.out.trans hu⟩
        have ho := ho.base U.out.size
        obtain ⟨A', c', rfl, _, _, hr, _⟩ := ho.form
        exact ⟨A', c', rfl, hr, fun _ => ho⟩
      case measure => simp [intOf]
    · go_wp2_with fail
      refine (PP.out 3 (by omega) t _ 32 _ _ rfl rfl (by omega) HR.out).mono ?_; rintro e w4 ⟨v', rfl, ho, hu⟩
      go_wp2_with fail
      go_roundw
      case rel =>
        refine ⟨4, by omega, by go_num, ?_, U.out.trans hu⟩
        have ho := ho.base U.out.size
        obtain ⟨A', c', rfl, _, _, hr, _⟩ := ho.form
        exact ⟨A', c', rfl, hr, fun _ => ho⟩
      case measure => simp [intOf]
    · go_wp2_with fail
      refine (PP.out 4 (by omega) y _ 36 _ _ rfl rfl (by omega) HR.out).mono ?_; rintro e w4 ⟨v', rfl, ho, hu⟩
      go_wp2_with fail
      go_roundw
      case rel =>
        refine ⟨5, by omega, by go_num, ?_, U.out.trans hu⟩
        have ho := ho.base U.out.size
        obtain ⟨A', c', rfl, _, _, hr, _⟩ := ho.form
        exact ⟨A', c', rfl, hr, fun _ => ho⟩
      case measure => simp [intOf]
    · go_wp2_with fail
      refine (PP.out 5 (by omega) c _ 40 _ _ rfl rfl (by omega) HR.out).mono ?_; rintro e w4 ⟨v', rfl, ho, hu⟩
      go_wp2_with fail
      go_roundw
      case rel =>
        refine ⟨6, by omega, by go_num, ?_, U.out.trans hu⟩
        have ho := ho.base U.out.size
        obtain ⟨A', c', rfl, _, _, hr, _⟩ := ho.form
        exact ⟨A', c', rfl, hr, fun _ => ho⟩
      case measure => simp [intOf]
    · go_wp2_with fail
      go_ret2
      have ho := HO.out (by omega)
      rw [LL.out 6 (by omega), L6.out] at ho
      exact ⟨_, rfl, ho, U.out⟩
end Go.Proofs.YtaljddoenjgbfaaGreat
/-
  What was told is read: a header's bytes, whatever stands in the fifteen, and behind. Plain.
-/
namespace Go.Proofs.YtaljddoenjgbfaaGreat
open Go.ChangeShapes Go.WideShapes Go.ChangeAt Go.RowKit Lc

set_option maxRecDepth 100000 in
theorem numB_at : ∀ (L : List Int) (q : List UInt8) (k : Nat), k < L.length → ((numB L ++ q).drop (4 * k)).take 4 = beB 4 (L.getD k 0).toNat
  | [], _, k, h => absurd h (by simp)
  | x :: L, q, 0, _ => by
    show (beB 4 x.toNat ++ numB L ++ q).take 4 = _
    rw [List.append_assoc, List.take_append_of_le_length (by rw [beB_len]; omega), List.take_of_length_le (by rw [beB_len]; omega)]
    rfl
  | x :: L, q, k + 1, h => by
    have e : (beB 4 x.toNat ++ numB L ++ q).drop (4 * (k + 1)) = (numB L ++ q).drop (4 * k) := by
      rw [List.append_assoc, show 4 * (k + 1) = (beB 4 x.toNat).length + 4 * k by rw [beB_len]; omega, ← List.drop_drop, List.drop_left]
    show ((beB 4 x.toNat ++ numB L ++ q).drop (4 * (k + 1))).take 4 = _
    rw [e, numB_at L q k (by simpa using h)]
    rfl
/-- Bytes that begin with a right header's. -/
def IsB (x : List UInt8) (v u s l t y c : Int) : Prop := ∃ p q : List UInt8, p.length = 15 ∧ x = tz ++ (markB v :: p) ++ (numB [u, s, l, t, y, c] ++ q)
set_option maxRecDepth 100000 in
theorem isB_drop {x : List UInt8} {v u s l t y c : Int} (h : IsB x v u s l t y c) : ∃ q, x.drop 20 = numB [u, s, l, t, y, c] ++ q := by
  obtain ⟨p, q, hp, rfl⟩ := h
  refine ⟨q, ?_⟩
  rw [show 20 = (tz ++ (markB v :: p)).length by simp [tz, hp], List.drop_left]
set_option maxRecDepth 100000 in
theorem isB_cnt {x : List UInt8} {v u s l t y c : Int} (h : IsB x v u s l t y c) (k : Nat) (hk : k < 6) (h0 : 0 ≤ [u, s, l, t, y, c].getD k 0) (h1 : [u, s, l, t, y, c].getD k 0 < 4294967296) : cntI x k = [u, s, l, t, y, c].getD k 0 := by
  obtain ⟨q, e⟩ := isB_drop h
  unfold cntI
  rw [← List.drop_drop, e, numB_at _ q k (by simpa using hk), beN_beB]
  generalize [u, s, l, t, y, c].getD k 0 = n at *
  have : n.toNat < 4294967296 := by omega
  rw [show (256 : Nat) ^ 4 = 4294967296 from rfl, Nat.mod_eq_of_lt this]
  omega
set_option maxRecDepth 100000 in
theorem isB_len {x : List UInt8} {v u s l t y c : Int} (h : IsB x v u s l t y c) : 44 ≤ x.length := by
  obtain ⟨p, q, hp, rfl⟩ := h
  have : (numB [u, s, l, t, y, c]).length = 24 := numB_len _
  rw [List.length_append, List.length_append, List.length_append, List.length_cons, hp, this]
  show 44 ≤ 4 + (15 + 1) + (24 + q.length)
  omega
set_option maxRecDepth 100000 in
theorem isB_read {x : List UInt8} {v u s l t y c : Int} (h : IsB x v u s l t y c) (r : rightH v u s l t y c = true) : isH x = true ∧ errH x = 0 ∧ decH x = hv v u s l t y c := by
  have b := rightH_true.1 r
  have hlen := isB_len h
  have c0 : cntI x 0 = u := isB_cnt h 0 (by omega) (by show 0 ≤ u; omega) (by show u < _; omega)
  have c1 : cntI x 1 = s := isB_cnt h 1 (by omega) (by show 0 ≤ s; omega) (by show s < _; omega)
  have c2 : cntI x 2 = l := isB_cnt h 2 (by omega) (by show 0 ≤ l; omega) (by show l < _; omega)
  have c3 : cntI x 3 = t := isB_cnt h 3 (by omega) (by show 0 ≤ t; omega) (by show t < _; omega)
  have c4 : cntI x 4 = y := isB_cnt h 4 (by omega) (by show 0 ≤ y; omega) (by show y < _; omega)
  have c5 : cntI x 5 = c := isB_cnt h 5 (by omega) (by show 0 ≤ c; omega) (by show c < _; omega)
  have hv4 : versI (x.getD 4 0) = v := by
    obtain ⟨p, q, hp, rfl⟩ := h
    exact versI_mark b.1 b.2.1
  have ht : x.take 4 = tz := by
    obtain ⟨p, q, hp, rfl⟩ := h
    rfl
  have hraw : rawB x = true := by unfold rawB; rw [hv4, c0, c1, c2, c3, c4, c5]; exact r
  have hi : isH x = true := by rw [isH_raw hlen ht]; exact hraw
  refine ⟨hi, ?_, ?_⟩
  · unfold errH; rw [if_neg (by omega), hi]; rfl
  · unfold decH; rw [hi, hv4, c0, c1, c2, c3, c4, c5]; rfl
set_option maxRecDepth 100000 in
theorem isB_enc (v u s l t y c : Int) (q : List UInt8) : IsB (encB v u s l t y c ++ q) v u s l t y c :=
  ⟨List.replicate 15 0, q, rfl, by unfold encB; rw [List.append_assoc]; rfl⟩
end Go.Proofs.YtaljddoenjgbfaaGreat
