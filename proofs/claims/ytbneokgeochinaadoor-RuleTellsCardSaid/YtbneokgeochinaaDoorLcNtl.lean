/-
  Rows of int64 that a call makes; two of them apart.
-/
import Derived.Test.YtbneokgeochinaaDoorLcUp
import Derived.Maps.AppendAt
import Derived.Deep.AppendLies
import Derived.OwnWalk
namespace Go.Proofs.YtbneokgeochinaaDoor
open Go.ChangeShapes Go.WideShapes Go.ChangeAt Go.RowKit Lc

/-- Numbers, as cells. -/
def xc (l : List Int) : List Value := l.map fun x => Value.int .i64 x
theorem xc_len (l : List Int) : (xc l).length = l.length := by simp [xc]
theorem xc_append (l m : List Int) : xc (l ++ m) = xc l ++ xc m := by simp [xc]
theorem xc_get {l : List Int} {i : Nat} (h : i < l.length) : (xc l)[i]? = some (.int .i64 (l.getD i 0)) := by simp [xc, h]

/-- The value v is a row of the numbers l that the call made. -/
def Ox (w : World) (base : Nat) (v : Value) (l : List Int) : Prop := w.ownsRow base 2 1 v l.length (xc l)
theorem Ox.up {w w' : World} {base : Nat} {v : Value} {l : List Int} (h : Ox w base v l) (u : Up w w') : Ox w' base v l :=
  World.ownsRow.kept (row := none) h ⟨u.os, u.tape, u.output, u.size, fun k hk _ => u.block k hk⟩ (by
    rcases hb : v.ownBlock with _ | k
    · exact .inl rfl
    · exact .inr (by simp))
theorem Ox.nil (w : World) (base : Nat) : Ox w base (.slice none 0 0) [] := World.ownsRow_nil _ _ _ _
theorem Ox.block {w : World} {base : Nat} {v : Value} {l : List Int} (h : Ox w base v l) : ∀ k, v.ownBlock = some k → base ≤ k := fun k hk => (World.ownsRow.lt h k hk).1
theorem Ox.lt {w : World} {base : Nat} {v : Value} {l : List Int} (h : Ox w base v l) : ∀ k, v.ownBlock = some k → k < w.heap.size := fun k hk => (World.ownsRow.lt h k hk).2
/-- Where the row lies, and what it holds. -/
theorem Ox.form {w : World} {base : Nat} {v : Value} {l : List Int} (h : Ox w base v l) : ∃ A c, v = .slice A l.length c ∧ (0 < l.length → ∃ b, A = some ⟨b, 0, none⟩ ∧ ∀ i, i < l.length → w.cell? ⟨b, i, none⟩ = some (.int .i64 (l.getD i 0))) := by
  rcases h.2 with ⟨rfl, hn⟩ | ⟨g, cap, cur, rfl, hb, hh, h1, h2, _⟩
  · refine ⟨none, 0, by rw [hn], fun h0 => by omega⟩
  · refine ⟨some ⟨g, 0, none⟩, cap, rfl, fun _ => ⟨g, rfl, fun i hi => ?_⟩⟩
    have := h.cells (g := g) rfl i _ (xc_get hi)
    have ea : (⟨g, 0, none⟩ : Addr).add i = ⟨g, 0 + i, none⟩ := by unfold Addr.add; split <;> simp_all
    rw [ea, Nat.zero_add] at this; exact this

theorem i64Info : (Tryd.prog.info? 2).map (fun i => (i.zero, i.size, i.bytes)) = some (some (.int .i64 0), 1, 8) := by kernel_rfl
/-- 'append(v, x)' of one number. -/
theorem wpList_append_i64 (w : World) {ops : Array Oper} {rest : List Oper} {o : Oper} {a : Act} {Q : Exit → Act → World → Prop} (hgd : o.guard = none) (s x : Operand)
    (ho : o.op = .call { callee := .builtin .append, args := #[s, x], argTypes := #[79, 79] })
    (base : Nat) (v : Value) (l : List Int) (hs : a.eval s = v) (h : Ox w base v l) (b : Nat) (n : Int) (hx : a.eval x = .slice (some ⟨b, 0, none⟩) 1 1) (hr : w.cell? ⟨b, 0, none⟩ = some (.int .i64 n))
    (hsz : l.length ≤ 1000000) (hb : base ≤ w.heap.size)
    (k : ∀ v' w', Ox w' base v' (l ++ [n]) → w.grownBy w' v.ownBlock → (v'.ownBlock = v.ownBlock ∨ v'.ownBlock = some w.heap.size) → wpList Tryd.prog ops Q rest (a.put o.dst v') w') : wpList Tryd.prog ops Q (o :: rest) a w := by
  refine wpList_plain hgd fun K hK => ?_
  obtain ⟨i0, hi, hz0, hz1, hz2⟩ := info_parts i64Info
  obtain ⟨v', w', hrun, h2, h3, _, h5⟩ := run_append_own_at (P := Tryd.prog) w base 79 o.type 2 i0 (.int .i64 0) 1 8 Tryd.underlying79 hi hz0 hz1 hz2 rfl (by decide) v l.length (xc l) h ⟨b, 0, none⟩ 1 1 [.int .i64 n] rfl (fun j u hj => by
    have : j = 0 := by have := (List.getElem?_eq_some_iff.1 hj).1; simp at this; exact this
    subst this
    have ea : (⟨b, 0, none⟩ : Addr).add 0 = ⟨b, 0, none⟩ := by unfold Addr.add; split <;> simp_all
    rw [ea, hr]; simpa using hj) (by intro u hu; simp at hu; subst hu; rfl) (by unfold maxLen; omega) (by omega) hb
  unfold Oper.wp execOp
  simp only [ho, resolve, invoke, builtin, Sem.run_bind, Sem.run_pure, Result.andThen_ok, List.map_toArray, List.map_cons, List.map_nil, hs, hx, hrun]
  refine hK _ _ (k v' w' ?_ h3 h5)
  unfold Ox; rw [xc_append, List.length_append]; exact h2
/-- Behind an append: what was there is as it was, but for the row itself. -/
theorem Up.grownx {w0 w w' : World} (u : Up w0 w) {v : Value} (h : w.grownBy w' v.ownBlock) (hb : ∀ k, v.ownBlock = some k → w0.heap.size ≤ k) : Up w0 w' :=
  Below.grown u h u.size hb
/-- Two rows are two. -/
def Ap (s e : Value) : Prop := ∀ k, s.ownBlock = some k → e.ownBlock ≠ some k
theorem Ap.sym {s e : Value} (h : Ap s e) : Ap e s := fun k hk hs => h k hs hk
theorem Ap.row {s e : Value} (h : Ap s e) : e.ownBlock = none ∨ e.ownBlock ≠ s.ownBlock := by
  cases hb : e.ownBlock with
  | none => exact .inl rfl
  | some k => exact .inr (fun c => h k c.symm hb)
theorem Ap.next {s s' e : Value} {n : Nat} (h : Ap s e) (he : ∀ k, e.ownBlock = some k → k < n) (hs : s'.ownBlock = s.ownBlock ∨ s'.ownBlock = some n) : Ap s' e := fun k hk hke => by
  rcases hs with c | c
  · exact h k (c ▸ hk) hke
  · rw [c] at hk; injection hk with hk; have := he k hke; omega
end Go.Proofs.YtbneokgeochinaaDoor
