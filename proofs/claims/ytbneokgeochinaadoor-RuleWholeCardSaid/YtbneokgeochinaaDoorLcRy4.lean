/-
  From a year's first turn on, up to half a year, the last turn of four years tells what is in force: plain, of no program (layer 9).
-/
import Derived.Test.YtbneokgeochinaaDoorLcRy3
namespace Go.Proofs.YtbneokgeochinaaDoor
open Go Lc

set_option maxHeartbeats 8000000 in
theorem whole_yes {r : Ru} {y Y t L : Int} (hr : rightB r true = true) (hb : r.both = true) (b1 : -2147480000 ≤ y) (b2 : y ≤ 2147480000)
    (hY1 : ny Y * 86400 ≤ t) (hY2 : t < ny (Y + 1) * 86400) (t1 : tnS r y ≤ t ∨ tnE r y ≤ t) (t2 : t ≤ tnS r y + 16777215) (t3 : t ≤ tnE r y + 16777215)
    (hL : L ≤ t) (s0 : tnS r (y - 1) ≤ t → tnS r (y - 1) ≤ L) (e0 : tnE r (y - 1) ≤ t → tnE r (y - 1) ≤ L) (s1 : tnS r (y) ≤ t → tnS r (y) ≤ L) (e1 : tnE r (y) ≤ t → tnE r (y) ≤ L) (s2 : tnS r (y + 1) ≤ t → tnS r (y + 1) ≤ L) (e2 : tnE r (y + 1) ≤ t → tnE r (y + 1) ≤ L) (s3 : tnS r (y + 2) ≤ t → tnS r (y + 2) ≤ L) (e3 : tnE r (y + 2) ≤ t → tnE r (y + 2) ≤ L) (hit : tnS r (y - 1) = L ∨ tnS r (y) = L ∨ tnS r (y + 1) = L ∨ tnS r (y + 2) = L) : inDst r t Y = true := by
  have N := tn_near (n := y) hr hb
  have M0 := tn_near (n := y - 1) hr hb
  have M2 := tn_near (n := y + 1) hr hb
  have ns1 := ny_succ (y - 1)
  have ns2 := ny_succ y
  have ns3 := ny_succ (y + 1)
  have ll1 := lp_01 (y - 1)
  have ll2 := lp_01 y
  have ll3 := lp_01 (y + 1)
  rw [show y - 1 + 1 = y by omega] at ns1
  rw [show y + 1 + 1 = y + 2 by omega] at ns3
  have p0 := tn_step (y - 2) hr hb
  have p1 := tn_step (y - 1) hr hb
  have p2 := tn_step y hr hb
  have p3 := tn_step (y + 1) hr hb
  rw [show y - 2 + 1 = y - 1 by omega] at p0
  rw [show y - 1 + 1 = y by omega] at p1
  rw [show y + 1 + 1 = y + 2 by omega] at p3
  have yy : Y = y - 1 ∨ Y = y ∨ Y = y + 1 := by
    rcases Int.lt_or_le Y (y - 1) with c | c
    · exfalso
      have g2 : ny (Y + 1) ≤ ny (y - 1) := ny_le (by omega)
      omega
    · rcases Int.lt_or_le (y + 1) Y with c' | c'
      · exfalso
        have g2 : ny (y + 2) ≤ ny Y := ny_le (by omega)
        omega
      · omega
  rcases yy with rfl | rfl | rfl
  · obtain ⟨z, hz, iv, _⟩ := inDst_spec (t := t) (y := y - 1) (okT_of hr hb (by omega) (by omega)) (okT_of hr hb (by omega) (by omega)) (okT_of hr hb (by omega) (by omega))
    rw [hz]
    have c := in_three iv
    rw [show y - 1 - 1 = y - 2 by omega, show y - 1 + 1 = y by omega] at c
    rw [show y - 1 + 1 = y by omega] at hY2
    refine ends_yes ?_
    rcases c with ⟨_, c⟩ | ⟨d, L', hL'⟩ | ⟨d, L', hL'⟩
    · exfalso; omega
    · exact .inl d
    · exfalso; omega
  · obtain ⟨z, hz, iv, _⟩ := inDst_spec (t := t) (y := Y) (okT_of hr hb (by omega) (by omega)) (okT_of hr hb (by omega) (by omega)) (okT_of hr hb (by omega) (by omega))
    rw [hz]
    have c := in_three iv
    refine ends_yes ?_
    rcases c with ⟨_, c⟩ | ⟨d, L', hL'⟩ | ⟨d, L', hL'⟩
    · exfalso; omega
    · exact .inl d
    · exfalso; omega
  · obtain ⟨z, hz, iv, _⟩ := inDst_spec (t := t) (y := y + 1) (okT_of hr hb (by omega) (by omega)) (okT_of hr hb (by omega) (by omega)) (okT_of hr hb (by omega) (by omega))
    rw [hz]
    have c := in_three iv
    rw [show y + 1 - 1 = y by omega, show y + 1 + 1 = y + 2 by omega] at c
    rw [show y + 1 + 1 = y + 2 by omega] at hY2
    refine ends_yes ?_
    rcases c with ⟨_, c⟩ | ⟨d, L', hL'⟩ | ⟨d, L', hL'⟩
    · exfalso; omega
    · exact .inl d
    · exfalso; omega
set_option maxHeartbeats 8000000 in
theorem whole_no {r : Ru} {y Y t L : Int} (hr : rightB r true = true) (hb : r.both = true) (b1 : -2147480000 ≤ y) (b2 : y ≤ 2147480000)
    (hY1 : ny Y * 86400 ≤ t) (hY2 : t < ny (Y + 1) * 86400) (t1 : tnS r y ≤ t ∨ tnE r y ≤ t) (t2 : t ≤ tnS r y + 16777215) (t3 : t ≤ tnE r y + 16777215)
    (hL : L ≤ t) (s0 : tnS r (y - 1) ≤ t → tnS r (y - 1) < L) (e0 : tnE r (y - 1) ≤ t → tnE r (y - 1) ≤ L) (s1 : tnS r (y) ≤ t → tnS r (y) < L) (e1 : tnE r (y) ≤ t → tnE r (y) ≤ L) (s2 : tnS r (y + 1) ≤ t → tnS r (y + 1) < L) (e2 : tnE r (y + 1) ≤ t → tnE r (y + 1) ≤ L) (s3 : tnS r (y + 2) ≤ t → tnS r (y + 2) < L) (e3 : tnE r (y + 2) ≤ t → tnE r (y + 2) ≤ L) (hit : tnE r (y - 1) = L ∨ tnE r (y) = L ∨ tnE r (y + 1) = L ∨ tnE r (y + 2) = L) : inDst r t Y = false := by
  have N := tn_near (n := y) hr hb
  have M0 := tn_near (n := y - 1) hr hb
  have M2 := tn_near (n := y + 1) hr hb
  have ns1 := ny_succ (y - 1)
  have ns2 := ny_succ y
  have ns3 := ny_succ (y + 1)
  have ll1 := lp_01 (y - 1)
  have ll2 := lp_01 y
  have ll3 := lp_01 (y + 1)
  rw [show y - 1 + 1 = y by omega] at ns1
  rw [show y + 1 + 1 = y + 2 by omega] at ns3
  have p0 := tn_step (y - 2) hr hb
  have p1 := tn_step (y - 1) hr hb
  have p2 := tn_step y hr hb
  have p3 := tn_step (y + 1) hr hb
  rw [show y - 2 + 1 = y - 1 by omega] at p0
  rw [show y - 1 + 1 = y by omega] at p1
  rw [show y + 1 + 1 = y + 2 by omega] at p3
  have yy : Y = y - 1 ∨ Y = y ∨ Y = y + 1 := by
    rcases Int.lt_or_le Y (y - 1) with c | c
    · exfalso
      have g2 : ny (Y + 1) ≤ ny (y - 1) := ny_le (by omega)
      omega
    · rcases Int.lt_or_le (y + 1) Y with c' | c'
      · exfalso
        have g2 : ny (y + 2) ≤ ny Y := ny_le (by omega)
        omega
      · omega
  rcases yy with rfl | rfl | rfl
  · obtain ⟨z, hz, iv, _⟩ := inDst_spec (t := t) (y := y - 1) (okT_of hr hb (by omega) (by omega)) (okT_of hr hb (by omega) (by omega)) (okT_of hr hb (by omega) (by omega))
    rw [hz]
    have c := in_three iv
    rw [show y - 1 - 1 = y - 2 by omega, show y - 1 + 1 = y by omega] at c
    rw [show y - 1 + 1 = y by omega] at hY2
    refine ends_no ?_
    rcases c with ⟨_, c⟩ | ⟨d, L', hL'⟩ | ⟨d, L', hL'⟩
    · exfalso; omega
    · exfalso; omega
    · exact .inl d
  · obtain ⟨z, hz, iv, _⟩ := inDst_spec (t := t) (y := Y) (okT_of hr hb (by omega) (by omega)) (okT_of hr hb (by omega) (by omega)) (okT_of hr hb (by omega) (by omega))
    rw [hz]
    have c := in_three iv
    refine ends_no ?_
    rcases c with ⟨_, c⟩ | ⟨d, L', hL'⟩ | ⟨d, L', hL'⟩
    · exfalso; omega
    · exfalso; omega
    · exact .inl d
  · obtain ⟨z, hz, iv, _⟩ := inDst_spec (t := t) (y := y + 1) (okT_of hr hb (by omega) (by omega)) (okT_of hr hb (by omega) (by omega)) (okT_of hr hb (by omega) (by omega))
    rw [hz]
    have c := in_three iv
    rw [show y + 1 - 1 = y by omega, show y + 1 + 1 = y + 2 by omega] at c
    rw [show y + 1 + 1 = y + 2 by omega] at hY2
    refine ends_no ?_
    rcases c with ⟨_, c⟩ | ⟨d, L', hL'⟩ | ⟨d, L', hL'⟩
    · exfalso; omega
    · exfalso; omega
    · exact .inl d
end Go.Proofs.YtbneokgeochinaaDoor
