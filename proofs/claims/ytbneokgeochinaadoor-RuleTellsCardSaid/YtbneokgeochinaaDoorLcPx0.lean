/-
  Rules as texts, plain, of no program: what is right, what is told, how a text is read.
-/
import Derived.Lib.ItoaNum
namespace Go.Proofs.YtbneokgeochinaaDoor
open Go

/-! ### Signs -/
def isL (c : UInt8) : Bool := (decide (97 ≤ c) && decide (c ≤ 122)) || (decide (65 ≤ c) && decide (c ≤ 90))
def isDg (c : UInt8) : Bool := decide (48 ≤ c) && decide (c ≤ 57)
def okS (c : UInt8) : Bool := isL c || isDg c || c == 43 || c == 45
/-- A number's digits. -/
def dec (n : Int) : List UInt8 := Lib.decDigits n.toNat
/-- What digits tell. -/
def val (d : List UInt8) : Int := d.foldl (fun n c => n * 10 + ((c.toNat : Int) - 48)) 0

/-! ### Rules -/
structure Kd where
  off : Int
  dst : Bool
  name : List UInt8
deriving DecidableEq
structure Ch where
  how : Int
  n : Int
  wk : Int
  wd : Int
  tm : Int
deriving DecidableEq
structure Ru where
  std : Kd
  dst : Kd
  both : Bool
  st : Ch
  en : Ch
deriving DecidableEq
def kd0 : Kd := ⟨0, false, []⟩
def ch0 : Ch := ⟨0, 0, 0, 0, 0⟩
def ru0 : Ru := ⟨kd0, kd0, false, ch0, ch0⟩

def inB (n a b : Int) : Bool := decide (a ≤ n) && decide (n ≤ b)
def nameB (l : List UInt8) : Bool := decide (3 ≤ l.length) && decide (l.length ≤ 20) && l.all okS
def kindB (k : Kd) (d : Bool) : Bool := (k.dst == d) && nameB k.name && inB k.off (-89999) 89999
def dayB (c : Ch) : Bool :=
  if c.how = 1 then (c.wk == 0 && c.wd == 0) && inB c.n 1 365
  else if c.how = 2 then (c.wk == 0 && c.wd == 0) && inB c.n 0 365
  else if c.how = 3 then inB c.n 1 12 && inB c.wk 1 5 && inB c.wd 0 6
  else false
def timeB (t : Int) (wide : Bool) : Bool := if wide then inB t (-604799) 604799 else inB t 0 89999
def changeB (c : Ch) (wide : Bool) : Bool := dayB c && timeB c.tm wide
def rightB (r : Ru) (wide : Bool) : Bool :=
  kindB r.std false && (if r.both then kindB r.dst true && changeB r.st wide && changeB r.en wide else r.dst == kd0 && r.st == ch0 && r.en == ch0)

/-! ### What is told -/
def pairT (n : Int) : List UInt8 := 58 :: ((if n < 10 then [48] else []) ++ dec n)
def clockU (n : Int) : List UInt8 := dec (n / 3600) ++ ((if n % 3600 = 0 then [] else pairT (n % 3600 / 60)) ++ (if n % 60 = 0 then [] else pairT (n % 60)))
def clockT (n : Int) : List UInt8 := if n < 0 then 45 :: clockU (-n) else clockU n
def nameT (l : List UInt8) : List UInt8 := if l.all isL then l else 60 :: (l ++ [62])
def dayT (c : Ch) : List UInt8 :=
  if c.how = 1 then 74 :: dec c.n
  else if c.how = 3 then 77 :: (dec c.n ++ 46 :: (dec c.wk ++ 46 :: dec c.wd))
  else dec c.n
def timeT (t : Int) : List UInt8 := if t = 7200 then [] else 47 :: clockT t
def changeT (c : Ch) : List UInt8 := dayT c ++ timeT c.tm
def restT (r : Ru) : List UInt8 :=
  nameT r.dst.name ++ ((if r.dst.off = r.std.off + 3600 then [] else clockT (-r.dst.off)) ++ (44 :: (changeT r.st ++ 44 :: changeT r.en)))
def ruleT (r : Ru) : List UInt8 := nameT r.std.name ++ (clockT (-r.std.off) ++ (if r.both then restT r else []))

/-! ### How it is read -/
/-- As many digits as there are. -/
def dgs (l : List UInt8) : List UInt8 := l.takeWhile isDg
def numP (most : Nat) (l : List UInt8) : Option (Int × List UInt8) :=
  if dgs l = [] ∨ most < (dgs l).length then none else some (val (dgs l), l.drop (dgs l).length)
def takeP (c : UInt8) (l : List UInt8) : Option (List UInt8) :=
  match l with
  | [] => none
  | x :: t => if x = c then some t else none
def pairP (l : List UInt8) : Option (Int × List UInt8) :=
  match numP 2 l with
  | none => none
  | some (n, t) => if l.length - t.length = 2 ∧ n ≤ 59 then some (n, t) else none
def clockP (dg : Nat) (l : List UInt8) : Option (Int × List UInt8) :=
  match numP dg l with
  | none => none
  | some (h, t) =>
    match takeP 58 t with
    | none => some (h * 3600, t)
    | some t1 =>
      match pairP t1 with
      | none => none
      | some (m, t2) =>
        match takeP 58 t2 with
        | none => some (h * 3600 + m * 60, t2)
        | some t3 =>
          match pairP t3 with
          | none => none
          | some (s, t4) => some (h * 3600 + m * 60 + s, t4)
def signedP (dg : Nat) (l : List UInt8) : Option (Int × List UInt8) :=
  match takeP 45 l with
  | some t =>
    match clockP dg t with
    | none => none
    | some (x, t1) => some (-x, t1)
  | none =>
    match takeP 43 l with
    | some t => clockP dg t
    | none => clockP dg l
def offP (l : List UInt8) : Option (Int × List UInt8) :=
  match signedP 2 l with
  | none => none
  | some (x, t) => some (-x, t)
def timeP (wide : Bool) (l : List UInt8) : Option (Int × List UInt8) := if wide then signedP 3 l else clockP 2 l
/-- A day, and what is behind. -/
def dayP (l : List UInt8) : Option ((Int × Int × Int × Int) × List UInt8) :=
  match takeP 74 l with
  | some t =>
    match numP 3 t with
    | none => none
    | some (n, t1) => some ((1, n, 0, 0), t1)
  | none =>
    match takeP 77 l with
    | some t =>
      match numP 3 t with
      | none => none
      | some (n, t1) =>
        match takeP 46 t1 with
        | none => none
        | some t2 =>
          match numP 3 t2 with
          | none => none
          | some (k, t3) =>
            match takeP 46 t3 with
            | none => none
            | some t4 =>
              match numP 3 t4 with
              | none => none
              | some (d, t5) => some ((3, n, k, d), t5)
    | none =>
      match numP 3 l with
      | none => none
      | some (n, t1) => some ((2, n, 0, 0), t1)
def changeP (wide : Bool) (l : List UInt8) : Option (Ch × List UInt8) :=
  match dayP l with
  | none => none
  | some ((h, n, k, d), t) =>
    match takeP 47 t with
    | none => some (⟨h, n, k, d, 7200⟩, t)
    | some t1 =>
      match timeP wide t1 with
      | none => none
      | some (x, t2) => some (⟨h, n, k, d, x⟩, t2)
/-- The letters ahead. -/
def ltr (l : List UInt8) : List UInt8 := l.takeWhile isL
/-- What stands ahead of the next '>'. -/
def upTo (l : List UInt8) : List UInt8 := l.takeWhile (fun c => c != 62)
def nameP (l : List UInt8) : Option (List UInt8 × List UInt8) :=
  match takeP 60 l with
  | some t => if (upTo t).length = t.length then none else some (upTo t, t.drop ((upTo t).length + 1))
  | none => some (ltr l, l.drop (ltr l).length)
/-- Two changes, each behind a comma. -/
def endsP (wide : Bool) (l : List UInt8) : Option ((Ch × Ch) × List UInt8) :=
  match takeP 44 l with
  | none => none
  | some t1 =>
    match changeP wide t1 with
    | none => none
    | some (a, t2) =>
      match takeP 44 t2 with
      | none => none
      | some t3 =>
        match changeP wide t3 with
        | none => none
        | some (b, t4) => some ((a, b), t4)
/-- An offset, unless there is a comma. -/
def offP' (usual : Int) (l : List UInt8) : Option (Int × List UInt8) :=
  match takeP 44 l with
  | some _ => some (usual, l)
  | none => offP l
def ruleP (wide : Bool) (l : List UInt8) : Option (Ru × List UInt8) :=
  match nameP l with
  | none => none
  | some (m, t) =>
    match offP t with
    | none => none
    | some (o, t1) =>
      if t1 = [] then some (⟨⟨o, false, m⟩, kd0, false, ch0, ch0⟩, [])
      else
        match nameP t1 with
        | none => none
        | some (m2, t2) =>
          match offP' (o + 3600) t2 with
          | none => none
          | some (o2, t3) =>
            match endsP wide t3 with
            | none => none
            | some ((a, b), t4) => some (⟨⟨o, false, m⟩, ⟨o2, true, m2⟩, true, a, b⟩, t4)
def wholeP (wide : Bool) (l : List UInt8) : Option Ru :=
  match ruleP wide l with
  | none => none
  | some (r, t) => if t = [] ∧ rightB r wide = true then some r else none
def parR (wide : Bool) (l : List UInt8) : Ru := (wholeP wide l).getD ru0
def parE (wide : Bool) (l : List UInt8) : Int := if (wholeP wide l).isSome then 0 else 4
end Go.Proofs.YtbneokgeochinaaDoor
