/-
  What a slave does, by the document (chapter 8), over plain data; two ends and two wires between them, as layer 8's laws have them. Nothing of the program is named here.
-/
import Derived.Test.YtdcnmbglbopgdaaMasMath
namespace Go.Proofs.Ytdcnmbglbopgdaa
set_option linter.unusedVariables false
set_option linter.unusedSimpArgs false

/-- A slave: address, session, bit of what it tells, bit of which command is next, what is pending (none: no bytes). -/
structure Sl where
  addr : Nat
  ses : Nat
  tell : Nat
  nx : Nat
  pend : List UInt8
structure Sl.Ok (s : Sl) : Prop where
  addr : s.addr < 256
  ses : s.ses < 256
  tell : s.tell ≤ 1
  nx : s.nx ≤ 1
  pend : s.pend.length ≤ 24
def newS (a : Nat) : Sl := ⟨a, 0, 0, 0, []⟩
def offerS (s : Sl) (b : List UInt8) : Sl × Int :=
  if b.length = 0 ∨ 24 < b.length then (s, 1) else if s.pend.length ≠ 0 then (s, 5) else ({ s with pend := b }, 0)
def noFrS : Fr := ⟨0, 0, 0, 0, 0, []⟩
/-- What is pending is known to be heard. -/
def gotS (s : Sl) (c : Nat) : Sl := if s.pend.length ≠ 0 ∧ c ≠ s.tell then { s with pend := [], tell := 1 - s.tell } else s
/-- A command, if it is the next one. -/
def cmdS (s : Sl) (f : Fr) : Sl × List UInt8 := if f.k = 2 ∧ f.q = s.nx then ({ s with nx := 1 - s.nx }, f.b) else (s, [])
def ansS (s : Sl) : Fr := ⟨s.addr, 5, s.ses, s.tell, s.nx, s.pend⟩
def takeS (s : Sl) (f : Fr) : Sl × Fr × List UInt8 × Bool :=
  if f.a ≠ s.addr ∨ f.k < 1 ∨ 3 < f.k then (s, noFrS, [], false)
  else if f.k = 1 then ({ s with ses := f.s, tell := 0, nx := 0 }, ⟨s.addr, 4, f.s, 0, 0, []⟩, [], true)
  else if f.s ≠ s.ses ∨ s.ses = 0 then (s, ⟨s.addr, 5, s.ses, 0, 0, []⟩, [], true)
  else ((cmdS (gotS s f.c) f).1, ansS (cmdS (gotS s f.c) f).1, (cmdS (gotS s f.c) f).2, true)

theorem newS_ok {a : Nat} (ha : a < 256) : (newS a).Ok := ⟨ha, by show 0 < 256; omega, Nat.zero_le _, Nat.zero_le _, Nat.zero_le _⟩
theorem offerS_ok {s : Sl} (h : s.Ok) (b : List UInt8) : (offerS s b).1.Ok := by
  unfold offerS
  split
  · exact h
  · split
    · exact h
    · exact { h with pend := by show b.length ≤ 24; omega }
theorem gotS_ok {s : Sl} (h : s.Ok) (c : Nat) : (gotS s c).Ok := by
  unfold gotS
  split
  · exact { h with pend := Nat.zero_le _, tell := by show 1 - s.tell ≤ 1; omega }
  · exact h
theorem cmdS_ok {s : Sl} (h : s.Ok) (f : Fr) : (cmdS s f).1.Ok := by
  unfold cmdS
  split
  · exact { h with nx := by show 1 - s.nx ≤ 1; omega }
  · exact h
theorem takeS_ok {s : Sl} (h : s.Ok) (f : Fr) (hf : f.s < 256) : (takeS s f).1.Ok := by
  unfold takeS
  split
  · exact h
  · split
    · exact { h with ses := hf, tell := Nat.zero_le _, nx := Nat.zero_le _ }
    · split
      · exact h
      · exact cmdS_ok (gotS_ok h f.c) f

/-- A line: two ends, what is on its way down and up; how many commands were sent, and came; how many things were offered, and heard. -/
structure Ln where
  m : Ma
  s : Sl
  down : List Fr
  up : List Fr
  sent : Nat
  came : Nat
  offered : Nat
  heard : Nat
def cmdB (n : Nat) : List UInt8 := [UInt8.ofNat n, 1]
def takeL (l : Ln) : Ln × Bool := match l.down with
  | [] => (l, true)
  | f :: d =>
    if 20 ≤ l.up.length then (l, true)
    else if (takeS l.s f).2.2.2 = false then ({ l with s := (takeS l.s f).1, down := d }, false)
    else if 0 < (takeS l.s f).2.2.1.length then
      (if l.sent ≤ l.came ∨ (takeS l.s f).2.2.1 ≠ cmdB l.came then ({ l with s := (takeS l.s f).1, down := d, up := l.up ++ [(takeS l.s f).2.1] }, false)
       else ({ l with s := (takeS l.s f).1, down := d, up := l.up ++ [(takeS l.s f).2.1], came := l.came + 1 }, true))
    else ({ l with s := (takeS l.s f).1, down := d, up := l.up ++ [(takeS l.s f).2.1] }, true)
end Go.Proofs.Ytdcnmbglbopgdaa
