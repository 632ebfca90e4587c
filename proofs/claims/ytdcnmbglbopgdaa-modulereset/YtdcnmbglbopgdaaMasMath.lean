/-
  What a master does, by the document (chapter 7), over plain data; nothing of the program is named here.
-/
import Derived.Test.YtdcnmbglbopgdaaFBase
namespace Go.Proofs.Ytdcnmbglbopgdaa
set_option linter.unusedVariables false
set_option linter.unusedSimpArgs false

/-- A frame. -/
structure Fr where
  a : Nat
  k : Nat
  s : Nat
  q : Nat
  c : Nat
  b : List UInt8
structure Fr.Fits (f : Fr) : Prop where
  a : f.a < 256
  k : f.k < 256
  s : f.s < 256
  q : f.q < 256
  c : f.c < 256

/-- A master: bits of what it sends and of what is next to be heard, address, session, tries, state, epoch, misses, commands that wait. -/
structure Ma where
  sent : Nat
  hrd : Nat
  addr : Nat
  ses : Nat
  tries : Int
  st : Nat
  ep : Nat
  ms : Nat
  q : List (List UInt8)
/-- One that may be, behind at most N steps. -/
structure Ma.Ok (N : Nat) (m : Ma) : Prop where
  sent : m.sent ≤ 1
  hrd : m.hrd ≤ 1
  addr : m.addr < 256
  ses0 : 1 ≤ m.ses
  ses : m.ses ≤ 255
  tries0 : 1 ≤ m.tries
  tries : m.tries ≤ 9223372036854775807
  st : m.st ≤ 2
  ep : m.ep ≤ N
  ms : m.ms ≤ N
  q : m.q.length ≤ 8
  qb : ∀ b ∈ m.q, b.length ≤ 24

def newM (a : Nat) (t : Int) : Ma := ⟨0, 0, a, 1, max t 1, 0, 0, 0, []⟩
def sendM (m : Ma) (b : List UInt8) : Ma × Int :=
  if b.length = 0 ∨ 24 < b.length then (m, 1) else if m.st ≠ 1 then (m, 7) else if 8 ≤ m.q.length then (m, 5) else ({ m with q := m.q ++ [b] }, 0)
def nextM (m : Ma) : Fr :=
  if m.st ≠ 1 then ⟨m.addr, 1, m.ses, 0, 0, []⟩ else match m.q with
    | [] => ⟨m.addr, 3, m.ses, m.sent, m.hrd, []⟩
    | b :: _ => ⟨m.addr, 2, m.ses, m.sent, m.hrd, b⟩
def nxt (s : Nat) : Nat := if s = 255 then 1 else s + 1
def closeM (m : Ma) : Ma := { m with st := 0, q := [], ses := nxt m.ses }
def lisM (m : Ma) (f : Fr) : Bool := decide (f.a = m.addr ∧ ((f.k = 4 ∧ (m.st = 1 ∨ f.s = m.ses)) ∨ (f.k = 5 ∧ m.st = 1)))
def riseM (m : Ma) : Ma := { m with st := 1, ep := m.ep + 1, sent := 0, hrd := 0 }
def settleM (m : Ma) (c : Nat) : Ma := if 0 < m.q.length ∧ c ≠ m.sent then { m with q := m.q.drop 1, sent := 1 - m.sent } else m
def freshM (m : Ma) (f : Fr) : Ma × List UInt8 := if f.b.length = 0 ∨ f.q ≠ m.hrd then (m, []) else ({ m with hrd := 1 - m.hrd }, f.b)
def quiet (m : Ma) : Ma := { m with ms := 0 }
def heardM (m : Ma) (f : Fr) : Ma × List UInt8 × Bool :=
  if lisM m f = false then (m, [], false)
  else if m.st ≠ 1 then (riseM (quiet m), [], true)
  else if f.s ≠ m.ses then (closeM (quiet m), [], true)
  else if f.k = 5 then ((freshM (settleM (quiet m) f.c) f).1, (freshM (settleM (quiet m) f.c) f).2, true)
  else (quiet m, [], true)
theorem Ma.Ok.mono {N M : Nat} {m : Ma} (h : m.Ok N) (hN : N ≤ M) : m.Ok M := { h with ep := Nat.le_trans h.ep hN, ms := Nat.le_trans h.ms hN }
end Go.Proofs.Ytdcnmbglbopgdaa
