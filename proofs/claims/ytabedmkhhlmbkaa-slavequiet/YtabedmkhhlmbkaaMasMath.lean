/-
  What a master does, by the document (chapter 7), over plain data; nothing of the program is named here.
-/
import Derived.Test.YtabedmkhhlmbkaaFBase
namespace Go.Proofs.Ytabedmkhhlmbkaa
set_option linter.unusedVariables false
set_option linter.unusedSimpArgs false

/-- A frame. -/
structure Fr where
  a : Nat
  k : Nat
  s : Nat
  q : Nat
  c : Nat
  b : List UInt8
structure Fr.Fits (f : Fr) : Prop where
  a : f.a < 256
  k : f.k < 256
  s : f.s < 256
  q : f.q < 256
  c : f.c < 256

/-- A master: bits of what it sends and of what is next to be heard, address, session, tries, state, epoch, misses, commands that wait. -/
structure Ma where
  sent : Nat
  hrd : Nat
  addr : Nat
  ses : Nat
  tries : Int
  st : Nat
  ep : Nat
  ms : Nat
  q : List (List UInt8)
/-- One that may be, behind at most N steps. -/
structure Ma.Ok (N : Nat) (m : Ma) : Prop where
  sent : m.sent ≤ 1
  hrd : m.hrd ≤ 1
  addr : m.addr < 256
  ses0 : 1 ≤ m.ses
  ses : m.ses ≤ 255
  tries0 : 1 ≤ m.tries
  tries : m.tries ≤ 9223372036854775807
  st : m.st ≤ 2
  ep : m.ep ≤ N
  ms : m.ms ≤ N
  q : m.q.length ≤ 8
  qb : ∀ b ∈ m.q, b.length ≤ 24

def newM (a : Nat) (t : Int) : Ma := ⟨0, 0, a, 1, max t 1, 0, 0, 0, []⟩
def sendM (m : Ma) (b : List UInt8) : Ma × Int :=
  if b.length = 0 ∨ 24 < b.length then (m, 1) else if m.st ≠ 1 then (m, 7) else if 8 ≤ m.q.length then (m, 5) else ({ m with q := m.q ++ [b] }, 0)
def nextM (m : Ma) : Fr :=
  if m.st ≠ 1 then ⟨m.addr, 1, m.ses, 0, 0, []⟩ else match m.q with
    | [] => ⟨m.addr, 3, m.ses, m.sent, m.hrd, []⟩
    | b :: _ => ⟨m.addr, 2, m.ses, m.sent, m.hrd, b⟩
def nxt (s : Nat) : Nat := if s = 255 then 1 else s + 1
def closeM (m : Ma) : Ma := { m with st := 0, q := [], ses := nxt m.ses }
def lisM (m : Ma) (f : Fr) : Bool := decide (f.a = m.addr ∧ ((f.k = 4 ∧ (m.st = 1 ∨ f.s = m.ses)) ∨ (f.k = 5 ∧ m.st = 1)))
def riseM (m : Ma) : Ma := { m with st := 1, ep := m.ep + 1, sent := 0, hrd := 0 }
def settleM (m : Ma) (c : Nat) : Ma := if 0 < m.q.length ∧ c ≠ m.sent then { m with q := m.q.drop 1, sent := 1 - m.sent } else m
def freshM (m : Ma) (f : Fr) : Ma × List UInt8 := if f.b.length = 0 ∨ f.q ≠ m.hrd then (m, []) else ({ m with hrd := 1 - m.hrd }, f.b)
def quiet (m : Ma) : Ma := { m with ms := 0 }
def heardM (m : Ma) (f : Fr) : Ma × List UInt8 × Bool :=
  if lisM m f = false then (m, [], false)
  else if m.st ≠ 1 then (riseM (quiet m), [], true)
  else if f.s ≠ m.ses then (closeM (quiet m), [], true)
  else if f.k = 5 then ((freshM (settleM (quiet m) f.c) f).1, (freshM (settleM (quiet m) f.c) f).2, true)
  else (quiet m, [], true)
def missedM (m : Ma) : Ma × Bool :=
  if ((m.ms + 1 : Nat) : Int) < m.tries then ({ m with ms := m.ms + 1 }, false)
  else ({ closeM m with st := 2, ms := 0 }, decide (m.st ≠ 2))

theorem Ma.Ok.mono {N M : Nat} {m : Ma} (h : m.Ok N) (hN : N ≤ M) : m.Ok M := { h with ep := Nat.le_trans h.ep hN, ms := Nat.le_trans h.ms hN }
theorem newM_ok {a : Nat} {t : Int} (ha : a < 256) (ht : t ≤ 9223372036854775807) : (newM a t).Ok 0 :=
  ⟨Nat.zero_le _, Nat.zero_le _, ha, Nat.le_refl _, by show 1 ≤ 255; omega, by show 1 ≤ max t 1; omega, by show max t 1 ≤ _; omega, Nat.zero_le _, Nat.le_refl _, Nat.le_refl _, Nat.zero_le _, by intro b hb; cases hb⟩
theorem nxt_le {s : Nat} (h : s ≤ 255) : 1 ≤ nxt s ∧ nxt s ≤ 255 := by unfold nxt; split <;> omega
theorem sendM_ok {N : Nat} {m : Ma} (h : m.Ok N) (b : List UInt8) : (sendM m b).1.Ok N := by
  unfold sendM
  split
  · exact h
  · rename_i hb
    split
    · exact h
    · split
      · exact h
      · refine { h with q := ?_, qb := ?_ }
        · simp
          omega
        · intro c hc
          simp at hc
          rcases hc with hc | rfl
          · exact h.qb c hc
          · omega
theorem closeM_ok {N : Nat} {m : Ma} (h : m.Ok N) : (closeM m).Ok N :=
  { h with ses0 := (nxt_le h.ses).1, ses := (nxt_le h.ses).2, st := Nat.zero_le _, q := Nat.zero_le _, qb := by intro b hb; cases hb }
theorem quiet_ok {N : Nat} {m : Ma} (h : m.Ok N) : (quiet m).Ok N := { h with ms := Nat.zero_le _ }
theorem riseM_ok {N : Nat} {m : Ma} (h : m.Ok N) : (riseM m).Ok (N + 1) :=
  { h.mono (Nat.le_succ N) with st := by show 1 ≤ 2; omega, ep := Nat.succ_le_succ h.ep, sent := Nat.zero_le _, hrd := Nat.zero_le _ }
theorem settleM_ok {N : Nat} {m : Ma} (h : m.Ok N) (c : Nat) : (settleM m c).Ok N := by
  unfold settleM
  split
  · refine { h with sent := ?_, q := ?_, qb := ?_ }
    · show 1 - m.sent ≤ 1
      omega
    · have := h.q
      simp
      omega
    · intro b hb
      exact h.qb b (List.mem_of_mem_drop hb)
  · exact h
theorem freshM_ok {N : Nat} {m : Ma} (h : m.Ok N) (f : Fr) : (freshM m f).1.Ok N := by
  unfold freshM
  split
  · exact h
  · exact { h with hrd := by show 1 - m.hrd ≤ 1; omega }
theorem heardM_ok {N : Nat} {m : Ma} (h : m.Ok N) (f : Fr) : (heardM m f).1.Ok (N + 1) := by
  unfold heardM
  split
  · exact h.mono (Nat.le_succ _)
  · split
    · exact riseM_ok (quiet_ok h)
    · split
      · exact (closeM_ok (quiet_ok h)).mono (Nat.le_succ _)
      · split
        · exact (freshM_ok (settleM_ok (quiet_ok h) f.c) f).mono (Nat.le_succ _)
        · exact (quiet_ok h).mono (Nat.le_succ _)
theorem missedM_ok {N : Nat} {m : Ma} (h : m.Ok N) : (missedM m).1.Ok (N + 1) := by
  unfold missedM
  split
  · exact { h.mono (Nat.le_succ N) with ms := Nat.succ_le_succ h.ms }
  · exact { (closeM_ok h).mono (Nat.le_succ N) with st := by show 2 ≤ 2; omega, ms := Nat.zero_le _ }
theorem nextM_fits {N : Nat} {m : Ma} (h : m.Ok N) : (nextM m).Fits ∧ (nextM m).b.length ≤ 24 := by
  have h1 := h.addr
  have h2 := h.ses
  have h3 := h.sent
  have h4 := h.hrd
  unfold nextM
  split
  · exact ⟨⟨h1, by show 1 < 256; omega, by show m.ses < 256; omega, by show 0 < 256; omega, by show 0 < 256; omega⟩, Nat.zero_le _⟩
  · split
    · exact ⟨⟨h1, by show 3 < 256; omega, by show m.ses < 256; omega, by show m.sent < 256; omega, by show m.hrd < 256; omega⟩, Nat.zero_le _⟩
    · rename_i b t hq
      exact ⟨⟨h1, by show 2 < 256; omega, by show m.ses < 256; omega, by show m.sent < 256; omega, by show m.hrd < 256; omega⟩, h.qb b (by rw [hq]; simp)⟩

end Go.Proofs.Ytabedmkhhlmbkaa
