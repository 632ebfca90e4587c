/-
  What a module does, by the document (chapter 11), over plain data; a line to it, as layer 11's laws have it. Nothing of the program is named here.
-/
import Derived.Test.YtdcnmbglbopgdaaSlaMath
import Derived.Test.YtdcnmbglbopgdaaButMath
namespace Go.Proofs.Ytdcnmbglbopgdaa
set_option linter.unusedVariables false
set_option linter.unusedSimpArgs false

/-- A module: its slave, its buttons, its display. -/
structure Mo where
  s : Sl
  f : Bs
  lit : Bool
  lat : Bool
  tok : Nat
  qty : Nat
  most : Nat
structure Mo.Ok (m : Mo) : Prop where
  s : m.s.Ok
  f : BOk m.f
  tok : m.tok < 65536
  qty : m.qty ≤ m.most
  most : m.most < 65536
def newMo (a : Nat) : Mo := ⟨newS a, zeroB, false, false, 0, 0, 0⟩
def txt5 (k t q : Nat) : List UInt8 := [UInt8.ofNat k, UInt8.ofNat (t / 256), UInt8.ofNat (t % 256), UInt8.ofNat (q / 256), UInt8.ofNat (q % 256)]
def parse5 (l : List UInt8) : Nat × Nat × Nat × Int :=
  match l with
  | [k, a, b, c, d] => if k.toNat = 1 ∨ k.toNat = 2 then (k.toNat, a.toNat * 256 + b.toNat, c.toNat * 256 + d.toNat, 0) else (0, 0, 0, 3)
  | l => if l.length < 5 then (0, 0, 0, 2) else (0, 0, 0, 3)
def Mo.dark (m : Mo) : Mo := { m with lit := false, lat := false, tok := 0, qty := 0, most := 0 }
def Mo.light (m : Mo) (t q : Nat) : Mo := { m with lit := true, lat := false, tok := t, qty := q, most := q }
def Mo.same (m : Mo) (t : Nat) : Bool := m.lit && decide (m.tok = t)
/-- A command's bytes. -/
def Mo.cmd (m : Mo) (l : List UInt8) : Mo :=
  if (parse5 l).2.2.2 ≠ 0 then m
  else if (parse5 l).1 = 1 then (if m.same (parse5 l).2.1 = true ∧ (m.lat = false ∨ m.s.pend.length ≠ 0) then m else m.light (parse5 l).2.1 (parse5 l).2.2.1)
  else if m.same (parse5 l).2.1 = true then m.dark else m
def takeMo (m : Mo) (f : Fr) : Mo × Fr × Bool := (({ m with s := (takeS m.s f).1 } : Mo).cmd (takeS m.s f).2.2.1, (takeS m.s f).2.1, (takeS m.s f).2.2.2)
/-- A button is pressed. -/
def pressMo (m : Mo) (b : Nat) : Mo :=
  if m.lit = false ∨ m.lat = true then m
  else if b = 1 then { m with qty := if m.qty < m.most then m.qty + 1 else m.qty }
  else if b = 2 then { m with qty := m.qty - 1 }
  else { m with s := (offerS m.s (txt5 (if b = 0 then 1 else 2) m.tok m.qty)).1, lat := decide ((offerS m.s (txt5 (if b = 0 then 1 else 2) m.tok m.qty)).2 = 0) }
def tickMo (m : Mo) (now : Int) : Mo := (pressB m.f now).2.foldl pressMo { m with f := (pressB m.f now).1 }
def setMo (m : Mo) (b : Int) (d : Bool) (now : Int) : Mo := { m with f := (setB m.f b d now).1 }
def resetMo (m : Mo) : Mo := newMo m.s.addr

theorem txt5_len (k t q : Nat) : (txt5 k t q).length = 5 := rfl
theorem newMo_ok {a : Nat} (ha : a < 256) : (newMo a).Ok := ⟨newS_ok ha, zeroB_ok, by show 0 < 65536; omega, Nat.le_refl _, by show 0 < 65536; omega⟩
theorem dark_ok {m : Mo} (h : m.Ok) : m.dark.Ok := ⟨h.s, h.f, by show 0 < 65536; omega, Nat.le_refl _, by show 0 < 65536; omega⟩
theorem light_ok {m : Mo} (h : m.Ok) {t q : Nat} (ht : t < 65536) (hq : q < 65536) : (m.light t q).Ok := ⟨h.s, h.f, ht, Nat.le_refl _, hq⟩
theorem parse5_lt (l : List UInt8) : (parse5 l).1 < 256 ∧ (parse5 l).2.1 < 65536 ∧ (parse5 l).2.2.1 < 65536 := by
  unfold parse5
  split
  · rename_i k a b c d
    have h1 := k.toNat_lt
    have h2 := a.toNat_lt
    have h3 := b.toNat_lt
    have h4 := c.toNat_lt
    have h5 := d.toNat_lt
    split
    · refine ⟨?_, ?_, ?_⟩ <;> simp only <;> omega
    · refine ⟨?_, ?_, ?_⟩ <;> simp only <;> omega
  · split
    · refine ⟨?_, ?_, ?_⟩ <;> simp only <;> omega
    · refine ⟨?_, ?_, ?_⟩ <;> simp only <;> omega
theorem cmd_ok {m : Mo} (h : m.Ok) (l : List UInt8) : (m.cmd l).Ok := by
  obtain ⟨_, h2, h3⟩ := parse5_lt l
  unfold Mo.cmd
  split
  · exact h
  · split
    · split
      · exact h
      · exact light_ok h h2 h3
    · split
      · exact dark_ok h
      · exact h
theorem takeMo_ok {m : Mo} (h : m.Ok) (f : Fr) (hf : f.s < 256) : (takeMo m f).1.Ok := cmd_ok (m := { m with s := (takeS m.s f).1 }) ⟨takeS_ok h.s f hf, h.f, h.tok, h.qty, h.most⟩ _
theorem pressMo_ok {m : Mo} (h : m.Ok) (b : Nat) : (pressMo m b).Ok := by
  have h1 := h.qty
  unfold pressMo
  split
  · exact h
  · split
    · refine ⟨h.s, h.f, h.tok, ?_, h.most⟩
      show (if m.qty < m.most then m.qty + 1 else m.qty) ≤ m.most
      split <;> omega
    · split
      · refine ⟨h.s, h.f, h.tok, ?_, h.most⟩
        show m.qty - 1 ≤ m.most
        omega
      · exact ⟨offerS_ok h.s _, h.f, h.tok, h.qty, h.most⟩
theorem foldMo_ok (l : List Nat) : ∀ {m : Mo}, m.Ok → (l.foldl pressMo m).Ok := by
  induction l with
  | nil => intro m h; exact h
  | cons b t ih => intro m h; exact ih (pressMo_ok h b)
theorem tickMo_ok {m : Mo} (h : m.Ok) (now : Int) : (tickMo m now).Ok := foldMo_ok _ (m := { m with f := (pressB m.f now).1 }) ⟨h.s, pressB_ok h.f now, h.tok, h.qty, h.most⟩
theorem setMo_ok {m : Mo} (h : m.Ok) (b : Int) (d : Bool) {now : Int} (hn : BI now) : (setMo m b d now).Ok := ⟨h.s, setB_ok h.f b d hn, h.tok, h.qty, h.most⟩
theorem resetMo_ok {m : Mo} (h : m.Ok) : (resetMo m).Ok := newMo_ok h.s.addr
theorem pressMo_f (m : Mo) (b : Nat) : (pressMo m b).f = m.f := by
  unfold pressMo
  split
  · rfl
  · split
    · rfl
    · split <;> rfl
theorem cmd_f (m : Mo) (l : List UInt8) : (m.cmd l).f = m.f ∧ (m.cmd l).s = m.s := by
  unfold Mo.cmd
  split
  · exact ⟨rfl, rfl⟩
  · split
    · split <;> exact ⟨rfl, rfl⟩
    · split <;> exact ⟨rfl, rfl⟩

/-! ### A press, as the laws make it -/
theorem tick_none {m : Mo} {now : Int} {q : Nat} {b : Bt} (hq : q ≤ 3) (hf : m.f = oneB q b) (hd : b.due now = false) : tickMo m now = { m with f := oneB q b } := by
  unfold tickMo
  rw [hf, one_press hq, hd]
  have : b.tell now = b := by unfold Bt.tell; rw [hd]; rfl
  rw [this]
  rfl
theorem tick_one {m : Mo} {now : Int} {q : Nat} {b : Bt} (hq : q ≤ 3) (hf : m.f = oneB q b) (hd : b.due now = true) : tickMo m now = pressMo { m with f := oneB q (b.tell now) } q := by
  unfold tickMo
  rw [hf, one_press hq, hd]
  rfl
/-- The line of a law: its module, and the master's bits. -/
structure Li where
  m : Mo
  seq : Nat
  ack : Nat
def liF (l : Li) (b : List UInt8) : Fr := if b.length = 0 then ⟨3, 3, 1, 0, l.ack, []⟩ else ⟨3, 2, 1, l.seq, l.ack, b⟩
def tellsLi (l : Li) (b : List UInt8) : Li × List UInt8 :=
  if (takeMo l.m (liF l b)).2.2 = false ∨ (takeMo l.m (liF l b)).2.1.b.length = 0 ∨ (takeMo l.m (liF l b)).2.1.q ≠ l.ack then
    (⟨(takeMo l.m (liF l b)).1, if b.length = 0 then l.seq else 1 - l.seq, l.ack⟩, [])
  else (⟨(takeMo l.m (liF l b)).1, if b.length = 0 then l.seq else 1 - l.seq, 1 - l.ack⟩, (takeMo l.m (liF l b)).2.1.b)
/-- A module whose buttons are up, in session 1. -/
structure Mi (m : Mo) (tell nx : Nat) (pend : List UInt8) : Prop where
  s : m.s = ⟨3, 1, tell, nx, pend⟩
  f : m.f = zeroB
  ok : m.Ok
/-- Nothing that was told is heard. -/
structure LiA (l : Li) (pend : List UInt8) : Prop where
  mi : Mi l.m l.ack l.seq pend
  seq : l.seq ≤ 1
  ack : l.ack ≤ 1
/-- What is pending was heard. -/
structure LiB (l : Li) (pend : List UInt8) : Prop where
  mi : Mi l.m (1 - l.ack) l.seq pend
  seq : l.seq ≤ 1
  ack : l.ack ≤ 1
  ne : pend.length ≠ 0
theorem takeMo_parts {m : Mo} {f : Fr} {s' : Sl} {a : Fr} {c : List UInt8} {ok : Bool} (h : takeS m.s f = (s', a, c, ok)) : takeMo m f = (({ m with s := s' } : Mo).cmd c, a, ok) := by
  unfold takeMo
  rw [h]
theorem takeS_poll {t n k : Nat} {p : List UInt8} (hk : k ≤ 1) (ht : t ≤ 1) : takeS ⟨3, 1, t, n, p⟩ ⟨3, 3, 1, 0, k, []⟩ =
    if p.length ≠ 0 ∧ k ≠ t then (⟨3, 1, 1 - t, n, []⟩, ⟨3, 5, 1, 1 - t, n, []⟩, [], true) else (⟨3, 1, t, n, p⟩, ⟨3, 5, 1, t, n, p⟩, [], true) := by
  unfold takeS
  rw [if_neg (by simp), if_neg (by simp), if_neg (by simp)]
  unfold gotS cmdS ansS
  split <;> simp
theorem takeS_data {t n k : Nat} {p b : List UInt8} (hk : k ≤ 1) (ht : t ≤ 1) : takeS ⟨3, 1, t, n, p⟩ ⟨3, 2, 1, n, k, b⟩ =
    if p.length ≠ 0 ∧ k ≠ t then (⟨3, 1, 1 - t, 1 - n, []⟩, ⟨3, 5, 1, 1 - t, 1 - n, []⟩, b, true) else (⟨3, 1, t, 1 - n, p⟩, ⟨3, 5, 1, t, 1 - n, p⟩, b, true) := by
  unfold takeS
  rw [if_neg (by simp), if_neg (by simp), if_neg (by simp)]
  unfold gotS cmdS ansS
  split <;> simp
theorem cmd_nil (m : Mo) : m.cmd [] = m := rfl
/-- The line's poll, nothing heard: what is pending is told, and counts as heard. -/
theorem LiA.poll {l : Li} {p : List UInt8} (h : LiA l p) : (tellsLi l []).2 = p ∧ (tellsLi l []).1.m = l.m ∧ (p.length = 0 → LiA (tellsLi l []).1 []) ∧ (p.length ≠ 0 → LiB (tellsLi l []).1 p) := by
  obtain ⟨hm, h1, h2⟩ := h
  have ht : takeMo l.m (liF l []) = (l.m, ⟨3, 5, 1, l.ack, l.seq, p⟩, true) := by
    have hs : takeS l.m.s (liF l []) = (⟨3, 1, l.ack, l.seq, p⟩, ⟨3, 5, 1, l.ack, l.seq, p⟩, [], true) := by
      rw [hm.s]
      unfold liF
      rw [if_pos (by rfl), takeS_poll h2 h2, if_neg (by simp)]
    rw [takeMo_parts hs, cmd_nil, ← hm.s]
  unfold tellsLi
  rw [ht]
  by_cases hp : p.length = 0
  · have hp' : p = [] := List.eq_nil_of_length_eq_zero hp
    subst hp'
    rw [if_pos (by simp)]
    refine ⟨rfl, rfl, fun _ => ⟨?_, h1, h2⟩, fun hc => absurd rfl hc⟩
    exact hm
  · rw [if_neg (by simp; intro hc; exact hp (by rw [hc]; rfl))]
    refine ⟨rfl, rfl, fun hc => absurd hc hp, fun _ => ⟨?_, h1, by show 1 - l.ack ≤ 1; omega, hp⟩⟩
    show Mi l.m (1 - (1 - l.ack)) l.seq p
    rw [show 1 - (1 - l.ack) = l.ack by omega]
    exact hm
/-- .. heard: it is let go of. -/
theorem LiB.poll {l : Li} {p : List UInt8} (h : LiB l p) : (tellsLi l []).2 = [] ∧ (tellsLi l []).1.m = { l.m with s := ⟨3, 1, l.ack, l.seq, []⟩ } ∧ LiA (tellsLi l []).1 [] := by
  obtain ⟨hm, h1, h2, h3⟩ := h
  have ht : takeMo l.m (liF l []) = ({ l.m with s := ⟨3, 1, l.ack, l.seq, []⟩ }, ⟨3, 5, 1, l.ack, l.seq, []⟩, true) := by
    have hs : takeS l.m.s (liF l []) = (⟨3, 1, l.ack, l.seq, []⟩, ⟨3, 5, 1, l.ack, l.seq, []⟩, [], true) := by
      rw [hm.s]
      unfold liF
      rw [if_pos (by rfl), takeS_poll h2 (by omega), if_pos ⟨h3, by omega⟩, show 1 - (1 - l.ack) = l.ack by omega]
    rw [takeMo_parts hs, cmd_nil]
  unfold tellsLi
  rw [ht, if_pos (by simp)]
  have hok := hm.ok
  refine ⟨rfl, rfl, ⟨rfl, hm.f, ⟨⟨by show 3 < 256; omega, by show 1 < 256; omega, h2, h1, Nat.zero_le _⟩, hok.f, hok.tok, hok.qty, hok.most⟩⟩, h1, h2⟩
/-- A command goes down the line, nothing pending. -/
theorem LiA.data {l : Li} {b : List UInt8} (h : LiA l []) (hb : b.length ≠ 0) : (tellsLi l b).2 = [] ∧ (tellsLi l b).1.m = ({ l.m with s := ⟨3, 1, l.ack, 1 - l.seq, []⟩ } : Mo).cmd b ∧ LiA (tellsLi l b).1 [] := by
  obtain ⟨hm, h1, h2⟩ := h
  have ht : takeMo l.m (liF l b) = (({ l.m with s := ⟨3, 1, l.ack, 1 - l.seq, []⟩ } : Mo).cmd b, ⟨3, 5, 1, l.ack, 1 - l.seq, []⟩, true) := by
    have hs : takeS l.m.s (liF l b) = (⟨3, 1, l.ack, 1 - l.seq, []⟩, ⟨3, 5, 1, l.ack, 1 - l.seq, []⟩, b, true) := by
      rw [hm.s]
      unfold liF
      rw [if_neg hb, takeS_data h2 h2, if_neg (by simp)]
    rw [takeMo_parts hs]
  unfold tellsLi
  rw [ht, if_pos (by simp)]
  have hok := hm.ok
  have hk : ({ l.m with s := ⟨3, 1, l.ack, 1 - l.seq, []⟩ } : Mo).Ok := ⟨⟨by show 3 < 256; omega, by show 1 < 256; omega, h2, by show 1 - l.seq ≤ 1; omega, Nat.zero_le _⟩, hok.f, hok.tok, hok.qty, hok.most⟩
  obtain ⟨c1, c2⟩ := cmd_f ({ l.m with s := ⟨3, 1, l.ack, 1 - l.seq, []⟩ } : Mo) b
  refine ⟨rfl, rfl, ⟨?_, by rw [if_neg hb]; show 1 - l.seq ≤ 1; omega, h2⟩⟩
  refine ⟨?_, c1.trans hm.f, cmd_ok hk b⟩
  show (({ l.m with s := ⟨3, 1, l.ack, 1 - l.seq, []⟩ } : Mo).cmd b).s = ⟨3, 1, l.ack, if b.length = 0 then l.seq else 1 - l.seq, []⟩
  rw [c2, if_neg hb]
end Go.Proofs.Ytdcnmbglbopgdaa
