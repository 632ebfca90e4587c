/-
  What a slave does, by the document (chapter 8), over plain data; two ends and two wires between them, as layer 8's laws have them. Nothing of the program is named here.
-/
import Derived.Test.YtabedmkhhlmbkaaMasMath
namespace Go.Proofs.Ytabedmkhhlmbkaa
set_option linter.unusedVariables false
set_option linter.unusedSimpArgs false

/-- A slave: address, session, bit of what it tells, bit of which command is next, what is pending (none: no bytes). -/
structure Sl where
  addr : Nat
  ses : Nat
  tell : Nat
  nx : Nat
  pend : List UInt8
structure Sl.Ok (s : Sl) : Prop where
  addr : s.addr < 256
  ses : s.ses < 256
  tell : s.tell ≤ 1
  nx : s.nx ≤ 1
  pend : s.pend.length ≤ 24
def newS (a : Nat) : Sl := ⟨a, 0, 0, 0, []⟩
def offerS (s : Sl) (b : List UInt8) : Sl × Int :=
  if b.length = 0 ∨ 24 < b.length then (s, 1) else if s.pend.length ≠ 0 then (s, 5) else ({ s with pend := b }, 0)
def noFrS : Fr := ⟨0, 0, 0, 0, 0, []⟩
/-- What is pending is known to be heard. -/
def gotS (s : Sl) (c : Nat) : Sl := if s.pend.length ≠ 0 ∧ c ≠ s.tell then { s with pend := [], tell := 1 - s.tell } else s
/-- A command, if it is the next one. -/
def cmdS (s : Sl) (f : Fr) : Sl × List UInt8 := if f.k = 2 ∧ f.q = s.nx then ({ s with nx := 1 - s.nx }, f.b) else (s, [])
def ansS (s : Sl) : Fr := ⟨s.addr, 5, s.ses, s.tell, s.nx, s.pend⟩
def takeS (s : Sl) (f : Fr) : Sl × Fr × List UInt8 × Bool :=
  if f.a ≠ s.addr ∨ f.k < 1 ∨ 3 < f.k then (s, noFrS, [], false)
  else if f.k = 1 then ({ s with ses := f.s, tell := 0, nx := 0 }, ⟨s.addr, 4, f.s, 0, 0, []⟩, [], true)
  else if f.s ≠ s.ses ∨ s.ses = 0 then (s, ⟨s.addr, 5, s.ses, 0, 0, []⟩, [], true)
  else ((cmdS (gotS s f.c) f).1, ansS (cmdS (gotS s f.c) f).1, (cmdS (gotS s f.c) f).2, true)

theorem newS_ok {a : Nat} (ha : a < 256) : (newS a).Ok := ⟨ha, by show 0 < 256; omega, Nat.zero_le _, Nat.zero_le _, Nat.zero_le _⟩
theorem offerS_ok {s : Sl} (h : s.Ok) (b : List UInt8) : (offerS s b).1.Ok := by
  unfold offerS
  split
  · exact h
  · split
    · exact h
    · exact { h with pend := by show b.length ≤ 24; omega }
theorem gotS_ok {s : Sl} (h : s.Ok) (c : Nat) : (gotS s c).Ok := by
  unfold gotS
  split
  · exact { h with pend := Nat.zero_le _, tell := by show 1 - s.tell ≤ 1; omega }
  · exact h
theorem cmdS_ok {s : Sl} (h : s.Ok) (f : Fr) : (cmdS s f).1.Ok := by
  unfold cmdS
  split
  · exact { h with nx := by show 1 - s.nx ≤ 1; omega }
  · exact h
theorem takeS_ok {s : Sl} (h : s.Ok) (f : Fr) (hf : f.s < 256) : (takeS s f).1.Ok := by
  unfold takeS
  split
  · exact h
  · split
    · exact { h with ses := hf, tell := Nat.zero_le _, nx := Nat.zero_le _ }
    · split
      · exact h
      · exact cmdS_ok (gotS_ok h f.c) f

/-- A line: two ends, what is on its way down and up; how many commands were sent, and came; how many things were offered, and heard. -/
structure Ln where
  m : Ma
  s : Sl
  down : List Fr
  up : List Fr
  sent : Nat
  came : Nat
  offered : Nat
  heard : Nat
def cmdB (n : Nat) : List UInt8 := [UInt8.ofNat n, 1]
def itmB (n : Nat) : List UInt8 := [UInt8.ofNat n, 2]

def sendL (l : Ln) : Ln × Bool := ({ l with m := (sendM l.m (cmdB l.sent)).1, sent := if (sendM l.m (cmdB l.sent)).2 = 0 then l.sent + 1 else l.sent }, true)
def offerL (l : Ln) : Ln × Bool := ({ l with s := (offerS l.s (itmB l.offered)).1, offered := if (offerS l.s (itmB l.offered)).2 = 0 then l.offered + 1 else l.offered }, true)
def nextL (l : Ln) : Ln × Bool := (if l.down.length < 20 then { l with down := l.down ++ [nextM l.m] } else l, true)
def takeL (l : Ln) : Ln × Bool := match l.down with
  | [] => (l, true)
  | f :: d =>
    if 20 ≤ l.up.length then (l, true)
    else if (takeS l.s f).2.2.2 = false then ({ l with s := (takeS l.s f).1, down := d }, false)
    else if 0 < (takeS l.s f).2.2.1.length then
      (if l.sent ≤ l.came ∨ (takeS l.s f).2.2.1 ≠ cmdB l.came then ({ l with s := (takeS l.s f).1, down := d, up := l.up ++ [(takeS l.s f).2.1] }, false)
       else ({ l with s := (takeS l.s f).1, down := d, up := l.up ++ [(takeS l.s f).2.1], came := l.came + 1 }, true))
    else ({ l with s := (takeS l.s f).1, down := d, up := l.up ++ [(takeS l.s f).2.1] }, true)
def heardL (l : Ln) : Ln × Bool := match l.up with
  | [] => (l, true)
  | f :: u =>
    if (heardM l.m f).2.2 = false then ({ l with m := (heardM l.m f).1, up := u }, false)
    else if 0 < (heardM l.m f).2.1.length then
      (if l.offered ≤ l.heard ∨ (heardM l.m f).2.1 ≠ itmB l.heard then ({ l with m := (heardM l.m f).1, up := u }, false)
       else ({ l with m := (heardM l.m f).1, up := u, heard := l.heard + 1 }, true))
    else ({ l with m := (heardM l.m f).1, up := u }, true)
def twice (l : List Fr) : List Fr := match l with
  | [] => []
  | f :: d => if (f :: d).length < 20 then f :: f :: d else f :: d
def doesL (l : Ln) (k : Int) : Ln × Bool :=
  if k = 0 then sendL l
  else if k = 1 then offerL l
  else if k = 2 ∨ k = 3 then nextL l
  else if k = 4 ∨ k = 5 ∨ k = 6 then takeL l
  else if k = 7 ∨ k = 8 ∨ k = 9 then heardL l
  else if k = 10 then ({ l with down := l.down.drop 1 }, true)
  else if k = 11 then ({ l with up := l.up.drop 1 }, true)
  else if k = 12 then ({ l with down := twice l.down }, true)
  else if k = 13 then ({ l with up := twice l.up }, true)
  else (l, true)
def openL : Ln := ⟨⟨0, 0, 3, 1, 100000, 1, 1, 0, []⟩, ⟨3, 1, 0, 0, []⟩, [], [], 0, 0, 0, 0⟩

/-- A frame down, by how many commands its master knew of, how many things it had heard, and whether it bears a command; a frame up, by how many commands had come, how many things it knew were heard, and whether it bears one. -/
def dfr (x : Nat × Nat × Bool) : Fr := ⟨3, if x.2.2 then 2 else 3, 1, x.1 % 2, x.2.1 % 2, if x.2.2 then cmdB x.1 else []⟩
def ufr (x : Nat × Nat × Bool) : Fr := ⟨3, 5, 1, x.2.1 % 2, x.1 % 2, if x.2.2 then itmB x.2.1 else []⟩
abbrev Ord (l : List (Nat × Nat × Bool)) : Prop := l.Pairwise fun x y => x.1 ≤ y.1 ∧ x.2.1 ≤ y.2.1
def cmds (A n : Nat) : List (List UInt8) := (List.range n).map fun i => cmdB (A + i)
/-- As long as a session lasts: A commands are known to have come, T things are known to be heard. -/
structure Iv (l : Ln) (A T : Nat) (ds us : List (Nat × Nat × Bool)) : Prop where
  mm : l.m = ⟨A % 2, l.heard % 2, 3, 1, 100000, 1, 1, 0, cmds A (l.sent - A)⟩
  sl : l.s = ⟨3, 1, T % 2, l.came % 2, if T < l.offered then itmB T else []⟩
  as : A ≤ l.sent
  q8 : l.sent - A ≤ 8
  ac : A ≤ l.came
  ca : l.came ≤ A + 1
  cs : l.came ≤ l.sent
  th : T ≤ l.heard
  ho : l.heard ≤ l.offered
  ot : l.offered ≤ T + 1
  dn : l.down = ds.map dfr
  db : ∀ x ∈ ds, l.came ≤ x.1 + 1 ∧ x.1 ≤ A ∧ T ≤ x.2.1 ∧ x.2.1 ≤ l.heard ∧ (x.2.2 = true → x.1 < l.sent)
  do_ : Ord ds
  up : l.up = us.map ufr
  ub : ∀ x ∈ us, A ≤ x.1 ∧ x.1 ≤ l.came ∧ l.heard ≤ x.2.1 + 1 ∧ x.2.1 ≤ T ∧ (x.2.2 = true → x.2.1 < l.offered)
  uo : Ord us
  d20 : l.down.length ≤ 20
  u20 : l.up.length ≤ 20

theorem iv_open : Iv openL 0 0 [] [] := by
  constructor <;> first | rfl | (intro x hx; cases hx) | exact List.Pairwise.nil | (show _ ≤ _; decide)

theorem cmds_snoc (A n : Nat) : cmds A n ++ [cmdB (A + n)] = cmds A (n + 1) := by unfold cmds; rw [List.range_succ, List.map_append]; rfl
theorem cmds_cons (A n : Nat) : cmds A (n + 1) = cmdB A :: cmds (A + 1) n := by
  unfold cmds
  rw [List.range_succ_eq_map, List.map_cons, List.map_map]
  congr 1
  apply List.map_congr_left
  intro i _
  show cmdB (A + (i + 1)) = cmdB (A + 1 + i)
  congr 1
  omega
theorem cmds_len (A n : Nat) : (cmds A n).length = n := by simp [cmds]

theorem iv_send {l : Ln} {A T : Nat} {ds us : List (Nat × Nat × Bool)} (h : Iv l A T ds us) : (sendL l).2 = true ∧ Iv (sendL l).1 A T ds us := by
  refine ⟨rfl, ?_⟩
  have hs : sendM l.m (cmdB l.sent) = if 8 ≤ l.sent - A then (l.m, 5) else ({ l.m with q := l.m.q ++ [cmdB l.sent] }, 0) := by
    unfold sendM
    rw [if_neg (by simp [cmdB]), if_neg (by rw [h.mm]; simp)]
    have : l.m.q.length = l.sent - A := by rw [h.mm]; exact cmds_len _ _
    rw [this]
  unfold sendL
  rw [hs]
  split
  · simp only [show ¬ ((5 : Int) = 0) by decide, ↓reduceIte]
    exact h
  · rename_i h8
    simp only [↓reduceIte]
    have has := h.as
    refine { h with mm := ?_, as := by show A ≤ l.sent + 1; omega, q8 := by show l.sent + 1 - A ≤ 8; omega, cs := by show l.came ≤ l.sent + 1; have := h.cs; omega, db := ?_ }
    · show { l.m with q := l.m.q ++ [cmdB l.sent] } = _
      rw [h.mm]
      show (⟨_, _, _, _, _, _, _, _, _⟩ : Ma) = _
      rw [show l.sent + 1 - A = (l.sent - A) + 1 by omega, ← cmds_snoc, show A + (l.sent - A) = l.sent by omega]
    · intro x hx
      obtain ⟨h1, h2, h3, h4, h5⟩ := h.db x hx
      exact ⟨h1, h2, h3, h4, fun hb => Nat.lt_succ_of_lt (h5 hb)⟩

theorem iv_offer {l : Ln} {A T : Nat} {ds us : List (Nat × Nat × Bool)} (h : Iv l A T ds us) : (offerL l).2 = true ∧ Iv (offerL l).1 A T ds us := by
  refine ⟨rfl, ?_⟩
  have hth := h.th
  have hho := h.ho
  have hot := h.ot
  have hp : l.s.pend = if T < l.offered then itmB T else [] := by rw [h.sl]
  unfold offerL offerS
  rw [if_neg (by simp [itmB]), hp]
  by_cases hlt : T < l.offered
  · rw [if_pos hlt, if_pos (by simp [itmB])]
    simp only [show ¬ ((5 : Int) = 0) by decide, ↓reduceIte]
    exact h
  · rw [if_neg hlt, if_neg (by simp)]
    simp only [↓reduceIte]
    have hTo : T = l.offered := by omega
    refine { h with sl := ?_, ho := by show l.heard ≤ l.offered + 1; omega, ot := by show l.offered + 1 ≤ T + 1; omega, ub := ?_ }
    · show (⟨l.s.addr, l.s.ses, l.s.tell, l.s.nx, itmB l.offered⟩ : Sl) = ⟨3, 1, T % 2, l.came % 2, if T < l.offered + 1 then itmB T else []⟩
      rw [h.sl]
      simp only [show T < l.offered + 1 by omega, ↓reduceIte]
      rw [hTo]
    · intro x hx
      obtain ⟨h1, h2, h3, h4, h5⟩ := h.ub x hx
      exact ⟨h1, h2, h3, h4, fun hb => Nat.lt_succ_of_lt (h5 hb)⟩

theorem iv_next {l : Ln} {A T : Nat} {ds us : List (Nat × Nat × Bool)} (h : Iv l A T ds us) : (nextL l).2 = true ∧ Iv (nextL l).1 A T (if l.down.length < 20 then ds ++ [(A, l.heard, decide (A < l.sent))] else ds) us := by
  refine ⟨rfl, ?_⟩
  unfold nextL
  by_cases h20 : l.down.length < 20
  · simp only [h20, ↓reduceIte]
    have hn : nextM l.m = dfr (A, l.heard, decide (A < l.sent)) := by
      rw [h.mm]
      unfold nextM dfr
      by_cases hlt : A < l.sent
      · rw [show l.sent - A = (l.sent - A - 1) + 1 by omega, cmds_cons]
        simp [hlt]
      · have has := h.as
        rw [show l.sent - A = 0 by omega]
        simp [hlt, cmds]
    refine { h with dn := ?_, db := ?_, do_ := ?_, d20 := ?_ }
    · show l.down ++ [nextM l.m] = _
      rw [h.dn, hn, List.map_append]
      rfl
    · intro x hx
      rw [List.mem_append] at hx
      rcases hx with hx | hx
      · exact h.db x hx
      · simp at hx
        subst hx
        exact ⟨h.ca, Nat.le_refl _, h.th, Nat.le_refl _, fun hb => by simpa using hb⟩
    · refine List.pairwise_append.2 ⟨h.do_, by simp, ?_⟩
      intro x hx y hy
      simp at hy
      subst hy
      obtain ⟨_, h2, _, h4, _⟩ := h.db x hx
      exact ⟨h2, h4⟩
    · show (l.down ++ [nextM l.m]).length ≤ 20
      rw [List.length_append]
      simp
      omega
  · simp only [h20, ↓reduceIte]
    exact h

theorem iv_drop_down {l : Ln} {A T : Nat} {ds us : List (Nat × Nat × Bool)} (h : Iv l A T ds us) : Iv { l with down := l.down.drop 1 } A T (ds.drop 1) us := by
  refine { h with dn := ?_, db := fun x hx => h.db x (List.mem_of_mem_drop hx), do_ := h.do_.sublist (List.drop_sublist _ _), d20 := ?_ }
  · show l.down.drop 1 = _
    rw [h.dn, List.map_drop]
  · show (l.down.drop 1).length ≤ 20
    have := h.d20
    rw [List.length_drop]
    omega
theorem iv_drop_up {l : Ln} {A T : Nat} {ds us : List (Nat × Nat × Bool)} (h : Iv l A T ds us) : Iv { l with up := l.up.drop 1 } A T ds (us.drop 1) := by
  refine { h with up := ?_, ub := fun x hx => h.ub x (List.mem_of_mem_drop hx), uo := h.uo.sublist (List.drop_sublist _ _), u20 := ?_ }
  · show l.up.drop 1 = _
    rw [h.up, List.map_drop]
  · show (l.up.drop 1).length ≤ 20
    have := h.u20
    rw [List.length_drop]
    omega
theorem twice_len (l : List Fr) (h : l.length ≤ 20) : (twice l).length ≤ 20 := by
  unfold twice
  split
  · simp
  · split
    · simp at *; omega
    · exact h
/-- The first one, if there is room, once more. -/
def twiceT (l : List (Nat × Nat × Bool)) : List (Nat × Nat × Bool) := match l with
  | [] => []
  | f :: d => if (f :: d).length < 20 then f :: f :: d else f :: d
theorem twice_map (g : Nat × Nat × Bool → Fr) (l : List (Nat × Nat × Bool)) : twice (l.map g) = (twiceT l).map g := by
  cases l with
  | nil => rfl
  | cons x d =>
    rw [List.map_cons]
    unfold twice twiceT
    simp only [List.length_cons, List.length_map]
    split <;> rfl
theorem twiceT_mem (l : List (Nat × Nat × Bool)) (x : Nat × Nat × Bool) (h : x ∈ twiceT l) : x ∈ l := by
  cases l with
  | nil => exact h
  | cons y d =>
    unfold twiceT at h
    simp only at h
    split at h
    · simp at h ⊢
      exact h
    · exact h
theorem twiceT_ord (l : List (Nat × Nat × Bool)) (h : Ord l) : Ord (twiceT l) := by
  cases l with
  | nil => exact h
  | cons y d =>
    unfold twiceT
    simp only
    split
    · have h1 := List.pairwise_cons.1 h
      refine List.pairwise_cons.2 ⟨?_, List.pairwise_cons.2 h1⟩
      intro z hz
      rw [List.mem_cons] at hz
      rcases hz with rfl | hz
      · exact ⟨Nat.le_refl _, Nat.le_refl _⟩
      · exact h1.1 z hz
    · exact h
theorem iv_twice_down {l : Ln} {A T : Nat} {ds us : List (Nat × Nat × Bool)} (h : Iv l A T ds us) : Iv { l with down := twice l.down } A T (twiceT ds) us := by
  refine { h with dn := ?_, db := fun x hx => h.db x (twiceT_mem _ _ hx), do_ := twiceT_ord _ h.do_, d20 := twice_len _ h.d20 }
  show twice l.down = _
  rw [h.dn, twice_map]
theorem iv_twice_up {l : Ln} {A T : Nat} {ds us : List (Nat × Nat × Bool)} (h : Iv l A T ds us) : Iv { l with up := twice l.up } A T ds (twiceT us) := by
  refine { h with up := ?_, ub := fun x hx => h.ub x (twiceT_mem _ _ hx), uo := twiceT_ord _ h.uo, u20 := twice_len _ h.u20 }
  show twice l.up = _
  rw [h.up, twice_map]

end Go.Proofs.Ytabedmkhhlmbkaa
