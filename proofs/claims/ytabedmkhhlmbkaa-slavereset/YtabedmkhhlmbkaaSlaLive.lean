/-
  As soon as nothing is lost all that was sent has come, and all that was offered was heard.
-/
import Derived.Test.YtabedmkhhlmbkaaSlaInv
namespace Go.Proofs.Ytabedmkhhlmbkaa
set_option linter.unusedVariables false
set_option linter.unusedSimpArgs false

theorem takeL_same (l : Ln) : (takeL l).1.sent = l.sent ∧ (takeL l).1.offered = l.offered ∧ (takeL l).1.heard = l.heard := by
  unfold takeL
  split
  · exact ⟨rfl, rfl, rfl⟩
  · split
    · exact ⟨rfl, rfl, rfl⟩
    · split
      · exact ⟨rfl, rfl, rfl⟩
      · split
        · split <;> exact ⟨rfl, rfl, rfl⟩
        · exact ⟨rfl, rfl, rfl⟩
theorem heardL_same (l : Ln) : (heardL l).1.sent = l.sent ∧ (heardL l).1.offered = l.offered ∧ (heardL l).1.came = l.came := by
  unfold heardL
  split
  · exact ⟨rfl, rfl, rfl⟩
  · split
    · exact ⟨rfl, rfl, rfl⟩
    · split
      · split <;> exact ⟨rfl, rfl, rfl⟩
      · exact ⟨rfl, rfl, rfl⟩
theorem nextL_same (l : Ln) : (nextL l).1.sent = l.sent ∧ (nextL l).1.offered = l.offered ∧ (nextL l).1.heard = l.heard ∧ (nextL l).1.came = l.came ∧ (nextL l).1.up = l.up := by
  unfold nextL
  split <;> exact ⟨rfl, rfl, rfl, rfl, rfl⟩

/-- One frame each way. -/
def bothL (l : Ln) : Ln := (heardL (takeL l).1).1
/-- At most n times, as long as something is on its way. -/
def loopL : Nat → Ln → Ln
  | 0, l => l
  | n + 1, l => if 0 < l.down.length + l.up.length then loopL n (bothL l) else l
def exchL (l : Ln) : Ln := loopL 50 (nextL l).1

theorem iv_both {l : Ln} {A T : Nat} {ds us : List (Nat × Nat × Bool)} (h : Iv l A T ds us) : ∃ A' T' ds' us', Iv (bothL l) A' T' ds' us' ∧ (bothL l).sent = l.sent ∧ (bothL l).offered = l.offered ∧ (0 < ds.length + us.length → ds'.length + us'.length + 1 = ds.length + us.length) := by
  obtain ⟨_, T', ds', us', h2, h3, h4, _⟩ := iv_take h
  obtain ⟨_, A', us'', h5, h6, _⟩ := iv_heard h2
  have s1 := takeL_same l
  have s2 := heardL_same (takeL l).1
  refine ⟨A', T', ds', us'', h5, s2.1.trans s1.1, s2.2.1.trans s1.2.1, fun hp => ?_⟩
  rw [h6, List.length_drop]
  by_cases hd : ds ≠ [] ∧ us.length < 20
  · have := h3 hd.1 hd.2
    omega
  · have hc : ds = [] ∨ 20 ≤ us.length := by
      by_cases h0 : ds = []
      · exact .inl h0
      · exact .inr (Nat.le_of_not_lt fun hl => hd ⟨h0, hl⟩)
    obtain ⟨e1, e2, _⟩ := h4 hc
    rw [e1, e2]
    rcases hc with hc | hc
    · rw [hc] at hp ⊢
      simp at hp ⊢
      omega
    · omega
theorem iv_loop : ∀ (n : Nat) {l : Ln} {A T : Nat} {ds us : List (Nat × Nat × Bool)}, Iv l A T ds us → ds.length + us.length ≤ n → ∃ A' T', Iv (loopL n l) A' T' [] [] ∧ (loopL n l).sent = l.sent ∧ (loopL n l).offered = l.offered
  | 0, l, A, T, ds, us, h, hl => by
    have hd : ds = [] := List.eq_nil_of_length_eq_zero (by omega)
    have hu : us = [] := List.eq_nil_of_length_eq_zero (by omega)
    subst hd hu
    exact ⟨A, T, h, rfl, rfl⟩
  | n + 1, l, A, T, ds, us, h, hl => by
    have hdl : l.down.length = ds.length := by rw [h.dn, List.length_map]
    have hul : l.up.length = us.length := by rw [h.up, List.length_map]
    unfold loopL
    by_cases hp : 0 < ds.length + us.length
    · rw [if_pos (by omega)]
      obtain ⟨A', T', ds', us', h1, h2, h3, h4⟩ := iv_both h
      obtain ⟨A'', T'', g1, g2, g3⟩ := iv_loop n h1 (by have := h4 hp; omega)
      exact ⟨A'', T'', g1, g2.trans h2, g3.trans h3⟩
    · rw [if_neg (by omega)]
      have hd : ds = [] := List.eq_nil_of_length_eq_zero (by omega)
      have hu : us = [] := List.eq_nil_of_length_eq_zero (by omega)
      subst hd hu
      exact ⟨A, T, h, rfl, rfl⟩
/-- Behind an exchange nothing is on its way. -/
theorem iv_exch {l : Ln} {A T : Nat} {ds us : List (Nat × Nat × Bool)} (h : Iv l A T ds us) : ∃ A' T', Iv (exchL l) A' T' [] [] ∧ (exchL l).sent = l.sent ∧ (exchL l).offered = l.offered := by
  have hdl : l.down.length = ds.length := by rw [h.dn, List.length_map]
  have hul : l.up.length = us.length := by rw [h.up, List.length_map]
  have h20 := h.d20
  have hu20 := h.u20
  have hl : (if l.down.length < 20 then ds ++ [(A, l.heard, decide (A < l.sent))] else ds).length + us.length ≤ 50 := by
    split
    · rw [List.length_append]
      simp
      omega
    · omega
  obtain ⟨A', T', g1, g2, g3⟩ := iv_loop 50 (iv_next h).2 hl
  have s := nextL_same l
  exact ⟨A', T', g1, g2.trans s.1, g3.trans s.2.1⟩
/-- An exchange with nothing on its way: one command more is known to have come, what is told is heard, and what was heard is known to be. -/
theorem iv_empty {l : Ln} {A T : Nat} (h : Iv l A T [] []) : Iv (exchL l) (min (A + 1) l.sent) l.heard [] [] ∧ (exchL l).sent = l.sent ∧ (exchL l).offered = l.offered ∧ (exchL l).heard = l.offered := by
  have hd : l.down = [] := h.dn
  have hu : l.up = [] := h.up
  have n1 := (iv_next h).2
  rw [if_pos (by rw [hd]; decide)] at n1
  have s1 := nextL_same l
  have hth := h.th
  have hho := h.ho
  have hot := h.ot
  have hac := h.ac
  have hca := h.ca
  have hcs := h.cs
  have has := h.as
  have hnd : (nextL l).1.down.length = 1 := by rw [n1.dn]; rfl
  have hnu : (nextL l).1.up.length = 0 := by rw [s1.2.2.2.2, hu]; rfl
  have e1 : exchL l = loopL 49 (bothL (nextL l).1) := by
    show loopL (49 + 1) (nextL l).1 = _
    rw [loopL, if_pos (by omega)]
  generalize (nextL l).1 = l1 at *
  obtain ⟨_, T', ds', us', t2, t3, _, t4⟩ := iv_take n1
  obtain ⟨q1, q2, q3⟩ := t4 _ rfl (by decide)
  have s2 := takeL_same l1
  have hd' : ds' = [] := by have := (t3 (by simp) (by decide)).1; simp at this; exact this
  subst hd' q1 q2
  obtain ⟨_, A', us'', g5, g6, _, _, g7⟩ := iv_heard t2
  obtain ⟨r1, r2⟩ := g7 _ rfl
  simp only [List.nil_append, List.drop_one, List.tail_cons] at g6
  subst g6 r1
  have s3 := heardL_same (takeL l1).1
  have e2 : loopL 49 (bothL l1) = bothL l1 := by
    show loopL (48 + 1) (bothL l1) = _
    have a1 : (bothL l1).down = [] := g5.dn
    have a2 : (bothL l1).up = [] := g5.up
    rw [loopL, if_neg (by rw [a1, a2]; decide)]
  rw [e1, e2]
  have hcame : (takeL l1).1.came = min (A + 1) l.sent := by
    rw [q3, s1.2.2.2.1]
    simp only [decide_eq_true_eq]
    by_cases hA : A < l.sent
    · by_cases hAc : A = l.came
      · rw [if_pos ⟨hA, hAc⟩]; omega
      · rw [if_neg (fun hh => hAc hh.2)]; omega
    · rw [if_neg (fun hh => hA hh.1)]; omega
  refine ⟨?_, ?_, ?_, ?_⟩
  · show Iv (bothL l1) _ _ _ _
    rw [← hcame]
    exact g5
  · exact (s3.1.trans s2.1).trans s1.1
  · exact (s3.2.1.trans s2.2.1).trans s1.2.1
  · show (heardL (takeL l1).1).1.heard = l.offered
    rw [r2, s2.2.2, s1.2.2.1, s1.2.1]
    simp only [decide_eq_true_eq, and_true]
    split <;> omega
def exchN : Nat → Ln → Ln
  | 0, l => l
  | n + 1, l => exchN n (exchL l)
theorem exchN_succ : ∀ (n : Nat) (l : Ln), exchN (n + 1) l = exchL (exchN n l)
  | 0, l => rfl
  | n + 1, l => by rw [exchN, exchN_succ n (exchL l), exchN]
/-- Behind some exchanges with nothing on its way ahead of them. -/
theorem iv_many : ∀ (n : Nat) {l : Ln} {A T : Nat}, Iv l A T [] [] → ∃ T', Iv (exchN n l) (min (A + n) l.sent) T' [] [] ∧ (exchN n l).sent = l.sent ∧ (exchN n l).offered = l.offered ∧ (1 ≤ n → (exchN n l).heard = l.offered) ∧ (2 ≤ n → T' = l.offered)
  | 0, l, A, T, h => ⟨T, by rw [Nat.add_zero, Nat.min_eq_left h.as]; exact h, rfl, rfl, fun h0 => by omega, fun h0 => by omega⟩
  | n + 1, l, A, T, h => by
    obtain ⟨T', g1, g2, g3, g4, g5⟩ := iv_many n h
    obtain ⟨e1, e2, e3, e4⟩ := iv_empty g1
    rw [exchN_succ]
    refine ⟨(exchN n l).heard, ?_, e2.trans g2, e3.trans g3, fun _ => e4.trans g3, fun h2 => g4 (by omega)⟩
    rw [g2, show min (min (A + n) l.sent + 1) l.sent = min (A + (n + 1)) l.sent by have := h.as; omega] at e1
    exact e1
/-- Forty are enough. -/
theorem ivx_all {l : Ln} (h : Ivx l) : Ivx (exchN 40 l) ∧ (exchN 40 l).came = (exchN 40 l).sent ∧ (exchN 40 l).heard = (exchN 40 l).offered ∧ (exchN 40 l).m.q.length = 0 ∧ (exchN 40 l).s.pend = [] := by
  obtain ⟨A, T, ds, us, h⟩ := h
  obtain ⟨A1, T1, g1, g2, g3⟩ := iv_exch h
  obtain ⟨T2, k1, k2, k3, k4, k5⟩ := iv_many 39 g1
  have e : exchN 40 l = exchN 39 (exchL l) := rfl
  rw [e]
  have hq8 := g1.q8
  have has := g1.as
  have hmin : min (A1 + 39) (exchL l).sent = (exchL l).sent := by omega
  rw [hmin] at k1
  have hac := k1.ac
  have hcs := k1.cs
  refine ⟨⟨_, _, _, _, k1⟩, by omega, by rw [k4 (by decide), k3], ?_, ?_⟩
  · rw [k1.mm, k2]
    show (cmds _ _).length = 0
    rw [cmds_len]
    omega
  · rw [k1.sl, k3, k5 (by decide)]
    simp

end Go.Proofs.Ytabedmkhhlmbkaa
