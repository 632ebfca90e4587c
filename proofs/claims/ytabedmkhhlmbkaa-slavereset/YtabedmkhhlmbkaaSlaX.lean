/-
  A line as the laws have it: what is read of it, whole.
-/
import Derived.Test.YtabedmkhhlmbkaaSlaT
import Derived.Test.YtabedmkhhlmbkaaSlaU
import Derived.Test.YtabedmkhhlmbkaaSlaLive
namespace Go.Proofs.Ytabedmkhhlmbkaa
set_option linter.unusedVariables false
set_option linter.unusedSimpArgs false
open Go.RowKit

theorem Lxx.below {w x : World} {L D S N : Nat} {l : Ln} (h : Lxx w L D S N l x) : Below w.heap.size w x := by
  obtain ⟨_, _, _, _, _, _, h⟩ := h
  exact h.below
theorem Lxx.step {w x y : World} {L D S N : Nat} {l : Ln} (h : Lxx w L D S N l x) (hb : Below x.heap.size x y) : Lxx w L D S N l y := by
  obtain ⟨_, _, _, _, _, _, h⟩ := h
  exact ⟨_, _, _, _, _, _, h.step hb⟩
theorem Lxx.mas {w x : World} {L D S N : Nat} {l : Ln} (h : Lxx w L D S N l x) : Lm w D N l.m x := by
  obtain ⟨_, _, _, _, _, _, h⟩ := h
  exact h.m
theorem Lxx.sla {w x : World} {L D S N : Nat} {l : Ln} (h : Lxx w L D S N l x) : Ls w S l.s x := by
  obtain ⟨_, _, _, _, _, _, h⟩ := h
  exact h.s
theorem Lxx.lc {w x : World} {L D S N : Nat} {l : Ln} (h : Lxx w L D S N l x) : ∃ Ad cd Au cu, Lc x L D S l (.slice Ad l.down.length cd) (.slice Au l.up.length cu) := by
  obtain ⟨_, _, _, _, _, _, h⟩ := h
  exact ⟨_, _, _, _, h.lc⟩
theorem Lxx.nums {w x : World} {L D S N : Nat} {l : Ln} (h : Lxx w L D S N l x) : l.sent ≤ N ∧ l.came ≤ N ∧ l.offered ≤ N ∧ l.heard ≤ N := by
  obtain ⟨_, _, _, _, _, _, h⟩ := h
  exact h.nums
theorem ivx_open : Ivx openL := ⟨0, 0, [], [], iv_open⟩

end Go.Proofs.Ytabedmkhhlmbkaa
