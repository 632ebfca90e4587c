/-
  A master as a law has it: from its block on, nothing turned that was there at the law's beginning.
-/
import Derived.Test.YtdcnmbglbopgdaaMasE
namespace Go.Proofs.Ytdcnmbglbopgdaa
set_option linter.unusedVariables false
set_option linter.unusedSimpArgs false
open Go.RowKit

theorem Hb.lit (x : World) (D : Nat) (l : List UInt8) (fz : Nat × Nat) : Hb (x.alloc (.cells (bcs l).toArray 5 fz)) D (some ⟨x.heap.size, 0, none⟩) l :=
  ⟨x.heap.size, Holds.of_row (heap_alloc_new x _), .inr (.inl ⟨_, _, _, heap_alloc_new x _, by simp⟩)⟩
theorem Hb.own {x : World} {B D n c : Nat} {A : Option Addr} {l : List UInt8} (h : x.ownsRow B 5 1 (.slice A n c) n (bcs l)) (hn : l.length = n) : Hb x D A l := by
  obtain ⟨g, h1, _⟩ := (Own1.mk (own_zero h) (B := 0) (fun _ _ => Nat.zero_le _) hn).holds
  by_cases hl : l.length = 0
  · exact ⟨g, h1, .inr (.inr hl)⟩
  · refine ⟨g, h1, .inr (.inl ?_)⟩
    obtain ⟨_, o, hA, _⟩ := h1 (by rw [bcs_length]; omega)
    rcases h.2 with ⟨_, h0⟩ | ⟨g', cap, cur, hv, _, hh, _⟩
    · omega
    · injection hv with hv
      rw [hA] at hv
      injection hv with hv
      injection hv with hv
      subst hv
      exact ⟨_, _, _, hh, by simp⟩

end Go.Proofs.Ytdcnmbglbopgdaa
