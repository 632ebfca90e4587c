/-
  master's settle, fresh and Send, as they landed: what they answer.
-/
import Derived.Test.YtdcnmbglbopgdaaMasA
import Derived.Test.YtdcnmbglbopgdaaFLast
namespace Go.Proofs.Ytdcnmbglbopgdaa
set_option linter.unusedVariables false
set_option linter.unusedSimpArgs false
open Go.RowKit

theorem Rs.one {w : World} {B : Nat} {vs : List Value} {ps : List (List UInt8)} (h : Rs w B vs ps) : ∀ v ∈ vs, v.oneCell' = true := by
  intro v hv
  obtain ⟨j, hj, rfl⟩ := List.mem_iff_getElem.1 hv
  obtain ⟨A, c, hf⟩ := ownB_form (h.own j vs[j] (ps[j]'(by rw [← h.len]; exact hj)) (List.getElem?_eq_getElem hj) (List.getElem?_eq_getElem _))
  rw [hf]
  rfl

/-- A slice of bytes that is there; if its block lies from B on, it is one of bytes. -/
def Hb (w : World) (B : Nat) (A : Option Addr) (l : List UInt8) : Prop := ∃ g, Holds w g A (bcs l) ∧ (g < B ∨ BlockIn w g [5] ∨ l.length = 0)
theorem Hb.ft {w w' : World} {B B' : Nat} {T : List TypeId} {A : Option Addr} {l : List UInt8} (h : Hb w B A l) (hc : Ft B' T w w') (hT : 5 ∉ T) (hB : B ≤ B' := by exact Nat.le_refl _) : Hb w' B A l := by
  obtain ⟨g, h1, h2⟩ := h
  by_cases hl : l.length = 0
  · exact ⟨g, fun hp => by rw [bcs_length] at hp; omega, .inr (.inr hl)⟩
  · have h3 := (h1 (by rw [bcs_length]; omega)).1
    have hk : w'.heap[g]? = w.heap[g]? := by
      rcases h2 with h2 | ⟨cs, e, fz, h2, h4⟩ | h2
      · exact hc.block g h3 (.inl (by omega))
      · simp at h4
        subst h4
        exact (hc.keep h2 hT).trans h2.symm
      · exact absurd h2 hl
    refine ⟨g, fun hp => ?_, ?_⟩
    · obtain ⟨k1, o, k2, k3⟩ := h1 hp
      exact ⟨Nat.lt_of_lt_of_le k1 hc.size, o, k2, fun j u hu => (World.cell?_of_block hk).trans (k3 j u hu)⟩
    · rcases h2 with h2 | ⟨cs, e, fz, h2, h4⟩ | h2
      · exact .inl h2
      · exact .inr (.inl ⟨cs, e, fz, hk.trans h2, h4⟩)
      · exact .inr (.inr h2)
theorem Hb.step {w w' : World} {B : Nat} {A : Option Addr} {l : List UInt8} (h : Hb w B A l) (hb : Below w.heap.size w w') : Hb w' B A l := by
  obtain ⟨g, h1, h2⟩ := h
  refine ⟨g, h1.keep (F := []) (Ch.of_below hb) (by simp), ?_⟩
  rcases h2 with h2 | ⟨cs, e, fz, h2, h4⟩ | h2
  · exact .inl h2
  · exact .inr (.inl ⟨cs, e, fz, (hb.block g (Array.getElem?_eq_some_iff.1 h2).1).trans h2, h4⟩)
  · exact .inr (.inr h2)
end Go.Proofs.Ytdcnmbglbopgdaa
