/-
  A poll of the program beside one of the document's.
-/
import Derived.Test.YtkghbdikbbeoaaaPolT
import Derived.Test.YtkghbdikbbeoaaaPolN
namespace Go.Proofs.Ytkghbdikbbeoaaa
set_option linter.unusedVariables false
set_option linter.unusedSimpArgs false
open Go.RowKit

theorem R9p.of_ge {w w' : World} {B R : Nat} {p : Po} (h : R9p w B R p) (hc : ∀ k, B ≤ k → k < w.heap.size → w'.heap[k]? = w.heap[k]?) : R9p w' B R p := by
  obtain ⟨A, g, c, k1, k2⟩ := h.at_
  exact ⟨h.le, A, g, c, (hc R h.le (Array.getElem?_eq_some_iff.1 k1).1).trans k1, fun hl => ⟨(k2 hl).1, (k2 hl).2.1, (k2 hl).2.2.of_eq (hc g (k2 hl).2.1 (k2 hl).2.2.lt)⟩⟩
theorem R9p.lt {w : World} {B R : Nat} {p : Po} (h : R9p w B R p) : R < w.heap.size := by
  obtain ⟨A, g, c, k1, _⟩ := h.at_
  exact (Array.getElem?_eq_some_iff.1 k1).1
/-- The two of them. -/
structure Tw (Pl : World → Nat → Nat → Nat → Po → Prop) (w : World) (L U D R : Nat) (p q : Po) (x : World) : Prop where
  a : Lp Pl w L U D p x
  b : R9p x R R q
  ur : U ≤ R
variable {Pl : World → Nat → Nat → Nat → Po → Prop}
theorem Tw.step {w x y : World} {L U D R : Nat} {p q : Po} (PC : PolCond Pl) (h : Tw Pl w L U D R p q x) (hb : Below x.heap.size x y) : Tw Pl w L U D R p q y := ⟨h.a.step PC hb, h.b.step hb, h.ur⟩
theorem Tw.one {w x y : World} {L U D R : Nat} {p q p' : Po} (h : Tw Pl w L U D R p q x) (h1 : Lp Pl w L U D p' y) (hc : Cr L U x y) : Tw Pl w L U D R p' q y :=
  ⟨h1, h.b.of_ge (fun k hk hl => hc.block k hl (.inr (by have := h.ur; omega))), h.ur⟩
theorem Tw.other {w x y : World} {L U D R : Nat} {p q q' : Po} (PC : PolCond Pl) (h : Tw Pl w L U D R p q x) (h1 : R9p y R R q') (hf : Ft R [40, 42] x y) : Tw Pl w L U D R p q' y :=
  ⟨h.a.low PC h.ur (hf.below (Nat.le_of_lt h.b.lt)), h1, h.ur⟩
/-- A block below both is written. -/
theorem Tw.near {w x y : World} {L U D R g : Nat} {p q : Po} (PC : PolCond Pl) (h : Tw Pl w L U D R p q x) (hc : Ch [g] x y) (hg : g < L) (hw : w.heap.size ≤ g) : Tw Pl w L U D R p q y := by
  have h1 := h.a.lu
  have h2 := h.ur
  have hcr : Cr g (g + 1) x y := ⟨hc.os, hc.tape, hc.output, hc.size, fun k hk hb => hc.block k hk (by simp; omega)⟩
  exact ⟨h.a.cr PC hcr (.inr (by omega)) hw, h.b.of_ge (fun k hk hl => hc.block k hl (by simp; omega)), h.ur⟩
theorem Bx9.ft {w y : World} {X B : Nat} {s : St9} {Ts : List TypeId} (h : Bx9 w X s) (hc : Ft B Ts w y) (hT : 30 ∉ Ts) : Bx9 y X s := hc.keep h hT

theorem Al9.holds {w : World} {B n c : Nat} {A : Option Addr} {bs : List UInt8} (h : Al9 w B n A c bs) : ∃ g, Holds w g A (bcs bs) := by
  rcases h.own.2 with ⟨hv, h0⟩ | ⟨g, cap, cur, hv, h1, hh, h3, h4, h5, h6⟩
  · have hb : bs = [] := List.eq_nil_of_length_eq_zero (by rw [h.len]; exact h0)
    subst hb
    exact ⟨0, Holds.nil _ _ _⟩
  · refine ⟨g, own_holds (n := n) (c := c) (e := 5) ⟨h.own.1, .inr ⟨g, cap, cur, hv, Nat.zero_le _, hh, h3, h4, h5, h6⟩⟩ ?_⟩
    intro g2 hg2
    rw [hv] at hg2
    simp [Value.ownBlock] at hg2
    exact hg2.symm

end Go.Proofs.Ytkghbdikbbeoaaa
