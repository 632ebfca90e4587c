/-
  An object in memory whose form is not known: a list F of blocks is its own; what a call turns lies in F, what it has then lies in F or is new. No function of the program is named here.
-/
import Derived.Test.YtdcnmbglbopgdaaFMem
import Derived.Test.YtdcnmbglbopgdaaWireMem
namespace Go.Proofs.Ytdcnmbglbopgdaa
set_option linter.unusedVariables false
set_option linter.unusedSimpArgs false
open Go.RowKit

/-- What is known of the blocks V behind a call. -/
structure Vs (V : List Nat) (x y : World) : Prop where
  os : y.os = x.os
  tape : y.tape = x.tape
  output : y.output = x.output
  size : x.heap.size ≤ y.heap.size
  block : ∀ k ∈ V, y.heap[k]? = x.heap[k]?
theorem Vs.of_below {V : List Nat} {x y : World} (h : Below x.heap.size x y) (hV : ∀ k ∈ V, k < x.heap.size) : Vs V x y := ⟨h.os, h.tape, h.output, h.size, fun k hk => h.block k (hV k hk)⟩
theorem Vs.trans {V : List Nat} {a b c : World} (h : Vs V a b) (k : Vs V b c) : Vs V a c := ⟨k.os.trans h.os, k.tape.trans h.tape, k.output.trans h.output, Nat.le_trans h.size k.size, fun i hi => (k.block i hi).trans (h.block i hi)⟩
theorem Vs.less {V V' : List Nat} {a b : World} (h : Vs V a b) (hV : ∀ k ∈ V', k ∈ V) : Vs V' a b := ⟨h.os, h.tape, h.output, h.size, fun k hk => h.block k (hV k hk)⟩
theorem Vs.of_ch {V : List Nat} {Y : Nat} {x y : World} (h : Ch [Y] x y) (hV : ∀ k ∈ V, k < x.heap.size) (hY : Y ∉ V) : Vs V x y :=
  ⟨h.os, h.tape, h.output, h.size, fun k hk => h.block k (hV k hk) (by simp; rintro rfl; exact hY hk)⟩
section
variable {S : Type} {Op : World → List Nat → Nat → S → Prop}
/-- An object stays as long as its blocks do. -/
structure Keeps (Op : World → List Nat → Nat → S → Prop) : Prop where
  keep : ∀ {w w' : World} {F : List Nat} {D : Nat} {s : S}, Op w F D s → (∀ k ∈ F, w'.heap[k]? = w.heap[k]?) → Op w' F D s
  lt : ∀ {w : World} {F : List Nat} {D : Nat} {s : S}, Op w F D s → ∀ k ∈ F, k < w.heap.size
/-- An object behind a call on it. -/
def Oq (Op : World → List Nat → Nat → S → Prop) (F : List Nat) (x y : World) (D : Nat) (s : S) : Prop := ∃ F', Op y F' D s ∧ Ch F x y ∧ ∀ k ∈ F', k ∈ F ∨ x.heap.size ≤ k
/-- An object in a call that began at w; the blocks V are none of its own. -/
structure Lo (Op : World → List Nat → Nat → S → Prop) (w : World) (V : List Nat) (D : Nat) (s : S) (x : World) : Prop where
  ex : ∃ F, Op x F D s ∧ ∀ k ∈ F, w.heap.size ≤ k ∧ k ∉ V
  below : Below w.heap.size w x
  vs : ∀ k ∈ V, k < x.heap.size
theorem Lo.step {w x y : World} {V : List Nat} {D : Nat} {s : S} (K : Keeps Op) (h : Lo Op w V D s x) (hb : Below x.heap.size x y) : Lo Op w V D s y := by
  obtain ⟨F, h1, h2⟩ := h.ex
  exact ⟨⟨F, K.keep h1 (fun k hk => hb.block k (K.lt h1 k hk)), h2⟩, h.below.trans (hb.mono h.below.size), fun k hk => Nat.lt_of_lt_of_le (h.vs k hk) hb.size⟩
theorem Lo.less {w x : World} {V V' : List Nat} {D : Nat} {s : S} (h : Lo Op w V D s x) (hV : ∀ k ∈ V', k ∈ V) : Lo Op w V' D s x := by
  obtain ⟨F, h1, h2⟩ := h.ex
  exact ⟨⟨F, h1, fun k hk => ⟨(h2 k hk).1, fun hv => (h2 k hk).2 (hV k hv)⟩⟩, h.below, fun k hk => h.vs k (hV k hk)⟩
theorem Lo.base {w x y : World} {V : List Nat} {D : Nat} {s : S} (h : Lo Op x V D s y) (hb : Below w.heap.size w x) : Lo Op w V D s y := by
  obtain ⟨F, h1, h2⟩ := h.ex
  have := hb.size
  exact ⟨⟨F, h1, fun k hk => ⟨by have := (h2 k hk).1; omega, (h2 k hk).2⟩⟩, hb.trans (h.below.mono hb.size), h.vs⟩
/-- Blocks that came behind are none of its own. -/
theorem Lo.mores {w x y : World} {V G : List Nat} {D : Nat} {s : S} (K : Keeps Op) (h : Lo Op w V D s x) (hb : Below x.heap.size x y) (hG : ∀ g ∈ G, x.heap.size ≤ g ∧ g < y.heap.size) : Lo Op w (G ++ V) D s y := by
  have h' := h.step K hb
  obtain ⟨F, q1, q2⟩ := h.ex
  refine ⟨⟨F, K.keep q1 (fun k hk => hb.block k (K.lt q1 k hk)), fun k hk => ⟨(q2 k hk).1, ?_⟩⟩, h'.below, ?_⟩
  · have h3 := K.lt q1 k hk
    rw [List.mem_append]
    rintro (h4 | h4)
    · have := (hG k h4).1; omega
    · exact (q2 k hk).2 h4
  · intro k hk
    rcases List.mem_append.1 hk with hk | hk
    · exact (hG k hk).2
    · exact h'.vs k hk
theorem Lo.moreg {w x y : World} {V : List Nat} {D g : Nat} {s : S} (K : Keeps Op) (h : Lo Op w V D s x) (hb : Below x.heap.size x y) (h1 : x.heap.size ≤ g) (h2 : g < y.heap.size) : Lo Op w (g :: V) D s y :=
  h.mores K hb (G := [g]) (by intro k hk; simp at hk; subst hk; exact ⟨h1, h2⟩)
theorem Lo.more {w x y : World} {V : List Nat} {D : Nat} {s : S} (K : Keeps Op) (h : Lo Op w V D s x) (hb : Below x.heap.size x y) (hy : x.heap.size < y.heap.size) : Lo Op w (x.heap.size :: V) D s y := h.moreg K hb (Nat.le_refl _) hy
/-- Blocks of V are written, others of this call, or new ones. -/
theorem Lo.offs {w x y : World} {V G : List Nat} {D : Nat} {s : S} (K : Keeps Op) (h : Lo Op w V D s x) (hc : Ch G x y) (hG : ∀ g ∈ G, g ∈ V ∧ w.heap.size ≤ g) : Lo Op w V D s y := by
  obtain ⟨F, h1, h2⟩ := h.ex
  refine ⟨⟨F, K.keep h1 (fun k hk => hc.block k (K.lt h1 k hk) ?_), h2⟩, ?_, fun k hk => Nat.lt_of_lt_of_le (h.vs k hk) hc.size⟩
  · exact fun hk2 => (h2 k hk).2 (hG k hk2).1
  · exact h.below.trans ⟨hc.os, hc.tape, hc.output, hc.size, fun k hk => hc.block k (by have := h.below.size; omega) (fun hk2 => by have := (hG k hk2).2; omega)⟩
theorem Lo.off {w x y : World} {V : List Nat} {D X : Nat} {s : S} (K : Keeps Op) (h : Lo Op w V D s x) (hc : Ch [X] x y) (hX : X ∈ V) (hw : w.heap.size ≤ X) : Lo Op w V D s y :=
  h.offs K hc (by intro g hg; simp at hg; subst hg; exact ⟨hX, hw⟩)
/-- A call on it. -/
theorem Lo.turn {w x y : World} {V F : List Nat} {D : Nat} {s s' : S} (h : Lo Op w V D s x) (hF : ∀ k ∈ F, w.heap.size ≤ k ∧ k ∉ V) (hq : Oq Op F x y D s') : Lo Op w V D s' y ∧ Vs V x y := by
  obtain ⟨F', h1, h2, h3⟩ := hq
  have hs := h.below.size
  have hVs : Vs V x y := ⟨h2.os, h2.tape, h2.output, h2.size, fun k hk => h2.block k (h.vs k hk) (fun hf => (hF k hf).2 hk)⟩
  refine ⟨⟨⟨F', h1, fun k hk => ?_⟩, ?_, fun k hk => Nat.lt_of_lt_of_le (h.vs k hk) h2.size⟩, hVs⟩
  · rcases h3 k hk with h4 | h4
    · exact hF k h4
    · exact ⟨by omega, fun hv => by have := h.vs k hv; omega⟩
  · exact h.below.trans ⟨h2.os, h2.tape, h2.output, h2.size, fun k hk => h2.block k (by omega) (fun hf => by have := (hF k hf).1; omega)⟩
/-- A call on it whose blocks lie in a list G beside V turns, of the blocks of G and V, none of V. -/
theorem Lo.new {w x y : World} {F : List Nat} {D : Nat} {s : S} (hb : Below w.heap.size w x) (h : Op y F D s) (h2 : Below x.heap.size x y) (h3 : ∀ k ∈ F, x.heap.size ≤ k) : Lo Op w [] D s y := by
  have := hb.size
  exact ⟨⟨F, h, fun k hk => ⟨by have := h3 k hk; omega, by simp⟩⟩, hb.trans (h2.mono hb.size), by simp⟩
/-- No block of it is of the types T. -/
def NoTy (Op : World → List Nat → Nat → S → Prop) (T : List TypeId) : Prop := ∀ {w : World} {F : List Nat} {D : Nat} {s : S}, Op w F D s → ∀ k ∈ F, ¬ BlockIn w k T
theorem Lo.addty {w x : World} {V : List Nat} {D g : Nat} {s : S} {T : List TypeId} (N : NoTy Op T) (h : Lo Op w V D s x) (hg : BlockIn x g T) : Lo Op w (g :: V) D s x := by
  obtain ⟨F, h1, h2⟩ := h.ex
  refine ⟨⟨F, h1, fun k hk => ⟨(h2 k hk).1, ?_⟩⟩, h.below, fun k hk => ?_⟩
  · simp
    refine ⟨?_, (h2 k hk).2⟩
    rintro rfl
    exact N h1 k hk hg
  · rcases List.mem_cons.1 hk with rfl | hk
    · obtain ⟨_, _, _, k1, _⟩ := hg
      exact (Array.getElem?_eq_some_iff.1 k1).1
    · exact h.vs k hk
theorem Lo.ftm {w x y : World} {V : List Nat} {D : Nat} {s : S} {T : List TypeId} (K : Keeps Op) (N : NoTy Op T) (h : Lo Op w V D s x) (hf : Ft w.heap.size T x y) : Lo Op w V D s y := by
  obtain ⟨F, h1, h2⟩ := h.ex
  exact ⟨⟨F, K.keep h1 (fun k hk => hf.block k (K.lt h1 k hk) (.inr (N h1 k hk))), h2⟩, h.below.trans (hf.below h.below.size), fun k hk => Nat.lt_of_lt_of_le (h.vs k hk) hf.size⟩
/-- Two objects, side by side. -/
structure Lo2 {S S' : Type} (Op : World → List Nat → Nat → S → Prop) (Oz : World → List Nat → Nat → S' → Prop) (w : World) (V : List Nat) (D : Nat) (s : S) (D' : Nat) (s' : S') (x : World) : Prop where
  ex : ∃ F', Lo Op w (F' ++ V) D s x ∧ Oz x F' D' s' ∧ ∀ k ∈ F', w.heap.size ≤ k ∧ k ∉ V
/-- A call on the first one. -/
theorem Lo2.turn {S S' : Type} {Op : World → List Nat → Nat → S → Prop} {Oz : World → List Nat → Nat → S' → Prop} {w x y : World} {V F' : List Nat} {D D' : Nat} {s : S} {s' : S'} (K' : Keeps Oz) (h2 : Oz x F' D' s') (h3 : ∀ k ∈ F', w.heap.size ≤ k ∧ k ∉ V) (hl : Lo Op w (F' ++ V) D s y) (hv : Vs (F' ++ V) x y) : Lo2 Op Oz w V D s D' s' y ∧ Vs V x y :=
  ⟨⟨F', hl, K'.keep h2 (fun k hk => hv.block k (List.mem_append.2 (.inl hk))), h3⟩, hv.less (fun k hk => List.mem_append.2 (.inr hk))⟩
theorem Lo2.step {S S' : Type} {Op : World → List Nat → Nat → S → Prop} {Oz : World → List Nat → Nat → S' → Prop} {w x y : World} {V : List Nat} {D D' : Nat} {s : S} {s' : S'} (K : Keeps Op) (K' : Keeps Oz) (h : Lo2 Op Oz w V D s D' s' x) (hb : Below x.heap.size x y) : Lo2 Op Oz w V D s D' s' y := by
  obtain ⟨F', h1, h2, h3⟩ := h.ex
  exact ⟨F', h1.step K hb, K'.keep h2 (fun k hk => hb.block k (K'.lt h2 k hk)), h3⟩
theorem Lo2.mores {S S' : Type} {Op : World → List Nat → Nat → S → Prop} {Oz : World → List Nat → Nat → S' → Prop} {w x y : World} {V G : List Nat} {D D' : Nat} {s : S} {s' : S'} (K : Keeps Op) (K' : Keeps Oz) (h : Lo2 Op Oz w V D s D' s' x) (hb : Below x.heap.size x y) (hG : ∀ g ∈ G, x.heap.size ≤ g ∧ g < y.heap.size) : Lo2 Op Oz w (G ++ V) D s D' s' y := by
  obtain ⟨F', h1, h2, h3⟩ := h.ex
  refine ⟨F', (h1.mores K hb hG).less (fun k hk => ?_), K'.keep h2 (fun k hk => hb.block k (K'.lt h2 k hk)), fun k hk => ⟨(h3 k hk).1, fun hm => ?_⟩⟩
  · simp only [List.mem_append] at hk ⊢
    rcases hk with h | h | h <;> simp [h]
  · rcases List.mem_append.1 hm with hm | hm
    · have := (hG k hm).1; have := K'.lt h2 k hk; omega
    · exact (h3 k hk).2 hm
theorem Lo2.less {S S' : Type} {Op : World → List Nat → Nat → S → Prop} {Oz : World → List Nat → Nat → S' → Prop} {w x : World} {V V' : List Nat} {D D' : Nat} {s : S} {s' : S'} (h : Lo2 Op Oz w V D s D' s' x) (hV : ∀ k ∈ V', k ∈ V) : Lo2 Op Oz w V' D s D' s' x := by
  obtain ⟨F', h1, h2, h3⟩ := h.ex
  exact ⟨F', h1.less (fun k hk => by rcases List.mem_append.1 hk with h | h; exact List.mem_append.2 (.inl h); exact List.mem_append.2 (.inr (hV k h))), h2, fun k hk => ⟨(h3 k hk).1, fun hm => (h3 k hk).2 (hV k hm)⟩⟩
/-- Blocks of V are written. -/
theorem Lo2.offs {S S' : Type} {Op : World → List Nat → Nat → S → Prop} {Oz : World → List Nat → Nat → S' → Prop} {w x y : World} {V G : List Nat} {D D' : Nat} {s : S} {s' : S'} (K : Keeps Op) (K' : Keeps Oz) (h : Lo2 Op Oz w V D s D' s' x) (hc : Ch G x y) (hG : ∀ g ∈ G, g ∈ V ∧ w.heap.size ≤ g) : Lo2 Op Oz w V D s D' s' y := by
  obtain ⟨F', h1, h2, h3⟩ := h.ex
  exact ⟨F', h1.offs K hc (fun g hg => ⟨List.mem_append.2 (.inr (hG g hg).1), (hG g hg).2⟩), K'.keep h2 (fun k hk => hc.block k (K'.lt h2 k hk) (fun hm => (h3 k hk).2 (hG k hm).1)), h3⟩
/-- The second one is new. -/
theorem Lo2.new {S S' : Type} {Op : World → List Nat → Nat → S → Prop} {Oz : World → List Nat → Nat → S' → Prop} {w x y : World} {V F : List Nat} {D D' : Nat} {s : S} {s' : S'} (K : Keeps Op) (K' : Keeps Oz) (h : Lo Op w V D s x) (h2 : Oz y F D' s') (hb : Below x.heap.size x y) (h3 : ∀ k ∈ F, x.heap.size ≤ k) : Lo2 Op Oz w V D s D' s' y :=
  ⟨F, h.mores K hb (G := F) (fun g hg => ⟨h3 g hg, K'.lt h2 g hg⟩), h2, fun k hk => ⟨by have := h3 k hk; have := h.below.size; omega, fun hv => by have := h3 k hk; have := h.vs k hv; omega⟩⟩
theorem Lo2.below {S S' : Type} {Op : World → List Nat → Nat → S → Prop} {Oz : World → List Nat → Nat → S' → Prop} {w x : World} {V : List Nat} {D D' : Nat} {s : S} {s' : S'} (h : Lo2 Op Oz w V D s D' s' x) : Below w.heap.size w x := by
  obtain ⟨F', h1, _⟩ := h.ex
  exact h1.below
end
end Go.Proofs.Ytdcnmbglbopgdaa
