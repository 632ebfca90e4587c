/-
  slave's Take of a frame that is not for it, whatever its bytes; a step's frame; what layer 8's laws share.
-/
import Derived.Test.YtdcnmbglbopgdaaSlaD
import Derived.Deep.DeepCutAuto
import Derived.Great.BuildSlice
import Derived.Test.YtdcnmbglbopgdaaSlaM
import Derived.Test.YtdcnmbglbopgdaaMasH
namespace Go.Proofs.Ytdcnmbglbopgdaa
set_option linter.unusedVariables false
set_option linter.unusedSimpArgs false
open Go.RowKit

theorem StepsAt.keep {w x : World} {P : Option Addr} {ss : List St7} (h : StepsAt w P ss) (hb : Below w.heap.size w x) : StepsAt x P ss := by
  intro i s hs
  obtain ⟨b, o, g, A, c, h1, h2, h3, h4, h5, h6, h7, h8, h9⟩ := h i s hs
  exact ⟨b, o, g, A, c, h1, Nat.lt_of_lt_of_le h2 hb.size, (hb.cell (p := ⟨b, o + i * 8, none⟩) h2).trans h3, h4.keep hb h2, (hb.cell (p := ⟨b, o + i * 8 + 7, none⟩) h2).trans h5, h6, h7.keep (F := []) (Ch.of_below hb) (by simp), h8, h9⟩
/-- The eight cells of a step. -/
structure Sc8 (x : World) (b o i : Nat) (s : St7) (A : Option Addr) (c : Nat) : Prop where
  c0 : x.cell? ⟨b, o + i * 8, none⟩ = some (.int .i64 s.k)
  c1 : x.cell? ⟨b, o + i * 8 + 1, none⟩ = some (.int .u8 (s.f.a : Int))
  c2 : x.cell? ⟨b, o + i * 8 + 2, none⟩ = some (.int .u8 (s.f.k : Int))
  c3 : x.cell? ⟨b, o + i * 8 + 3, none⟩ = some (.int .u8 (s.f.s : Int))
  c4 : x.cell? ⟨b, o + i * 8 + 4, none⟩ = some (.int .u8 (s.f.q : Int))
  c5 : x.cell? ⟨b, o + i * 8 + 5, none⟩ = some (.int .u8 (s.f.c : Int))
  c6 : x.cell? ⟨b, o + i * 8 + 6, none⟩ = some (.slice A s.f.b.length c)
  c7 : x.cell? ⟨b, o + i * 8 + 7, none⟩ = some (.bool s.own)
theorem Sc8.step {w x : World} {b o i c : Nat} {s : St7} {A : Option Addr} (h : Sc8 w b o i s A c) (hb : Below w.heap.size w x) : Sc8 x b o i s A c := by
  have hl : b < w.heap.size := World.block_lt_of_cell? w _ h.c0
  exact ⟨(hb.cell (p := ⟨b, _, none⟩) hl).trans h.c0, (hb.cell (p := ⟨b, _, none⟩) hl).trans h.c1, (hb.cell (p := ⟨b, _, none⟩) hl).trans h.c2, (hb.cell (p := ⟨b, _, none⟩) hl).trans h.c3, (hb.cell (p := ⟨b, _, none⟩) hl).trans h.c4, (hb.cell (p := ⟨b, _, none⟩) hl).trans h.c5, (hb.cell (p := ⟨b, _, none⟩) hl).trans h.c6, (hb.cell (p := ⟨b, _, none⟩) hl).trans h.c7⟩
theorem StepsAt.at {w : World} {P : Option Addr} {ss : List St7} (h : StepsAt w P ss) (i : Nat) (hi : i < ss.length) : ∃ b o g A c, P = some ⟨b, o, none⟩ ∧ Sc8 w b o i ss[i] A c ∧ ss[i].f.Fits ∧ Holds w g A (bcs ss[i].f.b) ∧ ss[i].f.b.length ≤ c ∧ c ≤ maxLen := by
  obtain ⟨b, o, g, A, c, h1, h2, h3, ⟨q0, q1, q2, q3, q4, q5⟩, h5, h6, h7, h8, h9⟩ := h i _ (List.getElem?_eq_getElem hi)
  exact ⟨b, o, g, A, c, h1, ⟨h3, q0, q1, q2, q3, q4, q5, h5⟩, h6, h7, h8, h9⟩

/-- The document's frame in a row of its own. -/
def Rx (w : World) (X : Nat) (f : Fr) : Prop := w.heap[X]? = some (.cells (rcs f) 42 (0, 0))
theorem Rx.ft {w w' : World} {B X : Nat} {T : List TypeId} {f : Fr} (h : Rx w X f) (hc : Ft B T w w') (hT : 42 ∉ T) : Rx w' X f := hc.keep h hT
theorem Rx.step {w w' : World} {X : Nat} {f : Fr} (h : Rx w X f) (hb : Below w.heap.size w w') : Rx w' X f := (hb.block X (Array.getElem?_eq_some_iff.1 h).1).trans h
theorem Ls.base {w0 w x : World} {D : Nat} {s : Sl} (h : Ls w0 D s x) (hb : Below w.heap.size w w0) : Ls w D s x := ⟨h.sv, h.ok, hb.trans (h.below.mono hb.size), Nat.le_trans hb.size h.le⟩
end Go.Proofs.Ytdcnmbglbopgdaa
