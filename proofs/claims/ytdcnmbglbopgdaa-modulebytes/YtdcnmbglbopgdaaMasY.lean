/-
  Frames and steps of layer 7, as they come in.
-/
import Derived.Test.YtdcnmbglbopgdaaMasS
namespace Go.Proofs.Ytdcnmbglbopgdaa
set_option linter.unusedVariables false
set_option linter.unusedSimpArgs false
open Go.RowKit

/-- The cells of a frame that begins at a cell. -/
def FrameAt (w : World) (b o : Nat) (F : Fr) (A : Option Addr) (c : Nat) : Prop :=
  w.cell? ⟨b, o, none⟩ = some (.int .u8 (F.a : Int)) ∧ w.cell? ⟨b, o + 1, none⟩ = some (.int .u8 (F.k : Int)) ∧ w.cell? ⟨b, o + 2, none⟩ = some (.int .u8 (F.s : Int)) ∧ w.cell? ⟨b, o + 3, none⟩ = some (.int .u8 (F.q : Int)) ∧ w.cell? ⟨b, o + 4, none⟩ = some (.int .u8 (F.c : Int)) ∧ w.cell? ⟨b, o + 5, none⟩ = some (.slice A F.b.length c)
theorem FrameAt.keep {w x : World} {b o c : Nat} {F : Fr} {A : Option Addr} (h : FrameAt w b o F A c) (hb : Below w.heap.size w x) (hlt : b < w.heap.size) : FrameAt x b o F A c := by
  obtain ⟨h0, h1, h2, h3, h4, h5⟩ := h
  exact ⟨(hb.cell (p := ⟨b, o, none⟩) hlt).trans h0, (hb.cell (p := ⟨b, o + 1, none⟩) hlt).trans h1, (hb.cell (p := ⟨b, o + 2, none⟩) hlt).trans h2, (hb.cell (p := ⟨b, o + 3, none⟩) hlt).trans h3, (hb.cell (p := ⟨b, o + 4, none⟩) hlt).trans h4, (hb.cell (p := ⟨b, o + 5, none⟩) hlt).trans h5⟩
structure St7 where
  k : Int
  f : Fr
  own : Bool
/-- Steps as they come in. -/
def StepsAt (w : World) (P : Option Addr) (ss : List St7) : Prop :=
  ∀ i s, ss[i]? = some s → ∃ b o g A c, P = some ⟨b, o, none⟩ ∧ b < w.heap.size ∧ w.cell? ⟨b, o + i * 8, none⟩ = some (.int .i64 s.k) ∧ FrameAt w b (o + i * 8 + 1) s.f A c ∧ w.cell? ⟨b, o + i * 8 + 7, none⟩ = some (.bool s.own) ∧ s.f.Fits ∧ Holds w g A (bcs s.f.b) ∧ s.f.b.length ≤ c ∧ c ≤ maxLen

end Go.Proofs.Ytdcnmbglbopgdaa
