/-
  Frames and steps of layer 7, as they come in.
-/
import Derived.Test.YtabedmkhhlmbkaaMasL
namespace Go.Proofs.Ytabedmkhhlmbkaa
set_option linter.unusedVariables false
set_option linter.unusedSimpArgs false
open Go.RowKit

theorem frame_row {x : World} {X : Nat} {v0 v1 v2 v3 v4 v5 : Value} (h : x.heap[X]? = some (.cells #[v0, v1, v2, v3, v4, v5] 30 (0, 0))) :
    x.cell? ⟨X, 0, none⟩ = some v0 ∧ x.cell? ⟨X, 1, none⟩ = some v1 ∧ x.cell? ⟨X, 2, none⟩ = some v2 ∧ x.cell? ⟨X, 3, none⟩ = some v3 ∧ x.cell? ⟨X, 4, none⟩ = some v4 ∧ x.cell? ⟨X, 5, none⟩ = some v5 ∧
    x.frozen? ⟨X, 0, none⟩ = false ∧ x.frozen? ⟨X, 1, none⟩ = false ∧ x.frozen? ⟨X, 2, none⟩ = false ∧ x.frozen? ⟨X, 3, none⟩ = false ∧ x.frozen? ⟨X, 4, none⟩ = false ∧ x.frozen? ⟨X, 5, none⟩ = false := by
  simp [World.cell?, World.frozen?, h]
theorem frame_set {x : World} {X : Nat} {v0 v1 v2 v3 v4 v5 : Value} (h : x.heap[X]? = some (.cells #[v0, v1, v2, v3, v4, v5] 30 (0, 0))) (a k s q c : Int) (V : Value) :
    (sets X [(0, .int .u8 a), (1, .int .u8 k), (2, .int .u8 s), (3, .int .u8 q), (4, .int .u8 c), (5, V)] x).heap[X]? = some (.cells #[.int .u8 a, .int .u8 k, .int .u8 s, .int .u8 q, .int .u8 c, V] 30 (0, 0)) ∧ Ch [X] x (sets X [(0, .int .u8 a), (1, .int .u8 k), (2, .int .u8 s), (3, .int .u8 q), (4, .int .u8 c), (5, V)] x) := by
  obtain ⟨h1, h2⟩ := sets_row [(0, .int .u8 a), (1, .int .u8 k), (2, .int .u8 s), (3, .int .u8 q), (4, .int .u8 c), (5, V)] h
  exact ⟨h1.trans (by simp [setsA]), h2⟩

/-- The cells of a frame that begins at a cell. -/
def FrameAt (w : World) (b o : Nat) (F : Fr) (A : Option Addr) (c : Nat) : Prop :=
  w.cell? ⟨b, o, none⟩ = some (.int .u8 (F.a : Int)) ∧ w.cell? ⟨b, o + 1, none⟩ = some (.int .u8 (F.k : Int)) ∧ w.cell? ⟨b, o + 2, none⟩ = some (.int .u8 (F.s : Int)) ∧ w.cell? ⟨b, o + 3, none⟩ = some (.int .u8 (F.q : Int)) ∧ w.cell? ⟨b, o + 4, none⟩ = some (.int .u8 (F.c : Int)) ∧ w.cell? ⟨b, o + 5, none⟩ = some (.slice A F.b.length c)
theorem FrameAt.keep {w x : World} {b o c : Nat} {F : Fr} {A : Option Addr} (h : FrameAt w b o F A c) (hb : Below w.heap.size w x) (hlt : b < w.heap.size) : FrameAt x b o F A c := by
  obtain ⟨h0, h1, h2, h3, h4, h5⟩ := h
  exact ⟨(hb.cell (p := ⟨b, o, none⟩) hlt).trans h0, (hb.cell (p := ⟨b, o + 1, none⟩) hlt).trans h1, (hb.cell (p := ⟨b, o + 2, none⟩) hlt).trans h2, (hb.cell (p := ⟨b, o + 3, none⟩) hlt).trans h3, (hb.cell (p := ⟨b, o + 4, none⟩) hlt).trans h4, (hb.cell (p := ⟨b, o + 5, none⟩) hlt).trans h5⟩
/-- Frames as they come in. -/
def FramesAt (w : World) (P : Option Addr) (fs : List Fr) : Prop :=
  ∀ k F, fs[k]? = some F → ∃ b o g A c, P = some ⟨b, o, none⟩ ∧ b < w.heap.size ∧ FrameAt w b (o + k * 6) F A c ∧ F.Fits ∧ Holds w g A (bcs F.b) ∧ F.b.length ≤ c ∧ c ≤ maxLen
structure St7 where
  k : Int
  f : Fr
  own : Bool
/-- Steps as they come in. -/
def StepsAt (w : World) (P : Option Addr) (ss : List St7) : Prop :=
  ∀ i s, ss[i]? = some s → ∃ b o g A c, P = some ⟨b, o, none⟩ ∧ b < w.heap.size ∧ w.cell? ⟨b, o + i * 8, none⟩ = some (.int .i64 s.k) ∧ FrameAt w b (o + i * 8 + 1) s.f A c ∧ w.cell? ⟨b, o + i * 8 + 7, none⟩ = some (.bool s.own) ∧ s.f.Fits ∧ Holds w g A (bcs s.f.b) ∧ s.f.b.length ≤ c ∧ c ≤ maxLen

end Go.Proofs.Ytabedmkhhlmbkaa
