/-
  A slave in memory, and what its calls must be shown to answer (SlaCond, shown in SlaK): the laws' walks are written over these conditions.
-/
import Derived.Test.YtdcnmbglbopgdaaSlaMem
namespace Go.Proofs.Ytdcnmbglbopgdaa
set_option linter.unusedVariables false
set_option linter.unusedSimpArgs false
open Go.RowKit

abbrev scs (s : Sl) (V : Value) : Array Value := #[.int .u8 (s.ses : Int), .int .u8 (s.tell : Int), .int .u8 (s.nx : Int), .int .u8 (s.addr : Int), V]
/-- A slave at D, from B on. -/
structure Sv (w : World) (B D : Nat) (s : Sl) : Prop where
  le : B ≤ D
  at_ : ∃ A c, w.heap[D]? = some (.cells (scs s (.slice A s.pend.length c)) 85 (0, 0)) ∧ w.ownsRow B 5 1 (.slice A s.pend.length c) s.pend.length (bcs s.pend)
theorem Sv.ft {w w' : World} {B B' D : Nat} {T : List TypeId} {s : Sl} (h : Sv w B D s) (hc : Ft B' T w w') (h1 : 85 ∉ T) (h2 : 5 ∉ T) : Sv w' B D s := by
  obtain ⟨A, c, k1, k2⟩ := h.at_
  exact ⟨h.le, A, c, hc.keep k1 h1, own_ft k2 hc h2⟩
theorem Sv.step {w w' : World} {B D : Nat} {s : Sl} (h : Sv w B D s) (hb : Below w.heap.size w w') : Sv w' B D s := h.ft (B' := 0) (T := []) (Ft.of_below hb) (by simp) (by simp)
theorem Sv.lt {w : World} {B D : Nat} {s : Sl} (h : Sv w B D s) : D < w.heap.size := by
  obtain ⟨A, c, k1, _⟩ := h.at_
  exact (Array.getElem?_eq_some_iff.1 k1).1
/-- What is read and written of it. -/
structure Sc (w : World) (D : Nat) (s : Sl) (V : Value) : Prop where
  c0 : w.cell? ⟨D, 0, none⟩ = some (.int .u8 (s.ses : Int))
  c1 : w.cell? ⟨D, 1, none⟩ = some (.int .u8 (s.tell : Int))
  c2 : w.cell? ⟨D, 2, none⟩ = some (.int .u8 (s.nx : Int))
  c3 : w.cell? ⟨D, 3, none⟩ = some (.int .u8 (s.addr : Int))
  c4 : w.cell? ⟨D, 4, none⟩ = some V
  fz : ∀ i, w.frozen? ⟨D, i, none⟩ = false
theorem sc_of {w : World} {D : Nat} {s : Sl} {V : Value} (h : w.heap[D]? = some (.cells (scs s V) 85 (0, 0))) : Sc w D s V := by
  constructor
  all_goals first | (simp [World.cell?, h]; done) | (intro i; simp [World.frozen?, h])
theorem Sv.sc {w : World} {B D : Nat} {s : Sl} (h : Sv w B D s) : ∃ A c, Sc w D s (.slice A s.pend.length c) := by
  obtain ⟨A, c, k1, _⟩ := h.at_
  exact ⟨A, c, sc_of k1⟩
/-- Some of its cells are set, but not what is pending. -/
theorem Sv.turn {w : World} {B D : Nat} {s : Sl} (h : Sv w B D s) (l : List (Nat × Value)) (s' : Sl) (hp : s'.pend = s.pend) (hc : ∀ V, setsA l (scs s V) = scs s' V) : Sv (sets D l w) B D s' ∧ Ft B [85] w (sets D l w) := by
  obtain ⟨A, c, k1, k2⟩ := h.at_
  obtain ⟨h1, h2⟩ := sets_row l k1
  have hft : Ft B [85] w (sets D l w) := Ft.of_ch h2 (fun y hy _ => by simp at hy; subst hy; exact ⟨h.le, _, _, _, k1, by simp⟩)
  rw [hc] at h1
  refine ⟨⟨h.le, A, c, ?_, ?_⟩, hft⟩
  · rw [hp]; exact h1
  · rw [hp]; exact own_ft k2 hft (by decide)
/-- .. and what is pending too. -/
theorem Sv.turnp {w x : World} {B D : Nat} {s : Sl} {T : List TypeId} (h : Sv w B D s) (hx : Ft B T w x) (hT : 85 ∉ T) (l : List (Nat × Value)) (s' : Sl) {A' : Option Addr} {c' : Nat}
    (ho : x.ownsRow B 5 1 (.slice A' s'.pend.length c') s'.pend.length (bcs s'.pend)) (hc : ∀ V, setsA l (scs s V) = scs s' (.slice A' s'.pend.length c')) : Sv (sets D l x) B D s' ∧ Ft B [85] x (sets D l x) := by
  obtain ⟨A, c, k0, _⟩ := h.at_
  have k1 := hx.keep k0 hT
  obtain ⟨h1, h2⟩ := sets_row l k1
  have hft : Ft B [85] x (sets D l x) := Ft.of_ch h2 (fun y hy _ => by simp at hy; subst hy; exact ⟨h.le, _, _, _, k1, by simp⟩)
  rw [hc] at h1
  exact ⟨⟨h.le, A', c', h1, own_ft ho hft (by decide)⟩, hft⟩
structure Ls (w : World) (D : Nat) (s : Sl) (x : World) : Prop where
  sv : Sv x D D s
  ok : s.Ok
  below : Below w.heap.size w x
  le : w.heap.size ≤ D
theorem Ls.ft {w x y : World} {B D : Nat} {T : List TypeId} {s : Sl} (h : Ls w D s x) (hc : Ft B T x y) (hB : w.heap.size ≤ B) (h1 : 85 ∉ T) (h2 : 5 ∉ T) : Ls w D s y :=
  ⟨h.sv.ft hc h1 h2, h.ok, h.below.trans ((hc.mono hB (T' := T) (fun _ h => h)).below h.below.size), h.le⟩
theorem Ls.step {w x y : World} {D : Nat} {s : Sl} (h : Ls w D s x) (hb : Below x.heap.size x y) : Ls w D s y := h.ft (B := w.heap.size) (T := []) (Ft.of_below hb) (Nat.le_refl _) (by simp) (by simp)

end Go.Proofs.Ytdcnmbglbopgdaa
