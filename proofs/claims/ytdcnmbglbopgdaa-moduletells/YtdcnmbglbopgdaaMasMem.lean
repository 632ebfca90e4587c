/-
  A master in memory, and what turns it; a frame by its cells; a slice of one's own whose first is left out.
-/
import Derived.Test.YtdcnmbglbopgdaaFClone
import Derived.Test.YtdcnmbglbopgdaaMasMath
import Derived.Laws.ResultCell
import Derived.Laws.Rows
namespace Go.Proofs.Ytdcnmbglbopgdaa
set_option linter.unusedVariables false
set_option linter.unusedSimpArgs false
open Go.RowKit

/-- Cells of one block, set one behind the other. -/
abbrev sets (D : Nat) (l : List (Nat × Value)) (w : World) : World := l.foldl (fun x p => x.setCell ⟨D, p.1, none⟩ p.2) w
abbrev setsA (l : List (Nat × Value)) (cs : Array Value) : Array Value := l.foldl (fun x p => x.setIfInBounds p.1 p.2) cs
theorem sets_row {D : Nat} {t : TypeId} : ∀ (l : List (Nat × Value)) {w : World} {cs : Array Value}, w.heap[D]? = some (.cells cs t (0, 0)) → (sets D l w).heap[D]? = some (.cells (setsA l cs) t (0, 0)) ∧ Ch [D] w (sets D l w)
  | [], _, _, h => ⟨h, Ch.refl _ _⟩
  | p :: l, w, cs, h => by
    obtain ⟨h1, h2⟩ := sets_row l (heap_setCell_same w D p.1 cs t p.2 h)
    exact ⟨h1, ((Ch.refl [D] w).setCell (p := ⟨D, p.1, none⟩) (by simp) p.2).trans h2⟩

theorem frame_struct : ∃ fs, Try.prog.underlying 36 = some (.struct fs) := ⟨_, Try.underlying36⟩
theorem frame_size : (Try.prog.info? 36).map (·.size) = some 6 := by kernel_rfl
theorem results_row {P : Program} {fn : Func} {p : Tmp} {ty : TypeId} (h : fn.results = #[.cell p ty]) (tmps : Array Value) (w : World) (g : Nat) (t : TypeId) (cs : Array Value) (fr : Nat × Nat)
    (hp : tmps.getD p undef = .pointer (some ⟨g, 0, none⟩)) (hg : w.heap[g]? = some (.cells cs t fr))
    (hu : ∃ fs, P.underlying ty = some (.struct fs)) (hi : (P.info? ty).map (·.size) = some cs.size) :
    (results fn tmps).run P w = .ok (.agg cs) w := by
  obtain ⟨fs, hu⟩ := hu
  exact results_cell_row h tmps w g t cs fr _ hp hg hu rfl hi

/-- The cells of a frame whose bytes are the slice V. -/
abbrev fcs (f : Fr) (V : Value) : Array Value := #[.int .u8 (f.a : Int), .int .u8 (f.k : Int), .int .u8 (f.s : Int), .int .u8 (f.q : Int), .int .u8 (f.c : Int), V]
/-- A frame in a block. -/
def Fx (w : World) (X : Nat) (f : Fr) (V : Value) : Prop := w.heap[X]? = some (.cells (fcs f V) 36 (0, 0))
structure Fc (w : World) (X : Nat) (f : Fr) (V : Value) : Prop where
  c0 : w.cell? ⟨X, 0, none⟩ = some (.int .u8 (f.a : Int))
  c1 : w.cell? ⟨X, 1, none⟩ = some (.int .u8 (f.k : Int))
  c2 : w.cell? ⟨X, 2, none⟩ = some (.int .u8 (f.s : Int))
  c3 : w.cell? ⟨X, 3, none⟩ = some (.int .u8 (f.q : Int))
  c4 : w.cell? ⟨X, 4, none⟩ = some (.int .u8 (f.c : Int))
  c5 : w.cell? ⟨X, 5, none⟩ = some V
  fz : ∀ i, w.frozen? ⟨X, i, none⟩ = false
theorem Fx.fc {w : World} {X : Nat} {f : Fr} {V : Value} (h : Fx w X f V) : Fc w X f V := by
  unfold Fx at h
  constructor
  all_goals first | (simp [World.cell?, h]; done) | (intro i; simp [World.frozen?, h])
theorem Fx.lt {w : World} {X : Nat} {f : Fr} {V : Value} (h : Fx w X f V) : X < w.heap.size := (Array.getElem?_eq_some_iff.1 h).1
theorem Fx.ft {w w' : World} {B X : Nat} {T : List TypeId} {f : Fr} {V : Value} (h : Fx w X f V) (hc : Ft B T w w') (hT : 36 ∉ T) : Fx w' X f V := hc.keep h hT
theorem Fx.step {w w' : World} {X : Nat} {f : Fr} {V : Value} (h : Fx w X f V) (hb : Below w.heap.size w w') : Fx w' X f V := (hb.block X h.lt).trans h

theorem Rs.drop {w : World} {B : Nat} {vs : List Value} {ps : List (List UInt8)} (h : Rs w B vs ps) : Rs w B (vs.drop 1) (ps.drop 1) :=
  ⟨by rw [List.length_drop, List.length_drop, h.len], fun j v l h1 h2 => h.own (1 + j) v l (by rw [List.getElem?_drop] at h1; exact h1) (by rw [List.getElem?_drop] at h2; exact h2)⟩

end Go.Proofs.Ytdcnmbglbopgdaa
