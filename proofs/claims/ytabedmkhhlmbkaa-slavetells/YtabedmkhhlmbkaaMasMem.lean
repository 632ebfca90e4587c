/-
  A master in memory, and what turns it; a frame by its cells; a slice of one's own whose first is left out.
-/
import Derived.Test.YtabedmkhhlmbkaaFClone
import Derived.Test.YtabedmkhhlmbkaaMasMath
import Derived.Laws.ResultCell
import Derived.Laws.Rows
namespace Go.Proofs.Ytabedmkhhlmbkaa
set_option linter.unusedVariables false
set_option linter.unusedSimpArgs false
open Go.RowKit

/-- Cells of one block, set one behind the other. -/
abbrev sets (D : Nat) (l : List (Nat × Value)) (w : World) : World := l.foldl (fun x p => x.setCell ⟨D, p.1, none⟩ p.2) w
abbrev setsA (l : List (Nat × Value)) (cs : Array Value) : Array Value := l.foldl (fun x p => x.setIfInBounds p.1 p.2) cs
theorem sets_row {D : Nat} {t : TypeId} : ∀ (l : List (Nat × Value)) {w : World} {cs : Array Value}, w.heap[D]? = some (.cells cs t (0, 0)) → (sets D l w).heap[D]? = some (.cells (setsA l cs) t (0, 0)) ∧ Ch [D] w (sets D l w)
  | [], _, _, h => ⟨h, Ch.refl _ _⟩
  | p :: l, w, cs, h => by
    obtain ⟨h1, h2⟩ := sets_row l (heap_setCell_same w D p.1 cs t p.2 h)
    exact ⟨h1, ((Ch.refl [D] w).setCell (p := ⟨D, p.1, none⟩) (by simp) p.2).trans h2⟩

abbrev mcs (m : Ma) (V : Value) : Array Value := #[.int .u8 (m.sent : Int), .int .u8 (m.hrd : Int), .int .u8 (m.addr : Int), .int .u8 (m.ses : Int), .int .i64 m.tries, .int .i64 (m.st : Int), .int .i64 (m.ep : Int), .int .i64 (m.ms : Int), V]
/-- A master at D, from B on. -/
structure Ms (w : World) (B D : Nat) (m : Ma) : Prop where
  le : B ≤ D
  at_ : ∃ A c vs, w.heap[D]? = some (.cells (mcs m (.slice A m.q.length c)) 80 (0, 0)) ∧ Que w B 28 1 A m.q.length c vs ∧ Rs w B vs m.q
theorem Ms.ft {w w' : World} {B B' D : Nat} {T : List TypeId} {m : Ma} (h : Ms w B D m) (hc : Ft B' T w w') (h1 : 80 ∉ T) (h2 : 28 ∉ T) (h3 : 5 ∉ T) : Ms w' B D m := by
  obtain ⟨A, c, vs, k1, k2, k3⟩ := h.at_
  exact ⟨h.le, A, c, vs, hc.keep k1 h1, k2.ft hc h2, k3.ft hc h3⟩
theorem Ms.step {w w' : World} {B D : Nat} {m : Ma} (h : Ms w B D m) (hb : Below w.heap.size w w') : Ms w' B D m := h.ft (B' := 0) (T := []) (Ft.of_below hb) (by simp) (by simp) (by simp)
theorem Ms.lt {w : World} {B D : Nat} {m : Ma} (h : Ms w B D m) : D < w.heap.size := by
  obtain ⟨A, c, vs, k1, _⟩ := h.at_
  exact (Array.getElem?_eq_some_iff.1 k1).1
/-- What is read and written of it. -/
structure Mc (w : World) (D : Nat) (m : Ma) (V : Value) : Prop where
  c0 : w.cell? ⟨D, 0, none⟩ = some (.int .u8 (m.sent : Int))
  c1 : w.cell? ⟨D, 1, none⟩ = some (.int .u8 (m.hrd : Int))
  c2 : w.cell? ⟨D, 2, none⟩ = some (.int .u8 (m.addr : Int))
  c3 : w.cell? ⟨D, 3, none⟩ = some (.int .u8 (m.ses : Int))
  c4 : w.cell? ⟨D, 4, none⟩ = some (.int .i64 m.tries)
  c5 : w.cell? ⟨D, 5, none⟩ = some (.int .i64 (m.st : Int))
  c6 : w.cell? ⟨D, 6, none⟩ = some (.int .i64 (m.ep : Int))
  c7 : w.cell? ⟨D, 7, none⟩ = some (.int .i64 (m.ms : Int))
  c8 : w.cell? ⟨D, 8, none⟩ = some V
  fz : ∀ i, w.frozen? ⟨D, i, none⟩ = false
theorem mc_of {w : World} {D : Nat} {m : Ma} {V : Value} (h : w.heap[D]? = some (.cells (mcs m V) 80 (0, 0))) : Mc w D m V := by
  constructor
  all_goals first | (simp [World.cell?, h]; done) | (intro i; simp [World.frozen?, h])
theorem Ms.mc {w : World} {B D : Nat} {m : Ma} (h : Ms w B D m) : ∃ A c, Mc w D m (.slice A m.q.length c) := by
  obtain ⟨A, c, vs, k1, _⟩ := h.at_
  exact ⟨A, c, mc_of k1⟩
/-- Some of its cells are set, but not its commands. -/
theorem Ms.turn {w : World} {B D : Nat} {m : Ma} (h : Ms w B D m) (l : List (Nat × Value)) (m' : Ma) (hq : m'.q = m.q) (hc : ∀ V, setsA l (mcs m V) = mcs m' V) : Ms (sets D l w) B D m' ∧ Ft B [80] w (sets D l w) := by
  obtain ⟨A, c, vs, k1, k2, k3⟩ := h.at_
  obtain ⟨h1, h2⟩ := sets_row l k1
  have hft : Ft B [80] w (sets D l w) := Ft.of_ch h2 (fun y hy _ => by simp at hy; subst hy; exact ⟨h.le, _, _, _, k1, by simp⟩)
  rw [hc] at h1
  refine ⟨⟨h.le, A, c, vs, ?_, ?_, ?_⟩, hft⟩
  · rw [hq]; exact h1
  · rw [hq]; exact k2.ft hft (by decide)
  · rw [hq]; exact k3.ft hft (by decide)
/-- .. and its commands too. -/
theorem Ms.turnq {w x : World} {B D : Nat} {m : Ma} {T : List TypeId} (h : Ms w B D m) (hx : Ft B T w x) (hT : 80 ∉ T) (l : List (Nat × Value)) (m' : Ma) {A' : Option Addr} {c' : Nat} {vs' : List Value}
    (hq : Que x B 28 1 A' m'.q.length c' vs') (hr : Rs x B vs' m'.q) (hc : ∀ V, setsA l (mcs m V) = mcs m' (.slice A' m'.q.length c')) : Ms (sets D l x) B D m' ∧ Ft B [80] x (sets D l x) := by
  obtain ⟨A, c, vs, k0, _⟩ := h.at_
  have k1 := hx.keep k0 hT
  obtain ⟨h1, h2⟩ := sets_row l k1
  have hft : Ft B [80] x (sets D l x) := Ft.of_ch h2 (fun y hy _ => by simp at hy; subst hy; exact ⟨h.le, _, _, _, k1, by simp⟩)
  rw [hc] at h1
  exact ⟨⟨h.le, A', c', vs', h1, hq.ft hft (by decide), hr.ft hft (by decide)⟩, hft⟩

theorem frame_struct : ∃ fs, Try.prog.underlying 30 = some (.struct fs) := ⟨_, Try.underlying30⟩
theorem frame_size : (Try.prog.info? 30).map (·.size) = some 6 := by kernel_rfl
theorem results_row {P : Program} {fn : Func} {p : Tmp} {ty : TypeId} (h : fn.results = #[.cell p ty]) (tmps : Array Value) (w : World) (g : Nat) (t : TypeId) (cs : Array Value) (fr : Nat × Nat)
    (hp : tmps.getD p undef = .pointer (some ⟨g, 0, none⟩)) (hg : w.heap[g]? = some (.cells cs t fr))
    (hu : ∃ fs, P.underlying ty = some (.struct fs)) (hi : (P.info? ty).map (·.size) = some cs.size) :
    (results fn tmps).run P w = .ok (.agg cs) w := by
  obtain ⟨fs, hu⟩ := hu
  exact results_cell_row h tmps w g t cs fr _ hp hg hu rfl hi

/-- The cells of a frame whose bytes are the slice V. -/
abbrev fcs (f : Fr) (V : Value) : Array Value := #[.int .u8 (f.a : Int), .int .u8 (f.k : Int), .int .u8 (f.s : Int), .int .u8 (f.q : Int), .int .u8 (f.c : Int), V]
/-- A frame in a block. -/
def Fx (w : World) (X : Nat) (f : Fr) (V : Value) : Prop := w.heap[X]? = some (.cells (fcs f V) 30 (0, 0))
structure Fc (w : World) (X : Nat) (f : Fr) (V : Value) : Prop where
  c0 : w.cell? ⟨X, 0, none⟩ = some (.int .u8 (f.a : Int))
  c1 : w.cell? ⟨X, 1, none⟩ = some (.int .u8 (f.k : Int))
  c2 : w.cell? ⟨X, 2, none⟩ = some (.int .u8 (f.s : Int))
  c3 : w.cell? ⟨X, 3, none⟩ = some (.int .u8 (f.q : Int))
  c4 : w.cell? ⟨X, 4, none⟩ = some (.int .u8 (f.c : Int))
  c5 : w.cell? ⟨X, 5, none⟩ = some V
  fz : ∀ i, w.frozen? ⟨X, i, none⟩ = false
theorem Fx.fc {w : World} {X : Nat} {f : Fr} {V : Value} (h : Fx w X f V) : Fc w X f V := by
  unfold Fx at h
  constructor
  all_goals first | (simp [World.cell?, h]; done) | (intro i; simp [World.frozen?, h])
theorem Fx.lt {w : World} {X : Nat} {f : Fr} {V : Value} (h : Fx w X f V) : X < w.heap.size := (Array.getElem?_eq_some_iff.1 h).1
theorem Fx.ft {w w' : World} {B X : Nat} {T : List TypeId} {f : Fr} {V : Value} (h : Fx w X f V) (hc : Ft B T w w') (hT : 30 ∉ T) : Fx w' X f V := hc.keep h hT
theorem Fx.step {w w' : World} {X : Nat} {f : Fr} {V : Value} (h : Fx w X f V) (hb : Below w.heap.size w w') : Fx w' X f V := (hb.block X h.lt).trans h

/-- Its first left out, as slices.Delete does. -/
theorem Que.delete {w : World} {B n c g o : Nat} {e : TypeId} {xs vs : List Value} (h : Que w B e 1 (some ⟨g, o, none⟩) n c xs) (hn : 0 < n) (hv : vs.length = 1) :
    Que ((w.setCells g o (xs.drop 1)).setCells g (o + (n - 1)) vs) B e 1 (some ⟨g, o, none⟩) (n - 1) c (xs.drop 1) ∧ Ft B [e] w ((w.setCells g o (xs.drop 1)).setCells g (o + (n - 1)) vs) := by
  rcases h.2 with ⟨h1, _⟩ | ⟨g', o', cur, h1, h2, h3, h4, h5, h6, h7⟩
  · cases h1
  · injection h1 with h1
    injection h1 with hg ho
    subst hg ho
    have hx := h.1
    have hd : (xs.drop 1).length = n - 1 := by rw [List.length_drop, hx]; omega
    obtain ⟨k1, cur1, k2, k3, k4, k5⟩ := setCells_heap (xs.drop 1) o w cur h3
    obtain ⟨r1, cur2, r2, r3, r4, r5⟩ := setCells_heap vs (o + (n - 1)) _ cur1 k2
    refine ⟨⟨by rw [hd]; omega, .inr ⟨g, o, cur2, rfl, h2, r2, by omega, h5, by omega, fun j u hu => ?_⟩⟩, Ft.of_ch (k1.trans r1) (fun x hx _ => by simp at hx; subst hx; exact ⟨h2, cur, e, _, h3, by simp⟩)⟩
    have hj : j < (xs.drop 1).length := by
      rcases Nat.lt_or_ge j (xs.drop 1).length with h | h
      · exact h
      · rw [List.getElem?_eq_none h] at hu; cases hu
    rw [r4 (o + j) (by omega), k5 j hj (by omega)]
    exact hu
theorem Rs.drop {w : World} {B : Nat} {vs : List Value} {ps : List (List UInt8)} (h : Rs w B vs ps) : Rs w B (vs.drop 1) (ps.drop 1) :=
  ⟨by rw [List.length_drop, List.length_drop, h.len], fun j v l h1 h2 => h.own (1 + j) v l (by rw [List.getElem?_drop] at h1; exact h1) (by rw [List.getElem?_drop] at h2; exact h2)⟩

end Go.Proofs.Ytabedmkhhlmbkaa
