/-
  Words of my own for memory: bytes as cells, a change that keeps to a list of blocks, a slice that holds cells. Nothing of the program is named here.
-/
import Derived.WalkKit
import Derived.Lib.Hide
import Derived.Laws.CopyOwn
import Derived.Maps.AppendAt
namespace Go.Proofs.Ytdcnmbglbopgdaa
set_option linter.unusedVariables false
set_option linter.unusedSimpArgs false
open Go.RowKit

/-- Bytes as the cells of a row. -/
def bcs (l : List UInt8) : List Value := l.map fun b => .int .u8 (b.toNat : Int)
theorem bcs_length (l : List UInt8) : (bcs l).length = l.length := by simp [bcs]
theorem bcs_append (a b : List UInt8) : bcs (a ++ b) = bcs a ++ bcs b := by simp [bcs]
theorem bcs_one (l : List UInt8) : ∀ v ∈ bcs l, v.oneCell' = true := by
  intro v hv
  simp only [bcs, List.mem_map] at hv
  obtain ⟨b, _, rfl⟩ := hv
  rfl

/-- Only blocks of the list F, and new ones, have turned. -/
structure Ch (F : List Nat) (w w' : World) : Prop where
  os : w'.os = w.os
  tape : w'.tape = w.tape
  output : w'.output = w.output
  size : w.heap.size ≤ w'.heap.size
  block : ∀ k, k < w.heap.size → k ∉ F → w'.heap[k]? = w.heap[k]?

theorem Ch.refl (F : List Nat) (w : World) : Ch F w w := ⟨rfl, rfl, rfl, Nat.le_refl _, fun _ _ _ => rfl⟩
theorem Ch.trans {F : List Nat} {a b c : World} (h : Ch F a b) (k : Ch F b c) : Ch F a c :=
  ⟨k.os.trans h.os, k.tape.trans h.tape, k.output.trans h.output, Nat.le_trans h.size k.size,
   fun i hi hf => (k.block i (Nat.lt_of_lt_of_le hi h.size) hf).trans (h.block i hi hf)⟩
theorem Ch.mono {F G : List Nat} {a b : World} (h : Ch F a b) (hG : ∀ x ∈ F, x < a.heap.size → x ∈ G) : Ch G a b :=
  ⟨h.os, h.tape, h.output, h.size, fun i hi hf => h.block i hi (fun hF => hf (hG i hF hi))⟩
theorem Ch.alloc {F : List Nat} {a w : World} (h : Ch F a w) (o : Obj) : Ch F a (w.alloc o) :=
  h.trans ⟨rfl, rfl, rfl, by simp, fun k hk _ => Below.heap_alloc _ _ _ hk⟩
theorem Ch.drew {F : List Nat} {a w : World} (h : Ch F a w) : Ch F a w.drew := ⟨h.os, h.tape, h.output, h.size, h.block⟩
theorem Ch.setCell {F : List Nat} {a w : World} (h : Ch F a w) {p : Addr} (hp : p.block < a.heap.size → p.block ∈ F) (u : Value) : Ch F a (w.setCell p u) :=
  ⟨h.os, h.tape, h.output, by simpa [World.setCell] using h.size, fun k hk hf => (Below.heap_setCell w p u k (fun e => hf (by subst e; exact hp hk))).trans (h.block k hk hf)⟩
theorem Ch.of_below {w w' : World} (h : Below w.heap.size w w') : Ch [] w w' := ⟨h.os, h.tape, h.output, h.size, fun k hk _ => h.block k hk⟩
theorem Ch.below {F : List Nat} {w w' : World} (h : Ch F w w') (hF : ∀ x ∈ F, ¬ x < w.heap.size) : Below w.heap.size w w' :=
  ⟨h.os, h.tape, h.output, h.size, fun k hk => h.block k hk (fun hm => hF k hm hk)⟩
theorem Ch.belowAt {F : List Nat} {B : Nat} {w w' : World} (h : Ch F w w') (hF : ∀ x ∈ F, B ≤ x) (hB : B ≤ w.heap.size) : Below B w w' :=
  ⟨h.os, h.tape, h.output, h.size, fun k hk => h.block k (by omega) (fun hm => by have := hF k hm; omega)⟩
theorem Ch.grown {F : List Nat} {a w w' : World} {row : Option Nat} (h : Ch F a w) (hg : w.grownBy w' row) (hr : ∀ k, row = some k → k < a.heap.size → k ∈ F) : Ch F a w' :=
  ⟨hg.os.trans h.os, hg.tape.trans h.tape, hg.output.trans h.output, Nat.le_trans h.size hg.size,
   fun k hk hf => (hg.block k (Nat.lt_of_lt_of_le hk h.size) (fun e => hf (hr k e.symm hk))).trans (h.block k hk hf)⟩
theorem Ch.cell {F : List Nat} {w w' : World} (h : Ch F w w') {p : Addr} (hp : p.block < w.heap.size) (hf : p.block ∉ F) : w'.cell? p = w.cell? p := World.cell?_of_block (h.block p.block hp hf)
theorem Ch.frozen {F : List Nat} {w w' : World} (h : Ch F w w') {p : Addr} (hp : p.block < w.heap.size) (hf : p.block ∉ F) : w'.frozen? p = w.frozen? p := World.frozen?_of_block (h.block p.block hp hf)

/-- A slice that begins at A holds these cells, in block g. -/
def Holds (w : World) (g : Nat) (A : Option Addr) (cs : List Value) : Prop :=
  0 < cs.length → g < w.heap.size ∧ ∃ o, A = some ⟨g, o, none⟩ ∧ ∀ j u, cs[j]? = some u → w.cell? ⟨g, o + j, none⟩ = some u

theorem Holds.nil (w : World) (g : Nat) (A : Option Addr) : Holds w g A [] := fun h => absurd h (by simp)
theorem Holds.keep {F : List Nat} {w w' : World} {g : Nat} {A : Option Addr} {cs : List Value} (h : Holds w g A cs) (hc : Ch F w w') (hg : 0 < cs.length → g ∉ F) : Holds w' g A cs := by
  intro hl
  obtain ⟨h1, o, rfl, h2⟩ := h hl
  exact ⟨Nat.lt_of_lt_of_le h1 hc.size, o, rfl, fun j u hu => (hc.cell (p := ⟨g, o + j, none⟩) h1 (hg hl)).trans (h2 j u hu)⟩
theorem Holds.drop {w : World} {g : Nat} {A : Option Addr} {cs : List Value} (h : Holds w g A cs) (k cap : Nat) (hk : k ≤ cs.length) (hc : cs.length ≤ cap) :
    Holds w g (if cap = k then A else A.map (·.add k)) (cs.drop k) := by
  intro hl
  rw [List.length_drop] at hl
  obtain ⟨h1, o, rfl, h2⟩ := h (by omega)
  refine ⟨h1, o + k, ?_, fun j u hu => ?_⟩
  · rw [if_neg (by omega)]
    by_cases hk0 : k = 0 <;> simp [Addr.add, hk0]
  · rw [List.getElem?_drop] at hu
    rw [Nat.add_assoc]
    exact h2 _ u hu
theorem Holds.take {w : World} {g : Nat} {A : Option Addr} {cs : List Value} (h : Holds w g A cs) (k : Nat) : Holds w g A (cs.take k) := by
  intro hl
  rw [List.length_take] at hl
  obtain ⟨h1, o, rfl, h2⟩ := h (by omega)
  refine ⟨h1, o, rfl, fun j u hu => h2 j u ?_⟩
  rw [List.getElem?_take] at hu
  split at hu
  · exact hu
  · cases hu
/-- A row that is known whole. -/
theorem Holds.of_row {w : World} {g : Nat} {cs : List Value} {t : TypeId} {fz : Nat × Nat} (h : w.heap[g]? = some (.cells cs.toArray t fz)) : Holds w g (some ⟨g, 0, none⟩) cs := by
  intro _
  refine ⟨(Array.getElem?_eq_some_iff.1 h).1, 0, rfl, fun j u hu => ?_⟩
  simp [World.cell?, h, hu]

end Go.Proofs.Ytdcnmbglbopgdaa
