/-
  Arguments as they come in: a slice of slices of bytes.
-/
import Derived.Test.YthpalepkilmpiaaFArgs
import Derived.Test.YthpalepkilmpiaaWireL
import Derived.Deep.Slices
namespace Go.Proofs.Ythpalepkilmpiaa
set_option linter.unusedVariables false
set_option linter.unusedSimpArgs false
open Go.RowKit Go.ChangeShapes Go.WideShapes Go.Deep

/-- One slice of bytes, as a reading has it. -/
theorem bytes_of_trod {H : Type} {enc : TypeId × Value → H} {W : World} {fuel : Nat} {v : Value} {x : DataW H × List MemPlace}
    (hf : DataW.trod enc Try.prog W 0 (fun _ => true) true fuel 28 [v] = some x) :
    ∃ (l : List UInt8) (g : Nat) (A : Option Addr) (c : Nat), v = .slice A l.length c ∧ Holds W g A (bcs l) ∧ l.length ≤ c ∧ c ≤ maxLen := by
  rcases open_ints Try.underlying28 Try.underlying5 (by kernel_rfl) hf with ⟨hcs, _⟩ | ⟨a, len, c, zs, hcs, _, hl, hm, hz, _, hcell, hwz⟩
  · simp at hcs
    subst hcs
    exact ⟨[], 0, none, 0, rfl, Holds.nil _ _ _, Nat.le_refl _, Nat.zero_le _⟩
  · simp at hcs
    subst hcs
    have hz' : zs.length = c := by simpa using hz
    obtain ⟨g, l, hl', hh'⟩ := holds_of_ints (len := len) (by omega) hcell hwz
    subst hl'
    exact ⟨l, g, some a, c, rfl, hh', hl, hm⟩

theorem inparts_of_trod {H : Type} {enc : TypeId × Value → H} {W : World} {fuel : Nat} {P : Option Addr} {n c : Nat} {x : DataW H × List MemPlace}
    (hf : DataW.trod enc Try.prog W 0 (fun _ => true) true fuel 35 [.slice P n c] = some x) :
    ∃ ps : List (List UInt8), InParts W P ps ∧ ps.length = n ∧ n ≤ c ∧ c ≤ maxLen := by
  rcases open_slice1 Try.underlying35 (by kernel_rfl) hf with ⟨hcs, _⟩ | ⟨a, len, cap, m, k, V, D, Pl, hcs, _, hl, hm, hmm, _, hx⟩
  · simp at hcs
    obtain ⟨rfl, rfl, rfl⟩ := hcs
    exact ⟨[], fun k l hk => by simp at hk, rfl, Nat.le_refl _, Nat.zero_le _⟩
  · simp at hcs
    obtain ⟨rfl, rfl, rfl⟩ := hcs
    have hmm' : m = c := by simpa using hmm
    subst hmm'
    have hex : ∀ i, i < n → ∃ l : List UInt8, ∃ (g : Nat) (A : Option Addr) (c : Nat), V i = .slice A l.length c ∧ Holds W g A (bcs l) ∧ l.length ≤ c ∧ c ≤ maxLen := fun i hi => bytes_of_trod (hx i (by omega)).2
    obtain ⟨f, hfx⟩ := choose_lt hex
    refine ⟨(List.range n).map f, fun k l hk => ?_, by simp, hl, hm⟩
    have hkn : k < n := by
      rcases Nat.lt_or_ge k n with h | h
      · exact h
      · rw [List.getElem?_eq_none (by simpa using h)] at hk; cases hk
    have hl' : l = f k := by
      rw [List.getElem?_map, List.getElem?_range hkn] at hk
      simpa using hk.symm
    subst hl'
    obtain ⟨g, A, c', hV, hh, h1, h2⟩ := hfx k hkn
    have hc := (hx k (by omega)).1
    obtain ⟨b, off, spot⟩ := a
    have hspot : spot = none := by
      have h0 := World.cell?_spot (hx 0 (by omega)).1
      simpa [Addr.add] using h0
    subst hspot
    rw [addr_add, hV] at hc
    exact ⟨b, off, g, A, c', rfl, World.block_lt_of_cell? W _ hc, hc, h1, by unfold maxLen at h2; exact h2, hh⟩

end Go.Proofs.Ythpalepkilmpiaa
