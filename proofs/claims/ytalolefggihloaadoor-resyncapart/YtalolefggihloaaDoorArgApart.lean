/-
  Arguments as they come in: a slice of bools.
-/
import Derived.Test.YtalolefggihloaaDoorFArgOwn
import Derived.Deep.Grids
namespace Go.Proofs.YtalolefggihloaaDoor
set_option linter.unusedVariables false
set_option linter.unusedSimpArgs false
open Go.RowKit Go.ChangeShapes Go.WideShapes Go.Deep

theorem bools_of_trod {H : Type} {enc : TypeId × Value → H} {W : World} {fuel : Nat} {A : Option Addr} {n c : Nat} {x : DataW H × List MemPlace}
    (hf : DataW.trod enc Tryd.prog W 0 (fun _ => true) true fuel 57 [.slice A n c] = some x) :
    ∃ (g : Nat) (l : List Bool), l.length = n ∧ Holds W g A (l.map Value.bool) ∧ n ≤ c ∧ c ≤ maxLen := by
  rcases open_bools Tryd.underlying57 Tryd.underlying4 (by kernel_rfl) hf with ⟨hcs, _⟩ | ⟨a, len, cap, B, hcs, _, hl, hm, _, hcell⟩
  · simp at hcs
    obtain ⟨rfl, rfl, rfl⟩ := hcs
    exact ⟨0, [], rfl, Holds.nil _ _ _, Nat.le_refl _, Nat.zero_le _⟩
  · simp at hcs
    obtain ⟨rfl, rfl, rfl⟩ := hcs
    refine ⟨a.block, (List.range n).map B, by simp, ?_, hl, hm⟩
    intro hp
    simp at hp
    have h0 := hcell 0 (by omega)
    obtain ⟨b, off, spot⟩ := a
    have hspot : spot = none := by simpa [Addr.add] using World.cell?_spot h0
    subst hspot
    have h0' : W.cell? ⟨b, off, none⟩ = some (.bool (B 0)) := by simpa [Addr.add] using h0
    refine ⟨World.block_lt_of_cell? W _ h0', off, rfl, fun j u hu => ?_⟩
    rw [List.map_map, List.getElem?_map] at hu
    by_cases hj : j < n
    · rw [List.getElem?_range hj] at hu
      have := hcell j (by omega)
      rw [addr_add] at this
      rw [this]
      simpa using hu
    · rw [List.getElem?_eq_none (by simpa using hj)] at hu
      cases hu

end Go.Proofs.YtalolefggihloaaDoor
