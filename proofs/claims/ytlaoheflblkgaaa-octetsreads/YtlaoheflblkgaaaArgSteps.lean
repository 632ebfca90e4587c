/-
  Arguments as they come in: a slice of steps.
-/
import Derived.Test.YtlaoheflblkgaaaReadsWalk
import Derived.Test.YtlaoheflblkgaaaArgs
import Derived.Deep.SlicePairs
namespace Go.Proofs.Ytlaoheflblkgaaa
set_option linter.unusedVariables false
set_option linter.unusedSimpArgs false
open Go.RowKit Go.ChangeShapes Go.WideShapes Go.Deep

theorem steps_of_trod {H : Type} {enc : TypeId × Value → H} {W : World} {fuel : Nat} {P : Option Addr} {n c : Nat} {x : DataW H × List MemPlace}
    (hf : DataW.trod enc Try.prog W 0 (fun _ => true) true fuel 23 [.slice P n c] = some x) :
    ∃ st : List (Int × Int), StepsAt W P st ∧ st.length = n ∧ n ≤ c ∧ c ≤ maxLen := by
  rcases open_slice_pairs Try.underlying23 Try.underlying33 (by kernel_rfl) rfl rfl (by kernel_rfl) (by kernel_rfl) hf with ⟨hcs, _⟩ | ⟨a, len, cap, m, k, V0, V1, D0, D1, P0, P1, hcs, _, hl, hm, hmm, _, hx⟩
  · simp at hcs
    obtain ⟨rfl, rfl, rfl⟩ := hcs
    exact ⟨[], fun k l hk => by simp at hk, rfl, Nat.le_refl _, Nat.zero_le _⟩
  · simp at hcs
    obtain ⟨rfl, rfl, rfl⟩ := hcs
    have hmm' : m = c := by simpa using hmm
    subst hmm'
    have hex : ∀ i, i < n → ∃ p : Int × Int, V0 i = .int .i64 p.1 ∧ V1 i = .int .i64 p.2 := by
      intro i hi
      obtain ⟨_, _, h0, h1⟩ := hx i (by omega)
      obtain ⟨n0, e0, _, _⟩ := DataW.trod_int Try.underlying3 h0
      obtain ⟨n1, e1, _, _⟩ := DataW.trod_int Try.underlying3 h1
      exact ⟨(n0, n1), by simpa using e0, by simpa using e1⟩
    obtain ⟨f, hfx⟩ := choose_lt hex
    refine ⟨(List.range n).map f, fun k p hk => ?_, by simp, hl, hm⟩
    have hkn : k < n := by
      rcases Nat.lt_or_ge k n with h | h
      · exact h
      · rw [List.getElem?_eq_none (by simpa using h)] at hk; cases hk
    have hp' : p = f k := by
      rw [List.getElem?_map, List.getElem?_range hkn] at hk
      simpa using hk.symm
    subst hp'
    obtain ⟨e0, e1⟩ := hfx k hkn
    obtain ⟨c0, c1, _, _⟩ := hx k (by omega)
    obtain ⟨b, off, spot⟩ := a
    have hspot : spot = none := by
      have h0 := World.cell?_spot (hx 0 (by omega)).1
      simpa [Addr.add] using h0
    subst hspot
    rw [addr_add, e0] at c0
    rw [addr_add, e1, ← Nat.add_assoc] at c1
    exact ⟨b, off, rfl, World.block_lt_of_cell? W _ c0, c0, c1⟩

end Go.Proofs.Ytlaoheflblkgaaa
