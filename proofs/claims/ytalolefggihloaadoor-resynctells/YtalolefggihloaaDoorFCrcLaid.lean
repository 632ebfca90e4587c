/-
  What the condition on the program's table gives: the table's sixteen numbers lie in the cells of the first package-level variable. The door's own heap meets it.
-/
import Derived.Test.YtalolefggihloaaDoorRows
import Derived.Test.YtalolefggihloaaDoorFCrcCode
import Derived.ProofKit
import Derived.LaidMore
import Derived.OpenShut
import Derived.Stop.Joined
namespace Go.Proofs.YtalolefggihloaaDoor
set_option linter.unusedVariables false
set_option linter.unusedSimpArgs false
open Go.ChangeShapes Go.WideShapes Go.ChangeAt Go.WideMaps Go.WideElems Go.RowKit

abbrev laidL : List (String × DataW Unit) := [("lamplight/crc.halves", Rows.laid_lamplight_crc_halves)]
theorem crc_knob : ownKnob Tryd.prog.godebug = none := by kernel_rfl
theorem crc_laidOut : laidOutB Tryd.prog = true := by kernel_rfl
theorem gHalves : Tryd.prog.globalNamed "lamplight/crc.halves" = some 0 := by kernel_rfl
theorem tHalves : (Tryd.prog.globals[0]?).map (·.type) = some 104 := by kernel_rfl

theorem door_met (os : Os) (args : Array Value) : laidMetH Tryd.prog laidL ((World.doorLaid Tryd.prog 400 os).forCall (fun _ _ => 0) ⟨#[], args, []⟩).memory :=
  laidMetH_of_parts3 (fuel := 8) (laidMet_of_run' 8 (by kernel_rfl) (by kernel_rfl)) (by kernel_rfl) (by kernel_rfl)

set_option maxRecDepth 20000 in
theorem of_laid {W : World} (h : laidMetH Tryd.prog laidL W) : Tab W := by
  rw [MakeChecks.laidMetH_plain _ _ _ (by kernel_rfl)] at h
  obtain ⟨ps, ⟨g0, t0, cs0, f0, p0, q0, hg0, ht0, hv0, hd0, _, _⟩, _, _⟩ := h
  obtain rfl := Option.some.inj (gHalves.symm.trans hg0)
  obtain rfl := Option.some.inj (tHalves.symm.trans ht0)
  obtain ⟨xs, m1, rfl, hx1, hlen, hn3, hel⟩ := DataW.trod_array Tryd.underlying104 hd0
  have c1 : Tryd.prog.cellsOf 80 = 1 := by kernel_rfl
  have cell : ∀ i : Nat, i < 16 → W.cell? ⟨0, i, none⟩ = some (.int .u16 ((tab[i]?).getD 0 : Nat)) := by
    intro i hi
    have h0 := hel i hi
    rw [c1, Nat.mul_one] at h0
    have hxi : i < xs.length := by omega
    rw [List.getElem?_eq_getElem hxi] at h0
    obtain ⟨k, e1, e2, _⟩ := DataW.trod_int Tryd.underlying80 h0
    have hk : xs[i].1 = .lit (.int .u16 ((tab[i]?).getD 0 : Nat)) := by
      simp only [Prod.mk.injEq] at hx1
      have h1 : (Rows.laid_lamplight_crc_halves : DataW Unit) = .agg (tab.map fun n : Nat => .lit (.int .u16 (n : Int))) := rfl
      have h2 := hx1.1
      rw [h1] at h2
      injection h2 with h2
      have h3 := congrArg (fun (z : List (DataW Unit)) => z[i]?) h2
      simp only [List.getElem?_map, List.getElem?_eq_getElem hxi] at h3
      have hti : i < tab.length := by simpa [tab] using hi
      rw [List.getElem?_eq_getElem hti] at h3 ⊢
      simpa using h3.symm
    rw [e2] at hk
    have hk' : k = ((tab[i]?).getD 0 : Nat) := by simpa using hk
    subst hk'
    have := World.var?_cell hg0 hv0 i
    rw [this]
    have h5 := congrArg (fun (z : List Value) => z[0]?) e1
    simp only [List.getElem?_take, List.getElem?_drop] at h5
    simpa using h5
  refine ⟨?_, cell⟩
  exact World.block_lt_of_cell? W _ (cell 0 (by omega))

end Go.Proofs.YtalolefggihloaaDoor
