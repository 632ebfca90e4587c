/-
  Arguments as they come in: a slice of bytes holds bytes.
-/
import Derived.Test.YtdcnmbglbopgdaaFBase
import Derived.ProofKit
import Derived.OpenShut
namespace Go.Proofs.Ytdcnmbglbopgdaa
set_option linter.unusedVariables false
set_option linter.unusedSimpArgs false
open Go.RowKit Go.ChangeShapes Go.WideShapes

theorem holds_of_ints {w : World} {x : Addr} {len : Nat} {zs : List Int} (hl : len ≤ zs.length) (hcell : ∀ i, i < zs.length → w.cell? (x.add i) = some (.int .u8 (zs.getD i 0))) (hwz : ∀ n ∈ zs, (Lit.int .u8 n).wf = true) :
    ∃ (g : Nat) (l : List UInt8), l.length = len ∧ Holds w g (some x) (bcs l) := by
  refine ⟨x.block, (zs.take len).map (fun n => UInt8.ofNat n.toNat), by simp; omega, ?_⟩
  intro hp
  simp [bcs] at hp
  have h0 := hcell 0 (by omega)
  obtain ⟨b, off, spot⟩ := x
  have hspot : spot = none := by simpa [Addr.add] using World.cell?_spot h0
  subst hspot
  have h0' : w.cell? ⟨b, off, none⟩ = some (.int .u8 (zs.getD 0 0)) := by simpa [Addr.add] using h0
  refine ⟨World.block_lt_of_cell? w _ h0', off, rfl, fun j u hu => ?_⟩
  simp only [bcs, List.map_map, List.getElem?_map, Option.map_eq_some_iff] at hu
  obtain ⟨n, hn, rfl⟩ := hu
  rw [List.getElem?_take] at hn
  split at hn
  · have hjl : j < zs.length := by
      rcases Nat.lt_or_ge j zs.length with h | h
      · exact h
      · rw [List.getElem?_eq_none h] at hn; cases hn
    have hc := hcell j hjl
    rw [show (Addr.mk b off none).add j = ⟨b, off + j, none⟩ by by_cases h : j = 0 <;> simp [Addr.add, h]] at hc
    rw [hc, List.getD_eq_getElem?_getD, hn]
    have hw := bounds_u8 (hwz n (List.mem_of_getElem? hn))
    simp
    omega
  · cases hn

end Go.Proofs.Ytdcnmbglbopgdaa
