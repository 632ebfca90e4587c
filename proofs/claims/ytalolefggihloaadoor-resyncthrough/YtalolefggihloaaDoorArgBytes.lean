/-
  Arguments as they come in: a byte, a slice of bytes, as a reading has them.
-/
import Derived.Test.YtalolefggihloaaDoorFBase
import Derived.Test.YtalolefggihloaaDoorFMem
import Derived.Test.YtalolefggihloaaDoorFArgs
namespace Go.Proofs.YtalolefggihloaaDoor
set_option linter.unusedVariables false
set_option linter.unusedSimpArgs false
open Go.RowKit Go.ChangeShapes Go.WideShapes

theorem bytes_of_trod {H : Type} {enc : TypeId × Value → H} {W : World} {fuel : Nat} {v : Value} {x : DataW H × List MemPlace}
    (hf : DataW.trod enc Tryd.prog W 0 (fun _ => true) true fuel 32 [v] = some x) :
    ∃ (g n cap : Nat) (A : Option Addr) (l : List UInt8), v = .slice A n cap ∧ l.length = n ∧ Holds W g A (bcs l) ∧ n ≤ cap ∧ cap ≤ maxLen := by
  rcases open_ints Tryd.underlying32 Tryd.underlying5 (by kernel_rfl) hf with ⟨hcs, _⟩ | ⟨x, l, c, zs, hcs, _, hl, hm, hz, _, hcell, hwz⟩
  · simp at hcs
    exact ⟨0, 0, 0, none, [], hcs, rfl, Holds.nil _ _ _, Nat.le_refl _, Nat.zero_le _⟩
  · simp at hcs
    have hz' : zs.length = c := by simpa using hz
    obtain ⟨g, l', hl', hh'⟩ := holds_of_ints (len := l) (by omega) hcell hwz
    exact ⟨g, l, c, some x, l', hcs, hl', hh', hl, hm⟩
theorem byte_of_trod {H : Type} {enc : TypeId × Value → H} {W : World} {fuel : Nat} {v : Value} {x : DataW H × List MemPlace}
    (hf : DataW.trod enc Tryd.prog W 0 (fun _ => true) true fuel 5 [v] = some x) : ∃ n : Nat, v = .int .u8 (n : Int) ∧ n < 256 := by
  obtain ⟨z, e, _, hw⟩ := DataW.trod_int Tryd.underlying5 hf
  have hb := bounds_u8 hw
  simp at e
  exact ⟨z.toNat, by rw [e, show ((z.toNat : Nat) : Int) = z by omega], by omega⟩

end Go.Proofs.YtalolefggihloaaDoor
