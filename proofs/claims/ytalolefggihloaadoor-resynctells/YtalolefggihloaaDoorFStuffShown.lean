/-
  What a law of layer 3 takes of the two calls, as conditions (their contracts, shown of the code elsewhere); lamplightlaw03.shown under them.
-/
import Derived.Test.YtalolefggihloaaDoorFStuffRef
namespace Go.Proofs.YtalolefggihloaaDoor
set_option linter.unusedVariables false
set_option linter.unusedSimpArgs false
open Go.RowKit

/-- Stuff: the bytes, stuffed, in memory of their own. -/
def StuffOn : Prop := ∀ (g : Nat) (A : Option Addr) (n c : Nat) (l : List UInt8) (w : World), Holds w g A (bcs l) → l.length = n → n ≤ c → n ≤ 1000000 →
  Calls Tryd.prog 23 #[.slice A n c] w fun e w' => ∃ A' n' c', e = .returned (.slice A' n' c') ∧ Own1 w' w.heap.size A' n' c' (stf l) ∧ Below w.heap.size w w'
/-- Unstuff: the bytes as they were, in memory of their own, or none, and the error. -/
def UnstuffOn : Prop := ∀ (g : Nat) (A : Option Addr) (n c : Nat) (l : List UInt8) (w : World), Holds w g A (bcs l) → l.length = n → n ≤ c → n ≤ 1000000 →
  Calls Tryd.prog 27 #[.slice A n c] w fun e w' => ∃ A' n' c', e = .returned (.tuple #[.slice A' n' c', .int .i64 (uErr l : Int)]) ∧ Own1 w' w.heap.size A' n' c' (uOut l) ∧ Below w.heap.size w w'

theorem lit_holds (w : World) (l : List UInt8) : Holds (w.alloc (.cells (bcs l).toArray 5)) w.heap.size (some ⟨w.heap.size, 0, none⟩) (bcs l) := Holds.of_row (heap_alloc_new w _)

theorem Kp.start (w : World) : Kp w.heap.size w 0 none [] w := ⟨Holds.nil _ _ _, Below.refl _ _, Nat.le_refl _⟩

end Go.Proofs.YtalolefggihloaaDoor
