/-
  As a law of layer 2 begins: the lesser of a length and a bound; the first bytes, behind shown; a row from a place on.
-/
import Derived.Test.YtalolefggihloaaDoorFCrcShown
namespace Go.Proofs.YtalolefggihloaaDoor
set_option linter.unusedVariables false
set_option linter.unusedSimpArgs false
open Go.RowKit

/-- As a law begins: the first m bytes, behind shown. -/
theorem St.begin {w w1 : World} {g : Nat} {A : Option Addr} {l0 : List UInt8} (ht : Tab w) (h : Holds w g A (bcs l0)) (hb : Below w.heap.size w w1) (m : Nat) : St w.heap.size w g A (l0.take m) w1 :=
  ⟨ht.keep (Ch.of_below hb) (by simp), by
    rw [show bcs (l0.take m) = (bcs l0).take m by simp [bcs]]
    exact (h.take m).keep (Ch.of_below hb) (by simp), hb, hb.size⟩

end Go.Proofs.YtalolefggihloaaDoor
