/-
  master's bits, New, State, Epoch, Len, listens, rise, close, Missed, as they landed: what they answer.
-/
import Derived.Test.YtdcnmbglbopgdaaMasMem
import Derived.StillTailTactics
namespace Go.Proofs.Ytdcnmbglbopgdaa
set_option linter.unusedVariables false
set_option linter.unusedSimpArgs false
open Go.RowKit

theorem xor_one {n : Nat} (h : n ≤ 1) : Go.bits .xor .u8 (n : Int) 1 = ((1 - n : Nat) : Int) := by
  have : n = 0 ∨ n = 1 := by omega
  rcases this with rfl | rfl <;> decide
end Go.Proofs.Ytdcnmbglbopgdaa
