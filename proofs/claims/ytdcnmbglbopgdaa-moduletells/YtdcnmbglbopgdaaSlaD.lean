/-
  A line of two ends in memory; the ops of lamplightlaw08.line: Send, Offer.
-/
import Derived.Test.YtdcnmbglbopgdaaSlaC
import Derived.Test.YtdcnmbglbopgdaaSlaMath
import Derived.Test.YtdcnmbglbopgdaaFLast
namespace Go.Proofs.Ytdcnmbglbopgdaa
set_option linter.unusedVariables false
set_option linter.unusedSimpArgs false
open Go.RowKit

section
variable {w x y : World} {L D S N cd cu : Nat} {l : Ln} {Ad Au : Option Addr} {td tu : List Kf}
end

theorem Hb.wide {x : World} {D : Nat} {A : Option Addr} {l : List UInt8} (h : Hb x 0 A l) : Hb x D A l := by
  obtain ⟨g, h1, h2⟩ := h
  exact ⟨g, h1, h2.elim (fun h => absurd h (by omega)) .inr⟩

end Go.Proofs.Ytdcnmbglbopgdaa
