/-
  Plain facts on numbers as a walk spells them: a place that is drawn.
-/
import Derived.Test.YtalolefggihloaaDoorFCrcStart
namespace Go.Proofs.YtalolefggihloaaDoor
set_option linter.unusedVariables false
set_option linter.unusedSimpArgs false
open Go.RowKit

end Go.Proofs.YtalolefggihloaaDoor
