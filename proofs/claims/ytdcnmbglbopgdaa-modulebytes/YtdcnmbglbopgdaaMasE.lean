/-
  master's Next, as it landed: what it answers.
-/
import Derived.Test.YtdcnmbglbopgdaaMasD
namespace Go.Proofs.Ytdcnmbglbopgdaa
set_option linter.unusedVariables false
set_option linter.unusedSimpArgs false
open Go.RowKit

abbrev noFr : Array Value := #[.int .u8 0, .int .u8 0, .int .u8 0, .int .u8 0, .int .u8 0, .slice none 0 0]
end Go.Proofs.Ytdcnmbglbopgdaa
