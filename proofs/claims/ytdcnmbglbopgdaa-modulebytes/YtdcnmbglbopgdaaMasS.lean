/-
  lamplightlaw07.shown, as it stands: true.
-/
import Derived.Test.YtdcnmbglbopgdaaMasG
namespace Go.Proofs.Ytdcnmbglbopgdaa
set_option linter.unusedVariables false
set_option linter.unusedSimpArgs false
open Go.RowKit

abbrev sm0 : Ma := ⟨0, 0, 5, 1, 2, 0, 0, 0, []⟩
abbrev sm1 : Ma := ⟨0, 0, 5, 1, 2, 1, 1, 0, []⟩
abbrev sm2 : Ma := ⟨0, 0, 5, 1, 2, 1, 1, 0, [[120]]⟩
theorem t0 : newM 5 2 = sm0 := rfl
theorem t1 : sendM sm0 [120] = (sm0, 7) := rfl
theorem t2 : nextM sm0 = ⟨5, 1, 1, 0, 0, []⟩ := rfl
theorem t3 : heardM sm0 ⟨5, 4, 1, 0, 0, []⟩ = (sm1, [], true) := rfl
theorem t4 : sendM sm1 [120] = (sm2, 0) := rfl
theorem t5 : nextM sm2 = ⟨5, 2, 1, 0, 0, [120]⟩ := rfl
end Go.Proofs.Ytdcnmbglbopgdaa
