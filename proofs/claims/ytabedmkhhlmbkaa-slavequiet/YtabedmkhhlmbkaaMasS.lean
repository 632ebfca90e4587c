/-
  lamplightlaw07.shown, as it stands: true.
-/
import Derived.Test.YtabedmkhhlmbkaaMasG
namespace Go.Proofs.Ytabedmkhhlmbkaa
set_option linter.unusedVariables false
set_option linter.unusedSimpArgs false
open Go.RowKit

abbrev sm0 : Ma := ⟨0, 0, 5, 1, 2, 0, 0, 0, []⟩
abbrev sm1 : Ma := ⟨0, 0, 5, 1, 2, 1, 1, 0, []⟩
abbrev sm2 : Ma := ⟨0, 0, 5, 1, 2, 1, 1, 0, [[120]]⟩
abbrev sm3 : Ma := ⟨1, 1, 5, 1, 2, 1, 1, 0, []⟩
abbrev sm4 : Ma := ⟨1, 1, 5, 1, 2, 1, 1, 1, []⟩
abbrev sm5 : Ma := ⟨1, 1, 5, 2, 2, 2, 1, 0, []⟩
theorem t0 : newM 5 2 = sm0 := rfl
theorem t1 : sendM sm0 [120] = (sm0, 7) := rfl
theorem t2 : nextM sm0 = ⟨5, 1, 1, 0, 0, []⟩ := rfl
theorem t3 : heardM sm0 ⟨5, 4, 1, 0, 0, []⟩ = (sm1, [], true) := rfl
theorem t4 : sendM sm1 [120] = (sm2, 0) := rfl
theorem t5 : nextM sm2 = ⟨5, 2, 1, 0, 0, [120]⟩ := rfl
theorem t6 : heardM sm2 ⟨5, 5, 1, 0, 1, [101]⟩ = (sm3, [101], true) := rfl
theorem t7 : nextM sm3 = ⟨5, 3, 1, 1, 1, []⟩ := rfl
theorem t8 : heardM sm3 ⟨5, 5, 1, 0, 1, [101]⟩ = (sm3, [], true) := rfl
theorem t9 : missedM sm3 = (sm4, false) := rfl
theorem t10 : missedM sm4 = (sm5, true) := rfl
theorem t11 : nextM sm5 = ⟨5, 1, 2, 0, 0, []⟩ := rfl

end Go.Proofs.Ytabedmkhhlmbkaa
