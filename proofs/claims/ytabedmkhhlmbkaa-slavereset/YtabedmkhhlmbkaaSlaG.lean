/-
  The ops of lamplightlaw08.line: the first frame up comes to the master.
-/
import Derived.Test.YtabedmkhhlmbkaaSlaG7
import Derived.Test.YtabedmkhhlmbkaaSlaG8
import Derived.Test.YtabedmkhhlmbkaaSlaG9
namespace Go.Proofs.Ytabedmkhhlmbkaa
set_option linter.unusedVariables false
set_option linter.unusedSimpArgs false

theorem does_heard {w x : World} {L D S N cd cu : Nat} {l : Ln} {Ad Au : Option Addr} {td tu : List Kf} (h : Lx w L D S N l Ad Au cd cu td tu x) (hv : Ivx l) (hN : N ≤ 100000) (k : Int) (hk : k = 7 ∨ k = 8 ∨ k = 9) :
    Calls Try.prog 22 #[.pointer (some ⟨L, 0, none⟩), .agg #[.int .i64 k]] x (DoesPost w L D S N l k) := by
  rcases hk with rfl | rfl | rfl
  · exact does_heard7 h hv hN
  · exact does_heard8 h hv hN
  · exact does_heard9 h hv hN

end Go.Proofs.Ytabedmkhhlmbkaa
