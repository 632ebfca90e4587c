/-
  All ops of lamplightlaw08.line, and opened: what they answer.
-/
import Derived.Test.YtabedmkhhlmbkaaSlaG
import Derived.Test.YtabedmkhhlmbkaaSlaO4
import Derived.Test.YtabedmkhhlmbkaaSlaO5
import Derived.Test.YtabedmkhhlmbkaaSlaO6
import Derived.Test.YtabedmkhhlmbkaaSlaP
import Derived.Test.YtabedmkhhlmbkaaSlaQ
import Derived.Test.YtabedmkhhlmbkaaSlaS
namespace Go.Proofs.Ytabedmkhhlmbkaa
set_option linter.unusedVariables false
set_option linter.unusedSimpArgs false
open Go.RowKit

theorem does_on {w x : World} {L D S N : Nat} {l : Ln} (h : Lxx w L D S N l x) (hv : Ivx l) (hN : N ≤ 100000) (k : Int) :
    Calls Try.prog 22 #[.pointer (some ⟨L, 0, none⟩), .agg #[.int .i64 k]] x (fun e y => e = .returned (.bool true) ∧ Lxx w L D S (N + 1) (doesL l k).1 y) := by
  obtain ⟨Ad, Au, cd, cu, td, tu, h⟩ := h
  by_cases h0 : k = 0
  · subst h0; exact does_send sla_cond h hN
  by_cases h1 : k = 1
  · subst h1; exact does_offer sla_cond h hN
  by_cases h2 : k = 2 ∨ k = 3
  · exact does_next h k h2
  by_cases h4 : k = 4
  · subst h4; exact does_take4 sla_cond h hv hN
  by_cases h5 : k = 5
  · subst h5; exact does_take5 sla_cond h hv hN
  by_cases h6 : k = 6
  · subst h6; exact does_take6 sla_cond h hv hN
  by_cases h7 : k = 7 ∨ k = 8 ∨ k = 9
  · exact does_heard h hv hN k h7
  by_cases h10 : k = 10
  · subst h10; exact does_drop10 h
  by_cases h11 : k = 11
  · subst h11; exact does_drop11 h
  by_cases h12 : k = 12
  · subst h12; exact does_twice12 h
  by_cases h13 : k = 13
  · subst h13; exact does_twice13 h
  exact does_none h k (by omega)

end Go.Proofs.Ytabedmkhhlmbkaa
