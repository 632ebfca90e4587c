/-
  Steps of layer 6, as they come in.
-/
import Derived.Test.YthpalepkilmpiaaWireL
namespace Go.Proofs.Ythpalepkilmpiaa
set_option linter.unusedVariables false
set_option linter.unusedSimpArgs false
open Go.RowKit

structure St6 where
  k : Int
  b : List UInt8
  f : Fl
def StepsAt (w : World) (P : Option Addr) (ss : List St6) : Prop :=
  ∀ i s, ss[i]? = some s → ∃ b o gB AB cB gF AF cF, P = some ⟨b, o, none⟩ ∧ b < w.heap.size ∧
    (w.cell? ⟨b, o + i * 6, none⟩ = some (.int .i64 s.k) ∧ w.cell? ⟨b, o + i * 6 + 1, none⟩ = some (.slice AB s.b.length cB) ∧ w.cell? ⟨b, o + i * 6 + 2, none⟩ = some (.int .i64 s.f.k) ∧ w.cell? ⟨b, o + i * 6 + 3, none⟩ = some (.int .i64 s.f.n) ∧ w.cell? ⟨b, o + i * 6 + 4, none⟩ = some (.int .u8 (s.f.y.toNat : Int)) ∧ w.cell? ⟨b, o + i * 6 + 5, none⟩ = some (.slice AF s.f.b.length cF)) ∧
    s.b.length ≤ cB ∧ cB ≤ maxLen ∧ Holds w gB AB (bcs s.b) ∧ s.f.b.length ≤ cF ∧ cF ≤ maxLen ∧ Holds w gF AF (bcs s.f.b)

end Go.Proofs.Ythpalepkilmpiaa
