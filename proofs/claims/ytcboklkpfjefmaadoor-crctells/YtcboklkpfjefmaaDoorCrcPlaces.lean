/-
  Plain facts on numbers as a walk spells them: a place that is drawn.
-/
import Derived.Test.YtcboklkpfjefmaaDoorCrcStart
namespace Go.Proofs.YtcboklkpfjefmaaDoor
set_option linter.unusedVariables false
set_option linter.unusedSimpArgs false
open Go.RowKit

theorem and_mask16 (n : Int) : bits .and .i64 n 65535 = n % 65536 := by
  have hm : (BitVec.ofInt 64 65535).toNat = 2 ^ 16 - 1 := by decide
  have key : (BitVec.ofInt 64 n &&& BitVec.ofInt 64 65535).toNat = (n % ((2 ^ 64 : Nat) : Int)).toNat % 2 ^ 16 := by
    rw [BitVec.toNat_and, BitVec.toNat_ofInt, hm, Nat.and_two_pow_sub_one_eq_mod]
  show IntKind.i64.wrap ((BitVec.ofInt 64 n &&& BitVec.ofInt 64 65535).toNat : Nat) = n % 65536
  rw [key, IntKind.wrap_i64]
  omega

/-- A place that is drawn: x & 0xFFFF % k, k not nought. -/
theorem place_at (x : Int) (k : Nat) (hk : 0 < k) : ∃ a : Nat, a < k ∧ (bits .and .i64 x 65535).tmod (k : Int) = (a : Int) ∧ bits .and .i64 x 65535 % (k : Int) = (a : Int) := by
  have h := and_mask16 x
  have h0 : 0 ≤ bits .and .i64 x 65535 := by rw [h]; omega
  have h1 : bits .and .i64 x 65535 % (k : Int) < (k : Int) := Int.emod_lt_of_pos _ (by omega)
  have h2 : 0 ≤ bits .and .i64 x 65535 % (k : Int) := Int.emod_nonneg _ (by omega)
  refine ⟨(bits .and .i64 x 65535 % (k : Int)).toNat, by omega, ?_, by omega⟩
  rw [Int.tmod_eq_emod_of_nonneg h0]
  omega
theorem place_of (x : Int) (m : Nat) : ∃ a : Nat, a ≤ m ∧ (bits .and .i64 x 65535).tmod ((m : Int) + 1) = (a : Int) ∧ bits .and .i64 x 65535 % ((m : Int) + 1) = (a : Int) := by
  obtain ⟨a, h1, h2, h3⟩ := place_at x (m + 1) (by omega)
  rw [show ((m + 1 : Nat) : Int) = (m : Int) + 1 from rfl] at h2 h3
  exact ⟨a, by omega, h2, h3⟩

end Go.Proofs.YtcboklkpfjefmaaDoor
