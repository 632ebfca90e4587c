/-
  As a law of layer 2 begins: the lesser of a length and a bound; the first bytes, behind shown; a row from a place on.
-/
import Derived.Test.YtcboklkpfjefmaaDoorCrcShown
namespace Go.Proofs.YtcboklkpfjefmaaDoor
set_option linter.unusedVariables false
set_option linter.unusedSimpArgs false
open Go.RowKit

/-- The lesser of a length and a bound, as the walk writes it. -/
theorem min_of (n b : Nat) (c : Int) (hc : (b : Int) = c) : ∃ m : Nat, m ≤ b ∧ m ≤ n ∧ (if c < (n : Int) then c else (n : Int)) = (m : Int) := by
  subst hc
  by_cases h : (b : Int) < (n : Int)
  · exact ⟨b, Nat.le_refl _, by omega, by rw [if_pos h]⟩
  · exact ⟨n, by omega, Nat.le_refl _, by rw [if_neg h]⟩

theorem Row.drop {w : World} {X : Nat} {l : List UInt8} (h : Row w X l) (k : Nat) (hk : k ≤ l.length) : Holds w X (some ⟨X, k, none⟩) (bcs (l.drop k)) := by
  have := h.holds.drop k (l.length + 1) (by rw [bcs_length]; exact hk) (by rw [bcs_length]; omega)
  rw [if_neg (by omega), show (bcs l).drop k = bcs (l.drop k) by simp [bcs]] at this
  rw [show (some (Addr.mk X k none)) = Option.map (·.add k) (some (Addr.mk X 0 none)) by rw [Option.map_some, addr_add, Nat.zero_add]]
  exact this

/-- As a law begins: the first m bytes, behind shown. -/
theorem St.begin {w w1 : World} {g : Nat} {A : Option Addr} {l0 : List UInt8} (ht : Tab w) (h : Holds w g A (bcs l0)) (hb : Below w.heap.size w w1) (m : Nat) : St w.heap.size w g A (l0.take m) w1 :=
  ⟨ht.keep (Ch.of_below hb) (by simp), by
    rw [show bcs (l0.take m) = (bcs l0).take m by simp [bcs]]
    exact (h.take m).keep (Ch.of_below hb) (by simp), hb, hb.size⟩

end Go.Proofs.YtcboklkpfjefmaaDoor
