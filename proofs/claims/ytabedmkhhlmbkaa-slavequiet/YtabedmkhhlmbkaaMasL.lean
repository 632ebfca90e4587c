/-
  What the laws of layer 7 share: numbers that are masked, one byte put into a row, commands of one byte each.
-/
import Derived.Test.YtabedmkhhlmbkaaMasS
namespace Go.Proofs.Ytabedmkhhlmbkaa
set_option linter.unusedVariables false
set_option linter.unusedSimpArgs false
open Go.RowKit

theorem and_mask7 (n : Int) : Go.bits .and .i64 n 7 = n % 8 := by
  have hm : (BitVec.ofInt 64 7).toNat = 2 ^ 3 - 1 := by decide
  have key : (BitVec.ofInt 64 n &&& BitVec.ofInt 64 7).toNat = (n % ((2 ^ 64 : Nat) : Int)).toNat % 2 ^ 3 := by
    rw [BitVec.toNat_and, BitVec.toNat_ofInt, hm, Nat.and_two_pow_sub_one_eq_mod]
  show IntKind.i64.wrap ((BitVec.ofInt 64 n &&& BitVec.ofInt 64 7).toNat : Nat) = n % 8
  rw [key, IntKind.wrap_i64]
  omega
theorem and7_of (n : Int) : ∃ k : Nat, k ≤ 7 ∧ Go.bits .and .i64 n 7 = (k : Int) := ⟨(n % 8).toNat, by omega, by rw [and_mask7]; omega⟩

/-- A byte, as a row of its own. -/
theorem Hb.byte (x : World) (D k : Nat) (hk : k < 256) : Hb (x.alloc (.cells #[.int .u8 (k : Int)] 5)) D (some ⟨x.heap.size, 0, none⟩) [UInt8.ofNat k] := by
  have h := Hb.lit x D [UInt8.ofNat k] (0, 0)
  have e : (bcs [UInt8.ofNat k]).toArray = #[.int .u8 (k : Int)] := by
    simp [bcs]
    omega
  rw [e] at h
  exact h

/-- Behind k commands that were sent, Up. -/
theorem sendM_more {m : Ma} {l : List UInt8} (h1 : l.length = 1) (h2 : m.st = 1) (h3 : m.q.length < 8) : sendM m l = ({ m with q := m.q ++ [l] }, 0) := by
  unfold sendM
  rw [if_neg (by omega), if_neg (by omega), if_neg (by omega)]
theorem openM {m : Ma} (hst : m.st ≠ 1) : heardM m ⟨m.addr, 4, m.ses, 0, 0, []⟩ = (riseM (quiet m), [], true) := by
  have : lisM m ⟨m.addr, 4, m.ses, 0, 0, []⟩ = true := by simp [lisM]
  unfold heardM
  rw [if_neg (by rw [this]; simp), if_pos hst]

end Go.Proofs.Ytabedmkhhlmbkaa
