/-
  Plain facts on numbers and their bytes; nothing of the program.
-/
import Derived.Test.YtlaoheflblkgaaaWtr
namespace Go.Proofs.Ytlaoheflblkgaaa
set_option linter.unusedVariables false
set_option linter.unusedSimpArgs false
open Go.RowKit

theorem num_append (a b : List UInt8) : num (a ++ b) = num a * 256 ^ b.length + num b := by
  have aux : ∀ (b : List UInt8) (n : Nat), b.foldl (fun n b => n * 256 + b.toNat) n = n * 256 ^ b.length + num b := by
    intro b
    induction b with
    | nil => intro n; simp [num]
    | cons x b ih =>
      intro n
      have h0 : num (x :: b) = (0 * 256 + x.toNat) * 256 ^ b.length + num b := ih (0 * 256 + x.toNat)
      rw [List.foldl_cons, ih, h0, List.length_cons, Nat.pow_succ, Nat.add_mul, Nat.mul_assoc, Nat.mul_comm 256]
      simp
      omega
  unfold num
  rw [List.foldl_append, aux]
  rfl

theorem num_two (a b : UInt8) : num [a, b] = a.toNat * 256 + b.toNat := by simp [num]
theorem num_one (a : UInt8) : num [a] = a.toNat := by simp [num]
theorem num_be32 (n : Nat) (h : n < 4294967296) : num (be32 n) = n := by simp [num, be32]; omega
theorem num_be16 (n : Nat) (h : n < 65536) : num (be16 n) = n := by simp [num, be16]; omega
theorem num_be8 (n : Nat) (h : n < 256) : num (be8 n) = n := by simp [num, be8]; omega
theorem be8_num (a : UInt8) : be8 (num [a]) = [a] := by simp [num_one, be8]
theorem be16_num (a b : UInt8) : be16 (num [a, b]) = [a, b] := by
  rw [num_two]
  have ha : a.toNat < 256 := a.toNat_lt
  have hb : b.toNat < 256 := b.toNat_lt
  have e1 : (a.toNat * 256 + b.toNat) / 256 = a.toNat := by omega
  unfold be16
  rw [e1]
  congr 1
  · simp
  · congr 1
    apply UInt8.toNat_inj.1
    simp
theorem take2_of (l : List UInt8) (k : Nat) (h : k + 2 ≤ l.length) : ∃ a b, (l.drop k).take 2 = [a, b] := by
  refine ⟨l[k], l[k + 1], ?_⟩
  rw [List.drop_eq_getElem_cons (i := k) (by omega), List.drop_eq_getElem_cons (i := k + 1) (by omega), List.take_succ_cons, List.take_succ_cons, List.take_zero]
theorem take1_of (l : List UInt8) (k : Nat) (h : k < l.length) : (l.drop k).take 1 = [l[k]] := by
  rw [List.drop_eq_getElem_cons h, List.take_succ_cons, List.take_zero]
theorem take_more (l : List UInt8) (k m : Nat) : l.take (k + m) = l.take k ++ (l.drop k).take m := by rw [List.take_add]
/-- A number taken by sixteen bits more. -/
theorem num_more2 (l : List UInt8) (k : Nat) (h : k + 2 ≤ l.length) : num (l.take (k + 2)) = num (l.take k) * 65536 + num ((l.drop k).take 2) := by
  rw [take_more, num_append]
  congr 2
  have : ((l.drop k).take 2).length = 2 := by simp; omega
  rw [this]
theorem num_more1 (l : List UInt8) (k : Nat) (h : k < l.length) : num (l.take (k + 1)) = num (l.take k) * 256 + num ((l.drop k).take 1) := by
  rw [take_more, num_append]
  congr 2
  have : ((l.drop k).take 1).length = 1 := by simp; omega
  rw [this]
theorem be16_more (l : List UInt8) (k : Nat) (h : k + 2 ≤ l.length) : l.take k ++ be16 (num ((l.drop k).take 2)) = l.take (k + 2) := by
  obtain ⟨a, b, hab⟩ := take2_of l k h
  rw [take_more, hab, be16_num]
theorem be8_more (l : List UInt8) (k : Nat) (h : k < l.length) : l.take k ++ be8 (num ((l.drop k).take 1)) = l.take (k + 1) := by
  rw [take_more, take1_of l k h, be8_num]

theorem and_mask16 (n : Int) : bits .and .i64 n 65535 = n % 65536 := by
  have hm : (BitVec.ofInt 64 65535).toNat = 2 ^ 16 - 1 := by decide
  have key : (BitVec.ofInt 64 n &&& BitVec.ofInt 64 65535).toNat = (n % ((2 ^ 64 : Nat) : Int)).toNat % 2 ^ 16 := by
    rw [BitVec.toNat_and, BitVec.toNat_ofInt, hm, Nat.and_two_pow_sub_one_eq_mod]
  show IntKind.i64.wrap ((BitVec.ofInt 64 n &&& BitVec.ofInt 64 65535).toNat : Nat) = n % 65536
  rw [key, IntKind.wrap_i64]
  omega

/-- A place that is drawn: x & 0xFFFF % (m + 1). -/
theorem place_of (x : Int) (m : Nat) : ∃ a : Nat, a ≤ m ∧ (bits .and .i64 x 65535).tmod ((m : Int) + 1) = (a : Int) ∧ bits .and .i64 x 65535 % ((m : Int) + 1) = (a : Int) := by
  have h := and_mask16 x
  have h0 : 0 ≤ bits .and .i64 x 65535 := by rw [h]; omega
  have h1 : bits .and .i64 x 65535 % ((m : Int) + 1) < (m : Int) + 1 := Int.emod_lt_of_pos _ (by omega)
  have h2 : 0 ≤ bits .and .i64 x 65535 % ((m : Int) + 1) := Int.emod_nonneg _ (by omega)
  refine ⟨(bits .and .i64 x 65535 % ((m : Int) + 1)).toNat, by omega, ?_, by omega⟩
  rw [Int.tmod_eq_emod_of_nonneg h0]
  omega

/-- The lesser of a length and a bound, as the walk writes it. -/
theorem min_of (n b : Nat) (c : Int) (hc : (b : Int) = c) : ∃ m : Nat, m ≤ b ∧ m ≤ n ∧ (if c < (n : Int) then c else (n : Int)) = (m : Int) := by
  subst hc
  by_cases h : (b : Int) < (n : Int)
  · exact ⟨b, Nat.le_refl _, by omega, by rw [if_pos h]⟩
  · exact ⟨n, by omega, Nat.le_refl _, by rw [if_neg h]⟩

theorem and255 (x : Nat) (h : x < 4294967296) : bits .and .u32 (x : Int) 255 % 256 = ((x % 256 : Nat) : Int) := by
  have := u32_and_nat x 255 h (by omega)
  rw [show ((255 : Nat) : Int) = 255 from rfl] at this
  rw [this, show x &&& 255 = x % 256 from Nat.and_two_pow_sub_one_eq_mod x 8]
  omega

end Go.Proofs.Ytlaoheflblkgaaa
