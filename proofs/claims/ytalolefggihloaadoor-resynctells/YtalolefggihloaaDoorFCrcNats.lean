/-
  The sum of bits in natural numbers, as a walk spells them.
-/
import Derived.Test.YtalolefggihloaaDoorFCrcMore
namespace Go.Proofs.YtalolefggihloaaDoor
set_option linter.unusedVariables false
set_option linter.unusedSimpArgs false

theorem T_nat (s : BitVec 16) : (T s).toNat = if 32768 ≤ s.toNat then (s.toNat * 2 % 65536) ^^^ 4129 else s.toNat * 2 % 65536 := by
  unfold T
  have hm : s.msb = decide (32768 ≤ s.toNat) := by
    rw [BitVec.msb_eq_decide]
  rw [hm]
  by_cases h : 32768 ≤ s.toNat
  · simp [h, BitVec.toNat_xor, BitVec.toNat_shiftLeft, Nat.shiftLeft_eq]
  · simp [h, BitVec.toNat_shiftLeft, Nat.shiftLeft_eq]

theorem up_nat (b : UInt8) : (up b).toNat = b.toNat * 256 := by
  unfold up
  have := b.toNat_lt
  simp [BitVec.toNat_shiftLeft, Nat.shiftLeft_eq]
  omega

theorem word_nat (a b : UInt8) : (word a b).toNat = a.toNat * 256 + b.toNat := by
  unfold word
  have ha := a.toNat_lt
  have hb := b.toNat_lt
  rw [BitVec.toNat_xor, up_nat]
  have h2 : (b.toBitVec.setWidth 16).toNat = b.toNat := by
    simp
  rw [h2]
  have : ∀ x y : Fin 256, x.val * 256 ^^^ y.val = x.val * 256 + y.val := by decide +kernel
  exact this ⟨_, ha⟩ ⟨_, hb⟩

/-- The word of two bytes, by number. -/
theorem word_of (v : BitVec 16) : v = word (UInt8.ofNat (v.toNat / 256)) (UInt8.ofNat v.toNat) := by
  apply BitVec.eq_of_toNat_eq
  rw [word_nat]
  have := v.isLt
  simp
  omega

/-- The table of half bytes. -/
def tab : List Nat := [0, 4129, 8258, 12387, 16516, 20645, 24774, 28903, 33032, 37161, 41290, 45419, 49548, 53677, 57806, 61935]

theorem tab_get : ∀ i : Fin 16, (Tn 4 ((BitVec.ofNat 16 i.val) <<< 12)).toNat = (tab[i.val]?).getD 0 := by decide +kernel

theorem nib_nat (v : BitVec 16) : (Tn 4 v).toNat = (v.toNat * 16 % 65536) ^^^ (tab[v.toNat / 4096]?).getD 0 := by
  have hv := v.isLt
  rw [nib v, BitVec.toNat_xor]
  have h1 : (v <<< 4).toNat = v.toNat * 16 % 65536 := by simp [BitVec.toNat_shiftLeft, Nat.shiftLeft_eq]
  have h2 : v >>> 12 = BitVec.ofNat 16 (v.toNat / 4096) := by
    apply BitVec.eq_of_toNat_eq
    simp [BitVec.toNat_ushiftRight, Nat.shiftRight_eq_div_pow]
    omega
  rw [h1, h2, tab_get ⟨v.toNat / 4096, by omega⟩]

end Go.Proofs.YtalolefggihloaaDoor
