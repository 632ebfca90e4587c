/-
  Bits that are turned in bytes with their sum: one is told, two are, wherever they stand; a burst is.
-/
import Derived.Test.YtimahjgmapdjdaaDoorFCrcByteMem
namespace Go.Proofs.YtimahjgmapdjdaaDoor
set_option linter.unusedVariables false
set_option linter.unusedSimpArgs false
open Go.RowKit

/-- The bit that stands at k, turned. -/
def turnB (xs : List UInt8) (k : Nat) : List UInt8 := xs.set (k / 8) ((xs[k / 8]?.getD 0) ^^^ UInt8.ofNat (128 >>> (k % 8)))
theorem turnB_length (xs : List UInt8) (k : Nat) : (turnB xs k).length = xs.length := by simp [turnB]
theorem turnB_bits (xs : List UInt8) (k : Nat) (h : k < 8 * xs.length) : bitsOn (turnB xs k) = turn (bitsOn xs) k := by
  rw [← bitsOn_turn xs k h, turnB, List.getElem?_eq_getElem (by omega)]
  rfl
theorem turn_length (l : List Bool) (k : Nat) : (turn l k).length = l.length := by simp [turn]
theorem turn_twice (l : List Bool) (k : Nat) : turn (turn l k) k = l := by
  unfold turn
  apply List.ext_getElem?
  intro j
  rw [List.getElem?_set, List.getElem?_set, List.length_set]
  by_cases h : k = j
  · subst h
    by_cases hk : k < l.length <;> simp [hk]
  · simp [h, List.getElem?_set]

abbrev noughts (n : Nat) : List Bool := List.replicate n false

theorem turn_one (n k : Nat) (h : k < n) : turn (noughts n) k = noughts k ++ [true] ++ noughts (n - k - 1) := by
  unfold turn
  apply List.ext_getElem?
  intro j
  rw [List.getElem?_set, List.length_replicate, List.getElem?_append, List.getElem?_append]
  simp only [List.getElem?_replicate, List.length_append, List.length_replicate, List.length_singleton, h, if_true]
  by_cases hj : k = j
  · subst hj
    simp
  · rw [if_neg hj]
    by_cases h1 : j < k
    · simp [h1, show j < k + 1 by omega, show j < n by omega]
    · rw [if_neg (show ¬ j < k + 1 by omega)]
      by_cases h2 : j < n
      · rw [if_pos h2, if_pos (by omega)]
      · rw [if_neg h2, if_neg (by omega)]

theorem turn_two (n i k : Nat) (h : i < k) (hk : k < n) : turn (turn (noughts n) i) k = noughts i ++ [true] ++ noughts (k - i - 1) ++ [true] ++ noughts (n - k - 1) := by
  rw [turn_one n i (by omega)]
  unfold turn
  have hl : (noughts i ++ [true] ++ noughts (n - i - 1))[k]? = some false := by
    rw [List.getElem?_append_right (by simp; omega)]
    simp [List.getElem?_replicate]
    omega
  rw [hl]
  have e : noughts (n - i - 1) = noughts (k - i - 1) ++ (false :: noughts (n - k - 1)) := by
    have h1 : false :: noughts (n - k - 1) = noughts (n - k - 1 + 1) := rfl
    rw [h1, noughts, noughts, noughts, List.replicate_append_replicate]
    congr 1
    omega
  rw [e, List.set_append_right _ _ (by simp; omega)]
  have h2 : k - (noughts i ++ [true]).length = (noughts (k - i - 1)).length := by simp; omega
  rw [h2, List.set_append_right _ _ (Nat.le_refl _), Nat.sub_self]
  simp

theorem turn_comm (l : List Bool) (i k : Nat) (h : i ≠ k) : turn (turn l i) k = turn (turn l k) i := by
  unfold turn
  rw [List.getElem?_set_ne h, List.getElem?_set_ne (Ne.symm h), List.set_comm _ _ h]

/-- The sum behind what is turned: that of the turned noughts. -/
theorem run_turned (s : BitVec 16) (xs : List Bool) (e : List Bool) (he : e.length = xs.length) (h0 : run s xs = 0#16) : run s (List.zipWith (· ^^ ·) xs e) = run 0#16 e := by
  have := run_xor xs e s 0#16 he.symm
  rw [BitVec.xor_zero, h0, BitVec.zero_xor] at this
  exact this

theorem valid_sum (xs : List UInt8) (hv : validB xs = true) : 2 ≤ xs.length ∧ run 0xFFFF#16 (bitsOn xs) = 0#16 := by
  unfold validB at hv
  simp only [Bool.and_eq_true, decide_eq_true_eq] at hv
  refine ⟨hv.1, ?_⟩
  rw [← sumF_run]
  exact hv.2
theorem valid_of (xs ys : List UInt8) (hl : ys.length = xs.length) (hv : validB xs = true) (e : List Bool) (he : e.length = 8 * xs.length) (hb : bitsOn ys = List.zipWith (· ^^ ·) (bitsOn xs) e) : validB ys = decide (run 0#16 e = 0#16) := by
  obtain ⟨h2, h0⟩ := valid_sum xs hv
  unfold validB
  rw [hl, decide_eq_true h2, Bool.true_and]
  refine decide_eq_decide.2 ?_
  show sumF 0xFFFF#16 ys = 0#16 ↔ _
  rw [sumF_run, hb, run_turned _ _ _ (by rw [bitsOn_len, he]) h0]

theorem bits_self (xs : List UInt8) : bitsOn xs = List.zipWith (· ^^ ·) (bitsOn xs) (noughts (8 * xs.length)) := by
  have := zip_noughts (bitsOn xs)
  rw [bitsOn_len] at this
  exact this.symm

theorem one_told (xs : List UInt8) (i : Nat) (hi : i < 8 * xs.length) (hv : validB xs = true) : validB (turnB xs i) = false := by
  rw [valid_of xs (turnB xs i) (turnB_length _ _) hv (turn (noughts (8 * xs.length)) i) (by rw [turn_length, List.length_replicate]) (by
    rw [turnB_bits xs i hi, ← turn_zip _ _ _ (by rw [bitsOn_len, List.length_replicate]), ← bits_self])]
  rw [decide_eq_false_iff_not, turn_one _ _ hi]
  intro h
  have := burst i _ [true] (by simp) h true (by simp)
  cases this

theorem two_told (xs : List UInt8) (i k : Nat) (hi : i < 8 * xs.length) (hk : k < 8 * xs.length) (hl : xs.length ≤ 500) (hv : validB xs = true) : validB (turnB (turnB xs i) k) = decide (i = k) := by
  have hz : (bitsOn xs).length = (noughts (8 * xs.length)).length := by rw [bitsOn_len, List.length_replicate]
  rw [valid_of xs (turnB (turnB xs i) k) (by rw [turnB_length, turnB_length]) hv (turn (turn (noughts (8 * xs.length)) i) k) (by rw [turn_length, turn_length, List.length_replicate]) (by
    rw [turnB_bits _ k (by rw [turnB_length]; exact hk), turnB_bits xs i hi, ← turn_zip _ _ _ (by rw [turn_length, ← hz]), ← turn_zip _ _ _ hz, ← bits_self])]
  refine decide_eq_decide.2 ?_
  constructor
  · intro h
    rcases Nat.lt_trichotomy i k with hik | hik | hik
    · rw [turn_two _ i k hik hk] at h
      exact absurd h (two_bits i (k - i - 1) _ (by omega))
    · exact hik
    · rw [turn_comm _ _ _ (by omega), turn_two _ k i hik hi] at h
      exact absurd h (two_bits k (i - k - 1) _ (by omega))
  · rintro rfl
    rw [turn_twice, run_noughts, Tn_zero]

theorem turn_lt (r : Nat) : 128 >>> r < 256 := by
  rw [Nat.shiftRight_eq_div_pow]
  have : 128 / 2 ^ r ≤ 128 := Nat.div_le_self _ _
  omega

/-- What the walk knows of a bit that is turned. -/
theorem turn_facts (xs : List UInt8) (i : Nat) (hi : i < 8 * xs.length) (hl : xs.length ≤ 1099511627776) : ∃ (q r s c : Nat) (hq : q < xs.length), (i : Int) / 8 = (q : Int) ∧ (i : Int).tdiv 8 = (q : Int) ∧ (i : Int) % 8 = (r : Int) ∧ (i : Int).tmod 8 = (r : Int) ∧ r < 8 ∧ IntKind.i64.wrap (q : Int) = (q : Int) ∧ IntKind.i64.wrap (r : Int) = (r : Int) ∧
    (128 : Int) / 2 ^ r = (s : Int) ∧ bits .xor .u8 (xs[q].toNat : Int) (s : Int) = (c : Int) ∧ ∃ b : UInt8, b.toNat = c ∧ xs.set q b = turnB xs i := by
  refine ⟨i / 8, i % 8, 128 >>> (i % 8), (xs[i / 8] ^^^ UInt8.ofNat (128 >>> (i % 8))).toNat, by omega, by omega, ?_, by omega, ?_, by omega, by rw [IntKind.wrap_i64]; omega, by rw [IntKind.wrap_i64]; omega, by rw [Nat.shiftRight_eq_div_pow]; simp, ?_, _, rfl, ?_⟩
  · rw [Int.tdiv_eq_ediv_of_nonneg (by omega)]; omega
  · rw [Int.tmod_eq_emod_of_nonneg (by omega)]; omega
  · rw [← xor_byte]
    congr 1
    have := turn_lt (i % 8)
    generalize 128 >>> (i % 8) = z at *
    have e : (UInt8.ofNat z).toNat = z := by simp; omega
    rw [e]
  · rw [turnB, List.getElem?_eq_getElem (by omega)]
    rfl

/-- Some of the first i bits of a row of at most sixteen, turned from p on. -/
theorem burst_step (xs ys : List UInt8) (p : Nat) (bs : List Bool) (i : Nat) (hi : i < bs.length) (hl : ys.length = xs.length) (hp : p + bs.length ≤ 8 * xs.length)
    (h : bitsOn ys = List.zipWith (· ^^ ·) (bitsOn xs) (Err p (8 * xs.length - p - bs.length) bs i)) :
    bitsOn (if bs[i] then turnB ys (p + i) else ys) = List.zipWith (· ^^ ·) (bitsOn xs) (Err p (8 * xs.length - p - bs.length) bs (i + 1)) := by
  rw [Err_step _ _ _ _ hi]
  split
  · rw [turnB_bits _ _ (by rw [hl]; omega), h, turn_zip _ _ _ (by rw [bitsOn_len, Err_len _ _ _ _ (by omega)]; omega)]
  · exact h
theorem burst_none (xs : List UInt8) (p : Nat) (bs : List Bool) (hp : p + bs.length ≤ 8 * xs.length) : bitsOn xs = List.zipWith (· ^^ ·) (bitsOn xs) (Err p (8 * xs.length - p - bs.length) bs 0) := by
  have e : Err p (8 * xs.length - p - bs.length) bs 0 = noughts (8 * xs.length) := by
    unfold Err
    simp only [List.take_zero, List.nil_append, Nat.sub_zero, List.replicate_append_replicate]
    congr 1
    omega
  rw [e]
  exact bits_self xs
theorem bursts_told (xs ys : List UInt8) (p : Nat) (bs : List Bool) (hb : bs.length ≤ 16) (hl : ys.length = xs.length) (hp : p + bs.length ≤ 8 * xs.length) (hv : validB xs = true)
    (h : bitsOn ys = List.zipWith (· ^^ ·) (bitsOn xs) (Err p (8 * xs.length - p - bs.length) bs bs.length)) (hne : ∃ b ∈ bs, b = true) : validB ys = false := by
  rw [valid_of xs ys hl hv _ (by rw [Err_len _ _ _ _ (by omega)]; omega) h, decide_eq_false_iff_not]
  intro h0
  have h3 : Err p (8 * xs.length - p - bs.length) bs bs.length = List.replicate p false ++ bs ++ List.replicate (8 * xs.length - p - bs.length) false := by simp [Err]
  rw [h3] at h0
  obtain ⟨b, hb1, hb2⟩ := hne
  have := burst p _ bs hb h0 b hb1
  rw [this] at hb2
  cases hb2

end Go.Proofs.YtimahjgmapdjdaaDoor
