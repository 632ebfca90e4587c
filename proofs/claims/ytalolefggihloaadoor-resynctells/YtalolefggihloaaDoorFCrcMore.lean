/-
  More of sums of bits: by half a byte; bits that are turned; as what a division leaves.
-/
import Derived.Test.YtalolefggihloaaDoorFCrcMath
namespace Go.Proofs.YtalolefggihloaaDoor
set_option linter.unusedVariables false
set_option linter.unusedSimpArgs false

/-- Half a byte at once. -/
theorem nib_split (v : BitVec 16) : v = ((v >>> 12) <<< 12) ^^^ (v &&& 0x0FFF#16) := by
  apply BitVec.eq_of_getLsbD_eq
  intro i hi
  have hm : (0x0FFF#16).getLsbD i = decide (i < 12) := by
    have : ∀ i : Fin 16, (0x0FFF#16).getLsbD i.val = decide (i.val < 12) := by decide
    exact this ⟨i, hi⟩
  simp only [BitVec.getLsbD_xor, BitVec.getLsbD_shiftLeft, BitVec.getLsbD_ushiftRight, BitVec.getLsbD_and, hm]
  by_cases h : i < 12
  · simp [h]
  · simp [h, hi]
    rw [show 12 + (i - 12) = i by omega]
    exact (BitVec.getLsbD_eq_getElem hi).symm
theorem nib_low (v : BitVec 16) : (v &&& 0x0FFF#16) <<< 4 = v <<< 4 := by
  apply BitVec.eq_of_getLsbD_eq
  intro i hi
  simp only [BitVec.getLsbD_shiftLeft, BitVec.getLsbD_and]
  by_cases h : i < 4
  · simp [h]
  · have hm : (0x0FFF#16).getLsbD (i - 4) = decide (i - 4 < 12) := by
      have : ∀ i : Fin 16, (0x0FFF#16).getLsbD i.val = decide (i.val < 12) := by decide
      exact this ⟨i - 4, by omega⟩
    rw [hm]
    simp [h, hi]
    omega
theorem nib (v : BitVec 16) : Tn 4 v = (v <<< 4) ^^^ Tn 4 ((v >>> 12) <<< 12) := by
  have h : Tn 4 (v &&& 0x0FFF#16) = v <<< 4 := by
    rw [Tn_low 4 _ (fun i hi => by
      have hm : (0x0FFF#16).getLsbD (15 - i) = decide (15 - i < 12) := by
        have : ∀ i : Fin 16, (0x0FFF#16).getLsbD i.val = decide (i.val < 12) := by decide
        exact this ⟨15 - i, by omega⟩
      rw [BitVec.getLsbD_and, hm]
      simp; omega) (by omega), nib_low]
  calc Tn 4 v = Tn 4 (((v >>> 12) <<< 12) ^^^ (v &&& 0x0FFF#16)) := by rw [← nib_split]
    _ = _ := by rw [Tn_xor, h, BitVec.xor_comm]

/-- A byte is two halves. -/
theorem byte_nibs (s : BitVec 16) (b : UInt8) : byteStep s b = Tn 4 (Tn 4 (s ^^^ ((b.toBitVec >>> 4).setWidth 16 <<< 12)) ^^^ ((b.toBitVec &&& 15#8).setWidth 16 <<< 12)) := by
  have h1 : up b = ((b.toBitVec >>> 4).setWidth 16 <<< 12) ^^^ ((b.toBitVec &&& 15#8).setWidth 16 <<< 8) := by
    have : ∀ x : BitVec 8, (x.setWidth 16 <<< 8 : BitVec 16) = ((x >>> 4).setWidth 16 <<< 12) ^^^ ((x &&& 15#8).setWidth 16 <<< 8) := by decide +kernel
    exact this b.toBitVec
  have h2 : ((b.toBitVec &&& 15#8).setWidth 16 <<< 12 : BitVec 16) = Tn 4 ((b.toBitVec &&& 15#8).setWidth 16 <<< 8) := by
    have : ∀ x : BitVec 8, ((x &&& 15#8).setWidth 16 <<< 12 : BitVec 16) = Tn 4 ((x &&& 15#8).setWidth 16 <<< 8) := by decide +kernel
    exact this b.toBitVec
  rw [h2, ← Tn_xor, ← Tn_add 4 4, byteStep, h1]
  show Tn 8 _ = Tn 8 _
  congr 1
  ac_rfl

/-- The bit that stands at k. -/
theorem bitsOn_get : ∀ (l : List UInt8) (k : Nat) (h : k < 8 * l.length), (bitsOn l)[k]? = some ((l[k / 8]'(by omega)).toBitVec.getLsbD (7 - k % 8))
  | [], k, h => by simp at h
  | b :: l, k, h => by
    show (bitsOf b ++ bitsOn l)[k]? = _
    by_cases h8 : k < 8
    · rw [List.getElem?_append_left (by rw [bits_len]; exact h8)]
      rcases (by omega : k = 0 ∨ k = 1 ∨ k = 2 ∨ k = 3 ∨ k = 4 ∨ k = 5 ∨ k = 6 ∨ k = 7) with rfl | rfl | rfl | rfl | rfl | rfl | rfl | rfl <;> rfl
    · simp only [List.length_cons] at h
      rw [List.getElem?_append_right (by rw [bits_len]; omega), bits_len, bitsOn_get l (k - 8) (by omega)]
      congr 2
      · simp only [show k / 8 = (k - 8) / 8 + 1 by omega, List.getElem_cons_succ]
      · omega

/-- A bit of a byte turned. -/
theorem turn_get (b : UInt8) (i j : Nat) (hi : i < 8) (hj : j < 8) : (b ^^^ UInt8.ofNat (128 >>> i)).toBitVec.getLsbD (7 - j) = (b.toBitVec.getLsbD (7 - j) ^^ decide (i = j)) := by
  have h : ∀ i j : Fin 8, (UInt8.ofNat (128 >>> i.val)).toBitVec.getLsbD (7 - j.val) = decide (i.val = j.val) := by decide +kernel
  rw [UInt8.toBitVec_xor, BitVec.getLsbD_xor, h ⟨i, hi⟩ ⟨j, hj⟩]

def turn (l : List Bool) (k : Nat) : List Bool := l.set k (!(l[k]?.getD false))

theorem bitsOn_turn (l : List UInt8) (k : Nat) (h : k < 8 * l.length) : bitsOn (l.set (k / 8) ((l[k / 8]'(by omega)) ^^^ UInt8.ofNat (128 >>> (k % 8)))) = turn (bitsOn l) k := by
  apply List.ext_getElem?
  intro j
  unfold turn
  by_cases hj : j < 8 * l.length
  · rw [bitsOn_get _ j (by rw [List.length_set]; exact hj), List.getElem?_set, bitsOn_len, bitsOn_get l j hj, bitsOn_get l k h]
    by_cases hb : k / 8 = j / 8
    · have e : (l.set (k / 8) ((l[k / 8]'(by omega)) ^^^ UInt8.ofNat (128 >>> (k % 8))))[j / 8]'(by rw [List.length_set]; omega) = (l[j / 8]'(by omega)) ^^^ UInt8.ofNat (128 >>> (k % 8)) := by
        simp [List.getElem_set, hb]
      rw [e, turn_get _ _ _ (by omega) (by omega)]
      by_cases hk : k = j
      · subst hk
        simp [h]
      · rw [if_neg hk]
        have : ¬ k % 8 = j % 8 := by omega
        simp [this]
    · have e : (l.set (k / 8) ((l[k / 8]'(by omega)) ^^^ UInt8.ofNat (128 >>> (k % 8))))[j / 8]'(by rw [List.length_set]; omega) = (l[j / 8]'(by omega)) := by
        simp [List.getElem_set, hb]
      rw [e, if_neg (by intro hk; subst hk; exact hb rfl)]
  · rw [List.getElem?_eq_none (by rw [bitsOn_len, List.length_set]; omega), List.getElem?_eq_none (by rw [List.length_set, bitsOn_len]; omega)]

/-- Turning what is xored is turning what it is xored with. -/
theorem turn_zip (xs ys : List Bool) (k : Nat) (hl : xs.length = ys.length) : turn (List.zipWith (· ^^ ·) xs ys) k = List.zipWith (· ^^ ·) xs (turn ys k) := by
  apply List.ext_getElem?
  intro j
  unfold turn
  simp only [List.getElem?_set, List.getElem?_zipWith, List.length_zipWith]
  by_cases hk : k = j
  · subst hk
    by_cases hx : k < ys.length
    · have hx' : k < xs.length := by omega
      simp [hx, hx']
      omega
    · have hx' : ¬ k < xs.length := by omega
      simp [hx, hx']
      omega
  · simp [hk]

theorem zip_noughts (xs : List Bool) : List.zipWith (· ^^ ·) xs (List.replicate xs.length false) = xs := by
  apply List.ext_getElem?
  intro j
  simp only [List.getElem?_zipWith, List.getElem?_replicate]
  by_cases h : j < xs.length
  · simp [h]
  · simp [h]

/-- The first i of bs, at p, as noughts elsewhere. -/
def Err (p q : Nat) (bs : List Bool) (i : Nat) : List Bool := List.replicate p false ++ (bs.take i ++ List.replicate (bs.length - i) false) ++ List.replicate q false

theorem Err_len (p q : Nat) (bs : List Bool) (i : Nat) (h : i ≤ bs.length) : (Err p q bs i).length = p + bs.length + q := by
  simp [Err]; omega
theorem Err_get (p q : Nat) (bs : List Bool) (i : Nat) (h : i ≤ bs.length) (j : Nat) (hj : j < p + bs.length + q) : (Err p q bs i)[j]? = some (decide (p ≤ j ∧ j < p + i) && (bs[j - p]?).getD false) := by
  unfold Err
  rw [List.append_assoc, List.getElem?_append, List.length_replicate]
  split
  · rename_i h1
    have : ¬ p ≤ j := by omega
    simp [List.getElem?_replicate, h1, this]
  · rename_i h1
    rw [List.getElem?_append]
    split
    · rename_i h2
      simp at h2
      rw [List.getElem?_append]
      split
      · rename_i h3
        simp at h3
        rw [List.getElem?_take]
        have h4 : p ≤ j ∧ j < p + i := by omega
        have h5 : j - p < i := by omega
        have h6 : j - p < bs.length := by omega
        simp [h4, h5, h6]
      · rename_i h3
        simp at h3
        rw [List.getElem?_replicate]
        have h4 : ¬ (p ≤ j ∧ j < p + i) := by omega
        have h5 : j - p - min i bs.length < bs.length - i := by omega
        simp [h4, h5]
    · rename_i h2
      simp at h2
      rw [List.getElem?_replicate]
      have h4 : ¬ (p ≤ j ∧ j < p + i) := by omega
      have h5 : j - p - (min i bs.length + (bs.length - i)) < q := by omega
      simp [h4, h5]
theorem Err_step (p q : Nat) (bs : List Bool) (i : Nat) (h : i < bs.length) : Err p q bs (i + 1) = if bs[i] then turn (Err p q bs i) (p + i) else Err p q bs i := by
  apply List.ext_getElem?
  intro j
  by_cases hj : j < p + bs.length + q
  · rw [Err_get _ _ _ _ (by omega) _ hj]
    have hg : p + i < p + bs.length + q := by omega
    split
    · rename_i hb
      unfold turn
      rw [List.getElem?_set, Err_len _ _ _ _ (by omega), Err_get _ _ _ _ (by omega) _ hj, Err_get _ _ _ _ (by omega) _ hg]
      by_cases hk : p + i = j
      · subst hk
        have h1 : p ≤ p + i ∧ p + i < p + (i + 1) := by omega
        simp [h1, hg, h, hb]
      · rw [if_neg hk]
        have : (p ≤ j ∧ j < p + (i + 1)) ↔ (p ≤ j ∧ j < p + i) := by omega
        simp only [this]
    · rename_i hb
      rw [Err_get _ _ _ _ (by omega) _ hj]
      by_cases hk : p + i = j
      · subst hk
        simp [h, hb]
      · have : (p ≤ j ∧ j < p + (i + 1)) ↔ (p ≤ j ∧ j < p + i) := by omega
        simp only [this]
  · rw [List.getElem?_eq_none (by rw [Err_len _ _ _ _ (by omega)]; omega)]
    split
    · rw [List.getElem?_eq_none (by unfold turn; rw [List.length_set, Err_len _ _ _ _ (by omega)]; omega)]
    · rw [List.getElem?_eq_none (by rw [Err_len _ _ _ _ (by omega)]; omega)]

/-- What was whole is so no more, if some bits of a burst are turned. -/
theorem burst_told (s : BitVec 16) (xs : List Bool) (p q : Nat) (bs : List Bool) (hb : bs.length ≤ 16) (hl : xs.length = p + bs.length + q) (h0 : run s xs = 0#16)
    (h1 : run s (List.zipWith (· ^^ ·) xs (Err p q bs bs.length)) = 0#16) : ∀ b ∈ bs, b = false := by
  have h2 := run_xor xs (Err p q bs bs.length) s 0#16 (by rw [Err_len _ _ _ _ (by omega), hl])
  rw [BitVec.xor_zero, h1, h0, BitVec.zero_xor] at h2
  refine burst p q bs hb ?_
  have h3 : Err p q bs bs.length = List.replicate p false ++ bs ++ List.replicate q false := by simp [Err]
  rw [← h3]
  exact h2.symm

/-- As a division leaves it: the window is the register, xored with the bits to come. -/
def low (x : Bool) : BitVec 16 := if x then 1#16 else 0#16

theorem V_next (x y : Bool) (w : List Bool) (h : w.length = 15) : T (V (x :: w)) ^^^ low y = T (hi x) ^^^ V (w ++ [y]) := by
  have h0 : (V w).getLsbD 0 = false := by
    rw [V_get w 0 (by omega), List.getElem?_eq_none (by omega)]
    rfl
  have h1 : V (w ++ [y]) = V w ^^^ low y := by
    apply BitVec.eq_of_getLsbD_eq
    intro i hi
    have hl : (low y).getLsbD i = (y && decide (i = 0)) := by
      cases y
      · simp [low]
      · have : ∀ i : Fin 16, (low true).getLsbD i.val = (true && decide (i.val = 0)) := by decide
        exact this ⟨i, hi⟩
    rw [BitVec.getLsbD_xor, V_get _ i (by omega), V_get _ i (by omega), hl]
    by_cases hz : i = 0
    · subst hz
      rw [List.getElem?_append_right (by omega), show w[15 - 0]? = none from List.getElem?_eq_none (by omega)]
      simp [h]
    · rw [List.getElem?_append_left (by omega)]
      simp [hz]
  rw [V, T_xor, T_shift _ h0, h1, BitVec.xor_assoc]

/-- One step of the division. -/
theorem div_step (s : BitVec 16) (x y : Bool) (w : List Bool) (h : w.length = 15) : T (s ^^^ V (x :: w)) ^^^ low y = T (s ^^^ hi x) ^^^ V (w ++ [y]) := by
  rw [T_xor, BitVec.xor_assoc, V_next x y w h, T_xor, BitVec.xor_assoc]

end Go.Proofs.YtalolefggihloaaDoor
