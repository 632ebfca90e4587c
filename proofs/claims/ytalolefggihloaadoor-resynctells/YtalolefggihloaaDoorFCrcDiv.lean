/-
  The document's division of bits, in lists: what each step leaves; what is left at the end is the sum.
-/
import Derived.Test.YtalolefggihloaaDoorFCrcMore
namespace Go.Proofs.YtalolefggihloaaDoor
set_option linter.unusedVariables false
set_option linter.unusedSimpArgs false

def bitsW (v : BitVec 16) : List Bool := [v.getLsbD 15, v.getLsbD 14, v.getLsbD 13, v.getLsbD 12, v.getLsbD 11, v.getLsbD 10, v.getLsbD 9, v.getLsbD 8, v.getLsbD 7, v.getLsbD 6, v.getLsbD 5, v.getLsbD 4, v.getLsbD 3, v.getLsbD 2, v.getLsbD 1, v.getLsbD 0]
theorem bitsW_length (v : BitVec 16) : (bitsW v).length = 16 := rfl
theorem bitsW_get (v : BitVec 16) (k : Nat) (h : k < 16) : (bitsW v)[k]? = some (v.getLsbD (15 - k)) := by
  rcases (by omega : k = 0 ∨ k = 1 ∨ k = 2 ∨ k = 3 ∨ k = 4 ∨ k = 5 ∨ k = 6 ∨ k = 7 ∨ k = 8 ∨ k = 9 ∨ k = 10 ∨ k = 11 ∨ k = 12 ∨ k = 13 ∨ k = 14 ∨ k = 15) with rfl | rfl | rfl | rfl | rfl | rfl | rfl | rfl | rfl | rfl | rfl | rfl | rfl | rfl | rfl | rfl <;> rfl

theorem bitsW_turned (xs : List Bool) (h : xs.length = 16) : bitsW (0xFFFF#16 ^^^ V xs) = xs.map (!·) := by
  apply List.ext_getElem?
  intro k
  by_cases hk : k < 16
  · rw [bitsW_get _ k hk, BitVec.getLsbD_xor, V_get _ _ (by omega), show 15 - (15 - k) = k by omega, List.getElem?_map, List.getElem?_eq_getElem (by omega)]
    have : (0xFFFF#16).getLsbD (15 - k) = true := by
      have : ∀ i : Fin 16, (0xFFFF#16).getLsbD i.val = true := by decide
      exact this ⟨15 - k, by omega⟩
    rw [this]
    simp
  · rw [List.getElem?_eq_none (by rw [bitsW_length]; omega), List.getElem?_eq_none (by rw [List.length_map]; omega)]

theorem low_get (y : Bool) (i : Nat) (hi : i < 16) : (low y).getLsbD i = (y && decide (i = 0)) := by
  cases y
  · simp [low]
  · have : ∀ i : Fin 16, (low true).getLsbD i.val = (true && decide (i.val = 0)) := by decide
    exact this ⟨i, hi⟩
theorem T_get (v : BitVec 16) (i : Nat) (hi : i < 16) : (T v).getLsbD i = ((decide (0 < i) && v.getLsbD (i - 1)) ^^ (v.getLsbD 15 && (decide (i = 0) || decide (i = 5) || decide (i = 12)))) := by
  unfold T
  rw [show v.msb = v.getLsbD 15 by rw [BitVec.msb_eq_getLsbD_last]]
  have hs : (v <<< 1).getLsbD i = (decide (0 < i) && v.getLsbD (i - 1)) := by
    rw [BitVec.getLsbD_shiftLeft]
    by_cases h0 : i = 0
    · subst h0; simp
    · simp [hi, show ¬ i < 1 by omega, show 0 < i by omega]
  have hp : (0x1021#16).getLsbD i = (decide (i = 0) || decide (i = 5) || decide (i = 12)) := by
    have : ∀ i : Fin 16, (0x1021#16).getLsbD i.val = (decide (i.val = 0) || decide (i.val = 5) || decide (i.val = 12)) := by decide
    exact this ⟨i, hi⟩
  cases hm : v.getLsbD 15
  · simp [hs]
  · simp only [if_true, BitVec.getLsbD_xor, hs, hp, Bool.true_and]

theorem div_no (v : BitVec 16) (y : Bool) (rest : List Bool) (h : v.getLsbD 15 = false) : bitsW v ++ (y :: rest) = false :: (bitsW (T v ^^^ low y) ++ rest) := by
  have e : ∀ i, i < 16 → (T v ^^^ low y).getLsbD i = ((decide (0 < i) && v.getLsbD (i - 1)) ^^ (y && decide (i = 0))) := by
    intro i hi
    rw [BitVec.getLsbD_xor, T_get _ _ hi, low_get _ _ hi, h]
    simp
  have e' : bitsW (T v ^^^ low y) = [v.getLsbD 14, v.getLsbD 13, v.getLsbD 12, v.getLsbD 11, v.getLsbD 10, v.getLsbD 9, v.getLsbD 8, v.getLsbD 7, v.getLsbD 6, v.getLsbD 5, v.getLsbD 4, v.getLsbD 3, v.getLsbD 2, v.getLsbD 1, v.getLsbD 0, y] := by
    unfold bitsW
    rw [e 15 (by omega), e 14 (by omega), e 13 (by omega), e 12 (by omega), e 11 (by omega), e 10 (by omega), e 9 (by omega), e 8 (by omega), e 7 (by omega), e 6 (by omega), e 5 (by omega), e 4 (by omega), e 3 (by omega), e 2 (by omega), e 1 (by omega), e 0 (by omega)]
    simp
  rw [e', bitsW, h]
  rfl
theorem div_yes (v : BitVec 16) (y : Bool) (rest : List Bool) (h : v.getLsbD 15 = true) :
    ((((bitsW v ++ (y :: rest)).set 0 false).set 4 (!v.getLsbD 11)).set 11 (!v.getLsbD 4)).set 16 (!y) = false :: (bitsW (T v ^^^ low y) ++ rest) := by
  have e : ∀ i, i < 16 → (T v ^^^ low y).getLsbD i = ((decide (0 < i) && v.getLsbD (i - 1)) ^^ (decide (i = 0) || decide (i = 5) || decide (i = 12)) ^^ (y && decide (i = 0))) := by
    intro i hi
    rw [BitVec.getLsbD_xor, T_get _ _ hi, low_get _ _ hi, h]
    simp
  have e' : bitsW (T v ^^^ low y) = [v.getLsbD 14, v.getLsbD 13, v.getLsbD 12, !v.getLsbD 11, v.getLsbD 10, v.getLsbD 9, v.getLsbD 8, v.getLsbD 7, v.getLsbD 6, v.getLsbD 5, !v.getLsbD 4, v.getLsbD 3, v.getLsbD 2, v.getLsbD 1, v.getLsbD 0, !y] := by
    unfold bitsW
    rw [e 15 (by omega), e 14 (by omega), e 13 (by omega), e 12 (by omega), e 11 (by omega), e 10 (by omega), e 9 (by omega), e 8 (by omega), e 7 (by omega), e 6 (by omega), e 5 (by omega), e 4 (by omega), e 3 (by omega), e 2 (by omega), e 1 (by omega), e 0 (by omega)]
    simp
  rw [e', bitsW]
  rfl

/-- The window behind i steps. -/
def Win (X : List Bool) (i : Nat) : BitVec 16 := run 0xFFFF#16 (X.take i) ^^^ V ((X.drop i).take 16)
theorem Win_step (X : List Bool) (i : Nat) (h : i + 16 < X.length) : Win X (i + 1) = T (Win X i) ^^^ low X[i + 16] := by
  unfold Win
  have e1 : (X.drop i).take 16 = X[i] :: (X.drop (i + 1)).take 15 := by rw [List.drop_eq_getElem_cons (by omega), List.take_succ_cons]
  have e2 : (X.drop (i + 1)).take 16 = (X.drop (i + 1)).take 15 ++ [X[i + 16]] := by
    have e4 : (X.drop (i + 1)).take (15 + 1) = (X.drop (i + 1)).take 15 ++ ((X.drop (i + 1))[15]?).toList := List.take_add_one
    have e5 : (X.drop (i + 1))[15]? = some X[i + 16] := by
      rw [List.getElem?_drop, ← List.getElem?_eq_getElem h]
    rw [e5] at e4
    exact e4
  have e3 : X.take (i + 1) = X.take i ++ [X[i]] := by rw [List.take_add_one, List.getElem?_eq_getElem (by omega)]; rfl
  rw [e1, e2, e3, run_append]
  show T (run 0xFFFF#16 (X.take i) ^^^ hi X[i]) ^^^ _ = _
  rw [div_step _ _ _ _ (by rw [List.length_take, List.length_drop]; omega)]

/-- The row behind i steps. -/
def Arr (X : List Bool) (i : Nat) : List Bool := List.replicate i false ++ (bitsW (Win X i) ++ X.drop (i + 16))
theorem Arr_length (X : List Bool) (i : Nat) (h : i + 16 ≤ X.length) : (Arr X i).length = X.length := by
  simp [Arr, bitsW_length]; omega
theorem Arr_at (X : List Bool) (i k : Nat) : (Arr X i)[i + k]? = (bitsW (Win X i) ++ X.drop (i + 16))[k]? := by
  unfold Arr
  rw [List.getElem?_append_right (by simp), List.length_replicate, Nat.add_sub_cancel_left]
theorem Arr_get (X : List Bool) (i k : Nat) (h : k < 16) : (Arr X i)[i + k]? = some ((Win X i).getLsbD (15 - k)) := by
  rw [Arr_at, List.getElem?_append_left (by rw [bitsW_length]; exact h), bitsW_get _ _ h]
theorem Arr_next (X : List Bool) (i : Nat) (h : i + 16 < X.length) : (Arr X i)[i + 16]? = some X[i + 16] := by
  rw [Arr_at, List.getElem?_append_right (by rw [bitsW_length]; exact Nat.le_refl _), bitsW_length, Nat.sub_self, List.getElem?_drop, ← List.getElem?_eq_getElem h]
theorem Arr_set (X : List Bool) (i k : Nat) (b : Bool) (L : List Bool) : (List.replicate i false ++ L).set (i + k) b = List.replicate i false ++ L.set k b := by
  rw [List.set_append_right _ _ (by simp), List.length_replicate, Nat.add_sub_cancel_left]
theorem Arr_shift (i : Nat) (L : List Bool) : List.replicate i false ++ (false :: L) = List.replicate (i + 1) false ++ L := by
  rw [show List.replicate (i + 1) false = List.replicate i false ++ [false] from List.replicate_succ', List.append_assoc]
  rfl
theorem Arr_no (X : List Bool) (i : Nat) (h : i + 16 < X.length) (hb : (Win X i).getLsbD 15 = false) : Arr X i = Arr X (i + 1) := by
  unfold Arr
  rw [List.drop_eq_getElem_cons h, div_no _ _ _ hb, Arr_shift, ← Win_step X i h, show i + 16 + 1 = i + 1 + 16 by omega]
theorem Arr_yes (X : List Bool) (i : Nat) (h : i + 16 < X.length) (hb : (Win X i).getLsbD 15 = true) :
    ((((Arr X i).set i false).set (i + 4) (!(Win X i).getLsbD 11)).set (i + 11) (!(Win X i).getLsbD 4)).set (i + 16) (!X[i + 16]) = Arr X (i + 1) := by
  unfold Arr
  have e0 := Arr_set X i 0 false (bitsW (Win X i) ++ X.drop (i + 16))
  rw [show i + 0 = i from rfl] at e0
  rw [e0, Arr_set X, Arr_set X, Arr_set X, List.drop_eq_getElem_cons h, div_yes _ _ _ hb, Arr_shift, ← Win_step X i h, show i + 16 + 1 = i + 1 + 16 by omega]

/-- The row that is divided. -/
def flipTo (X : List Bool) (j : Nat) : List Bool := (X.take j).map (!·) ++ X.drop j
theorem flipTo_zero (X : List Bool) : flipTo X 0 = X := by simp [flipTo]
theorem flipTo_get (X : List Bool) (j : Nat) (h : j < X.length) : (flipTo X j)[j]? = some X[j] := by
  unfold flipTo
  rw [List.getElem?_append_right (by simp; omega), List.length_map, List.length_take, Nat.min_eq_left (by omega), Nat.sub_self, List.getElem?_drop, Nat.add_zero, List.getElem?_eq_getElem h]
theorem flipTo_length (X : List Bool) (j : Nat) (h : j ≤ X.length) : (flipTo X j).length = X.length := by simp [flipTo]; omega
theorem flipTo_step (X : List Bool) (j : Nat) (h : j < X.length) : (flipTo X j).set j (!X[j]) = flipTo X (j + 1) := by
  unfold flipTo
  have hl : ((X.take j).map (!·)).length = j := by rw [List.length_map, List.length_take]; omega
  rw [List.set_append_right _ _ (by rw [hl]; exact Nat.le_refl _), hl, Nat.sub_self, List.drop_eq_getElem_cons h, List.set_cons_zero, List.take_add_one, List.getElem?_eq_getElem h]
  simp [-List.take_append_getElem]
theorem flipTo_all (X : List Bool) (h : 16 ≤ X.length) : flipTo X 16 = Arr X 0 := by
  unfold flipTo Arr Win
  rw [List.take_zero, List.drop_zero, show run 0xFFFF#16 [] = 0xFFFF#16 from rfl, bitsW_turned _ (by rw [List.length_take]; omega)]
  simp

theorem Win_all (l : List UInt8) : Win (bitsOn l ++ List.replicate 16 false) (8 * l.length) = sumF 0xFFFF#16 l := by
  unfold Win
  rw [List.take_left' (bitsOn_len l), List.drop_left' (bitsOn_len l), sumF_run, show V ((List.replicate 16 false).take 16) = 0#16 by decide, BitVec.xor_zero]

/-- The number of the bits, the highest first. -/
theorem horner (v : BitVec 16) (j : Nat) (h : j < 16) : v.toNat / 2 ^ (16 - (j + 1)) = v.toNat / 2 ^ (16 - j) * 2 + (if v.getLsbD (15 - j) then 1 else 0) := by
  have h1 : v.getLsbD (15 - j) = decide (v.toNat / 2 ^ (15 - j) % 2 = 1) := by
    rw [BitVec.getLsbD, Nat.testBit_eq_decide_div_mod_eq]
  rw [h1, show 16 - (j + 1) = 15 - j by omega, show 16 - j = (15 - j) + 1 by omega, Nat.pow_succ, ← Nat.div_div_eq_div_mul]
  by_cases hb : v.toNat / 2 ^ (15 - j) % 2 = 1
  · simp [hb]; omega
  · simp [hb]; omega

end Go.Proofs.YtalolefggihloaaDoor
