/-
  Where bytes end frames: the places of 7E; of two frames, one behind the other, four. Nothing of the program is named here.
-/
import Derived.Test.YtimahjgmapdjdaaDoorFrameMath
namespace Go.Proofs.YtimahjgmapdjdaaDoor
set_option linter.unusedVariables false
set_option linter.unusedSimpArgs false
open Go.RowKit

/-- The places of 7E, from o on. -/
def posF (o : Nat) : List UInt8 → List Nat
  | [] => []
  | b :: l => if b = 126 then o :: posF (o + 1) l else posF (o + 1) l
theorem posF_append : ∀ (a b : List UInt8) (o : Nat), posF o (a ++ b) = posF o a ++ posF (o + a.length) b
  | [], b, o => by simp [posF]
  | x :: a, b, o => by
    have h := posF_append a b (o + 1)
    by_cases hx : x = 126
    · simp [posF, hx, h, show o + 1 + a.length = o + (a.length + 1) by omega]
    · simp [posF, hx, h, show o + 1 + a.length = o + (a.length + 1) by omega]
theorem posF_none : ∀ (l : List UInt8) (o : Nat), (∀ b ∈ l, b ≠ 126) → posF o l = []
  | [], _, _ => rfl
  | x :: l, o, h => by
    have hx := h x (by simp)
    rw [posF, if_neg hx]
    exact posF_none l (o + 1) (fun b hb => h b (by simp [hb]))
theorem posF_len : ∀ (l : List UInt8) (o : Nat), (posF o l).length ≤ l.length
  | [], _ => by simp [posF]
  | x :: l, o => by
    have h := posF_len l (o + 1)
    by_cases hx : x = 126 <;> simp [posF, hx] <;> omega
theorem posF_enc (F : Fr) (o : Nat) : posF o F.enc = [o, o + F.mid.length + 1] := by
  rw [Fr.enc, posF, if_pos rfl, posF_append, posF_none F.mid (o + 1) (stf_no_flag _)]
  simp [posF]
  omega
theorem posF_two (F G : Fr) : posF 0 (F.enc ++ G.enc) = [0, F.mid.length + 1, F.mid.length + 2, F.mid.length + G.mid.length + 3] := by
  rw [posF_append, posF_enc, posF_enc, enc_length]
  simp
  omega
theorem posF_next (l : List UInt8) (j : Nat) (h : j < l.length) : posF 0 (l.take (j + 1)) = posF 0 (l.take j) ++ (if l[j] = 126 then [j] else []) := by
  rw [List.take_succ_eq_append_getElem h, posF_append]
  congr 1
  rw [show 0 + (l.take j).length = j by simp; omega]
  by_cases hx : l[j] = 126 <;> simp [posF, hx]

/-- Bytes between the flags of two frames. -/
theorem two_first (F G : Fr) : ((F.enc ++ G.enc).drop 1).take F.mid.length = F.mid := by
  have : F.enc ++ G.enc = 126 :: (F.mid ++ ([126] ++ G.enc)) := by simp [Fr.enc]
  rw [this, List.drop_succ_cons, List.drop_zero, List.take_left' rfl]
theorem two_last (F G : Fr) : ((F.enc ++ G.enc).drop (F.mid.length + 3)).take G.mid.length = G.mid := by
  have h1 : F.enc ++ G.enc = (F.enc ++ [126]) ++ (G.mid ++ [126]) := by simp [Fr.enc]
  have h2 : (F.enc ++ [126]).length = F.mid.length + 3 := by simp [enc_length]
  rw [h1, ← h2, List.drop_left' rfl, List.take_left' rfl]
theorem two_length (F G : Fr) : (F.enc ++ G.enc).length = F.mid.length + G.mid.length + 4 := by simp [enc_length]; omega

end Go.Proofs.YtimahjgmapdjdaaDoor
