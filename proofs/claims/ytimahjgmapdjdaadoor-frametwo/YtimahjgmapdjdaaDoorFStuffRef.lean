/-
  lamplightref03.Stuff and Unstuff, the document's answer: what they answer.
-/
import Derived.Test.YtimahjgmapdjdaaDoorFMem
import Derived.Test.YtimahjgmapdjdaaDoorFStuffMath
import Derived.Laws.DeepStrings4
namespace Go.Proofs.YtimahjgmapdjdaaDoor
set_option linter.unusedVariables false
set_option linter.unusedSimpArgs false
open Go.RowKit

theorem extract_one (l : List UInt8) (k : Nat) (h : k < l.length) : (ByteArray.mk l.toArray).extract k (k + 1) = ByteArray.mk [l[k]].toArray := by
  apply ByteArray.ext
  rw [ByteArray.data_extract]
  apply Array.toList_inj.1
  rw [Array.toList_extract]
  simp only [List.extract_eq_take_drop]
  rw [show k + 1 - k = 1 by omega, List.drop_eq_getElem_cons h]
  rfl
theorem take_next (l : List UInt8) (k : Nat) (h : k < l.length) : stf (l.take (k + 1)) = stf (l.take k) ++ stf1 l[k] := by
  rw [List.take_add_one, List.getElem?_eq_getElem h, stf_append]
  simp [stf]
theorem stf_take_le (l : List UInt8) (k : Nat) : (stf (l.take k)).length ≤ 2 * l.length := by
  have := stf_length_le (l.take k)
  rw [List.length_take] at this
  omega

theorem drop_next (l : List UInt8) (k : Nat) (h : k < l.length) : l.drop k = l[k] :: l.drop (k + 1) := List.drop_eq_getElem_cons h

theorem u8_ne {b : UInt8} {n : Nat} (hn : n < 256) (h : b ≠ UInt8.ofNat n) : ((b.toNat : Int) == (n : Int)) = false := by
  rw [beq_eq_false_iff_ne]
  intro h1
  apply h
  apply UInt8.toNat_inj.1
  simp
  omega

theorem u8_bne {b : UInt8} {n : Nat} (hn : n < 256) (h : b ≠ UInt8.ofNat n) : ((b.toNat : Int) != (n : Int)) = true := by
  rw [bne, u8_ne hn h]
  rfl

end Go.Proofs.YtimahjgmapdjdaaDoor
