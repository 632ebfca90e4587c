/-
  What OctetsBack writes, and what is left of it while it is read: plain facts.
-/
import Derived.Test.YtlaoheflblkgaaaNums
namespace Go.Proofs.Ytlaoheflblkgaaa
set_option linter.unusedVariables false
set_option linter.unusedSimpArgs false

def one7 (z : Int) : List UInt8 := be32 z.toNat ++ (be16 (z.toNat / 65536) ++ be8 (z.toNat / 16777216))
def enc7 : List Int → List UInt8
  | [] => []
  | z :: zs => one7 z ++ enc7 zs
theorem one7_length (z : Int) : (one7 z).length = 7 := rfl
theorem enc7_length : ∀ zs : List Int, (enc7 zs).length = 7 * zs.length
  | [] => rfl
  | z :: zs => by rw [enc7, List.length_append, one7_length, enc7_length zs, List.length_cons]; omega
theorem enc7_append : ∀ a b : List Int, enc7 (a ++ b) = enc7 a ++ enc7 b
  | [], b => rfl
  | z :: a, b => by rw [List.cons_append, enc7, enc7, enc7_append a b, List.append_assoc]
theorem enc7_snoc (zs : List Int) (k : Nat) (h : k < zs.length) : enc7 (zs.take (k + 1)) = enc7 (zs.take k) ++ be32 zs[k].toNat ++ be16 (zs[k].toNat / 65536) ++ be8 (zs[k].toNat / 16777216) := by
  rw [List.take_succ_eq_append_getElem h, enc7_append]
  simp [enc7, one7]

/-- What is left; with a byte less, if that is said. -/
def left7 (cut : Bool) (zs : List Int) : List UInt8 := if cut then (enc7 zs).dropLast else enc7 zs
theorem left7_nil (cut : Bool) : left7 cut [] = [] := by cases cut <;> rfl
theorem left7_cons (cut : Bool) (z : Int) (zs : List Int) (h : cut = true → zs ≠ []) :
    left7 cut (z :: zs) = be32 z.toNat ++ (be16 (z.toNat / 65536) ++ (be8 (z.toNat / 16777216) ++ left7 cut zs)) := by
  cases cut with
  | false => simp [left7, enc7, one7]
  | true =>
    have hne : enc7 zs ≠ [] := by
      intro he
      have := enc7_length zs
      rw [he] at this
      have hz : zs ≠ [] := h rfl
      have := List.length_pos_iff.2 hz
      simp at *
      omega
    simp only [left7, if_true, enc7, one7]
    rw [List.dropLast_append_of_ne_nil hne]
    simp
theorem left7_last (z : Int) : left7 true [z] = be32 z.toNat ++ (be16 (z.toNat / 65536) ++ []) := rfl
theorem left7_whole (zs : List Int) : left7 true zs = (enc7 zs).take (7 * zs.length - 1) := by
  simp only [left7, if_true]
  rw [List.dropLast_eq_take, enc7_length]

theorem num_front32 (n : Nat) (x : List UInt8) (h : n < 4294967296) : num ((be32 n ++ x).take 4) = n := by
  rw [show (be32 n ++ x).take 4 = be32 n from List.take_left' rfl, num_be32 n h]
theorem num_front16 (n : Nat) (x : List UInt8) (h : n < 65536) : num ((be16 n ++ x).take 2) = n := by
  rw [show (be16 n ++ x).take 2 = be16 n from List.take_left' rfl, num_be16 n h]
theorem num_front8 (n : Nat) (x : List UInt8) (h : n < 256) : num ((be8 n ++ x).take 1) = n := by
  rw [show (be8 n ++ x).take 1 = be8 n from List.take_left' rfl, num_be8 n h]
theorem drop_front32 (n : Nat) (x : List UInt8) : (be32 n ++ x).drop 4 = x := List.drop_left' rfl
theorem drop_front16 (n : Nat) (x : List UInt8) : (be16 n ++ x).drop 2 = x := List.drop_left' rfl
theorem drop_front8 (n : Nat) (x : List UInt8) : (be8 n ++ x).drop 1 = x := List.drop_left' rfl
theorem len_front32 (n : Nat) (x : List UInt8) : 4 ≤ (be32 n ++ x).length := by simp [be32]
theorem len_front16 (n : Nat) (x : List UInt8) : 2 ≤ (be16 n ++ x).length := by simp [be16]
theorem len_front8 (n : Nat) (x : List UInt8) : 1 ≤ (be8 n ++ x).length := by simp [be8]

/-- Sixteen, and eight, of the higher bits, as the walk writes them. -/
theorem w16_of (z : Nat) (h : z < 4294967296) : IntKind.u16.wrap ((z : Int) / 65536) = ((z / 65536 : Nat) : Int) := by
  rw [IntWalk.u16_in _ ⟨by omega, by omega⟩]; omega
theorem w8_of (z : Nat) (h : z < 4294967296) : IntKind.u8.wrap ((z : Int) / 16777216) = ((z / 16777216 : Nat) : Int) := by
  rw [IntWalk.u8_in _ ⟨by omega, by omega⟩]; omega

end Go.Proofs.Ytlaoheflblkgaaa
