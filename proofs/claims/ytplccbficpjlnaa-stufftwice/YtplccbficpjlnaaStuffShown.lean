/-
  What a law of layer 3 takes of the two calls, as conditions (their contracts, shown of the code elsewhere); lamplightlaw03.shown under them.
-/
import Derived.Test.YtplccbficpjlnaaStuffRef
namespace Go.Proofs.Ytplccbficpjlnaa
set_option linter.unusedVariables false
set_option linter.unusedSimpArgs false
open Go.RowKit

/-- Stuff: the bytes, stuffed, in memory of their own. -/
def StuffOn : Prop := ∀ (g : Nat) (A : Option Addr) (n c : Nat) (l : List UInt8) (w : World), Holds w g A (bcs l) → l.length = n → n ≤ c → n ≤ 1000000 →
  Calls Try.prog 11 #[.slice A n c] w fun e w' => ∃ A' n' c', e = .returned (.slice A' n' c') ∧ Own1 w' w.heap.size A' n' c' (stf l) ∧ Below w.heap.size w w'
/-- Unstuff: the bytes as they were, in memory of their own, or none, and the error. -/
def UnstuffOn : Prop := ∀ (g : Nat) (A : Option Addr) (n c : Nat) (l : List UInt8) (w : World), Holds w g A (bcs l) → l.length = n → n ≤ c → n ≤ 1000000 →
  Calls Try.prog 12 #[.slice A n c] w fun e w' => ∃ A' n' c', e = .returned (.tuple #[.slice A' n' c', .int .i64 (uErr l : Int)]) ∧ Own1 w' w.heap.size A' n' c' (uOut l) ∧ Below w.heap.size w w'

theorem lit_holds (w : World) (l : List UInt8) : Holds (w.alloc (.cells (bcs l).toArray 5)) w.heap.size (some ⟨w.heap.size, 0, none⟩) (bcs l) := Holds.of_row (heap_alloc_new w _)

theorem Kp.start (w : World) : Kp w.heap.size w 0 none [] w := ⟨Holds.nil _ _ _, Below.refl _ _, Nat.le_refl _⟩

set_option maxHeartbeats 2000000 in
set_option maxRecDepth 100000 in
theorem shown_any (hS : StuffOn) (hU : UnstuffOn) (w : World) : Calls Try.prog 10 #[] w fun e w' => e = .returned (.bool true) ∧ Below w.heap.size w w' := by
  have HS := Lib.hid hS
  have HU := Lib.hid hU
  have K0 := Lib.hid (Kp.start w)
  clear hS hU
  go_enter Try.func10, Try.ntmps10
  go_wp2_with fail
  refine (HS.out _ _ _ 3 [1, 126, 125] _ (lit_holds w [1, 126, 125]) rfl (by decide) (by decide)).mono ?_
  rintro e x1 ⟨A1, n1, c1, rfl, ho1, hb1⟩
  have K1 := Lib.hid ((K0.out.alloc _).step hb1)
  have HO1 := Lib.hid ho1
  clear K0 hb1 ho1
  have hn1 : n1 = 5 := by rw [← HO1.out.len]; decide
  subst hn1
  obtain ⟨g1, hg1, _⟩ := HO1.out.holds
  have HG1 := Lib.hid hg1
  clear hg1
  go_wp2_with fail
  refine (HU.out _ _ _ _ _ _ HG1.out (by decide) HO1.out.cap (by omega)).mono ?_
  rintro e x2 ⟨A2, n2, c2, rfl, ho2, hb2⟩
  rw [show uErr (stf [1, 126, 125]) = 0 by decide]
  have K2 := Lib.hid (K1.out.step hb2)
  replace HO1 := Lib.hid (HO1.out.step hb2)
  have HO2 := Lib.hid ho2
  clear K1 hb2 ho2 HG1
  have hn2 : n2 = 3 := by rw [← HO2.out.len]; decide
  subst hn2
  go_wp2_with fail
  refine (HU.out _ _ _ 2 [1, 125] _ (lit_holds x2 [1, 125]) rfl (by decide) (by decide)).mono ?_
  rintro e x3 ⟨A3, n3, c3, rfl, _, hb3⟩
  rw [show uErr [1, 125] = 2 by decide]
  have K3 := Lib.hid ((K2.out.alloc _).step hb3)
  replace HO1 := Lib.hid ((HO1.out.alloc _).step hb3)
  replace HO2 := Lib.hid ((HO2.out.alloc _).step hb3)
  clear K2 hb3
  go_wp2_with fail
  refine (HU.out _ _ _ 2 [125, 1] _ (lit_holds x3 [125, 1]) rfl (by decide) (by decide)).mono ?_
  rintro e x4 ⟨A4, n4, c4, rfl, _, hb4⟩
  rw [show uErr [125, 1] = 3 by decide]
  have K4 := Lib.hid ((K3.out.alloc _).step hb4)
  replace HO1 := Lib.hid ((HO1.out.alloc _).step hb4)
  replace HO2 := Lib.hid ((HO2.out.alloc _).step hb4)
  clear K3 hb4
  go_wp2_with fail
  refine (HU.out _ _ _ 1 [126] _ (lit_holds x4 [126]) rfl (by decide) (by decide)).mono ?_
  rintro e x5 ⟨A5, n5, c5, rfl, _, hb5⟩
  rw [show uErr [126] = 3 by decide]
  have K5 := Lib.hid ((K4.out.alloc _).step hb5)
  replace HO1 := Lib.hid ((HO1.out.alloc _).step hb5)
  replace HO2 := Lib.hid ((HO2.out.alloc _).step hb5)
  clear K4 hb5
  have hc1 := HO1.out.cv
  have hc2 := HO2.out.cv
  rw [show stf [1, 126, 125] = [1, 125, 94, 125, 93] by decide] at hc1
  rw [show uOut (stf [1, 126, 125]) = [1, 126, 125] by decide] at hc2
  go_wp2
  go_ret
  exact ⟨rfl, K5.out.below⟩

end Go.Proofs.Ytplccbficpjlnaa
