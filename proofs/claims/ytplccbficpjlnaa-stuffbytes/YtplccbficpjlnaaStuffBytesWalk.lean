/-
  lamplightlaw03.StuffBytes answers true, and turns nothing that was there, if the two calls keep their contracts: the walk.
-/
import Derived.Test.YtplccbficpjlnaaStuffShown
namespace Go.Proofs.Ytplccbficpjlnaa
set_option linter.unusedVariables false
set_option linter.unusedSimpArgs false
open Go.RowKit

set_option maxHeartbeats 4000000 in
set_option maxRecDepth 100000 in
theorem bytes_walk (hS : StuffOn) (hU : UnstuffOn) (y : Nat) (w : World) (hy : y < 256) :
    Calls Try.prog 8 #[.int .u8 (y : Int)] w fun e w' => e = .returned (.bool true) ∧ Below w.heap.size w w' := by
  obtain ⟨b, rfl⟩ : ∃ b : UInt8, b.toNat = y := ⟨UInt8.ofNat y, by simp; omega⟩
  have HS := Lib.hid hS
  have HU := Lib.hid hU
  clear hS hU
  have K0 := Lib.hid (Kp.start w)
  go_enter Try.func8, Try.ntmps8
  go_wp2_with fail
  refine (shown_any HS.out HU.out w).mono ?_
  rintro e x1 ⟨rfl, hb1⟩
  have K1 := Lib.hid (K0.out.step hb1)
  clear K0 hb1
  go_wp2_with fail
  refine (HU.out _ _ _ 2 [125, b] _ (lit_holds x1 [125, b]) rfl (by simp) (by simp)).mono ?_
  rintro e x2 ⟨A2, n2, c2, rfl, ho2, hb2⟩
  have K2 := Lib.hid ((K1.out.alloc _).step hb2)
  have HO2 := Lib.hid ho2
  clear K1 hb2 ho2
  go_wp2_with fail
  refine (HU.out _ _ _ 1 [b] _ (lit_holds x2 [b]) rfl (by simp) (by simp)).mono ?_
  rintro e x3 ⟨A3, n3, c3, rfl, ho3, hb3⟩
  have K3 := Lib.hid ((K2.out.alloc _).step hb3)
  replace HO2 := Lib.hid ((HO2.out.alloc _).step hb3)
  have HO3 := Lib.hid ho3
  clear K2 hb3 ho3
  go_wp2_with fail
  refine (HU.out _ _ _ 3 [97, b, 98] _ (lit_holds x3 [97, b, 98]) rfl (by simp) (by simp)).mono ?_
  rintro e x4 ⟨A4, n4, c4, rfl, ho4, hb4⟩
  have K4 := Lib.hid ((K3.out.alloc _).step hb4)
  replace HO2 := Lib.hid ((HO2.out.alloc _).step hb4)
  replace HO3 := Lib.hid ((HO3.out.alloc _).step hb4)
  have HO4 := Lib.hid ho4
  clear K3 hb4 ho4
  by_cases h126 : b = 126
  · subst h126
    rw [show uErr [125, 126] = 3 by decide, show uErr [126] = 3 by decide, show uErr [97, 126, 98] = 3 by decide]
    have hn2 : n2 = 0 := by rw [← HO2.out.len]; decide
    have hn3 : n3 = 0 := by rw [← HO3.out.len]; decide
    have hn4 : n4 = 0 := by rw [← HO4.out.len]; decide
    subst hn2 hn3 hn4
    have hbn : (126 : UInt8).toNat = 126 := rfl
    go_wp2
    go_ret
    exact ⟨rfl, K4.out.below⟩
  by_cases h125 : b = 125
  · subst h125
    rw [show uErr [125, 125] = 3 by decide, show uErr [125] = 2 by decide, show uErr [97, 125, 98] = 3 by decide]
    have hn2 : n2 = 0 := by rw [← HO2.out.len]; decide
    have hn3 : n3 = 0 := by rw [← HO3.out.len]; decide
    have hn4 : n4 = 0 := by rw [← HO4.out.len]; decide
    subst hn2 hn3 hn4
    have hbn : (125 : UInt8).toNat = 125 := rfl
    go_wp2
    go_ret
    exact ⟨rfl, K4.out.below⟩
  have hy : unst [b] = .ok [b] := by rw [unst_plain _ _ h126 h125, unst_nil]; rfl
  have hz : unst [97, b, 98] = .ok [97, b, 98] := by
    rw [unst_plain _ _ (by decide) (by decide), unst_plain _ _ h126 h125, unst_plain _ _ (by decide) (by decide), unst_nil]; rfl
  rw [uErr_ok hy, uErr_ok hz]
  rw [uOut_ok hy] at HO3
  rw [uOut_ok hz] at HO4
  have hn3 : n3 = 1 := by rw [← HO3.out.len]; rfl
  have hn4 : n4 = 3 := by rw [← HO4.out.len]; rfl
  subst hn3 hn4
  have hne1 : ((b.toNat : Int) == 126) = false := u8_ne (n := 126) (by omega) h126
  have hne2 : ((b.toNat : Int) == 125) = false := u8_ne (n := 125) (by omega) h125
  have hc3 := HO3.out.cv
  have hc4 := (HO4.out.alloc (.cells #[.int .u8 (b.toNat : Int)] 5)).cv
  have hl1 : (convert 22 9 (.slice (some ⟨x4.heap.size, 0, none⟩) 1 1)).run Try.prog (x4.alloc (.cells #[.int .u8 (b.toNat : Int)] 5)) = .ok (.string ⟨[b].toArray⟩) (x4.alloc (.cells #[.int .u8 (b.toNat : Int)] 5)) :=
    convert_holds (l := [b]) (lit_holds x4 [b]) rfl
  have hl3 : (convert 22 9 (.slice (some ⟨x4.heap.size + 1, 0, none⟩) 3 3)).run Try.prog ((x4.alloc (.cells #[.int .u8 (b.toNat : Int)] 5)).alloc (.cells #[.int .u8 97, .int .u8 (b.toNat : Int), .int .u8 98] 5)) = .ok (.string ⟨[97, b, 98].toArray⟩) ((x4.alloc (.cells #[.int .u8 (b.toNat : Int)] 5)).alloc (.cells #[.int .u8 97, .int .u8 (b.toNat : Int), .int .u8 98] 5)) := by
    have := convert_holds (c := 3) (n := 3) (l := [97, b, 98]) (lit_holds (x4.alloc (.cells #[.int .u8 (b.toNat : Int)] 5)) [97, b, 98]) rfl
    rwa [show (x4.alloc (.cells #[.int .u8 (b.toNat : Int)] 5)).heap.size = x4.heap.size + 1 by simp] at this
  have K6 := Lib.hid ((K4.out.alloc (.cells #[.int .u8 (b.toNat : Int)] 5)).alloc (.cells #[.int .u8 97, .int .u8 (b.toNat : Int), .int .u8 98] 5))
  have hcell : ∀ (v : UInt8), uOut [125, b] = [v] → ∃ gx, A2 = some ⟨gx, 0, none⟩ ∧ x4.cell? ⟨gx, 0, none⟩ = some (.int .u8 (v.toNat : Int)) := by
    intro v hv
    rw [hv] at HO2
    obtain ⟨gx, h1, _, _, h2, _, _⟩ := HO2.out.at 0 (by simp)
    exact ⟨gx, h1, h2⟩
  clear hy hz
  by_cases h94 : b = 94
  · subst h94
    obtain ⟨gx, rfl, hcx⟩ := hcell 126 (by decide)
    have hn2 : n2 = 1 := by rw [← HO2.out.len]; decide
    subst hn2
    rw [show uErr [125, 94] = 0 by decide]
    have hbn : (94 : UInt8).toNat = 94 := rfl
    have hvn : (126 : UInt8).toNat = 126 := rfl
    have hx : bits .xor .u8 94 32 = 126 := by decide
    rw [hvn, show ((126 : Nat) : Int) = 126 from rfl] at hcx
    rw [hbn, show ((94 : Nat) : Int) = 94 from rfl] at hl1 hl3 hc4 K6
    clear hne1 hne2
    clear hcell h126 h125 HO2 HO3 HO4
    go_wp2
    go_ret
    exact ⟨rfl, K6.out.below⟩
  by_cases h93 : b = 93
  · subst h93
    obtain ⟨gx, rfl, hcx⟩ := hcell 125 (by decide)
    have hn2 : n2 = 1 := by rw [← HO2.out.len]; decide
    subst hn2
    rw [show uErr [125, 93] = 0 by decide]
    have hbn : (93 : UInt8).toNat = 93 := rfl
    have hvn : (125 : UInt8).toNat = 125 := rfl
    have hx : bits .xor .u8 93 32 = 125 := by decide
    rw [hvn, show ((125 : Nat) : Int) = 125 from rfl] at hcx
    rw [hbn, show ((93 : Nat) : Int) = 93 from rfl] at hl1 hl3 hc4 K6
    clear hne1 hne2
    clear hcell h126 h125 HO2 HO3 HO4
    go_wp2
    go_ret
    exact ⟨rfl, K6.out.below⟩
  have hu : unst [125, b] = .error 3 := unst_bad b [] (fun h => h.elim h94 h93)
  rw [uErr_error hu]
  rw [uOut_error hu] at HO2
  have hn2 : n2 = 0 := by rw [← HO2.out.len]; rfl
  subst hn2
  have hne3 : ((b.toNat : Int) == 94) = false := u8_ne (n := 94) (by omega) h94
  have hne4 : ((b.toNat : Int) == 93) = false := u8_ne (n := 93) (by omega) h93
  clear hcell hu HO2 HO3 HO4 h126 h125 h94 h93
  go_wp2
  go_ret
  exact ⟨rfl, K6.out.below⟩

end Go.Proofs.Ytplccbficpjlnaa
