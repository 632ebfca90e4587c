/-
  lamplightref03.Stuff and Unstuff, the document's answer: what they answer.
-/
import Derived.Test.YtalolefggihloaaDoorFMem
import Derived.Test.YtalolefggihloaaDoorFStuffMath
import Derived.Laws.DeepStrings4
namespace Go.Proofs.YtalolefggihloaaDoor
set_option linter.unusedVariables false
set_option linter.unusedSimpArgs false
open Go.RowKit

theorem extract_one (l : List UInt8) (k : Nat) (h : k < l.length) : (ByteArray.mk l.toArray).extract k (k + 1) = ByteArray.mk [l[k]].toArray := by
  apply ByteArray.ext
  rw [ByteArray.data_extract]
  apply Array.toList_inj.1
  rw [Array.toList_extract]
  simp only [List.extract_eq_take_drop]
  rw [show k + 1 - k = 1 by omega, List.drop_eq_getElem_cons h]
  rfl
theorem take_next (l : List UInt8) (k : Nat) (h : k < l.length) : stf (l.take (k + 1)) = stf (l.take k) ++ stf1 l[k] := by
  rw [List.take_add_one, List.getElem?_eq_getElem h, stf_append]
  simp [stf]
theorem stf_take_le (l : List UInt8) (k : Nat) : (stf (l.take k)).length ≤ 2 * l.length := by
  have := stf_length_le (l.take k)
  rw [List.length_take] at this
  omega

theorem drop_next (l : List UInt8) (k : Nat) (h : k < l.length) : l.drop k = l[k] :: l.drop (k + 1) := List.drop_eq_getElem_cons h

theorem u8_ne {b : UInt8} {n : Nat} (hn : n < 256) (h : b ≠ UInt8.ofNat n) : ((b.toNat : Int) == (n : Int)) = false := by
  rw [beq_eq_false_iff_ne]
  intro h1
  apply h
  apply UInt8.toNat_inj.1
  simp
  omega

theorem u8_bne {b : UInt8} {n : Nat} (hn : n < 256) (h : b ≠ UInt8.ofNat n) : ((b.toNat : Int) != (n : Int)) = true := by
  rw [bne, u8_ne hn h]
  rfl

set_option maxHeartbeats 2000000 in
set_option maxRecDepth 100000 in
theorem ref_unstuff (l : List UInt8) (w : World) (hl : l.length ≤ 1000000) : Calls Tryd.prog 32 #[.string ⟨l.toArray⟩] w fun e w' => e = .returned (.tuple #[.string ⟨(uOut l).toArray⟩, .int .i64 (uErr l : Int)]) ∧ Below w.heap.size w w' := by
  go_enter Tryd.func32, Tryd.ntmps32
  go_wp2
  go_loopw [4, 5] (fun s i wr => ∃ (k : Nat) (F : List UInt8), k ≤ l.length ∧ i = .int .i64 k ∧ s = .string ⟨F.toArray⟩ ∧ F.length ≤ k ∧ Hid (unst l = cat F (unst (l.drop k))) ∧ Hid (Below w.heap.size w wr)) (fun _ i _ => l.length - (intOf i).toNat)
  case atStart => exact ⟨0, [], by omega, rfl, rfl, by simp, (by show _ = _; rw [List.drop_zero, cat_nil]), Below.refl _ _⟩
  case round =>
    obtain ⟨k, F, hk, rfl, rfl, hF, HU, HW⟩ := hrel
    by_cases hlt : k < l.length
    · have hdn := drop_next l k hlt
      have hex := extract_one l k hlt
      obtain ⟨b, hb⟩ : ∃ b, l[k] = b := ⟨_, rfl⟩
      rw [hb] at hdn hex
      have hidx : ∀ h : k < (ByteArray.mk l.toArray).size, ((ByteArray.mk l.toArray)[k]'h).toNat = b.toNat := fun h => by rw [← hb]; rfl
      rw [hdn] at HU
      clear hb hdn
      have hlt' : (k : Int) < (l.length : Int) := by omega
      by_cases h1 : b = 126
      · subst h1
        rw [unst_flag] at HU
        have hbn : (126 : UInt8).toNat = 126 := rfl
        go_wp2
        go_ret2
        have hu : unst l = .error 3 := HU.out
        exact ⟨by rw [uOut_error hu, uErr_error hu]; rfl, HW.out⟩
      · have hn1 : ((b.toNat : Int) == 126) = false := u8_ne (n := 126) (by omega) h1
        by_cases h2 : b = 125
        · subst h2
          have hbn : (125 : UInt8).toNat = 125 := rfl
          by_cases hk1 : k + 1 < l.length
          · have hdn2 := drop_next l (k + 1) hk1
            obtain ⟨c, hc⟩ : ∃ c, l[k + 1] = c := ⟨_, rfl⟩
            rw [hc] at hdn2
            have hidx2 : ∀ h : k + 1 < (ByteArray.mk l.toArray).size, ((ByteArray.mk l.toArray)[k + 1]'h).toNat = c.toNat := fun h => by rw [← hc]; rfl
            rw [hdn2] at HU
            clear hc hdn2
            have hk1' : (k : Int) + 1 < (l.length : Int) := by omega
            have hkn : ((k : Int) + 1 == (l.length : Int)) = false := by rw [beq_eq_false_iff_ne]; omega
            by_cases hcc : c = 94 ∨ c = 93
            rcases hcc with rfl | rfl
            · have hc32 : (94 : UInt8) + 32 = 126 := rfl
              rw [unst_good _ _ (by decide), cat_cat, hc32] at HU
              have hcn : (94 : UInt8).toNat = 94 := rfl
              have hcv : (convert 32 9 (.slice (some ⟨wr.heap.size, 0, none⟩) 1 1)).run Tryd.prog (wr.alloc (.cells #[.int .u8 126] 5)) = .ok (.string ⟨[126].toArray⟩) (wr.alloc (.cells #[.int .u8 126] 5)) :=
                convert_holds (g := wr.heap.size) (l := [126]) (Holds.of_row (cs := bcs [126]) (fz := (0, 0)) (heap_alloc_new wr _)) rfl
              have hjn := cat_two F [126]
              have HW2 : Hid (Below w.heap.size w (wr.alloc (.cells #[.int .u8 126] 5))) := HW.out.alloc HW.out.size _
              have hsum : ¬ 9223372036854775807 < F.length + 1 := by omega
              clear hc32 HW hex
              go_wp2
              go_roundw
              case rel => exact ⟨k + 2, F ++ [126], by omega, by go_num, rfl, by simp; omega, HU, HW2⟩
              case measure => simp [intOf]; omega
            · have hc32 : (93 : UInt8) + 32 = 125 := rfl
              rw [unst_good _ _ (by decide), cat_cat, hc32] at HU
              have hcn : (93 : UInt8).toNat = 93 := rfl
              have hcv : (convert 32 9 (.slice (some ⟨wr.heap.size, 0, none⟩) 1 1)).run Tryd.prog (wr.alloc (.cells #[.int .u8 125] 5)) = .ok (.string ⟨[125].toArray⟩) (wr.alloc (.cells #[.int .u8 125] 5)) :=
                convert_holds (g := wr.heap.size) (l := [125]) (Holds.of_row (cs := bcs [125]) (fz := (0, 0)) (heap_alloc_new wr _)) rfl
              have hjn := cat_two F [125]
              have HW2 : Hid (Below w.heap.size w (wr.alloc (.cells #[.int .u8 125] 5))) := HW.out.alloc HW.out.size _
              have hsum : ¬ 9223372036854775807 < F.length + 1 := by omega
              clear hc32 HW hex
              go_wp2
              go_roundw
              case rel => exact ⟨k + 2, F ++ [125], by omega, by go_num, rfl, by simp; omega, HU, HW2⟩
              case measure => simp [intOf]; omega
            · rw [unst_bad _ _ hcc] at HU
              have hc1 : ((c.toNat : Int) != 94) = true := u8_bne (n := 94) (by omega) (fun h => hcc (.inl h))
              have hc2 : ((c.toNat : Int) != 93) = true := u8_bne (n := 93) (by omega) (fun h => hcc (.inr h))
              clear hcc hex
              go_wp2
              go_ret2
              have hu : unst l = .error 3 := HU.out
              exact ⟨by rw [uOut_error hu, uErr_error hu]; rfl, HW.out⟩
          · have hke : k + 1 = l.length := by omega
            rw [show l.drop (k + 1) = [] from List.drop_eq_nil_of_le (by omega), unst_end] at HU
            have hkn : ((k : Int) + 1 == (l.length : Int)) = true := by rw [beq_iff_eq]; omega
            clear hex
            go_wp2
            go_ret2
            have hu : unst l = .error 2 := HU.out
            exact ⟨by rw [uOut_error hu, uErr_error hu]; rfl, HW.out⟩
        · have hn2 : ((b.toNat : Int) == 125) = false := u8_ne (n := 125) (by omega) h2
          rw [unst_plain _ _ h1 h2, cat_cat] at HU
          have hjn := cat_two F [b]
          have hsum : ¬ 9223372036854775807 < F.length + 1 := by omega
          clear h1 h2
          go_wp2
          go_roundw
          case rel => exact ⟨k + 1, F ++ [b], by omega, by go_num, rfl, by simp; omega, HU, HW⟩
          case measure => simp [intOf]; omega
    · have hkk : k = l.length := by omega
      subst hkk
      rw [List.drop_length, unst_nil] at HU
      go_wp2
      go_ret2
      have hu : unst l = .ok F := by rw [HU.out, cat, List.append_nil]
      exact ⟨by rw [uOut_ok hu, uErr_ok hu]; rfl, HW.out⟩

end Go.Proofs.YtalolefggihloaaDoor
