/-
  lamplightlaw04.FrameNumbers: whatever it is asked, true; nothing that was there is turned.
-/
import Derived.Test.YtimahjgmapdjdaaDoorFrameNumbersA
namespace Go.Proofs.YtimahjgmapdjdaaDoor
set_option linter.unusedVariables false
set_option linter.unusedSimpArgs false
open Go.RowKit

set_option maxHeartbeats 8000000 in
set_option maxRecDepth 100000 in
theorem numbers5 (i : Int) (n : Nat) (w : World) (ht : Tab w) (hn : n < 256) (hp1 : (bits .and .i64 i 65535).tmod 6 = 5) (hp2 : bits .and .i64 i 65535 % 6 = 5) :
    Calls Tryd.prog 5 #[.int .i64 i, .int .u8 (n : Int)] w fun e w' => e = .returned (.bool true) ∧ Below w.heap.size w w' := by
  have HT := Lib.hid ht
  clear ht
  by_cases h1 : n ≤ 24
  · have HR : Hid (rightB 5 2 1 0 n = true) := by show _ = _; rw [rightB_iff]; omega
    have hi1 : (n : Int) ≤ 24 := by omega
    obtain ⟨i0, hi, hz0, hz1, hz2⟩ := info_parts info_byte
    go_enter Tryd.func5, Tryd.ntmps5
    go_wp2_with fail
    refine (shown_any w HT.out).mono ?_
    rintro e x1 ⟨rfl, hb⟩
    have H0 : Hid (Sn w x1.heap.size (x1.heap.size + 1) [1, 2] #[.int .u8 5, .int .u8 2, .int .u8 9, .int .u8 1, .int .u8 0, .slice (some ⟨x1.heap.size, 0, none⟩) 2 2] ((x1.alloc (.cells #[.int .u8 1, .int .u8 2] 5)).alloc (.cells #[.int .u8 5, .int .u8 2, .int .u8 9, .int .u8 1, .int .u8 0, .slice (some ⟨x1.heap.size, 0, none⟩) 2 2] 24))) := Sn.start (L := [1, 2]) (HT.out.keep (Ch.of_below hb) (by simp)) hb
    have HFw : Hid (w.heap.size < x1.heap.size + 1) := Nat.lt_succ_of_le hb.size
    have HP := Lib.hid HT.out.1
    clear hb
    go_upto_region 21 with fail
    generalize ((x1.alloc (.cells #[.int .u8 1, .int .u8 2] 5)).alloc (.cells #[.int .u8 5, .int .u8 2, .int .u8 9, .int .u8 1, .int .u8 0, .slice (some ⟨x1.heap.size, 0, none⟩) 2 2] 24)) = x2 at *
    generalize x1.heap.size + 1 = Fb at *
    generalize x1.heap.size = Lb at *
    have hFl : Fb < x2.heap.size := (Array.getElem?_eq_some_iff.1 H0.out.box).1
    go_wp2_with (at_make; refine wpList_make_full _ rfl (.tmp 57) (.tmp 57) 22 rfl x2.heap.size 5 i0 (.int .u8 0) 1 Tryd.underlying22 hi hz0 hz1 .u8 .u8 _ _ n rfl rfl rfl rfl (by rw [hz2]; omega) (by unfold maxLen; omega) (Nat.le_refl _) ?_; intro w1 hown1 hgrow1; have HR := Lib.hid (row_of_own hown1); have HB1 := Lib.hid ((Below.refl x2.heap.size x2).grown hgrow1 (Nat.le_refl _) (by simp)); clear hown1 hgrow1; have HBX := Lib.hid ((HB1.out.block Fb hFl).trans H0.out.box); obtain ⟨b0, b1, b2, b3, b4, b5, e0, e1, e2, e3, e4, e5⟩ := row6_facts HBX.out)
    rw [show (Value.int IntKind.u8 0).cells = #[Value.int IntKind.u8 0] from rfl, toList_madeCells_one, Nat.mul_one] at HR
    have HLN : Hid ((List.replicate n (0 : UInt8)).length = n) := by show _ = _; simp
    have HRW : Hid (Row w1 x2.heap.size (List.replicate n (0 : UInt8))) := by
      show _ = _
      rw [HR.out]
      simp [bcs]
    have hch : Ch [Fb] w1 (w1.setCell ⟨Fb, 5, none⟩ (.slice (some ⟨x2.heap.size, 0, none⟩) n n)) := (Ch.refl [Fb] w1).setCell (by simp) _
    have hb1 : Below w.heap.size w w1 := H0.out.below.trans (HB1.out.mono H0.out.below.size)
    have H1 : Hid (Sn w x2.heap.size Fb (List.replicate n (0 : UInt8)) #[.int .u8 5, .int .u8 2, .int .u8 9, .int .u8 1, .int .u8 0, .slice (some ⟨x2.heap.size, 0, none⟩) n n] (w1.setCell ⟨Fb, 5, none⟩ (.slice (some ⟨x2.heap.size, 0, none⟩) n n))) :=
      ⟨(H0.out.tab.keep (Ch.of_below HB1.out) (by simp)).keep hch (by have := HFw.out; simp; omega), hb1.trans (hch.belowAt (by have := HFw.out; simp; omega) hb1.size), HRW.out.keep hch (by simp; omega), heap_setCell_same w1 Fb 5 _ _ _ HBX.out⟩
    clear hch hb1 HRW HR HB1 HBX H0 b0 b1 b2 b3 b4 b5 e0 e1 e2 e3 e4 e5
    generalize (w1.setCell ⟨Fb, 5, none⟩ (.slice (some ⟨x2.heap.size, 0, none⟩) n n)) = x3 at *
    generalize x2.heap.size = N at *
    generalize List.replicate n (0 : UInt8) = L at *
    refine (encode_yes (a := 5) (k := 2) (s := 9) (q := 1) (c := 0) (L := L) H1.out.tab H1.out.lit.holds HLN.out HR.out (by omega)).mono ?_
    rintro e x4 ⟨X, M, hX, hM, rfl, hrow, hb⟩
    have H2 := Lib.hid (H1.out.step hb)
    have HW := Lib.hid hrow
    have hMM : 9 ≤ M ∧ M ≤ 1000 := by
      rw [hM, enc_length]
      have h1 := mid_le (Fr.mk 5 2 9 1 0 L)
      have h2 := mid_ge (Fr.mk 5 2 9 1 0 L)
      have h3 : (Fr.mk 5 2 9 1 0 L).b.length = n := HLN.out
      omega
    have HML := Lib.hid hM
    clear hb hrow hX hM H1
    go_wp2_with fail
    have HMID : Hid ((Fr.mk 5 2 9 1 0 L).mid.length = M - 1 - 1) := by
      have h1 := enc_length (Fr.mk 5 2 9 1 0 L)
      have h2 := HML.out
      show _ = _
      omega
    have HF : Hid ((Fr.mk 5 2 9 1 0 L).Fits) := ⟨by show 5 < 256; omega, by show 2 < 256; omega, by show 9 < 256; omega, by show 1 < 256; omega, by show 0 < 256; omega⟩
    have HRT : Hid ((Fr.mk 5 2 9 1 0 L).right = true) := by unfold Fr.right; rw [HLN.out]; exact HR.out
    refine (decode_on H2.out.tab (enc_mid_holds HW.out) HMID.out (by omega) (by omega)).mono ?_
    rintro e x5 ⟨f, er, A4, m4, c4, g4, hf, her, hm4, rfl, hh4, -, hb⟩
    rw [decE_mid _ HF.out HRT.out] at her
    rw [decF_mid _ HF.out HRT.out] at hf
    subst her hf
    obtain rfl : m4 = n := hm4.trans HLN.out
    have H3 := Lib.hid ((H2.out.step hb).alloc (.cells #[.int .u8 5, .int .u8 2, .int .u8 9, .int .u8 1, .int .u8 0, .slice A4 m4 c4] 24))
    have HY : Hid (Sy2 x5.heap.size g4 A4 L #[.int .u8 5, .int .u8 2, .int .u8 9, .int .u8 1, .int .u8 0, .slice A4 m4 c4] (x5.alloc (.cells #[.int .u8 5, .int .u8 2, .int .u8 9, .int .u8 1, .int .u8 0, .slice A4 m4 c4] 24))) := Sy2.start hh4
    clear hb H2 HW hh4 hm4
    go_upto_region 29 with fail
    generalize (x5.alloc (.cells #[.int .u8 5, .int .u8 2, .int .u8 9, .int .u8 1, .int .u8 0, .slice A4 m4 c4] 24)) = x6 at *
    generalize x5.heap.size = Z at *
    obtain ⟨b0, b1, b2, b3, b4, b5, -⟩ := row6_facts H3.out.box
    go_wp2_with fail
    refine (right_yes (a := 5) (k := 2) (s := 9) (q := 1) (c := 0) HR.out).mono ?_
    rintro e x7 ⟨rfl, hb⟩
    replace H3 := Lib.hid (H3.out.step hb)
    replace HY := Lib.hid (HY.out.step hb)
    clear hb b0 b1 b2 b3 b4 b5
    obtain ⟨b0, b1, b2, b3, b4, b5, -⟩ := row6_facts H3.out.box
    obtain ⟨d0, d1, d2, d3, d4, d5, -⟩ := row6_facts HY.out.row
    have hc1 := convert_holds (c := m4) H3.out.lit.holds HLN.out
    have hc2 := convert_holds (c := c4) HY.out.holds HLN.out
    go_wp2
    go_ret
    exact ⟨rfl, H3.out.below⟩
  · have HR : Hid (rightB 5 2 1 0 n = false) := by show _ = _; rw [← Bool.not_eq_true, rightB_iff]; omega
    have hi1 : ¬ (n : Int) ≤ 24 := by omega
    obtain ⟨i0, hi, hz0, hz1, hz2⟩ := info_parts info_byte
    go_enter Tryd.func5, Tryd.ntmps5
    go_wp2_with fail
    refine (shown_any w HT.out).mono ?_
    rintro e x1 ⟨rfl, hb⟩
    have H0 : Hid (Sn w x1.heap.size (x1.heap.size + 1) [1, 2] #[.int .u8 5, .int .u8 2, .int .u8 9, .int .u8 1, .int .u8 0, .slice (some ⟨x1.heap.size, 0, none⟩) 2 2] ((x1.alloc (.cells #[.int .u8 1, .int .u8 2] 5)).alloc (.cells #[.int .u8 5, .int .u8 2, .int .u8 9, .int .u8 1, .int .u8 0, .slice (some ⟨x1.heap.size, 0, none⟩) 2 2] 24))) := Sn.start (L := [1, 2]) (HT.out.keep (Ch.of_below hb) (by simp)) hb
    have HFw : Hid (w.heap.size < x1.heap.size + 1) := Nat.lt_succ_of_le hb.size
    have HP := Lib.hid HT.out.1
    clear hb
    go_upto_region 21 with fail
    generalize ((x1.alloc (.cells #[.int .u8 1, .int .u8 2] 5)).alloc (.cells #[.int .u8 5, .int .u8 2, .int .u8 9, .int .u8 1, .int .u8 0, .slice (some ⟨x1.heap.size, 0, none⟩) 2 2] 24)) = x2 at *
    generalize x1.heap.size + 1 = Fb at *
    generalize x1.heap.size = Lb at *
    have hFl : Fb < x2.heap.size := (Array.getElem?_eq_some_iff.1 H0.out.box).1
    go_wp2_with (at_make; refine wpList_make_full _ rfl (.tmp 57) (.tmp 57) 22 rfl x2.heap.size 5 i0 (.int .u8 0) 1 Tryd.underlying22 hi hz0 hz1 .u8 .u8 _ _ n rfl rfl rfl rfl (by rw [hz2]; omega) (by unfold maxLen; omega) (Nat.le_refl _) ?_; intro w1 hown1 hgrow1; have HR := Lib.hid (row_of_own hown1); have HB1 := Lib.hid ((Below.refl x2.heap.size x2).grown hgrow1 (Nat.le_refl _) (by simp)); clear hown1 hgrow1; have HBX := Lib.hid ((HB1.out.block Fb hFl).trans H0.out.box); obtain ⟨b0, b1, b2, b3, b4, b5, e0, e1, e2, e3, e4, e5⟩ := row6_facts HBX.out)
    rw [show (Value.int IntKind.u8 0).cells = #[Value.int IntKind.u8 0] from rfl, toList_madeCells_one, Nat.mul_one] at HR
    have HLN : Hid ((List.replicate n (0 : UInt8)).length = n) := by show _ = _; simp
    have HRW : Hid (Row w1 x2.heap.size (List.replicate n (0 : UInt8))) := by
      show _ = _
      rw [HR.out]
      simp [bcs]
    have hch : Ch [Fb] w1 (w1.setCell ⟨Fb, 5, none⟩ (.slice (some ⟨x2.heap.size, 0, none⟩) n n)) := (Ch.refl [Fb] w1).setCell (by simp) _
    have hb1 : Below w.heap.size w w1 := H0.out.below.trans (HB1.out.mono H0.out.below.size)
    have H1 : Hid (Sn w x2.heap.size Fb (List.replicate n (0 : UInt8)) #[.int .u8 5, .int .u8 2, .int .u8 9, .int .u8 1, .int .u8 0, .slice (some ⟨x2.heap.size, 0, none⟩) n n] (w1.setCell ⟨Fb, 5, none⟩ (.slice (some ⟨x2.heap.size, 0, none⟩) n n))) :=
      ⟨(H0.out.tab.keep (Ch.of_below HB1.out) (by simp)).keep hch (by have := HFw.out; simp; omega), hb1.trans (hch.belowAt (by have := HFw.out; simp; omega) hb1.size), HRW.out.keep hch (by simp; omega), heap_setCell_same w1 Fb 5 _ _ _ HBX.out⟩
    clear hch hb1 HRW HR HB1 HBX H0 b0 b1 b2 b3 b4 b5 e0 e1 e2 e3 e4 e5
    generalize (w1.setCell ⟨Fb, 5, none⟩ (.slice (some ⟨x2.heap.size, 0, none⟩) n n)) = x3 at *
    generalize x2.heap.size = N at *
    generalize List.replicate n (0 : UInt8) = L at *
    refine (encode_no (g := 0) (a := 5) (k := 2) (s := 9) (q := 1) (c := 0) HR.out).mono ?_
    rintro e x4 ⟨rfl, hb⟩
    have H2 := Lib.hid (H1.out.step hb)
    clear hb H1
    obtain ⟨b0, b1, b2, b3, b4, b5, -⟩ := row6_facts H2.out.box
    go_wp2_with fail
    refine (right_no (a := 5) (k := 2) (s := 9) (q := 1) (c := 0) HR.out).mono ?_
    rintro e x5 ⟨rfl, hb⟩
    replace H2 := Lib.hid (H2.out.step hb)
    clear hb b0 b1 b2 b3 b4 b5
    go_wp2
    go_ret
    exact ⟨rfl, H2.out.below⟩
    all_goals (have h9 : (!decide ((n : Int) ≤ 24)) = false := (by assumption); simp at h9 <;> omega)

theorem framenumbers_walk (i : Int) (n : Nat) (w : World) (ht : Tab w) (hn : n < 256) :
    Calls Tryd.prog 5 #[.int .i64 i, .int .u8 (n : Int)] w fun e w' => e = .returned (.bool true) ∧ Below w.heap.size w w' := by
  obtain ⟨p, hp, h1, h2⟩ := place_at i 6 (by omega)
  rw [show ((6 : Nat) : Int) = 6 from rfl] at h1 h2
  match p, hp with
  | 0, _ => exact numbers0 i n w ht hn h1 h2
  | 1, _ => exact numbers1 i n w ht hn h1 h2
  | 2, _ => exact numbers2 i n w ht hn h1 h2
  | 3, _ => exact numbers3 i n w ht hn h1 h2
  | 4, _ => exact numbers4 i n w ht hn h1 h2
  | 5, _ => exact numbers5 i n w ht hn h1 h2

end Go.Proofs.YtimahjgmapdjdaaDoor
