/-
  lamplightlaw07.shown, as it stands: true.
-/
import Derived.Test.YtoahjkdackccmaaMasG
namespace Go.Proofs.Ytoahjkdackccmaa
set_option linter.unusedVariables false
set_option linter.unusedSimpArgs false
open Go.RowKit

abbrev sm0 : Ma := ⟨0, 0, 5, 1, 2, 0, 0, 0, []⟩
abbrev sm1 : Ma := ⟨0, 0, 5, 1, 2, 1, 1, 0, []⟩
abbrev sm2 : Ma := ⟨0, 0, 5, 1, 2, 1, 1, 0, [[120]]⟩
abbrev sm3 : Ma := ⟨1, 1, 5, 1, 2, 1, 1, 0, []⟩
abbrev sm4 : Ma := ⟨1, 1, 5, 1, 2, 1, 1, 1, []⟩
abbrev sm5 : Ma := ⟨1, 1, 5, 2, 2, 2, 1, 0, []⟩
theorem t0 : newM 5 2 = sm0 := rfl
theorem t1 : sendM sm0 [120] = (sm0, 7) := rfl
theorem t2 : nextM sm0 = ⟨5, 1, 1, 0, 0, []⟩ := rfl
theorem t3 : heardM sm0 ⟨5, 4, 1, 0, 0, []⟩ = (sm1, [], true) := rfl
theorem t4 : sendM sm1 [120] = (sm2, 0) := rfl
theorem t5 : nextM sm2 = ⟨5, 2, 1, 0, 0, [120]⟩ := rfl
theorem t6 : heardM sm2 ⟨5, 5, 1, 0, 1, [101]⟩ = (sm3, [101], true) := rfl
theorem t7 : nextM sm3 = ⟨5, 3, 1, 1, 1, []⟩ := rfl
theorem t8 : heardM sm3 ⟨5, 5, 1, 0, 1, [101]⟩ = (sm3, [], true) := rfl
theorem t9 : missedM sm3 = (sm4, false) := rfl
theorem t10 : missedM sm4 = (sm5, true) := rfl
theorem t11 : nextM sm5 = ⟨5, 1, 2, 0, 0, []⟩ := rfl

set_option maxRecDepth 20000 in
set_option maxHeartbeats 3200000 in
theorem shown_on (w : World) : Calls Try.prog 10 #[] w fun e w' => e = .returned (.bool true) ∧ Below w.heap.size w w' := by
  go_enter Try.func10, Try.ntmps10
  go_wp2_with fail
  refine (new_lm (w := w) (a := 5) (t := 2) (by decide) (by decide) (Below.refl _ w)).mono ?_
  rintro e x0 ⟨rfl, h0, _⟩
  rw [t0] at h0
  have H0 := Lib.hid h0
  clear h0
  generalize w.heap.size = D at *
  have hcv := const_one x0 #[.int .u8 120] 1 1
  have HB0 := Lib.hid (new_below x0 (.cells #[.int .u8 120] 5 (1, 2)))
  have HH0 := Lib.hid (Hb.lit x0 D [120] (1, 2))
  go_wp2_with fail
  clear hcv
  refine (send_lm (H0.out.step HB0.out) HH0.out rfl).mono ?_
  rintro e x1 ⟨rfl, h1, _⟩
  rw [t1] at h1 ⊢
  have H1 := Lib.hid h1
  clear h1 HH0 HB0 H0
  go_wp2_with fail
  refine (next_lm H1.out).mono ?_
  rintro e x2 ⟨A2, c2, rfl, ho2, h2, _⟩
  rw [t2] at ho2 ⊢
  simp only [List.length_nil] at ho2 ⊢
  have H2 := Lib.hid h2
  clear h2 H1 ho2
  have HF0 : Hid (Fx (x2.alloc (.cells #[.int .u8 5, .int .u8 1, .int .u8 1, .int .u8 0, .int .u8 0, .slice A2 0 c2] 30)) x2.heap.size ⟨5, 1, 1, 0, 0, []⟩ (.slice A2 0 c2)) := heap_alloc_new x2 _
  replace H2 := Lib.hid (H2.out.step (new_below x2 (.cells #[.int .u8 5, .int .u8 1, .int .u8 1, .int .u8 0, .int .u8 0, .slice A2 0 c2] 30)))
  go_upto_region 6 with fail
  generalize x2.alloc (.cells #[.int .u8 5, .int .u8 1, .int .u8 1, .int .u8 0, .int .u8 0, .slice A2 0 c2] 30) = x3 at *
  generalize x2.heap.size = F at *
  go_wp2_with fail
  refine (heard_lm (f := ⟨5, 4, 1, 0, 0, []⟩) H2.out (by decide) (Hb.empty _ _ _) (by decide)).mono ?_
  rintro e x4 ⟨A4, c4, rfl, ho4, h4, hf4⟩
  rw [t3] at h4 ⊢
  have H4 := Lib.hid h4
  replace HF0 := Lib.hid (HF0.out.ft hf4 (by decide))
  simp only [List.length_nil] at ⊢
  clear ho4 h4 hf4 H2
  have hcv := const_one x4 #[.int .u8 120] 1 1
  have HB0 := Lib.hid (new_below x4 (.cells #[.int .u8 120] 5 (1, 2)))
  have HH0 := Lib.hid (Hb.lit x4 D [120] (1, 2))
  replace HF0 := Lib.hid (HF0.out.step HB0.out)
  go_wp2_with fail
  clear hcv
  refine (send_lm (H4.out.step HB0.out) HH0.out rfl).mono ?_
  rintro e x5 ⟨rfl, h5, hf5⟩
  rw [t4] at h5 ⊢
  have H5 := Lib.hid h5
  replace HF0 := Lib.hid (HF0.out.ft hf5 (by decide))
  clear h5 HH0 HB0 H4 hf5
  go_wp2_with fail
  refine (next_lm H5.out).mono ?_
  rintro e x6 ⟨A6, c6, rfl, ho6, h6, hb6⟩
  rw [t5] at ho6 ⊢
  simp only [List.length_cons, List.length_nil] at ho6 ⊢
  have H6 := Lib.hid h6
  replace HF0 := Lib.hid (HF0.out.step hb6)
  have hb7 := new_below x6 (.cells #[.int .u8 5, .int .u8 2, .int .u8 1, .int .u8 0, .int .u8 0, .slice A6 1 c6] 30)
  have HG0 : Hid (Fx (x6.alloc (.cells #[.int .u8 5, .int .u8 2, .int .u8 1, .int .u8 0, .int .u8 0, .slice A6 1 c6] 30)) x6.heap.size ⟨5, 2, 1, 0, 0, [120]⟩ (.slice A6 1 c6)) := heap_alloc_new x6 _
  have HO6 := Lib.hid (own_ft (B := 0) (T := []) ho6 (Ft.of_below hb7) (by simp))
  replace H6 := Lib.hid (H6.out.step hb7)
  replace HF0 := Lib.hid (HF0.out.step hb7)
  clear ho6 h6 hb6 hb7 H5
  go_upto_region 9 with fail
  generalize x6.alloc (.cells #[.int .u8 5, .int .u8 2, .int .u8 1, .int .u8 0, .int .u8 0, .slice A6 1 c6] 30) = x7 at *
  generalize x6.heap.size = G at *
  have hcv := const_one x7 #[.int .u8 101] 1 1
  have HB0 := Lib.hid (new_below x7 (.cells #[.int .u8 101] 5 (1, 2)))
  have HH0 := Lib.hid (Hb.lit x7 D [101] (1, 2))
  go_wp2_with fail
  clear hcv
  refine (heard_lm (f := ⟨5, 5, 1, 0, 1, [101]⟩) (H6.out.step HB0.out) (by decide) HH0.out (by decide)).mono ?_
  rintro e x8 ⟨A8, c8, rfl, ho8, h8, hf8⟩
  rw [t6] at ho8 h8 ⊢
  simp only [List.length_cons, List.length_nil] at ho8 ⊢
  have H8 := Lib.hid h8
  have HO8 := Lib.hid (own_zero ho8)
  replace HO6 := Lib.hid (own_ft HO6.out ((Ft.of_below (T := [62, 28]) (B := D) HB0.out).trans hf8) (by decide))
  replace HF0 := Lib.hid ((HF0.out.step HB0.out).ft hf8 (by decide))
  replace HG0 := Lib.hid ((HG0.out.step HB0.out).ft hf8 (by decide))
  clear ho8 h8 hf8 H6 HB0 HH0
  go_wp2_with fail
  refine (next_lm H8.out).mono ?_
  rintro e x9 ⟨A9, c9, rfl, ho9, h9, hb9⟩
  rw [t7] at ho9 ⊢
  simp only [List.length_nil] at ho9 ⊢
  have H9 := Lib.hid h9
  have hb10 := new_below x9 (.cells #[.int .u8 5, .int .u8 3, .int .u8 1, .int .u8 1, .int .u8 1, .slice A9 0 c9] 30)
  have HH1 : Hid (Fx (x9.alloc (.cells #[.int .u8 5, .int .u8 3, .int .u8 1, .int .u8 1, .int .u8 1, .slice A9 0 c9] 30)) x9.heap.size ⟨5, 3, 1, 1, 1, []⟩ (.slice A9 0 c9)) := heap_alloc_new x9 _
  replace HO6 := Lib.hid (own_ft (B := 0) (T := []) (own_ft (B := 0) (T := []) HO6.out (Ft.of_below hb9) (by simp)) (Ft.of_below hb10) (by simp))
  replace HO8 := Lib.hid (own_ft (B := 0) (T := []) (own_ft (B := 0) (T := []) HO8.out (Ft.of_below hb9) (by simp)) (Ft.of_below hb10) (by simp))
  replace HF0 := Lib.hid ((HF0.out.step hb9).step hb10)
  replace HG0 := Lib.hid ((HG0.out.step hb9).step hb10)
  replace H9 := Lib.hid (H9.out.step hb10)
  clear ho9 h9 hb9 hb10 H8
  go_upto_region 11 with fail
  generalize x9.alloc (.cells #[.int .u8 5, .int .u8 3, .int .u8 1, .int .u8 1, .int .u8 1, .slice A9 0 c9] 30) = x10 at *
  generalize x9.heap.size = I at *
  have hcv := const_one x10 #[.int .u8 101] 1 1
  have HB0 := Lib.hid (new_below x10 (.cells #[.int .u8 101] 5 (1, 2)))
  have HH0 := Lib.hid (Hb.lit x10 D [101] (1, 2))
  go_wp2_with fail
  clear hcv
  refine (heard_lm (f := ⟨5, 5, 1, 0, 1, [101]⟩) (H9.out.step HB0.out) (by decide) HH0.out (by decide)).mono ?_
  rintro e x11 ⟨A11, c11, rfl, ho11, h11, hf11⟩
  rw [t8] at ho11 h11 ⊢
  simp only [List.length_nil] at ho11 ⊢
  have H11 := Lib.hid h11
  have hft := (Ft.of_below (T := [62, 28]) (B := D) HB0.out).trans hf11
  replace HO6 := Lib.hid (own_ft HO6.out hft (by decide))
  replace HO8 := Lib.hid (own_ft HO8.out hft (by decide))
  replace HF0 := Lib.hid (HF0.out.ft hft (by decide))
  replace HG0 := Lib.hid (HG0.out.ft hft (by decide))
  replace HH1 := Lib.hid (HH1.out.ft hft (by decide))
  clear ho11 h11 hf11 hft H9 HB0 HH0
  go_wp2_with fail
  refine (missed_lm H11.out (by decide)).mono ?_
  rintro e x12 ⟨rfl, h12, hft⟩
  rw [t9] at h12 ⊢
  have H12 := Lib.hid h12
  replace HO6 := Lib.hid (own_ft HO6.out hft (by decide))
  replace HO8 := Lib.hid (own_ft HO8.out hft (by decide))
  replace HF0 := Lib.hid (HF0.out.ft hft (by decide))
  replace HG0 := Lib.hid (HG0.out.ft hft (by decide))
  replace HH1 := Lib.hid (HH1.out.ft hft (by decide))
  clear h12 hft H11
  go_wp2_with fail
  refine (missed_lm H12.out (by decide)).mono ?_
  rintro e x13 ⟨rfl, h13, hft⟩
  rw [t10] at h13 ⊢
  have H13 := Lib.hid h13
  have k6 := convert_own (own_zero (own_ft HO6.out hft (by decide))) (l := [120]) rfl
  have k8 := convert_own (own_zero (own_ft HO8.out hft (by decide))) (l := [101]) rfl
  have ef := (HF0.out.ft hft (by decide)).fc
  have eg := (HG0.out.ft hft (by decide)).fc
  have eh := (HH1.out.ft hft (by decide)).fc
  have a0 := ef.c0
  have a1 := ef.c1
  have a2 := ef.c2
  have b1 := eg.c1
  have b5 := eg.c5
  have d1 := eh.c1
  have d3 := eh.c3
  have d4 := eh.c4
  clear h13 hft H12 ef eg eh
  go_wp2_with fail
  refine (state_lm H13.out).mono ?_
  rintro e y ⟨rfl, rfl⟩
  go_wp2_with fail
  refine (next_lm H13.out).mono ?_
  rintro e x14 ⟨A14, c14, rfl, ho14, h14, hb14⟩
  rw [t11] at ho14 ⊢
  simp only [List.length_nil] at ho14 ⊢
  have H14 := Lib.hid h14
  have hfd := field_ses
  clear ho14 h14 hb14 H13 a0 a1 a2 b1 b5 d1 d3 d4 k6 k8
  go_wp2_with fail
  refine (epoch_lm H14.out).mono ?_
  rintro e y ⟨rfl, rfl⟩
  go_wp2
  go_ret
  exact ⟨rfl, H14.out.below⟩

end Go.Proofs.Ytoahjkdackccmaa
