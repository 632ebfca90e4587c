/-
  lamplightlaw10.shown, as it stands: true, under the conditions on buttons' calls.
-/
import Derived.Test.YtgpgaeakioellaaButC
import Derived.Great.BuildSlice
namespace Go.Proofs.Ytgpgaeakioellaa
set_option linter.unusedVariables false
set_option linter.unusedSimpArgs false
open Go.RowKit

abbrev bs1 : Bs := (setB zeroB 2 true 5).1
abbrev bs2 : Bs := (setB bs1 2 true 7).1
abbrev bs3 : Bs := (setB bs2 4 true 7).1
abbrev bs4 : Bs := (pressB bs3 7).1
abbrev bs5 : Bs := (pressB bs4 8).1
abbrev bs6 : Bs := (pressB bs5 9).1
abbrev bs7 : Bs := (setB bs6 2 false 9).1
abbrev bs8 : Bs := (setB bs7 2 true 9).1
abbrev bs9 : Bs := (setB bs8 0 true 9).1
abbrev bs10 : Bs := (pressB bs9 12).1
theorem bt1 : (setB zeroB 2 true 5).2 = 0 := rfl
theorem bt2 : (setB bs1 2 true 7).2 = 0 := rfl
theorem bt3 : (setB bs2 4 true 7).2 = 1 := rfl
theorem bt4 : (pressB bs3 7).2 = [] := rfl
theorem bt5 : (pressB bs4 8).2 = [2] := rfl
theorem bt6 : (pressB bs5 9).2 = [] := rfl
theorem bt10 : (pressB bs9 12).2 = [0, 2] := rfl
theorem bd6 : downB bs6 2 = true := rfl
theorem bd0 : downB zeroB 0 = false := rfl
theorem bi_small {t : Int} (h : 0 ≤ t) (h' : t ≤ 1000) : BI t := by unfold BI; omega
set_option maxRecDepth 20000 in
set_option maxHeartbeats 3200000 in
theorem shown_on {Bl : World → Nat → Bs → Prop} (BC : ButCond Bl) (w : World) : Calls Try.prog 10 #[] w fun e w' => e = .returned (.bool true) ∧ Below w.heap.size w w' := by
  have HBC := Lib.hid BC
  have H0 := Lib.hid (Lb.zero BC (Below.refl w.heap.size w))
  clear BC
  go_enter Try.func10, Try.ntmps10
  go_wp2_with fail
  refine (HBC.out.setL (b := 2) (d := true) (now := 5) H0.out (by unfold BI; omega) (by unfold BI; omega)).mono ?_
  rintro e x1 ⟨rfl, h, hc⟩
  rw [bt1]
  have H1 := Lib.hid h
  obtain ⟨D, hD⟩ : ∃ D, w.heap.size = D := ⟨_, rfl⟩
  rw [hD] at H1 hc ⊢
  clear hD
  clear h hc H0
  go_wp2_with fail
  refine (HBC.out.setL (b := 2) (d := true) (now := 7) H1.out (by unfold BI; omega) (by unfold BI; omega)).mono ?_
  rintro e x2 ⟨rfl, h, hc⟩
  rw [bt2]
  have H2 := Lib.hid h
  clear h hc H1
  go_wp2_with fail
  refine (HBC.out.setL (b := 4) (d := true) (now := 7) H2.out (by unfold BI; omega) (by unfold BI; omega)).mono ?_
  rintro e x3 ⟨rfl, h, hc⟩
  rw [bt3]
  have H3 := Lib.hid h
  clear h hc H2
  go_wp2_with fail
  refine (HBC.out.pressedL (now := 7) H3.out (by unfold BI; omega)).mono ?_
  rintro e x4 ⟨A4, c4, rfl, hi, h, hc⟩
  rw [bt4] at hi ⊢
  simp only [List.length_nil, List.length_cons] at hi ⊢
  have H4 := Lib.hid h
  clear h hc hi H3
  go_wp2_with fail
  refine (HBC.out.pressedL (now := 8) H4.out (by unfold BI; omega)).mono ?_
  rintro e x5 ⟨A5, c5, rfl, hi, h, hc⟩
  rw [bt5] at hi ⊢
  simp only [List.length_nil, List.length_cons] at hi ⊢
  have H5 := Lib.hid h
  have HI5 := Lib.hid hi
  have HLT5 := Lib.hid (H4.out.lt HBC.out)
  generalize x4.heap.size = B5 at *
  clear h hc hi H4
  go_wp2_with fail
  refine (HBC.out.pressedL (now := 9) H5.out (by unfold BI; omega)).mono ?_
  rintro e x6 ⟨A6, c6, rfl, hi, h, hc⟩
  rw [bt6] at hi ⊢
  simp only [List.length_nil, List.length_cons] at hi ⊢
  have H6 := Lib.hid h
  replace HI5 := Lib.hid (HI5.out.ch hc HLT5.out)
  clear h hc hi H5
  go_wp2_with fail
  refine (HBC.out.downL (b := 2) H6.out (by unfold BI; omega)).mono ?_
  rintro e x7 ⟨rfl, h, hb⟩
  rw [bd6]
  have H7 := Lib.hid h
  replace HI5 := Lib.hid (HI5.out.step hb)
  clear h hb H6
  go_wp2_with fail
  refine (HBC.out.setL (b := 2) (d := false) (now := 9) H7.out (by unfold BI; omega) (by unfold BI; omega)).mono ?_
  rintro e x8 ⟨rfl, h, hc⟩
  have H8 := Lib.hid h
  replace HI5 := Lib.hid (HI5.out.ch hc HLT5.out)
  clear h hc H7
  go_wp2_with fail
  refine (HBC.out.setL (b := 2) (d := true) (now := 9) H8.out (by unfold BI; omega) (by unfold BI; omega)).mono ?_
  rintro e x9 ⟨rfl, h, hc⟩
  have H9 := Lib.hid h
  replace HI5 := Lib.hid (HI5.out.ch hc HLT5.out)
  clear h hc H8
  go_wp2_with fail
  refine (HBC.out.setL (b := 0) (d := true) (now := 9) H9.out (by unfold BI; omega) (by unfold BI; omega)).mono ?_
  rintro e x10 ⟨rfl, h, hc⟩
  have H10 := Lib.hid h
  replace HI5 := Lib.hid (HI5.out.ch hc HLT5.out)
  clear h hc H9
  go_wp2_with fail
  refine (HBC.out.pressedL (now := 12) H10.out (by unfold BI; omega)).mono ?_
  rintro e x11 ⟨A11, c11, rfl, hi, h, hc⟩
  rw [bt10] at hi ⊢
  simp only [List.length_nil, List.length_cons] at hi ⊢
  have H11 := Lib.hid h
  replace HI5 := Lib.hid (HI5.out.ch hc HLT5.out)
  have HI11 := Lib.hid hi
  have HLT11 := Lib.hid (H10.out.lt HBC.out)
  generalize x10.heap.size = B11 at *
  clear h hc hi H10
  go_wp2_with fail
  refine (HBC.out.resetL H11.out).mono ?_
  rintro e x12 ⟨rfl, h, hc⟩
  have H12 := Lib.hid h
  replace HI5 := Lib.hid (HI5.out.ch hc HLT5.out)
  replace HI11 := Lib.hid (HI11.out.ch hc HLT11.out)
  clear h hc H11
  go_wp2_with fail
  have hb13 := new_below x12 (.cells #[.int .i64 2] 3)
  have H13 := Lib.hid (H12.out.step HBC.out hb13)
  have HI5b := Lib.hid (HI5.out.step hb13)
  have HI11b := Lib.hid (HI11.out.step hb13)
  have HH13 : Hid (Holds (x12.alloc (.cells #[.int .i64 2] 3)) x12.heap.size (some ⟨x12.heap.size, 0, none⟩) (ics [2])) := Lib.hid (Holds.of_row (heap_alloc_new x12 _))
  obtain ⟨g5, hg5⟩ := HI5b.out.holds
  refine (same_on hg5 HH13.out (by rfl) (by rfl) (by omega) HI5b.out.cap.1 (by omega)).mono ?_
  rintro e x14 ⟨rfl, hb⟩
  have H14 := Lib.hid (H13.out.step HBC.out hb)
  have HI11c := Lib.hid (HI11b.out.step hb)
  clear hb hg5 HH13 HI5b HI11b H13 hb13 H12 HI5 HI11
  go_wp2_with fail
  have hb15 := new_below x14 (.cells #[.int .i64 0, .int .i64 2] 3)
  have H15 := Lib.hid (H14.out.step HBC.out hb15)
  have HI11d := Lib.hid (HI11c.out.step hb15)
  have HH15 : Hid (Holds (x14.alloc (.cells #[.int .i64 0, .int .i64 2] 3)) x14.heap.size (some ⟨x14.heap.size, 0, none⟩) (ics [0, 2])) := Lib.hid (Holds.of_row (heap_alloc_new x14 _))
  obtain ⟨g11, hg11⟩ := HI11d.out.holds
  refine (same_on hg11 HH15.out (by rfl) (by rfl) (by omega) HI11d.out.cap.1 (by omega)).mono ?_
  rintro e x16 ⟨rfl, hb⟩
  have H16 := Lib.hid (H15.out.step HBC.out hb)
  clear hb hg11 HH15 HI11d HI11c H15 hb15 H14
  go_wp2_with fail
  refine (HBC.out.downL (b := 0) H16.out (by unfold BI; omega)).mono ?_
  rintro e x17 ⟨rfl, h, _⟩
  rw [bd0]
  have H17 := Lib.hid h
  clear h H16
  go_wp2
  go_ret
  exact ⟨rfl, H17.out.below⟩
end Go.Proofs.Ytgpgaeakioellaa
