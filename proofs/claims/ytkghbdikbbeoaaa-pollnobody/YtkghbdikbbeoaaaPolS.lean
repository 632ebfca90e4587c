/-
  lamplightlaw09.shown, as it stands: true, under the conditions on poll's calls.
-/
import Derived.Test.YtkghbdikbbeoaaaPolC
import Derived.Great.BuildSlice
namespace Go.Proofs.Ytkghbdikbbeoaaa
set_option linter.unusedVariables false
set_option linter.unusedSimpArgs false
open Go.RowKit

theorem hb_own {w : World} {B n c : Nat} {A : Option Addr} {l : List UInt8} (h : w.ownsRow B 5 1 (.slice A n c) n (bcs l)) (hn : l.length = n) : (convert 22 9 (.slice A n c)).run Try.prog w = .ok (.string ⟨l.toArray⟩) w := by
  refine convert_own ⟨h.1, ?_⟩ hn
  rcases h.2 with hh | ⟨g, cap, cur, q1, q2, q3⟩
  · exact .inl hh
  · exact .inr ⟨g, cap, cur, q1, Nat.zero_le _, q3⟩
abbrev qs0 : Po := ⟨[⟨3, false, 0⟩, ⟨1, false, 0⟩], 0⟩
abbrev qs1 : Po := ⟨[⟨3, false, 0⟩, ⟨1, false, 0⟩], 1⟩
abbrev qs2 : Po := ⟨[⟨3, false, 0⟩, ⟨1, false, 0⟩], 2⟩
abbrev qs3 : Po := ⟨[⟨3, false, 0⟩, ⟨1, false, 0⟩], 1⟩
abbrev qs4 : Po := ⟨[⟨3, false, 0⟩, ⟨1, true, 5⟩], 1⟩
abbrev qs5 : Po := ⟨[⟨3, false, 0⟩, ⟨1, true, 5⟩], 1⟩
abbrev qs6 : Po := ⟨[⟨3, false, 0⟩, ⟨1, true, 5⟩], 1⟩
abbrev qs7 : Po := ⟨[⟨3, false, 0⟩, ⟨1, true, 25⟩], 1⟩
abbrev qs8 : Po := ⟨[⟨3, false, 0⟩, ⟨1, true, 25⟩], 1⟩
abbrev qs9 : Po := ⟨[⟨3, false, 0⟩, ⟨1, true, 25⟩], 1⟩
abbrev qs10 : Po := ⟨[⟨3, false, 0⟩, ⟨1, false, 25⟩], 1⟩
theorem qn : newP [3, 1, 0, 3, 32] = qs0 := rfl
theorem qt0 : nextP qs0 0 = (qs1, 3, true) := rfl
theorem qt1 : nextP qs1 0 = (qs2, 1, true) := rfl
theorem qt2 : nextP qs2 0 = (qs3, 3, true) := rfl
theorem qt3 : deadP qs3 1 5 = (qs4, 0) := rfl
theorem qt4 : nextP qs4 6 = (qs5, 3, true) := rfl
theorem qt5 : nextP qs5 24 = (qs6, 3, true) := rfl
theorem qt6 : nextP qs6 25 = (qs7, 1, true) := rfl
theorem qt7 : nextP qs7 25 = (qs8, 3, true) := rfl
theorem qt8 : aliveP qs8 9 = (qs9, 6) := rfl
theorem qt9 : aliveP qs9 1 = (qs10, 0) := rfl
theorem qi1 : isP qs10 1 = true := rfl
theorem qi9 : isP qs10 9 = false := rfl
theorem qa : Po.bytes qs10 = [3, 1] := rfl

set_option maxRecDepth 20000 in
set_option maxHeartbeats 3200000 in
theorem shown_on {Pl : World → Nat → Nat → Nat → Po → Prop} (PC : PolCond Pl) (w : World) : Calls Try.prog 10 #[] w fun e w' => e = .returned (.bool true) ∧ Below w.heap.size w w' := by
  have HPC := Lib.hid PC
  clear PC
  have HB0 := Lib.hid (new_below w (.cells #[.int .u8 3, .int .u8 1, .int .u8 0, .int .u8 3, .int .u8 32] 5))
  have HH0 : Hid (Holds (w.alloc (.cells #[.int .u8 3, .int .u8 1, .int .u8 0, .int .u8 3, .int .u8 32] 5)) w.heap.size (some ⟨w.heap.size, 0, none⟩) (bcs [3, 1, 0, 3, 32])) := Lib.hid (Holds.of_row (heap_alloc_new w _))
  go_enter Try.func10, Try.ntmps10
  go_wp2_with fail
  refine (HPC.out.newL (w := w) HB0.out HH0.out (n := 5) (c := 5) rfl (by omega) (by omega) (by omega)).mono ?_
  rintro e x0 ⟨D, rfl, h, _⟩
  rw [qn] at h
  generalize w.alloc (.cells #[.int .u8 3, .int .u8 1, .int .u8 0, .int .u8 3, .int .u8 32] 5) = wa at *
  generalize wa.heap.size = L at *
  generalize hu : x0.heap.size = U at *
  have H0 := Lib.hid h
  clear h HB0 HH0 hu
  go_wp2_with fail
  refine (HPC.out.nextL H0.out (now := 0) (by unfold I64; omega)).mono ?_
  rintro e x1 ⟨rfl, h, _⟩
  rw [qt0] at h ⊢
  simp only at h ⊢
  have H1 := Lib.hid h
  clear h H0
  go_wp2_with fail
  refine (HPC.out.nextL H1.out (now := 0) (by unfold I64; omega)).mono ?_
  rintro e x2 ⟨rfl, h, _⟩
  rw [qt1] at h ⊢
  simp only at h ⊢
  have H2 := Lib.hid h
  clear h H1
  go_wp2_with fail
  refine (HPC.out.nextL H2.out (now := 0) (by unfold I64; omega)).mono ?_
  rintro e x3 ⟨rfl, h, _⟩
  rw [qt2] at h ⊢
  simp only at h ⊢
  have H3 := Lib.hid h
  clear h H2
  go_wp2_with fail
  refine (HPC.out.deadL (a := 1) (now := 5) H3.out (by unfold I64; omega)).mono ?_
  rintro e x4 ⟨rfl, h, _⟩
  rw [qt3] at h ⊢
  simp only at h ⊢
  have H4 := Lib.hid h
  clear h H3
  go_wp2_with fail
  refine (HPC.out.nextL H4.out (now := 6) (by unfold I64; omega)).mono ?_
  rintro e x5 ⟨rfl, h, _⟩
  rw [qt4] at h ⊢
  simp only at h ⊢
  have H5 := Lib.hid h
  clear h H4
  go_wp2_with fail
  refine (HPC.out.nextL H5.out (now := 24) (by unfold I64; omega)).mono ?_
  rintro e x6 ⟨rfl, h, _⟩
  rw [qt5] at h ⊢
  simp only at h ⊢
  have H6 := Lib.hid h
  clear h H5
  go_wp2_with fail
  refine (HPC.out.nextL H6.out (now := 25) (by unfold I64; omega)).mono ?_
  rintro e x7 ⟨rfl, h, _⟩
  rw [qt6] at h ⊢
  simp only at h ⊢
  have H7 := Lib.hid h
  clear h H6
  go_wp2_with fail
  refine (HPC.out.nextL H7.out (now := 25) (by unfold I64; omega)).mono ?_
  rintro e x8 ⟨rfl, h, _⟩
  rw [qt7] at h ⊢
  simp only at h ⊢
  have H8 := Lib.hid h
  clear h H7
  go_wp2_with fail
  refine (HPC.out.aliveL (a := 9) H8.out).mono ?_
  rintro e x9 ⟨rfl, h, _⟩
  rw [qt8] at h ⊢
  simp only at h ⊢
  have H9 := Lib.hid h
  clear h H8
  go_wp2_with fail
  refine (HPC.out.aliveL (a := 1) H9.out).mono ?_
  rintro e x10 ⟨rfl, h, _⟩
  rw [qt9] at h ⊢
  simp only at h ⊢
  have H10 := Lib.hid h
  clear h H9
  go_wp2_with fail
  refine (HPC.out.isL (a := 1) H10.out).mono ?_
  rintro e x11 ⟨rfl, h, _⟩
  rw [qi1]
  have H11 := Lib.hid h
  clear h H10
  go_wp2_with fail
  refine (HPC.out.isL (a := 9) H11.out).mono ?_
  rintro e x12 ⟨rfl, h, _⟩
  rw [qi9]
  have H12 := Lib.hid h
  clear h H11
  go_wp2_with fail
  refine (HPC.out.addrsL H12.out).mono ?_
  rintro e x13 ⟨A, c, rfl, ho, h, _⟩
  rw [qa] at ho
  have hl2 : (qs10).l.length = 2 := rfl
  rw [hl2] at ho ⊢
  have hcv := hb_own ho rfl
  have H13 := Lib.hid h
  clear h ho H12
  go_wp2
  go_ret
  exact ⟨rfl, H13.out.below⟩

end Go.Proofs.Ytkghbdikbbeoaaa
