/-
  lamplightlaw08.opened: what it answers.
-/
import Derived.Test.YtabedmkhhlmbkaaSlaS
namespace Go.Proofs.Ytabedmkhhlmbkaa
set_option linter.unusedVariables false
set_option linter.unusedSimpArgs false
open Go.RowKit

abbrev om0 : Ma := ⟨0, 0, 3, 1, 100000, 0, 0, 0, []⟩
theorem ot0 : newM 3 100000 = om0 := rfl
theorem ot1 : newS 3 = ⟨3, 0, 0, 0, []⟩ := rfl
theorem ot2 : nextM om0 = ⟨3, 1, 1, 0, 0, []⟩ := rfl
theorem ot3 : takeS ⟨3, 0, 0, 0, []⟩ ⟨3, 1, 1, 0, 0, []⟩ = (⟨3, 1, 0, 0, []⟩, ⟨3, 4, 1, 0, 0, []⟩, [], true) := rfl
theorem ot4 : heardM om0 ⟨3, 4, 1, 0, 0, []⟩ = (openL.m, [], true) := rfl

set_option maxRecDepth 20000 in
set_option maxHeartbeats 3200000 in
theorem opened_on {w x : World} (hb : Below w.heap.size w x) : Calls Try.prog 21 #[.int .i64 100000] x fun e y => ∃ L D S, e = .returned (.pointer (some ⟨L, 0, none⟩)) ∧ Lxx w L D S 1 openL y := by
  have HBX := Lib.hid hb
  clear hb
  go_enter Try.func21, Try.ntmps21
  go_wp2_with fail
  refine (new_lm (w := w) (a := 3) (t := 100000) (by decide) (by decide) HBX.out).mono ?_
  rintro e x1 ⟨rfl, h1, _⟩
  rw [ot0] at h1
  have HM := Lib.hid h1
  clear h1 HBX
  generalize x.heap.size = D at *
  go_wp2_with fail
  refine (sla_cond.new (w := w) (a := 3) (by decide) HM.out.below).mono ?_
  rintro e x2 ⟨rfl, h2, hb2⟩
  rw [ot1] at h2
  have HS := Lib.hid h2
  replace HM := Lib.hid (HM.out.step hb2)
  clear h2 hb2
  generalize x1.heap.size = S at *
  go_wp2_with fail
  refine (next_lm HM.out).mono ?_
  rintro e x3 ⟨A3, c3, rfl, ho3, h3, hb3⟩
  rw [ot2] at ho3 ⊢
  simp only [List.length_nil] at ho3 ⊢
  replace HM := Lib.hid h3
  replace HS := Lib.hid (HS.out.step hb3)
  clear ho3 h3 hb3
  go_wp2_with fail
  refine (take_at sla_cond (f := ⟨3, 1, 1, 0, 0, []⟩) HS.out (Hb.empty _ _ _) (by decide) (by decide) ot3).mono ?_
  rintro e x4 ⟨A4, c4, B4, d4, rfl, o1, o2, h4, hf4⟩
  simp only [List.length_nil] at o1 o2 ⊢
  replace HM := Lib.hid (HM.out.ft hf4 HS.out.le (by decide) (by decide) (by decide))
  replace HS := Lib.hid h4
  have hb5 := new_below x4 (.cells #[.int .u8 3, .int .u8 4, .int .u8 1, .int .u8 0, .int .u8 0, .slice A4 0 c4] 30)
  have HF : Hid (Fx (x4.alloc (.cells #[.int .u8 3, .int .u8 4, .int .u8 1, .int .u8 0, .int .u8 0, .slice A4 0 c4] 30)) x4.heap.size ⟨3, 4, 1, 0, 0, []⟩ (.slice A4 0 c4)) := heap_alloc_new x4 _
  replace HM := Lib.hid (HM.out.step hb5)
  replace HS := Lib.hid (HS.out.step hb5)
  clear o1 o2 h4 hf4 hb5
  go_upto_region 6 with fail
  generalize x4.alloc (.cells #[.int .u8 3, .int .u8 4, .int .u8 1, .int .u8 0, .int .u8 0, .slice A4 0 c4] 30) = x5 at *
  generalize x4.heap.size = F at *
  have hf := HF.out.fc
  have e0 := hf.c0
  have e1 := hf.c1
  have e2 := hf.c2
  have e3 := hf.c3
  have e4 := hf.c4
  have e5 := hf.c5
  clear hf
  go_wp2_with fail
  refine (heard_lm (f := ⟨3, 4, 1, 0, 0, []⟩) HM.out (by decide) (Hb.empty _ _ _) (by decide)).mono ?_
  rintro e x6 ⟨A6, c6, rfl, ho6, h6, hf6⟩
  rw [ot4] at ho6 h6 ⊢
  simp only [List.length_nil] at ho6 ⊢
  replace HS := Lib.hid (HS.out.ft hf6 HM.out.le (by decide) (by decide))
  replace HM := Lib.hid h6
  clear ho6 h6 hf6 e0 e1 e2 e3 e4 e5 HF
  go_wp2_with fail
  refine (state_lm HM.out).mono ?_
  rintro e y ⟨rfl, rfl⟩
  have hst : ((openL.m.st : Nat) : Int) = 1 := rfl
  rw [hst]
  clear hst
  go_wp2
  go_ret
  have hb7 := new_below y (.cells (lcs D S openL (.slice none 0 0) (.slice none 0 0)) 60)
  exact ⟨_, D, S, rfl, none, none, 0, 0, [], [], HM.out.step hb7, HS.out.step hb7, heap_alloc_new y _, Fq.nil _ _, Fq.nil _ _, by simp [ablk], HM.out.below.size, ⟨Nat.zero_le _, Nat.zero_le _, Nat.zero_le _, Nat.zero_le _⟩⟩

end Go.Proofs.Ytabedmkhhlmbkaa
