/-
  lamplightlaw08.shown, as it stands: true.
-/
import Derived.Test.YtabedmkhhlmbkaaSlaO
import Derived.Test.YtabedmkhhlmbkaaSlaM
namespace Go.Proofs.Ytabedmkhhlmbkaa
set_option linter.unusedVariables false
set_option linter.unusedSimpArgs false
open Go.RowKit

abbrev ss0 : Sl := ⟨5, 0, 0, 0, []⟩
abbrev ss1 : Sl := ⟨5, 9, 0, 0, []⟩
abbrev ss2 : Sl := ⟨5, 9, 0, 0, [101]⟩
abbrev ss3 : Sl := ⟨5, 9, 0, 1, [101]⟩
abbrev ss4 : Sl := ⟨5, 9, 1, 1, []⟩
theorem st0 : newS 5 = ss0 := rfl
theorem st1 : takeS ss0 ⟨5, 1, 9, 0, 0, []⟩ = (ss1, ⟨5, 4, 9, 0, 0, []⟩, [], true) := rfl
theorem st2 : offerS ss1 [101] = (ss2, 0) := rfl
theorem st3 : offerS ss2 [102] = (ss2, 5) := rfl
theorem st4 : takeS ss2 ⟨5, 2, 9, 0, 0, [99]⟩ = (ss3, ⟨5, 5, 9, 0, 1, [101]⟩, [99], true) := rfl
theorem st5 : takeS ss3 ⟨5, 2, 9, 0, 1, [99]⟩ = (ss4, ⟨5, 5, 9, 1, 1, []⟩, [], true) := rfl
theorem st6 : takeS ss4 ⟨5, 3, 8, 0, 0, []⟩ = (ss4, ⟨5, 5, 9, 0, 0, []⟩, [], true) := rfl
theorem st7 : takeS ss4 ⟨6, 3, 9, 0, 0, []⟩ = (ss4, ⟨0, 0, 0, 0, 0, []⟩, [], false) := rfl

set_option maxRecDepth 20000 in
set_option maxHeartbeats 6400000 in
theorem shown_on (w : World) : Calls Try.prog 10 #[] w fun e w' => e = .returned (.bool true) ∧ Below w.heap.size w w' := by
  go_enter Try.func10, Try.ntmps10
  go_wp2_with fail
  refine (sla_cond.new (w := w) (a := 5) (by decide) (Below.refl _ w)).mono ?_
  rintro e x0 ⟨rfl, h0, _⟩
  rw [st0] at h0
  have H := Lib.hid h0
  clear h0
  generalize w.heap.size = D at *
  go_wp2_with fail
  refine (take_at sla_cond (f := ⟨5, 1, 9, 0, 0, []⟩) H.out (Hb.empty _ _ _) (by decide) (by decide) st1).mono ?_
  rintro e x1 ⟨Aa, ca, Ba, da, rfl, o1, o2, h1, hf⟩
  simp only [List.length_nil] at o1 o2 ⊢
  replace H := Lib.hid h1
  have hb9 := new_below x1 (.cells #[.int .u8 5, .int .u8 4, .int .u8 9, .int .u8 0, .int .u8 0, .slice Aa 0 ca] 30)
  have HFa : Hid (Fx (x1.alloc (.cells #[.int .u8 5, .int .u8 4, .int .u8 9, .int .u8 0, .int .u8 0, .slice Aa 0 ca] 30)) x1.heap.size ⟨5, 4, 9, 0, 0, []⟩ (.slice Aa 0 ca)) := heap_alloc_new x1 _
  replace H := Lib.hid (H.out.step hb9)
  clear hb9 o1 o2 h1 hf
  go_upto_region 5 with fail
  generalize x1.alloc (.cells #[.int .u8 5, .int .u8 4, .int .u8 9, .int .u8 0, .int .u8 0, .slice Aa 0 ca] 30) = x2 at *
  generalize x1.heap.size = Ga at *
  have hcv := const_one x2 #[.int .u8 101] 1 1
  have HB0 := Lib.hid (new_below x2 (.cells #[.int .u8 101] 5 (1, 2)))
  have HH0 := Lib.hid (Hb.lit x2 D [101] (1, 2))
  replace H := Lib.hid (H.out.step HB0.out)
  replace HFa := Lib.hid (HFa.out.step HB0.out)
  go_wp2_with fail
  clear hcv
  refine (sla_cond.offer (l := [101]) H.out HH0.out rfl).mono ?_
  rintro e x3 ⟨rfl, h1, hf⟩
  rw [st2] at h1 ⊢
  replace H := Lib.hid h1
  replace HFa := Lib.hid (HFa.out.ft hf (by decide))
  clear h1 hf HB0 HH0
  have hcv := const_one x3 #[.int .u8 102] 1 1
  have HB0 := Lib.hid (new_below x3 (.cells #[.int .u8 102] 5 (1, 2)))
  have HH0 := Lib.hid (Hb.lit x3 D [102] (1, 2))
  replace H := Lib.hid (H.out.step HB0.out)
  replace HFa := Lib.hid (HFa.out.step HB0.out)
  go_wp2_with fail
  clear hcv
  refine (sla_cond.offer (l := [102]) H.out HH0.out rfl).mono ?_
  rintro e x4 ⟨rfl, h1, hf⟩
  rw [st3] at h1 ⊢
  replace H := Lib.hid h1
  replace HFa := Lib.hid (HFa.out.ft hf (by decide))
  clear h1 hf HB0 HH0
  have hcv := const_one x4 #[.int .u8 99] 1 1
  have HB0 := Lib.hid (new_below x4 (.cells #[.int .u8 99] 5 (1, 2)))
  have HH0 := Lib.hid (Hb.lit x4 D [99] (1, 2))
  replace H := Lib.hid (H.out.step HB0.out)
  replace HFa := Lib.hid (HFa.out.step HB0.out)
  go_wp2_with fail
  clear hcv
  refine (take_at sla_cond (f := ⟨5, 2, 9, 0, 0, [99]⟩) H.out HH0.out (by decide) (by decide) st4).mono ?_
  rintro e x5 ⟨Ad, cd, Bd, dd, rfl, o1, o2, h1, hf⟩
  simp only [List.length_cons, List.length_nil, Nat.zero_add] at o1 o2 ⊢
  replace H := Lib.hid h1
  replace HFa := Lib.hid (HFa.out.ft hf (by decide))
  have HOd := Lib.hid (own_zero o1)
  have HXd := Lib.hid (own_zero o2)
  have hb9 := new_below x5 (.cells #[.int .u8 5, .int .u8 5, .int .u8 9, .int .u8 0, .int .u8 1, .slice Ad 1 cd] 30)
  have HFd : Hid (Fx (x5.alloc (.cells #[.int .u8 5, .int .u8 5, .int .u8 9, .int .u8 0, .int .u8 1, .slice Ad 1 cd] 30)) x5.heap.size ⟨5, 5, 9, 0, 1, [101]⟩ (.slice Ad 1 cd)) := heap_alloc_new x5 _
  replace H := Lib.hid (H.out.step hb9)
  replace HFa := Lib.hid (HFa.out.step hb9)
  replace HOd := Lib.hid (own_ft (B := 0) (T := []) HOd.out (Ft.of_below hb9) (by simp))
  replace HXd := Lib.hid (own_ft (B := 0) (T := []) HXd.out (Ft.of_below hb9) (by simp))
  clear hb9 o1 o2 h1 hf HB0 HH0
  go_upto_region 8 with fail
  generalize x5.alloc (.cells #[.int .u8 5, .int .u8 5, .int .u8 9, .int .u8 0, .int .u8 1, .slice Ad 1 cd] 30) = x6 at *
  generalize x5.heap.size = Gd at *
  have hcv := const_one x6 #[.int .u8 99] 1 1
  have HB0 := Lib.hid (new_below x6 (.cells #[.int .u8 99] 5 (1, 2)))
  have HH0 := Lib.hid (Hb.lit x6 D [99] (1, 2))
  replace H := Lib.hid (H.out.step HB0.out)
  replace HFa := Lib.hid (HFa.out.step HB0.out)
  replace HOd := Lib.hid (own_ft (B := 0) (T := []) HOd.out (Ft.of_below HB0.out) (by simp))
  replace HXd := Lib.hid (own_ft (B := 0) (T := []) HXd.out (Ft.of_below HB0.out) (by simp))
  replace HFd := Lib.hid (HFd.out.step HB0.out)
  go_wp2_with fail
  clear hcv
  refine (take_at sla_cond (f := ⟨5, 2, 9, 0, 1, [99]⟩) H.out HH0.out (by decide) (by decide) st5).mono ?_
  rintro e x7 ⟨Ae, ce, Be, de, rfl, o1, o2, h1, hf⟩
  simp only [List.length_nil] at o1 o2 ⊢
  replace H := Lib.hid h1
  replace HFa := Lib.hid (HFa.out.ft hf (by decide))
  replace HOd := Lib.hid (own_ft HOd.out hf (by decide))
  replace HXd := Lib.hid (own_ft HXd.out hf (by decide))
  replace HFd := Lib.hid (HFd.out.ft hf (by decide))
  have hb9 := new_below x7 (.cells #[.int .u8 5, .int .u8 5, .int .u8 9, .int .u8 1, .int .u8 1, .slice Ae 0 ce] 30)
  have HFe : Hid (Fx (x7.alloc (.cells #[.int .u8 5, .int .u8 5, .int .u8 9, .int .u8 1, .int .u8 1, .slice Ae 0 ce] 30)) x7.heap.size ⟨5, 5, 9, 1, 1, []⟩ (.slice Ae 0 ce)) := heap_alloc_new x7 _
  replace H := Lib.hid (H.out.step hb9)
  replace HFa := Lib.hid (HFa.out.step hb9)
  replace HOd := Lib.hid (own_ft (B := 0) (T := []) HOd.out (Ft.of_below hb9) (by simp))
  replace HXd := Lib.hid (own_ft (B := 0) (T := []) HXd.out (Ft.of_below hb9) (by simp))
  replace HFd := Lib.hid (HFd.out.step hb9)
  clear hb9 o1 o2 h1 hf HB0 HH0
  go_upto_region 9 with fail
  generalize x7.alloc (.cells #[.int .u8 5, .int .u8 5, .int .u8 9, .int .u8 1, .int .u8 1, .slice Ae 0 ce] 30) = x8 at *
  generalize x7.heap.size = Ge at *
  go_wp2_with fail
  refine (take_at sla_cond (f := ⟨5, 3, 8, 0, 0, []⟩) H.out (Hb.empty _ _ _) (by decide) (by decide) st6).mono ?_
  rintro e x9 ⟨Af, cf, Bf, df, rfl, o1, o2, h1, hf⟩
  simp only [List.length_nil] at o1 o2 ⊢
  replace H := Lib.hid h1
  replace HFa := Lib.hid (HFa.out.ft hf (by decide))
  replace HOd := Lib.hid (own_ft HOd.out hf (by decide))
  replace HXd := Lib.hid (own_ft HXd.out hf (by decide))
  replace HFd := Lib.hid (HFd.out.ft hf (by decide))
  replace HFe := Lib.hid (HFe.out.ft hf (by decide))
  have hb9 := new_below x9 (.cells #[.int .u8 5, .int .u8 5, .int .u8 9, .int .u8 0, .int .u8 0, .slice Af 0 cf] 30)
  have HFf : Hid (Fx (x9.alloc (.cells #[.int .u8 5, .int .u8 5, .int .u8 9, .int .u8 0, .int .u8 0, .slice Af 0 cf] 30)) x9.heap.size ⟨5, 5, 9, 0, 0, []⟩ (.slice Af 0 cf)) := heap_alloc_new x9 _
  replace H := Lib.hid (H.out.step hb9)
  replace HFa := Lib.hid (HFa.out.step hb9)
  replace HOd := Lib.hid (own_ft (B := 0) (T := []) HOd.out (Ft.of_below hb9) (by simp))
  replace HXd := Lib.hid (own_ft (B := 0) (T := []) HXd.out (Ft.of_below hb9) (by simp))
  replace HFd := Lib.hid (HFd.out.step hb9)
  replace HFe := Lib.hid (HFe.out.step hb9)
  clear hb9 o1 o2 h1 hf
  go_upto_region 10 with fail
  generalize x9.alloc (.cells #[.int .u8 5, .int .u8 5, .int .u8 9, .int .u8 0, .int .u8 0, .slice Af 0 cf] 30) = x10 at *
  generalize x9.heap.size = Gf at *
  go_wp2_with fail
  refine (take_at sla_cond (f := ⟨6, 3, 9, 0, 0, []⟩) H.out (Hb.empty _ _ _) (by decide) (by decide) st7).mono ?_
  rintro e x11 ⟨Ag, cg, Bg, dg, rfl, o1, o2, h1, hf⟩
  simp only [List.length_nil] at o1 o2 ⊢
  replace H := Lib.hid h1
  replace HFa := Lib.hid (HFa.out.ft hf (by decide))
  replace HOd := Lib.hid (own_ft HOd.out hf (by decide))
  replace HXd := Lib.hid (own_ft HXd.out hf (by decide))
  replace HFd := Lib.hid (HFd.out.ft hf (by decide))
  replace HFe := Lib.hid (HFe.out.ft hf (by decide))
  replace HFf := Lib.hid (HFf.out.ft hf (by decide))
  have hb9 := new_below x11 (.cells #[.int .u8 0, .int .u8 0, .int .u8 0, .int .u8 0, .int .u8 0, .slice Ag 0 cg] 30)
  have HFg : Hid (Fx (x11.alloc (.cells #[.int .u8 0, .int .u8 0, .int .u8 0, .int .u8 0, .int .u8 0, .slice Ag 0 cg] 30)) x11.heap.size ⟨0, 0, 0, 0, 0, []⟩ (.slice Ag 0 cg)) := heap_alloc_new x11 _
  replace H := Lib.hid (H.out.step hb9)
  replace HFa := Lib.hid (HFa.out.step hb9)
  replace HOd := Lib.hid (own_ft (B := 0) (T := []) HOd.out (Ft.of_below hb9) (by simp))
  replace HXd := Lib.hid (own_ft (B := 0) (T := []) HXd.out (Ft.of_below hb9) (by simp))
  replace HFd := Lib.hid (HFd.out.step hb9)
  replace HFe := Lib.hid (HFe.out.step hb9)
  replace HFf := Lib.hid (HFf.out.step hb9)
  clear hb9 o1 o2 h1 hf
  go_upto_region 11 with fail
  generalize x11.alloc (.cells #[.int .u8 0, .int .u8 0, .int .u8 0, .int .u8 0, .int .u8 0, .slice Ag 0 cg] 30) = x12 at *
  generalize x11.heap.size = Gg at *
  have k6 := convert_own HOd.out (l := [101]) rfl
  have k8 := convert_own HXd.out (l := [99]) rfl
  have a1 := HFa.out.fc.c1
  have a2 := HFa.out.fc.c2
  have b1 := HFd.out.fc.c1
  have b4 := HFd.out.fc.c4
  have b5 := HFd.out.fc.c5
  have d3 := HFe.out.fc.c3
  have d5 := HFe.out.fc.c5
  have f2 := HFf.out.fc.c2
  have f4 := HFf.out.fc.c4
  clear HFa HFd HFe HFf HFg HOd HXd
  go_wp2_with fail
  refine (sla_cond.pending H.out).mono ?_
  rintro e y ⟨rfl, rfl⟩
  go_wp2
  go_ret
  exact ⟨rfl, H.out.below⟩

end Go.Proofs.Ytabedmkhhlmbkaa
