/-
  master's listens and Missed, as they landed: what they answer.
-/
import Derived.Test.YtabedmkhhlmbkaaMasA
namespace Go.Proofs.Ytabedmkhhlmbkaa
set_option linter.unusedVariables false
set_option linter.unusedSimpArgs false
open Go.RowKit

set_option maxRecDepth 20000 in
set_option maxHeartbeats 1600000 in
theorem listens_on {w : World} {B D : Nat} {m : Ma} {f : Fr} {V : Value} (h : Ms w B D m) : Calls Try.prog 37 #[.pointer (some ⟨D, 0, none⟩), .agg (fcs f V)] w fun e w' => e = .returned (.bool (lisM m f)) ∧ Below w.heap.size w w' := by
  have H1 := Lib.hid (h.step (new_below w (.cells (fcs f V) 30)))
  have HX : Hid (Fx (w.alloc (.cells (fcs f V) 30)) w.heap.size f V) := heap_alloc_new w _
  have HB := Lib.hid (new_below w (.cells (fcs f V) 30))
  have HL : Hid (lisM m f = decide (f.a = m.addr ∧ ((f.k = 4 ∧ (m.st = 1 ∨ f.s = m.ses)) ∨ (f.k = 5 ∧ m.st = 1)))) := rfl
  clear h
  generalize lisM m f = r at *
  obtain ⟨A, c, hc⟩ := H1.out.mc
  have hf := HX.out.fc
  have c2 := hc.c2
  have c3 := hc.c3
  have c5 := hc.c5
  have e0 := hf.c0
  have e1 := hf.c1
  have e2 := hf.c2
  clear hc hf H1 HX
  cases m with
  | mk sent hrd addr ses tries st ep ms q =>
  cases f with
  | mk fa fk fs fq fcc fb =>
  simp only at *
  go_enter Try.func37, Try.ntmps37
  go_upto_region 1 with fail
  generalize w.alloc (.cells (fcs ⟨fa, fk, fs, fq, fcc, fb⟩ V) 30) = x at *
  have HBD : Hid (Below w.heap.size w x.drew) := HB.out.trans ((drew_below x).mono HB.out.size)
  clear HB
  generalize w.heap.size = X at e0 e1 e2 ⊢
  refine region_plan [(true, 0), (true, 1), (true, 2), (true, 3), (true, 4), (true, 5), (true, 6)]
    (fun y => y.cell? ⟨X, 0, none⟩ = some (.int .u8 (fa : Int)) ∧ y.cell? ⟨D, 2, none⟩ = some (.int .u8 (addr : Int))) (by kernel_rfl) (by kernel_rfl) (by kernel_rfl) rfl ⟨e0, c2⟩ ?_
  iterate 7 (refine Plan.take (v := ?_) rfl (by rfl) ?_ ?_; rotate_left 1; (focus (intro x hx; go_simp <;> (first | with_reducible rfl | rw [if_pos (by omega)]))); simp only [Act.put, List.setIfInBounds_toArray, List.set_cons_zero, List.set_cons_succ])
  refine Plan.done ?_
  by_cases ha : fa = addr
  · subst ha
    by_cases h4 : fk = 4
    · subst h4
      go_upto_region 5 with fail
      by_cases hst : st = 1
      · subst hst
        refine region_plan [(true, 0), (true, 1), (true, 2), (true, 3), (true, 4), (true, 5), (true, 6), (true, 7), (true, 8), (true, 9), (true, 10), (true, 11), (true, 12), (true, 13), (true, 14)]
          (fun y => y.cell? ⟨X, 2, none⟩ = some (.int .u8 (fs : Int)) ∧ y.cell? ⟨D, 3, none⟩ = some (.int .u8 (ses : Int)) ∧ y.cell? ⟨D, 5, none⟩ = some (.int .i64 1)) (by kernel_rfl) (by kernel_rfl) (by kernel_rfl) rfl ⟨e2, c3, c5⟩ ?_
        iterate 15 (first | (refine Plan.take (v := ?_) rfl (by rfl) ?_ ?_; rotate_left 1; (focus (intro x hx; go_simp <;> (first | with_reducible rfl | rw [if_pos (by omega)]))); simp only [Act.put, List.setIfInBounds_toArray, List.set_cons_zero, List.set_cons_succ]) | (refine Plan.skip rfl (by rfl) ?_; simp only [Act.put, List.setIfInBounds_toArray, List.set_cons_zero, List.set_cons_succ]))
        refine Plan.done ?_
        go_wp2
        go_ret
        exact ⟨by rw [HL.out]; simp, HBD.out.trans ((drew_below _).mono HBD.out.size)⟩
      · have hst' : ((st : Int) == 1) = false := by simp; omega
        refine region_plan [(true, 0), (true, 1), (true, 2), (true, 3), (true, 4), (true, 5), (true, 6), (true, 7), (true, 8), (true, 9), (true, 10), (true, 11), (true, 12), (true, 13), (true, 14)]
          (fun y => y.cell? ⟨X, 2, none⟩ = some (.int .u8 (fs : Int)) ∧ y.cell? ⟨D, 3, none⟩ = some (.int .u8 (ses : Int)) ∧ y.cell? ⟨D, 5, none⟩ = some (.int .i64 (st : Int))) (by kernel_rfl) (by kernel_rfl) (by kernel_rfl) rfl ⟨e2, c3, c5⟩ ?_
        iterate 15 (first | (refine Plan.take (v := ?_) rfl (by rfl) ?_ ?_; rotate_left 1; (focus (intro x hx; go_simp <;> (first | with_reducible rfl | rw [if_pos (by omega)]))); simp only [Act.put, List.setIfInBounds_toArray, List.set_cons_zero, List.set_cons_succ]) | (refine Plan.skip rfl (by rfl) ?_; simp only [Act.put, List.setIfInBounds_toArray, List.set_cons_zero, List.set_cons_succ]))
        refine Plan.done ?_
        go_wp2
        go_ret
        refine ⟨?_, HBD.out.trans ((drew_below _).mono HBD.out.size)⟩
        rw [HL.out]
        show Ending.returned (.bool ((fs : Int) == (ses : Int))) = _
        congr 2
        rw [Bool.eq_iff_iff]
        simp
        omega
    · by_cases h5 : fk = 5
      · subst h5
        go_wp2
        go_ret
        refine ⟨?_, HBD.out⟩
        rw [HL.out]
        show Ending.returned (.bool ((st : Int) == 1)) = _
        congr 2
        rw [Bool.eq_iff_iff]
        simp
        omega
      · have n4 : ((fk : Int) == 4) = false := by simp; omega
        have n5 : ((fk : Int) == 5) = false := by simp; omega
        go_wp2
        go_ret
        exact ⟨by rw [HL.out]; simp; omega, HBD.out⟩
  · have ha' : ((fa : Int) != (addr : Int)) = true := by simp; omega
    go_wp2
    go_ret
    exact ⟨by rw [HL.out]; simp; omega, HBD.out⟩

end Go.Proofs.Ytabedmkhhlmbkaa
