/-
  master's listens and Missed, as they landed: what they answer.
-/
import Derived.Test.YtoahjkdackccmaaMasA
namespace Go.Proofs.Ytoahjkdackccmaa
set_option linter.unusedVariables false
set_option linter.unusedSimpArgs false
open Go.RowKit

set_option maxRecDepth 20000 in
set_option maxHeartbeats 1600000 in
theorem listens_on {w : World} {B D : Nat} {m : Ma} {f : Fr} {V : Value} (h : Ms w B D m) : Calls Try.prog 27 #[.pointer (some ⟨D, 0, none⟩), .agg (fcs f V)] w fun e w' => e = .returned (.bool (lisM m f)) ∧ Below w.heap.size w w' := by
  have H1 := Lib.hid (h.step (new_below w (.cells (fcs f V) 30)))
  have HX : Hid (Fx (w.alloc (.cells (fcs f V) 30)) w.heap.size f V) := heap_alloc_new w _
  have HB := Lib.hid (new_below w (.cells (fcs f V) 30))
  have HL : Hid (lisM m f = decide (f.a = m.addr ∧ ((f.k = 4 ∧ (m.st = 1 ∨ f.s = m.ses)) ∨ (f.k = 5 ∧ m.st = 1)))) := rfl
  clear h
  generalize lisM m f = r at *
  obtain ⟨A, c, hc⟩ := H1.out.mc
  have hf := HX.out.fc
  have c2 := hc.c2
  have c3 := hc.c3
  have c5 := hc.c5
  have e0 := hf.c0
  have e1 := hf.c1
  have e2 := hf.c2
  clear hc hf H1 HX
  cases m with
  | mk sent hrd addr ses tries st ep ms q =>
  cases f with
  | mk fa fk fs fq fcc fb =>
  simp only at *
  go_enter Try.func27, Try.ntmps27
  go_upto_region 1 with fail
  generalize w.alloc (.cells (fcs ⟨fa, fk, fs, fq, fcc, fb⟩ V) 30) = x at *
  have HBD : Hid (Below w.heap.size w x.drew) := HB.out.trans ((drew_below x).mono HB.out.size)
  clear HB
  generalize w.heap.size = X at e0 e1 e2 ⊢
  refine region_plan [(true, 0), (true, 1), (true, 2), (true, 3), (true, 4), (true, 5), (true, 6)]
    (fun y => y.cell? ⟨X, 0, none⟩ = some (.int .u8 (fa : Int)) ∧ y.cell? ⟨D, 2, none⟩ = some (.int .u8 (addr : Int))) (by kernel_rfl) (by kernel_rfl) (by kernel_rfl) rfl ⟨e0, c2⟩ ?_
  iterate 7 (refine Plan.take (v := ?_) rfl (by rfl) ?_ ?_; rotate_left 1; (focus (intro x hx; go_simp <;> (first | with_reducible rfl | rw [if_pos (by omega)]))); simp only [Act.put, List.setIfInBounds_toArray, List.set_cons_zero, List.set_cons_succ])
  refine Plan.done ?_
  by_cases ha : fa = addr
  · subst ha
    by_cases h4 : fk = 4
    · subst h4
      go_upto_region 5 with fail
      by_cases hst : st = 1
      · subst hst
        refine region_plan [(true, 0), (true, 1), (true, 2), (true, 3), (true, 4), (true, 5), (true, 6), (true, 7), (true, 8), (true, 9), (true, 10), (true, 11), (true, 12), (true, 13), (true, 14)]
          (fun y => y.cell? ⟨X, 2, none⟩ = some (.int .u8 (fs : Int)) ∧ y.cell? ⟨D, 3, none⟩ = some (.int .u8 (ses : Int)) ∧ y.cell? ⟨D, 5, none⟩ = some (.int .i64 1)) (by kernel_rfl) (by kernel_rfl) (by kernel_rfl) rfl ⟨e2, c3, c5⟩ ?_
        iterate 15 (first | (refine Plan.take (v := ?_) rfl (by rfl) ?_ ?_; rotate_left 1; (focus (intro x hx; go_simp <;> (first | with_reducible rfl | rw [if_pos (by omega)]))); simp only [Act.put, List.setIfInBounds_toArray, List.set_cons_zero, List.set_cons_succ]) | (refine Plan.skip rfl (by rfl) ?_; simp only [Act.put, List.setIfInBounds_toArray, List.set_cons_zero, List.set_cons_succ]))
        refine Plan.done ?_
        go_wp2
        go_ret
        exact ⟨by rw [HL.out]; simp, HBD.out.trans ((drew_below _).mono HBD.out.size)⟩
      · have hst' : ((st : Int) == 1) = false := by simp; omega
        refine region_plan [(true, 0), (true, 1), (true, 2), (true, 3), (true, 4), (true, 5), (true, 6), (true, 7), (true, 8), (true, 9), (true, 10), (true, 11), (true, 12), (true, 13), (true, 14)]
          (fun y => y.cell? ⟨X, 2, none⟩ = some (.int .u8 (fs : Int)) ∧ y.cell? ⟨D, 3, none⟩ = some (.int .u8 (ses : Int)) ∧ y.cell? ⟨D, 5, none⟩ = some (.int .i64 (st : Int))) (by kernel_rfl) (by kernel_rfl) (by kernel_rfl) rfl ⟨e2, c3, c5⟩ ?_
        iterate 15 (first | (refine Plan.take (v := ?_) rfl (by rfl) ?_ ?_; rotate_left 1; (focus (intro x hx; go_simp <;> (first | with_reducible rfl | rw [if_pos (by omega)]))); simp only [Act.put, List.setIfInBounds_toArray, List.set_cons_zero, List.set_cons_succ]) | (refine Plan.skip rfl (by rfl) ?_; simp only [Act.put, List.setIfInBounds_toArray, List.set_cons_zero, List.set_cons_succ]))
        refine Plan.done ?_
        go_wp2
        go_ret
        refine ⟨?_, HBD.out.trans ((drew_below _).mono HBD.out.size)⟩
        rw [HL.out]
        show Ending.returned (.bool ((fs : Int) == (ses : Int))) = _
        congr 2
        rw [Bool.eq_iff_iff]
        simp
        omega
    · by_cases h5 : fk = 5
      · subst h5
        go_wp2
        go_ret
        refine ⟨?_, HBD.out⟩
        rw [HL.out]
        show Ending.returned (.bool ((st : Int) == 1)) = _
        congr 2
        rw [Bool.eq_iff_iff]
        simp
        omega
      · have n4 : ((fk : Int) == 4) = false := by simp; omega
        have n5 : ((fk : Int) == 5) = false := by simp; omega
        go_wp2
        go_ret
        exact ⟨by rw [HL.out]; simp; omega, HBD.out⟩
  · have ha' : ((fa : Int) != (addr : Int)) = true := by simp; omega
    go_wp2
    go_ret
    exact ⟨by rw [HL.out]; simp; omega, HBD.out⟩

set_option maxRecDepth 20000 in
set_option maxHeartbeats 1600000 in
theorem missed_on {w : World} {B D N : Nat} {m : Ma} (h : Ms w B D m) (hN : m.Ok N) (hle : N ≤ 1000000) : Calls Try.prog 19 #[.pointer (some ⟨D, 0, none⟩)] w fun e w' => e = .returned (.bool (missedM m).2) ∧ Ms w' B D (missedM m).1 ∧ Ft B [62] w w' := by
  have HM : Hid (missedM m = if ((m.ms + 1 : Nat) : Int) < m.tries then ({ m with ms := m.ms + 1 }, false) else ({ closeM m with st := 2, ms := 0 }, decide (m.st ≠ 2))) := rfl
  have hms := hN.ms
  have HS0 := Lib.hid hN.ses0
  have HS := Lib.hid hN.ses
  have H := Lib.hid (h.turn [(7, .int .i64 ((m.ms : Int) + 1))] { m with ms := m.ms + 1 } rfl (fun V => rfl))
  obtain ⟨A, c, hc⟩ := h.mc
  have c7 := hc.c7
  have f7 := hc.fz 7
  clear hc h hN
  generalize hr : missedM m = r at *
  clear hr
  go_enter Try.func19, Try.ntmps19
  go_upto_region 2 with fail
  obtain ⟨A1, cc1, hc1⟩ := H.out.1.mc
  have d7 := hc1.c7
  have d4 := hc1.c4
  have d5 := hc1.c5
  have H1 := Lib.hid (H.out.1.step (drew_below _))
  have H2 := Lib.hid (H.out.2.step (drew_below _))
  clear hc1 c7 f7 H
  simp only [sets, List.foldl] at d7 d4 d5 H1 H2
  generalize w.setCell ⟨D, 7, none⟩ (.int .i64 ((m.ms : Int) + 1)) = x at *
  generalize ((m.ms + 1 : Nat) : Int) = z at d7 HM
  refine region_plan [(true, 0), (true, 1), (true, 2), (true, 3), (true, 4), (true, 5), (true, 6), (true, 7), (true, 8)]
    (fun y => y.cell? ⟨D, 7, none⟩ = some (.int .i64 z) ∧ y.cell? ⟨D, 4, none⟩ = some (.int .i64 m.tries)) (by kernel_rfl) (by kernel_rfl) (by kernel_rfl) rfl ⟨d7, d4⟩ ?_
  iterate 9 (refine Plan.take (v := ?_) rfl (by rfl) ?_ ?_; rotate_left 1; (focus (intro x hx; go_simp <;> (first | with_reducible rfl | rw [if_pos (by omega)]))); simp only [Act.put, List.setIfInBounds_toArray, List.set_cons_zero, List.set_cons_succ])
  refine Plan.done ?_
  by_cases hlt : z < m.tries
  · have HR : Hid (r = ({ m with ms := m.ms + 1 }, false)) := by show _ = _; rw [HM.out, if_pos hlt]
    clear HM
    go_wp2
    go_ret
    rw [HR.out]
    exact ⟨rfl, H1.out, H2.out⟩
  · have HR : Hid (r = ({ closeM m with st := 2, ms := 0 }, decide (m.st ≠ 2))) := by show _ = _; rw [HM.out, if_neg hlt]
    clear HM
    change x.drew.cell? _ = _ at d5
    generalize x.drew = y at *
    go_wp2_with fail
    refine (close_on H1.out HS0.out HS.out).mono ?_
    rintro e y1 ⟨rfl, h1, h2⟩
    have K := Lib.hid (h1.turn [(5, .int .i64 2), (7, .int .i64 0)] { closeM m with st := 2, ms := 0 } rfl (fun V => rfl))
    obtain ⟨A2, cc2, hc2⟩ := h1.mc
    have b5 := hc2.c5
    have b7 := hc2.c7
    have f5 := hc2.fz 5
    have f7 := hc2.fz 7
    have K2 := Lib.hid h2
    clear h1 h2 hc2
    by_cases hst : m.st = 2
    · have hst' : (m.st : Int) = 2 := by omega
      go_wp2
      go_ret
      rw [HR.out]
      exact ⟨by simp [hst], K.out.1, (H2.out.trans K2.out).trans K.out.2⟩
    · have hst' : ((m.st : Int) != 2) = true := by simp; omega
      go_wp2
      go_ret
      rw [HR.out]
      exact ⟨by simp [hst], K.out.1, (H2.out.trans K2.out).trans K.out.2⟩

end Go.Proofs.Ytoahjkdackccmaa
