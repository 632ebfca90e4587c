/-
  resync's count, hold, Errors and Held, as they landed: what they answer.
-/
import Derived.Test.YtalolefggihloaaDoorResyncBox
import Derived.StillTailTactics
namespace Go.Proofs.YtalolefggihloaaDoor
set_option linter.unusedVariables false
set_option linter.unusedSimpArgs false
open Go.RowKit

theorem held_on {D N : Nat} {d : Dc} {w : World} (h : Dec w D d N) : Calls Tryd.prog 14 #[.pointer (some ⟨D, 0, none⟩)] w fun e w' => e = .returned (.int .i64 (d.held.length : Int)) ∧ w' = w := by
  obtain ⟨buf, hb, _⟩ := h.box
  have c0 := hb.size
  clear hb h
  generalize d.held.length = n at *
  go_enter Tryd.func14, Tryd.ntmps14
  go_wp2
  go_ret
  exact ⟨rfl, rfl⟩

set_option maxRecDepth 100000 in
set_option maxHeartbeats 1600000 in
theorem count_on {D e n : Nat} {f : Nat → Nat} {buf : List UInt8} {o : Bool} {w : World} (h : Bx w D f buf n o) (he : e < 12) (hm : f e ≤ 1000000000000) :
    Calls Tryd.prog 31 #[.pointer (some ⟨D, 0, none⟩), .int .i64 (e : Int)] w fun r w' => r = .returned (.tuple #[]) ∧ Bx w' D (bump f e) buf n o ∧ Ch [D] w w' := by
  have H := Lib.hid h
  have hc := h.err e he
  have hf := h.frozen e
  clear h
  go_enter Tryd.func31, Tryd.ntmps31
  go_upto_region 0 with fail
  have hc1 : w.drew.cell? ⟨D, e, none⟩ = some (.int .i64 (f e : Int)) := hc
  have hf1 : w.drew.frozen? ⟨D, e, none⟩ = false := hf
  replace H := Lib.hid (H.out.keep (Ch.refl [] w).drew (by simp))
  have HC := Lib.hid ((Ch.refl [D] w).drew)
  have HF := Lib.hid (Eq.refl (f e))
  have h12 : (e : Int) < 12 := by omega
  clear hc hf
  generalize hk : f e = k at *
  go_still_tail 10, (by kernel_rfl)
  change wpList _ _ _ _ _ w.drew
  generalize w.drew = x at *
  go_wp2
  go_end0
  refine ⟨rfl, ?_, HC.out.setCell (by simp) _⟩
  have := H.out.setErr e he
  rw [hk] at this
  exact this

theorem set_take (buf held : List UInt8) (n : Nat) (c : UInt8) (hn : held.length = n) (ht : buf.take n = held) (hl : n < buf.length) : (buf.set n c).take (n + 1) = held ++ [c] := by
  rw [List.take_succ_eq_append_getElem (by rw [List.length_set]; exact hl), List.getElem_set_self, List.take_set_of_le (Nat.le_refl _), ht]
/-- What hold answers. -/
def HoldPost (w : World) (D : Nat) (d : Dc) (N : Nat) (r : Ending) (w' : World) : Prop := r = .returned (.tuple #[]) ∧ Dec w' D d N ∧ Ch [D] w w'

set_option maxRecDepth 100000 in
set_option maxHeartbeats 1600000 in
theorem hold_on {D N : Nat} {d : Dc} {c : UInt8} {w : World} (h : Dec w D d N) (hc : c ≠ 126) (hN : N ≤ 1000000000) :
    Calls Tryd.prog 19 #[.pointer (some ⟨D, 0, none⟩), .int .u8 (c.toNat : Int)] w (HoldPost w D (d.one c).1 (N + 1)) := by
  obtain ⟨buf, hb, htk⟩ := h.box
  have HO := Lib.hid h.ok
  have HM := Lib.hid h.most
  have HOne := Lib.hid (h.ok.one c)
  have H := Lib.hid hb
  have c4 := hb.size
  have c5 := hb.lost
  have f4 := hb.frozen 74
  have f5 := hb.frozen 75
  clear h hb
  cases d with
  | mk held over errs =>
    have hlm : held.length ≤ 62 := HO.out.most
    simp only at c4 c5 H htk hlm
    have HT := Lib.hid htk
    clear htk
    cases over with
    | true =>
      have HE : Hid ((Dc.mk held true errs).one c = (Dc.mk held true errs, [])) := by show _ = _; unfold Dc.one; rw [if_neg hc]; rfl
      rw [HE.out]
      generalize hn : held.length = n at *
      go_enter Tryd.func19, Tryd.ntmps19
      go_wp2
      refine bodyPost_ret (results_none rfl _ _ _) rfl ?_
      exact ⟨rfl, ⟨⟨buf, by simp only [HE.out]; rw [hn]; exact H.out, by rw [hn]; exact HT.out⟩, HO.out, fun i => Nat.le_succ_of_le (HM.out i)⟩, Ch.refl _ _⟩
    | false =>
      by_cases h62 : held.length = 62
      · have HE : Hid ((Dc.mk held false errs).one c = (⟨[], true, bump errs 10⟩, [])) := by show _ = _; unfold Dc.one; rw [if_neg hc]; simp [h62]
        rw [HE.out]
        rw [h62] at c4 H
        go_enter Tryd.func19, Tryd.ntmps19
        go_wp2_with fail
        refine (count_on H.out (by decide) (Nat.le_trans (HM.out 10) (by omega))).mono ?_
        rintro e x1 ⟨rfl, hb1, hc1⟩
        have H1 := Lib.hid hb1
        have HC := Lib.hid hc1
        have f4 := hb1.frozen 74
        have f5 := hb1.frozen 75
        have d4 := hb1.size
        have d5 := hb1.lost
        clear hb1 hc1
        go_wp2
        go_end0
        exact ⟨rfl, ⟨⟨buf, (H1.out.setSize 0).setLost true, rfl⟩, ⟨by simp, fun _ => rfl, by simp⟩, bump_le HM.out⟩, (HC.out.setCell (by simp) _).setCell (by simp) _⟩
      · have HE : Hid ((Dc.mk held false errs).one c = (⟨held ++ [c], false, errs⟩, [])) := by show _ = _; unfold Dc.one; rw [if_neg hc]; simp [h62]
        rw [HE.out]
        have hlt : held.length < 62 := by omega
        generalize hn : held.length = n at *
        go_enter Tryd.func19, Tryd.ntmps19
        go_upto_region 0 with fail
        have c41 : w.drew.cell? ⟨D, 74, none⟩ = some (.int .i64 (n : Int)) := c4
        have f41 : w.drew.frozen? ⟨D, 74, none⟩ = false := f4
        have fb : w.drew.frozen? ⟨D, 12 + n, none⟩ = false := H.out.frozen (12 + n)
        replace H := Lib.hid (H.out.keep (Ch.refl [] w).drew (by simp))
        have HC := Lib.hid ((Ch.refl [D] w).drew)
        obtain ⟨b0, cb⟩ : ∃ b0 : UInt8, w.drew.cell? ⟨D, 12 + n, none⟩ = some (.int .u8 (b0.toNat : Int)) := ⟨_, H.out.byte n (by rw [H.out.len]; exact hlt)⟩
        clear c4 f4 c5 f5
        have hnI : (n : Int) < 62 := by omega
        go_still_tail 9, (by kernel_rfl)
        change wpList _ _ _ _ _ w.drew
        generalize w.drew = x at *
        go_upto_region 1 with fail
        obtain ⟨x2, hx2⟩ : ∃ y, y = x.setCell ⟨D, 12 + n, none⟩ (.int .u8 (c.toNat : Int)) := ⟨_, rfl⟩
        have H2 := Lib.hid (H.out.setByte n hlt c)
        have HC2 := Lib.hid (HC.out.setCell (p := ⟨D, 12 + n, none⟩) (by simp) (.int .u8 (c.toNat : Int)))
        rw [← hx2] at H2 HC2 ⊢
        clear hx2 c41 f41 fb cb
        have c4 := H2.out.size
        have f4 := H2.out.frozen 74
        have hnI : (n : Int) < 62 := by omega
        go_wp2
        go_end0
        refine ⟨rfl, ⟨⟨buf.set n c, ?_, ?_⟩, ?_, fun i => Nat.le_succ_of_le (HM.out i)⟩, HC2.out.setCell (by simp) _⟩
        · have := H2.out.setSize (n + 1)
          simp only [List.length_append, List.length_cons, List.length_nil, hn]
          exact this
        · simp only [List.length_append, List.length_cons, List.length_nil, hn]
          exact set_take buf held n c hn HT.out (by rw [H.out.len]; exact hlt)
        · have := HOne.out
          rw [HE.out] at this
          exact this

set_option maxRecDepth 100000 in
set_option maxHeartbeats 1600000 in
theorem errors_on {D N : Nat} {d : Dc} {w : World} (h : Dec w D d N) : Calls Tryd.prog 13 #[.pointer (some ⟨D, 0, none⟩)] w fun e w' => e = .returned (.agg (ecs d.errs).toArray) ∧ Below w.heap.size w w' := by
  obtain ⟨buf, hb, _⟩ := h.box
  have HL := Lib.hid hb.lt
  have HE : Hid ((ecs d.errs).toArray = #[.int .i64 (d.errs 0 : Int), .int .i64 (d.errs 1 : Int), .int .i64 (d.errs 2 : Int), .int .i64 (d.errs 3 : Int), .int .i64 (d.errs 4 : Int), .int .i64 (d.errs 5 : Int), .int .i64 (d.errs 6 : Int), .int .i64 (d.errs 7 : Int), .int .i64 (d.errs 8 : Int), .int .i64 (d.errs 9 : Int), .int .i64 (d.errs 10 : Int), .int .i64 (d.errs 11 : Int)]) := rfl
  rw [HE.out]
  have H := Lib.hid hb
  clear h hb HE
  go_enter Tryd.func13, Tryd.ntmps13
  go_upto_region 1 with fail
  have hB := heap_alloc_new w (.cells #[.int .i64 0, .int .i64 0, .int .i64 0, .int .i64 0, .int .i64 0, .int .i64 0, .int .i64 0, .int .i64 0, .int .i64 0, .int .i64 0, .int .i64 0, .int .i64 0] 25)
  have HW := Lib.hid (new_below w (.cells #[.int .i64 0, .int .i64 0, .int .i64 0, .int .i64 0, .int .i64 0, .int .i64 0, .int .i64 0, .int .i64 0, .int .i64 0, .int .i64 0, .int .i64 0, .int .i64 0] 25))
  have H1 := H.out.keep (Ch.of_below HW.out) (by simp)
  have c0 := H1.err 0 (by decide)
  have c1 := H1.err 1 (by decide)
  have c2 := H1.err 2 (by decide)
  have c3 := H1.err 3 (by decide)
  have c4 := H1.err 4 (by decide)
  have c5 := H1.err 5 (by decide)
  have c6 := H1.err 6 (by decide)
  have c7 := H1.err 7 (by decide)
  have c8 := H1.err 8 (by decide)
  have c9 := H1.err 9 (by decide)
  have c10 := H1.err 10 (by decide)
  have c11 := H1.err 11 (by decide)
  clear H1 H hB
  go_wp2
  exact bodyPost_ret (results_cell_row rfl _ _ w.heap.size 25 _ _ _ rfl (heap_alloc_new w _) Tryd.underlying25 rfl (by kernel_rfl)) rfl ⟨rfl, new_below _ _⟩

end Go.Proofs.YtalolefggihloaaDoor
