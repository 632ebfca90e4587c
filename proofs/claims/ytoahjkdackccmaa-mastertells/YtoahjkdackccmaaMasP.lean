/-
  The document's Heard, as it stands: what it answers.
-/
import Derived.Test.YtoahjkdackccmaaMasN
import Derived.Deep.DeepCutAuto
namespace Go.Proofs.Ytoahjkdackccmaa
set_option linter.unusedVariables false
set_option linter.unusedSimpArgs false
open Go.RowKit

def RHeardPost (w : World) (B R : Nat) (r : Ma × List UInt8 × Bool) (e : Ending) (w' : World) : Prop :=
  e = .returned (.tuple #[.string ⟨r.2.1.toArray⟩, .bool r.2.2]) ∧ Rm w' B R r.1 ∧ Ft B [49] w w'
/-- While it hears. -/
structure Hr (w : World) (B R : Nat) (m : Ma) (X : Nat) (f : Fr) (x : World) : Prop where
  rm : Rm x B R m
  box : Rx x X f
  ft : Ft B [49] w x
theorem Hr.step {w x y : World} {B R X : Nat} {m : Ma} {f : Fr} (h : Hr w B R m X f x) (hb : Below x.heap.size x y) : Hr w B R m X f y := ⟨h.rm.step hb, h.box.step hb, h.ft.step hb⟩
theorem Hr.turn {w x y : World} {B R X : Nat} {m m' : Ma} {f : Fr} (h : Hr w B R m X f x) (hm : Rm y B R m') (hf : Ft B [49] x y) : Hr w B R m' X f y := ⟨hm, h.box.ft hf (by decide), h.ft.trans hf⟩
theorem Hr.set {w x : World} {B R X : Nat} {m : Ma} {f : Fr} (h : Hr w B R m X f x) (l : List (Nat × Value)) (m' : Ma) (hq : m'.q = m.q) (hc : ∀ V, setsA l (rmcs m V) = rmcs m' V) : Hr w B R m' X f (sets R l x) := by
  obtain ⟨h1, h2⟩ := h.rm.turn l m' hq hc
  exact h.turn h1 h2

theorem hrd_out (m : Ma) (f : Fr) (h : lisM m f = false) : heardM m f = (m, [], false) := by unfold heardM; rw [if_pos h]
theorem hrd_rise (m : Ma) (f : Fr) (h : lisM m f = true) (hst : m.st ≠ 1) : heardM m f = (riseM (quiet m), [], true) := by unfold heardM; rw [if_neg (by rw [h]; simp), if_pos hst]
theorem hrd_close (m : Ma) (f : Fr) (h : lisM m f = true) (hst : m.st = 1) (hs : f.s ≠ m.ses) : heardM m f = (closeM (quiet m), [], true) := by unfold heardM; rw [if_neg (by rw [h]; simp), if_neg (by omega), if_pos hs]
theorem hrd_four (m : Ma) (f : Fr) (h : lisM m f = true) (hst : m.st = 1) (hs : f.s = m.ses) (hk : f.k = 4) : heardM m f = (quiet m, [], true) := by unfold heardM; rw [if_neg (by rw [h]; simp), if_neg (by omega), if_neg (by omega), if_neg (by omega)]
theorem hrd_five (m : Ma) (f : Fr) (h : lisM m f = true) (hst : m.st = 1) (hs : f.s = m.ses) (hk : f.k = 5) : heardM m f = ((freshM (settleM (quiet m) f.c) f).1, (freshM (settleM (quiet m) f.c) f).2, true) := by unfold heardM; rw [if_neg (by rw [h]; simp), if_neg (by omega), if_neg (by omega), if_pos hk]
theorem lis_of (m : Ma) (f : Fr) : lisM m f = decide (f.a = m.addr ∧ ((f.k = 4 ∧ (m.st = 1 ∨ f.s = m.ses)) ∨ (f.k = 5 ∧ m.st = 1))) := rfl

set_option maxRecDepth 20000 in
set_option maxHeartbeats 6400000 in
theorem refheard_on {w : World} {B R N : Nat} {m : Ma} {f : Fr} (h : Rm w B R m) (hN : m.Ok N) (hle : N ≤ 1000000) : Calls Try.prog 17 #[.pointer (some ⟨R, 0, none⟩), .agg (rcs f)] w (RHeardPost w B R (heardM m f)) := by
  have HP : Hid (∀ r w', Rm w' B R r.1 → Ft B [49] w w' → heardM m f = r → RHeardPost w B R (heardM m f) (.returned (.tuple #[.string ⟨r.2.1.toArray⟩, .bool r.2.2])) w') := by
    rintro r w' h1 h2 rfl
    exact ⟨rfl, h1, h2⟩
  have HB := Lib.hid (new_below w (.cells (rcs f) 42))
  have H0 : Hid (Hr w B R m w.heap.size f (w.alloc (.cells (rcs f) 42))) := ⟨h.step HB.out, heap_alloc_new w _, Ft.of_below HB.out⟩
  have HN := Lib.hid hN
  clear h hN HB
  generalize RHeardPost w B R (heardM m f) = Q at *
  go_enter Try.func17, Try.ntmps17
  go_upto_region 1 with fail
  have H1 := Lib.hid (H0.out.step (drew_below _))
  clear H0
  generalize hX : w.heap.size = X at *
  clear hX
  go_cut [22] (fun v y => Hid (Hr w B R m X f y) ∧ ∃ t : Bool, v = .bool t ∧ Hid (t = true → lisM m f = false) ∧ Hid (t = false → f.a = m.addr ∧ (f.k = 4 ∨ f.k = 5)))
  case first =>
    obtain ⟨_, _, hc⟩ := H1.out.rm.mc
    obtain ⟨p0, p1, -⟩ := row_six H1.out.box
    refine region_plan [(true, 0), (true, 1), (true, 2), (true, 3), (true, 4), (true, 5), (true, 6), (true, 7), (true, 8), (true, 9), (true, 10), (true, 11), (true, 12), (true, 13), (true, 14), (true, 15), (true, 16)]
      (fun y => y.cell? ⟨X, 0, none⟩ = some (.int .u8 (f.a : Int)) ∧ y.cell? ⟨X, 1, none⟩ = some (.int .u8 (f.k : Int)) ∧ y.cell? ⟨R, 0, none⟩ = some (.int .u8 (m.addr : Int))) (by kernel_rfl) (by kernel_rfl) (by kernel_rfl) rfl ⟨p0, p1, hc.c0⟩ ?_
    clear hc p0 p1
    generalize World.drew _ = x1 at *
    by_cases hfa : f.a = m.addr
    · have hfa' : (f.a : Int) = (m.addr : Int) := by omega
      by_cases h4 : f.k = 4
      · have h4' : (f.k : Int) = 4 := by omega
        have HS : Hid (f.a = m.addr ∧ (f.k = 4 ∨ f.k = 5)) := Lib.hid ⟨hfa, .inl h4⟩
        clear h4 hfa
        iterate 17 (first | (refine Plan.take (v := ?_) rfl (by rfl) ?_ ?_; rotate_left 1; (focus (intro x hx; go_simp <;> (first | with_reducible rfl | rw [if_pos (by omega)]))); simp only [Act.put, List.setIfInBounds_toArray, List.set_cons_zero, List.set_cons_succ]) | (refine Plan.skip rfl (by rfl) ?_; simp only [Act.put, List.setIfInBounds_toArray, List.set_cons_zero, List.set_cons_succ]))
        refine Plan.done ?_
        go_wp2
        go_meet
        case rel => exact ⟨H1, false, rfl, Lib.hid (fun h => Bool.noConfusion h), Lib.hid (fun _ => HS.out)⟩
      · have h4' : ((f.k : Int) != 4) = true := by simp; omega
        by_cases h5 : f.k = 5
        · have h5' : (f.k : Int) = 5 := by omega
          have HS : Hid (f.a = m.addr ∧ (f.k = 4 ∨ f.k = 5)) := Lib.hid ⟨hfa, .inr h5⟩
          clear h4 h5 hfa
          iterate 17 (first | (refine Plan.take (v := ?_) rfl (by rfl) ?_ ?_; rotate_left 1; (focus (intro x hx; go_simp <;> (first | with_reducible rfl | rw [if_pos (by omega)]))); simp only [Act.put, List.setIfInBounds_toArray, List.set_cons_zero, List.set_cons_succ]) | (refine Plan.skip rfl (by rfl) ?_; simp only [Act.put, List.setIfInBounds_toArray, List.set_cons_zero, List.set_cons_succ]))
          refine Plan.done ?_
          go_wp2
          go_meet
          case rel => exact ⟨H1, false, rfl, Lib.hid (fun h => Bool.noConfusion h), Lib.hid (fun _ => HS.out)⟩
        · have h5' : ((f.k : Int) != 5) = true := by simp; omega
          have HS : Hid (lisM m f = false) := by show _ = _; rw [lis_of, decide_eq_false_iff_not]; rintro ⟨_, h⟩; omega
          clear h4 h5 hfa
          iterate 17 (first | (refine Plan.take (v := ?_) rfl (by rfl) ?_ ?_; rotate_left 1; (focus (intro x hx; go_simp <;> (first | with_reducible rfl | rw [if_pos (by omega)]))); simp only [Act.put, List.setIfInBounds_toArray, List.set_cons_zero, List.set_cons_succ]) | (refine Plan.skip rfl (by rfl) ?_; simp only [Act.put, List.setIfInBounds_toArray, List.set_cons_zero, List.set_cons_succ]))
          refine Plan.done ?_
          go_wp2
          go_meet
          case rel => exact ⟨H1, true, rfl, Lib.hid (fun _ => HS.out), Lib.hid (fun h => Bool.noConfusion h)⟩
    · have hfa' : ((f.a : Int) != (m.addr : Int)) = true := by simp; omega
      have HS : Hid (lisM m f = false) := by show _ = _; rw [lis_of, decide_eq_false_iff_not]; rintro ⟨h, _⟩; exact hfa h
      clear hfa
      iterate 17 (first | (refine Plan.take (v := ?_) rfl (by rfl) ?_ ?_; rotate_left 1; (focus (intro x hx; go_simp <;> (first | with_reducible rfl | rw [if_pos (by omega)]))); simp only [Act.put, List.setIfInBounds_toArray, List.set_cons_zero, List.set_cons_succ]) | (refine Plan.skip rfl (by rfl) ?_; simp only [Act.put, List.setIfInBounds_toArray, List.set_cons_zero, List.set_cons_succ]))
      refine Plan.done ?_
      go_wp2
      go_meet
      case rel => exact ⟨H1, true, rfl, Lib.hid (fun _ => HS.out), Lib.hid (fun h => Bool.noConfusion h)⟩
  case rest =>
    clear H1
    obtain ⟨H1, t, rfl, HT, HF⟩ := hcut
    cases t with
    | true =>
      have HT' := Lib.hid (HT.out rfl)
      clear HT HF
      go_wp2
      refine HP.out (m, [], false) _ H1.out.rm H1.out.ft (hrd_out m f HT'.out)
    | false =>
      have HA := Lib.hid (HF.out rfl)
      clear HT HF
      obtain ⟨_, _, hc⟩ := H1.out.rm.mc
      obtain ⟨p0, p1, p2, p3, p4, p5, -⟩ := row_six H1.out.box
      by_cases hst : m.st = 1
      · have hst' : (m.st : Int) = 1 := by omega
        have c3 := hc.c3
        have c8 := hc.c8
        have f8 := hc.fz 8
        rw [hst'] at c3
        have K := Lib.hid (H1.out.set [(8, .int .i64 0)] (quiet m) rfl (fun V => rfl))
        have HL : Hid (lisM m f = true) := by show _ = _; rw [lis_of, decide_eq_true_iff]; have := HA.out; exact ⟨this.1, this.2.imp (fun h => ⟨h, .inl hst⟩) (fun h => ⟨h, hst⟩)⟩
        clear hc p0 p1 p2 p3 p4 p5
        go_upto_region 13 with fail
        clear c3 c8 f8 H1
        simp only [sets, List.foldl_cons, List.foldl_nil] at K
        generalize wc.setCell ⟨R, 8, none⟩ (.int .i64 0) = x2 at *
        have H3 := Lib.hid (K.out.step (drew_below x2))
        obtain ⟨_, _, hc⟩ := H3.out.rm.mc
        obtain ⟨p0, p1, p2, p3, p4, p5, -⟩ := row_six H3.out.box
        refine region_plan [(true, 0), (true, 1), (true, 2), (true, 3), (true, 4), (true, 5), (true, 6)]
          (fun y => y.cell? ⟨X, 2, none⟩ = some (.int .u8 (f.s : Int)) ∧ y.cell? ⟨R, 1, none⟩ = some (.int .u8 (m.ses : Int))) (by kernel_rfl) (by kernel_rfl) (by kernel_rfl) rfl ⟨p2, hc.c1⟩ ?_
        clear hc p0 p2 p3 p4 p5 K
        generalize x2.drew = x3 at *
        by_cases hs : f.s = m.ses
        · have hs' : (f.s : Int) = (m.ses : Int) := by omega
          have HSS := Lib.hid hs
          have HST := Lib.hid hst
          clear hs
          iterate 7 (first | (refine Plan.take (v := ?_) rfl (by rfl) ?_ ?_; rotate_left 1; (focus (intro x hx; go_simp <;> (first | with_reducible rfl | rw [if_pos (by omega)]))); simp only [Act.put, List.setIfInBounds_toArray, List.set_cons_zero, List.set_cons_succ]) | (refine Plan.skip rfl (by rfl) ?_; simp only [Act.put, List.setIfInBounds_toArray, List.set_cons_zero, List.set_cons_succ]))
          refine Plan.done ?_
          by_cases hk : f.k = 4
          · have hk' : (f.k : Int) = 4 := by omega
            go_wp2
            refine HP.out (quiet m, [], true) _ H3.out.rm H3.out.ft (hrd_four m f HL.out HST.out HSS.out hk)
          · have hk5 : f.k = 5 := by have := HA.out; omega
            have hk' : ((f.k : Int) == 4) = false := by simp; omega
            have HFI := Lib.hid (hrd_five m f HL.out HST.out HSS.out hk5)
            clear hk hk5 hs'
            go_upto_region 18 with fail
            clear p1
            have H4 := Lib.hid (H3.out.step (drew_below x3))
            have HN4 := Lib.hid (quiet_ok HN.out)
            clear H3
            generalize quiet m = m1 at *
            go_cut [88] (fun v y => Hid (Hr w B R m1 X f y) ∧ ∃ t : Bool, v = .bool t ∧ Hid (t = true → 0 < m1.q.length ∧ f.c ≠ m1.sent) ∧ Hid (t = false → ¬ (0 < m1.q.length ∧ f.c ≠ m1.sent)))
            case first =>
              obtain ⟨A4, c4, hc⟩ := H4.out.rm.mc
              obtain ⟨p0, p1, p2, p3, p4, p5, -⟩ := row_six H4.out.box
              refine region_plan [(true, 0), (true, 1), (true, 2), (true, 3), (true, 4), (true, 5), (true, 6), (true, 7), (true, 8), (true, 9), (true, 10), (true, 11), (true, 12), (true, 13), (true, 14)]
                (fun y => y.cell? ⟨R, 7, none⟩ = some (.slice A4 m1.q.length c4) ∧ y.cell? ⟨X, 4, none⟩ = some (.int .u8 (f.c : Int)) ∧ y.cell? ⟨R, 5, none⟩ = some (.int .u8 (m1.sent : Int))) (by kernel_rfl) (by kernel_rfl) (by kernel_rfl) rfl ⟨hc.c7, p4, hc.c5⟩ ?_
              clear hc p0 p1 p2 p3 p4 p5
              generalize x3.drew = x4 at *
              obtain ⟨qn, hqn⟩ : ∃ qn, m1.q.length = qn := ⟨_, rfl⟩
              by_cases hq0 : qn = 0
              · have HS : Hid (¬ (0 < m1.q.length ∧ f.c ≠ m1.sent)) := Lib.hid (by omega)
                rw [hq0] at hqn
                clear hq0
                iterate 15 (first | (refine Plan.take (v := ?_) rfl (by rfl) ?_ ?_; rotate_left 1; (focus (intro x hx; go_simp <;> (first | with_reducible rfl | rw [if_pos (by omega)]))); simp only [Act.put, List.setIfInBounds_toArray, List.set_cons_zero, List.set_cons_succ]) | (refine Plan.skip rfl (by rfl) ?_; simp only [Act.put, List.setIfInBounds_toArray, List.set_cons_zero, List.set_cons_succ]))
                refine Plan.done ?_
                go_wp2
                go_meet
                case rel => exact ⟨H4, false, rfl, Lib.hid (fun h => Bool.noConfusion h), Lib.hid (fun _ => HS.out)⟩
              · have hqp : 0 < qn := by omega
                have hqp' : (0 : Int) < (qn : Int) := by omega
                by_cases hcs : f.c = m1.sent
                · have hcs' : (f.c : Int) = (m1.sent : Int) := by omega
                  have HS : Hid (¬ (0 < m1.q.length ∧ f.c ≠ m1.sent)) := Lib.hid (fun h => h.2 hcs)
                  clear hcs hq0
                  iterate 15 (first | (refine Plan.take (v := ?_) rfl (by rfl) ?_ ?_; rotate_left 1; (focus (intro x hx; go_simp <;> (first | with_reducible rfl | rw [if_pos (by omega)]))); simp only [Act.put, List.setIfInBounds_toArray, List.set_cons_zero, List.set_cons_succ]) | (refine Plan.skip rfl (by rfl) ?_; simp only [Act.put, List.setIfInBounds_toArray, List.set_cons_zero, List.set_cons_succ]))
                  refine Plan.done ?_
                  go_wp2
                  go_meet
                  case rel => exact ⟨H4, false, rfl, Lib.hid (fun h => Bool.noConfusion h), Lib.hid (fun _ => HS.out)⟩
                · have hcs' : ((f.c : Int) != (m1.sent : Int)) = true := by simp; omega
                  have HS : Hid (0 < m1.q.length ∧ f.c ≠ m1.sent) := Lib.hid ⟨by omega, hcs⟩
                  clear hcs hq0
                  iterate 15 (first | (refine Plan.take (v := ?_) rfl (by rfl) ?_ ?_; rotate_left 1; (focus (intro x hx; go_simp <;> (first | with_reducible rfl | rw [if_pos (by omega)]))); simp only [Act.put, List.setIfInBounds_toArray, List.set_cons_zero, List.set_cons_succ]) | (refine Plan.skip rfl (by rfl) ?_; simp only [Act.put, List.setIfInBounds_toArray, List.set_cons_zero, List.set_cons_succ]))
                  refine Plan.done ?_
                  go_wp2
                  go_meet
                  case rel => exact ⟨H4, true, rfl, Lib.hid (fun _ => HS.out), Lib.hid (fun h => Bool.noConfusion h)⟩
            case rest =>
              clear H4
              obtain ⟨H4, t, rfl, HT, HF⟩ := hcut
              go_upto_if 88 with fail
              go_cut [] (fun y => Hid (Hr w B R (settleM m1 f.c) X f y))
              case first =>
                cases t with
                | true =>
                  obtain ⟨A4, c4, k1, k2⟩ := H4.out.rm.at_
                  have HTT := Lib.hid (HT.out rfl)
                  clear HT HF
                  obtain ⟨g, o, hA, -⟩ := k2.at HTT.out.1
                  subst hA
                  have hc := rmc_of k1
                  have c7 := hc.c7
                  have f7 := hc.fz 7
                  have c5 := hc.c5
                  have f5 := hc.fz 5
                  have hcap := k2.cap
                  have HQ := Lib.hid (k2.drop rfl 1 HTT.out.1)
                  have hw1 : IntKind.u8.wrap (1 - (m1.sent : Int)) = ((1 - m1.sent : Nat) : Int) := by rw [IntKind.wrap_u8]; have := HN4.out.sent; omega
                  have hqp : 0 < m1.q.length := HTT.out.1
                  obtain ⟨q1, hq1⟩ : ∃ q1, m1.q.length = q1 + 1 := ⟨m1.q.length - 1, by omega⟩
                  rw [hq1] at c7 HQ hcap
                  obtain ⟨c5', hc5⟩ : ∃ c5', c4 = c5' + 1 := ⟨c4 - 1, by omega⟩
                  subst hc5
                  have HM2 : Hid (settleM m1 f.c = { m1 with q := m1.q.drop 1, sent := 1 - m1.sent }) := by show _ = _; unfold settleM; rw [if_pos HTT.out]
                  have hdl : (m1.q.drop 1).length = q1 := by rw [List.length_drop, hq1]; rfl
                  have HDL := Lib.hid hdl
                  clear hc k1 hqp hdl
                  by_cases hz : c5' = 0
                  · subst hz
                    have hq0 : q1 = 0 := by omega
                    subst hq0
                    have HQ2 : Hid (Que wc B 9 1 (some ⟨g, o, none⟩) (m1.q.drop 1).length 0 (scs (m1.q.drop 1))) := by
                      show Que _ _ _ _ _ _ _ _
                      rw [HDL.out, scs_drop]
                      exact HQ.out
                    have KK : Hid (Hr w B R (settleM m1 f.c) X f (sets R [(7, .slice (some ⟨g, o, none⟩) 0 0), (5, .int .u8 ((1 - m1.sent : Nat) : Int))] wc)) := by
                      show Hr _ _ _ _ _ _ _
                      rw [HM2.out]
                      obtain ⟨h1, h2⟩ := H4.out.rm.turnq (T := []) (Ft.refl B [] wc) (by simp) [(7, .slice (some ⟨g, o, none⟩) 0 0), (5, .int .u8 ((1 - m1.sent : Nat) : Int))] { m1 with q := m1.q.drop 1, sent := 1 - m1.sent } HQ2.out (fun V => by simp only [HDL.out]; rfl)
                      exact H4.out.turn h1 h2
                    clear HQ HQ2 k2
                    go_wp2
                    go_meet
                    case rel => exact KK
                  · have HQ2 : Hid (Que wc B 9 1 (some ⟨g, o + 1, none⟩) (m1.q.drop 1).length c5' (scs (m1.q.drop 1))) := by
                      show Que _ _ _ _ _ _ _ _
                      rw [HDL.out, scs_drop]
                      have := HQ.out
                      rw [if_neg (by omega)] at this
                      exact this
                    have KK : Hid (Hr w B R (settleM m1 f.c) X f (sets R [(7, .slice (some ⟨g, o + 1, none⟩) q1 c5'), (5, .int .u8 ((1 - m1.sent : Nat) : Int))] wc)) := by
                      show Hr _ _ _ _ _ _ _
                      rw [HM2.out]
                      obtain ⟨h1, h2⟩ := H4.out.rm.turnq (T := []) (Ft.refl B [] wc) (by simp) [(7, .slice (some ⟨g, o + 1, none⟩) q1 c5'), (5, .int .u8 ((1 - m1.sent : Nat) : Int))] { m1 with q := m1.q.drop 1, sent := 1 - m1.sent } HQ2.out (fun V => by simp only [HDL.out]; rfl)
                      exact H4.out.turn h1 h2
                    clear HQ HQ2 k2
                    go_wp2
                    go_meet
                    case rel => exact KK
                | false =>
                  have HM2 : Hid (settleM m1 f.c = m1) := by show _ = _; unfold settleM; rw [if_neg (HF.out rfl)]
                  go_wp2
                  go_meet
                  case rel => rw [HM2.out]; exact H4
              case rest =>
                clear H4 HT HF
                have H5 := hcut
                clear hcut
                have HN5 := Lib.hid (settleM_ok HN4.out f.c)
                generalize settleM m1 f.c = m2 at *
                go_upto_region 21 with fail
                rename World => x5
                have H6 := Lib.hid (H5.out.step (drew_below x5))
                obtain ⟨_, _, hc⟩ := H6.out.rm.mc
                obtain ⟨p0, p1, p2, p3, p4, p5, -⟩ := row_six H6.out.box
                have d6 := hc.c6
                have g6 := hc.fz 6
                refine region_plan [(true, 0), (true, 1), (true, 2), (true, 3), (true, 4), (true, 5), (true, 6), (true, 7), (true, 8), (true, 9), (true, 10), (true, 11)]
                  (fun y => y.cell? ⟨X, 5, none⟩ = some (.string ⟨f.b.toArray⟩) ∧ y.cell? ⟨X, 3, none⟩ = some (.int .u8 (f.q : Int)) ∧ y.cell? ⟨R, 6, none⟩ = some (.int .u8 (m2.hrd : Int))) (by kernel_rfl) (by kernel_rfl) (by kernel_rfl) rfl ⟨p5, p3, hc.c6⟩ ?_
                clear hc p0 p1 p2 p3 p4 H5
                generalize x5.drew = x6 at *
                by_cases hb0 : f.b.length = 0
                · have hbe : f.b = [] := List.eq_nil_of_length_eq_zero hb0
                  have HFR : Hid (freshM m2 f = (m2, [])) := by show _ = _; unfold freshM; rw [if_pos (.inl hb0)]
                  rw [hbe] at p5
                  have hbt : (f.b == []) = true := by rw [hbe]; rfl
                  iterate 12 (first | (refine Plan.take (v := ?_) rfl (by rfl) ?_ ?_; rotate_left 1; (focus (intro x hx; go_simp <;> (first | with_reducible rfl | rw [if_pos (by omega)]))); simp only [Act.put, List.setIfInBounds_toArray, List.set_cons_zero, List.set_cons_succ]) | (refine Plan.skip rfl (by rfl) ?_; simp only [Act.put, List.setIfInBounds_toArray, List.set_cons_zero, List.set_cons_succ]))
                  refine Plan.done ?_
                  go_wp2
                  refine HP.out (m2, [], true) _ H6.out.rm H6.out.ft ?_
                  rw [HFI.out, HFR.out]
                · have hbt : (f.b == []) = false := by cases hbb : f.b with | nil => rw [hbb] at hb0; simp at hb0 | cons a t => rfl
                  have hbn : ¬ f.b = [] := by intro h; rw [h] at hb0; simp at hb0
                  by_cases hqh : f.q = m2.hrd
                  · have hqh' : (f.q : Int) = (m2.hrd : Int) := by omega
                    have HFR : Hid (freshM m2 f = ({ m2 with hrd := 1 - m2.hrd }, f.b)) := by show _ = _; unfold freshM; rw [if_neg (by omega)]
                    have K7 := Lib.hid (H6.out.set [(6, .int .u8 ((1 - m2.hrd : Nat) : Int))] { m2 with hrd := 1 - m2.hrd } rfl (fun V => rfl))
                    have hw1 : IntKind.u8.wrap (1 - (m2.hrd : Int)) = ((1 - m2.hrd : Nat) : Int) := by rw [IntKind.wrap_u8]; have := HN5.out.hrd; omega
                    have p5' : (sets R [(6, .int .u8 ((1 - m2.hrd : Nat) : Int))] x6).cell? ⟨X, 5, none⟩ = some (.string ⟨f.b.toArray⟩) := K7.out.box.rc.c5
                    clear hqh hb0
                    simp only [sets, List.foldl_cons, List.foldl_nil] at p5' K7
                    generalize 1 - m2.hrd = h' at *
                    iterate 12 (first | (refine Plan.take (v := ?_) rfl (by rfl) ?_ ?_; rotate_left 1; (focus (intro x hx; go_simp <;> (first | with_reducible rfl | rw [if_pos (by omega)]))); simp only [Act.put, List.setIfInBounds_toArray, List.set_cons_zero, List.set_cons_succ]) | (refine Plan.skip rfl (by rfl) ?_; simp only [Act.put, List.setIfInBounds_toArray, List.set_cons_zero, List.set_cons_succ]))
                    refine Plan.done ?_
                    go_wp2
                    refine HP.out ({ m2 with hrd := h' }, f.b, true) _ K7.out.rm K7.out.ft ?_
                    rw [HFI.out, HFR.out]
                  · have hqh' : ((f.q : Int) != (m2.hrd : Int)) = true := by simp; omega
                    have HFR : Hid (freshM m2 f = (m2, [])) := by show _ = _; unfold freshM; rw [if_pos (.inr hqh)]
                    clear hqh hb0
                    iterate 12 (first | (refine Plan.take (v := ?_) rfl (by rfl) ?_ ?_; rotate_left 1; (focus (intro x hx; go_simp <;> (first | with_reducible rfl | rw [if_pos (by omega)]))); simp only [Act.put, List.setIfInBounds_toArray, List.set_cons_zero, List.set_cons_succ]) | (refine Plan.skip rfl (by rfl) ?_; simp only [Act.put, List.setIfInBounds_toArray, List.set_cons_zero, List.set_cons_succ]))
                    refine Plan.done ?_
                    go_wp2
                    refine HP.out (m2, [], true) _ H6.out.rm H6.out.ft ?_
                    rw [HFI.out, HFR.out]
        · have hs' : ((f.s : Int) != (m.ses : Int)) = true := by simp; omega
          have HCL := Lib.hid (hrd_close m f HL.out hst hs)
          clear hs
          iterate 7 (first | (refine Plan.take (v := ?_) rfl (by rfl) ?_ ?_; rotate_left 1; (focus (intro x hx; go_simp <;> (first | with_reducible rfl | rw [if_pos (by omega)]))); simp only [Act.put, List.setIfInBounds_toArray, List.set_cons_zero, List.set_cons_succ]) | (refine Plan.skip rfl (by rfl) ?_; simp only [Act.put, List.setIfInBounds_toArray, List.set_cons_zero, List.set_cons_succ]))
          refine Plan.done ?_
          go_wp2_with fail
          refine (refcloses_on H3.out.rm (show 1 ≤ (quiet m).ses from HN.out.ses0) (show (quiet m).ses ≤ 255 from HN.out.ses) 0).mono ?_
          rintro e x4 ⟨rfl, g1, g2⟩
          have K4 := Lib.hid g1
          have K5 := Lib.hid (H3.out.ft.trans g2)
          clear g1 g2
          go_wp2
          refine HP.out (closeM (quiet m), [], true) _ K4.out K5.out HCL.out
      · have hst' : ((m.st : Int) != 1) = true := by simp; omega
        have c3 := hc.c3
        go_upto_region 4 with fail
        clear p0 p1 p2 p3 p4 p5 hc
        have H3 := Lib.hid (H1.out.step (drew_below wc))
        obtain ⟨_, _, hc⟩ := H3.out.rm.mc
        obtain ⟨p0, p1, p2, p3, p4, p5, -⟩ := row_six H3.out.box
        refine region_plan [(true, 0), (true, 1), (true, 2), (true, 3), (true, 4), (true, 5), (true, 6), (true, 7), (true, 8), (true, 9), (true, 10), (true, 11)]
          (fun y => y.cell? ⟨X, 1, none⟩ = some (.int .u8 (f.k : Int)) ∧ y.cell? ⟨X, 2, none⟩ = some (.int .u8 (f.s : Int)) ∧ y.cell? ⟨R, 1, none⟩ = some (.int .u8 (m.ses : Int))) (by kernel_rfl) (by kernel_rfl) (by kernel_rfl) rfl ⟨p1, p2, hc.c1⟩ ?_
        clear p0 p1 p2 p3 p4 p5 c3 H1
        have d3 := hc.c3
        have d4 := hc.c4
        have d5 := hc.c5
        have d6 := hc.c6
        have d8 := hc.c8
        have z3 := hc.fz 3
        have z4 := hc.fz 4
        have z5 := hc.fz 5
        have z6 := hc.fz 6
        have z8 := hc.fz 8
        have hep : m.ep ≤ 1000000 := Nat.le_trans HN.out.ep hle
        clear hc
        generalize wc.drew = x3 at *
        have HSTN := Lib.hid hst
        by_cases h4 : f.k = 4
        · have h4' : (f.k : Int) = 4 := by omega
          by_cases hs : f.s = m.ses
          · have hs' : (f.s : Int) = (m.ses : Int) := by omega
            have HL : Hid (lisM m f = true) := by show _ = _; rw [lis_of, decide_eq_true_iff]; exact ⟨HA.out.1, .inl ⟨h4, .inr hs⟩⟩
            have K := Lib.hid (H3.out.set [(3, .int .i64 1), (4, .int .i64 ((m.ep : Int) + 1)), (5, .int .u8 0), (6, .int .u8 0), (8, .int .i64 0)] (riseM (quiet m)) rfl (fun V => rfl))
            have HRI := Lib.hid (hrd_rise m f HL.out HSTN.out)
            clear h4 hs
            generalize riseM (quiet m) = mm at *
            iterate 12 (first | (refine Plan.take (v := ?_) rfl (by rfl) ?_ ?_; rotate_left 1; (focus (intro x hx; go_simp <;> (first | with_reducible rfl | rw [if_pos (by omega)]))); simp only [Act.put, List.setIfInBounds_toArray, List.set_cons_zero, List.set_cons_succ]) | (refine Plan.skip rfl (by rfl) ?_; simp only [Act.put, List.setIfInBounds_toArray, List.set_cons_zero, List.set_cons_succ]))
            refine Plan.done ?_
            go_wp2
            refine HP.out (mm, [], true) _ K.out.rm K.out.ft HRI.out
          · have hs' : ((f.s : Int) != (m.ses : Int)) = true := by simp; omega
            have HL : Hid (lisM m f = false) := by show _ = _; rw [lis_of, decide_eq_false_iff_not]; rintro ⟨_, h⟩; omega
            clear h4 hs
            iterate 12 (first | (refine Plan.take (v := ?_) rfl (by rfl) ?_ ?_; rotate_left 1; (focus (intro x hx; go_simp <;> (first | with_reducible rfl | rw [if_pos (by omega)]))); simp only [Act.put, List.setIfInBounds_toArray, List.set_cons_zero, List.set_cons_succ]) | (refine Plan.skip rfl (by rfl) ?_; simp only [Act.put, List.setIfInBounds_toArray, List.set_cons_zero, List.set_cons_succ]))
            refine Plan.done ?_
            go_wp2
            refine HP.out (m, [], false) _ H3.out.rm H3.out.ft (hrd_out m f HL.out)
        · have h4' : ((f.k : Int) != 4) = true := by simp; omega
          have HL : Hid (lisM m f = false) := by show _ = _; rw [lis_of, decide_eq_false_iff_not]; rintro ⟨_, h⟩; omega
          clear h4
          iterate 12 (first | (refine Plan.take (v := ?_) rfl (by rfl) ?_ ?_; rotate_left 1; (focus (intro x hx; go_simp <;> (first | with_reducible rfl | rw [if_pos (by omega)]))); simp only [Act.put, List.setIfInBounds_toArray, List.set_cons_zero, List.set_cons_succ]) | (refine Plan.skip rfl (by rfl) ?_; simp only [Act.put, List.setIfInBounds_toArray, List.set_cons_zero, List.set_cons_succ]))
          refine Plan.done ?_
          go_wp2
          refine HP.out (m, [], false) _ H3.out.rm H3.out.ft (hrd_out m f HL.out)

end Go.Proofs.Ytoahjkdackccmaa
