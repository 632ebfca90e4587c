/-
  lamplightlaw10.ButtonShort, walked: true, under the conditions on buttons' calls.
-/
import Derived.Test.YtgpgaeakioellaaButT
import Derived.Deep.DeepCutAuto
namespace Go.Proofs.Ytgpgaeakioellaa
set_option linter.unusedVariables false
set_option linter.unusedSimpArgs false
open Go.RowKit

/-- The button at the beginning of round i: it was down since s, or it is up. -/
def shortB (dn : Bool) (s i : Nat) : Bt := if dn then ⟨true, (s : Int), decide (3 < i - s)⟩ else bt0
theorem short_up (s i : Nat) : shortB false s i = bt0 := rfl
theorem short_dn (s i : Nat) : shortB true s i = ⟨true, (s : Int), decide (3 < i - s)⟩ := rfl
theorem short_set (dn : Bool) (s i : Nat) (hs : s ≤ i) (v : Bool) : (shortB dn s i).set v (i : Int) = shortB v (if v && !dn then i else s) i := by
  cases v
  · rfl
  · cases dn
    · show (⟨true, (i : Int), false⟩ : Bt) = ⟨true, (i : Int), decide (3 < i - i)⟩
      simp
    · rfl
theorem short_due {dn : Bool} {s i : Nat} (hs : s ≤ i) : (shortB dn s i).due (i : Int) = (dn && decide (i - s = 3)) := by
  cases dn
  · rfl
  · rw [short_dn, held_due (i - s) (by omega)]
    rfl
theorem short_tell {dn : Bool} {s i : Nat} (hs : s ≤ i) : (shortB dn s i).tell (i : Int) = shortB dn s (i + 1) := by
  cases dn
  · rfl
  · rw [short_dn, held_tell (i - s) (by omega), short_dn, show i + 1 - s = i - s + 1 by omega]
theorem short_d (dn : Bool) (s i : Nat) : (shortB dn s i).d = dn := by cases dn <;> rfl
set_option maxRecDepth 20000 in
set_option maxHeartbeats 6400000 in
theorem buttonshort_walk {Bl : World → Nat → Bs → Prop} (BC : ButCond Bl) {wh : Int} {g n c : Nat} {A : Option Addr} {l : List Bool} {w : World} (h : Holds w g A (l.map Value.bool)) (hn : l.length = n) (hc : n ≤ c) (hcm : c ≤ 9223372036854775807) :
    Calls Try.prog 7 #[.int .i64 wh, .slice A n c] w fun e w' => e = .returned (.bool true) ∧ Below w.heap.size w w' := by
  obtain ⟨m, hm1, hm2, hlast⟩ : ∃ m, m ≤ n ∧ m ≤ 60 ∧ (m = n ∨ m = 60) := ⟨min n 60, by omega, by omega, by omega⟩
  obtain ⟨q, hq, hand⟩ := and3 wh
  have HBC := Lib.hid BC
  have HH := Lib.hid h
  have HL := Lib.hid hn
  have HLA := Lib.hid hlast
  clear BC h hn hlast
  go_enter Try.func7, Try.ntmps7
  go_wp2_with fail
  refine (shown_on HBC.out w).mono ?_
  rintro e x0 ⟨rfl, hb0⟩
  have H0 := Lib.hid (Lb.one q (Lb.zero HBC.out hb0))
  clear hb0
  go_wp2
  generalize x0.alloc (.cells bz 29) = x1 at *
  generalize x0.heap.size = D at *
  go_loopw [7, 8, 9] (fun sv dv iv wr => ∃ (i s : Nat) (dn : Bool), i ≤ m ∧ s ≤ i ∧ sv = .int .i64 s ∧ dv = .bool dn ∧ iv = .int .i64 i ∧ Hid (Lb Bl w D (oneB q (shortB dn s i)) wr)) (fun _ _ iv _ => m - (intOf iv).toNat)
  case atStart => exact ⟨0, 0, false, Nat.zero_le _, Nat.zero_le _, rfl, rfl, rfl, H0⟩
  case round =>
    clear H0 x1
    obtain ⟨i, s, dn, hi, hsi, rfl, rfl, rfl, H⟩ := hrel
    rename World => y0
    by_cases hlt : i < m
    · have hlt1 : (i : Int) < (n : Int) := by omega
      have hlt3 : (i : Int) < 60 := by omega
      have hil : i < l.length := by rw [HL.out]; omega
      obtain ⟨hgw, o, rfl, hcell⟩ := HH.out (by rw [List.length_map]; omega)
      have HG : Hid (g < w.heap.size) := Lib.hid hgw
      have HCL : Hid (w.cell? ⟨g, o + i, none⟩ = some (.bool l[i])) := Lib.hid (hcell i _ (by simp [hil]))
      generalize l[i] = v at *
      clear hcell hgw hil
      have HSE := Lib.hid (short_set dn s i hsi v)
      obtain ⟨s2, hs2⟩ : ∃ s2, (if v && !dn then i else s) = s2 := ⟨_, rfl⟩
      rw [hs2] at HSE
      have HS2 := Lib.hid hs2
      have hsi2 : s2 ≤ i := by rw [← hs2]; split <;> omega
      clear hs2
      go_upto_region 9 with fail
      have e0 := (H.out.below.cell (p := ⟨g, o + i, none⟩) HG.out).trans HCL.out
      have HD := Lib.hid (drew_below y0)
      replace H := Lib.hid (H.out.step HBC.out HD.out)
      clear HD
      refine region_plan [(true, 0), (true, 1), (true, 2), (true, 3), (true, 4), (true, 5), (true, 6), (false, 7), (true, 8), (true, 9), (true, 10), (true, 11), (true, 13), (true, 14), (true, 15), (true, 16), (false, 12), (true, 17), (true, 18)]
        (fun z => z.cell? ⟨g, o + i, none⟩ = some (.bool v)) (by kernel_rfl) (by kernel_rfl) (by kernel_rfl) rfl e0 ?_
      clear e0
      generalize y0.drew = y1 at *
      iterate 7 (refine Plan.take (v := ?_) rfl (by rfl) ?_ ?_; rotate_left 1; (focus (intro x hx; go_simp <;> (first | with_reducible rfl | rw [if_pos (by omega)]))); simp only [Act.put, List.setIfInBounds_toArray, List.set_cons_zero, List.set_cons_succ])
      refine Plan.loud rfl (fun K hK => ?_)
      go_simp
      refine (HBC.out.set1 hq H.out (now := (i : Int)) (by unfold BI; omega)).mono ?_
      rintro e y2 ⟨rfl, h1, -⟩
      rw [HSE.out] at h1
      have H2 := Lib.hid h1
      have e0 := (h1.below.cell (p := ⟨g, o + i, none⟩) HG.out).trans HCL.out
      refine hK.out _ _ _ (fun x hx => hx) e0 ?_
      clear hK K h1 H e0 HSE
      iterate 8 (first | (refine Plan.take (v := ?_) rfl (by rfl) ?_ ?_; rotate_left 1; (focus (intro x hx; go_simp <;> (first | with_reducible rfl | rw [if_pos (by omega)]))); simp only [Act.put, List.setIfInBounds_toArray, List.set_cons_zero, List.set_cons_succ]) | (refine Plan.skip rfl (by rfl) ?_; simp only [Act.put, List.setIfInBounds_toArray, List.set_cons_zero, List.set_cons_succ]))
      refine Plan.loud rfl (fun K hK => ?_)
      go_simp
      refine (HBC.out.down1 hq H2.out).mono ?_
      rintro e y3 ⟨rfl, h1, -⟩
      rw [short_d]
      have H3 := Lib.hid h1
      have e0 := (h1.below.cell (p := ⟨g, o + i, none⟩) HG.out).trans HCL.out
      refine hK.out _ _ _ (fun x hx => hx) e0 ?_
      clear hK K h1 H2
      iterate 2 (first | (refine Plan.take (v := ?_) rfl (by rfl) ?_ ?_; rotate_left 1; (focus (intro x hx; go_simp <;> (first | with_reducible rfl | rw [if_pos (by omega)]))); simp only [Act.put, List.setIfInBounds_toArray, List.set_cons_zero, List.set_cons_succ]) | (refine Plan.skip rfl (by rfl) ?_; simp only [Act.put, List.setIfInBounds_toArray, List.set_cons_zero, List.set_cons_succ]))
      refine Plan.done ?_
      have HTE := Lib.hid (short_tell (dn := v) hsi2)
      cases v with
      | false =>
        have HS3 : Hid (s2 = s) := Lib.hid HS2.out.symm
        have hs3 := HS3.out
        subst hs3
        go_wp2_with fail
        refine (HBC.out.press1 hq H3.out (now := (i : Int)) (l := []) (by unfold BI; omega) rfl).mono ?_
        rintro e y4 ⟨A2, c2, rfl, hi2, h1, -⟩
        simp only [List.length_nil] at hi2 ⊢
        rw [HTE.out] at h1
        have H4 := Lib.hid h1
        clear h1 H3 hi2 HTE e0
        go_wp2
        go_roundw
        case rel => exact ⟨i + 1, _, false, by omega, by omega, rfl, rfl, by go_num, H4⟩
        case measure => simp [intOf]; omega
      | true =>
        cases dn with
        | false =>
          have HS3 : Hid (s2 = i) := Lib.hid HS2.out.symm
          have hs3 := HS3.out
          subst hs3
          go_wp2_with fail
          refine (HBC.out.press1 hq H3.out (now := (s2 : Int)) (l := []) (by unfold BI; omega) (by rw [short_due (Nat.le_refl _)]; simp)).mono ?_
          rintro e y4 ⟨A2, c2, rfl, hi2, h1, -⟩
          simp only [List.length_nil] at hi2 ⊢
          rw [HTE.out] at h1
          have H4 := Lib.hid h1
          clear h1 H3 hi2 HTE e0
          go_wp2
          go_roundw
          case rel => exact ⟨s2 + 1, s2, true, by omega, by omega, rfl, rfl, by go_num, H4⟩
          case measure => simp [intOf]; omega
        | true =>
          have HS3 : Hid (s2 = s) := Lib.hid HS2.out.symm
          have hs3 := HS3.out
          subst hs3
          have HDU := Lib.hid (short_due (dn := true) hsi2)
          by_cases h3 : i - s2 = 3
          · have h3' : ((i : Int) - (s2 : Int)) = 3 := by omega
            have HDL : Hid ((if (shortB true s2 i).due (i : Int) = true then [q] else []) = [q]) := by show _ = _; rw [HDU.out, decide_eq_true h3]; rfl
            clear h3
            go_wp2_with fail
            refine (HBC.out.press1 hq H3.out (now := (i : Int)) (l := [q]) (by unfold BI; omega) HDL.out).mono ?_
            rintro e y4 ⟨A2, c2, rfl, hi2, h1, -⟩
            simp only [List.length_nil, List.length_cons] at hi2 ⊢
            rw [HTE.out] at h1
            have H4 := Lib.hid h1
            obtain ⟨hg1, hg2⟩ := hi2.cap
            obtain ⟨gA, rfl, _, e1, _⟩ := hi2.at 0 (by omega)
            have e1' : y4.cell? ⟨gA, 0, none⟩ = some (.int .i64 (q : Int)) := e1
            clear h1 H3 hi2 HTE HDU HDL e0 e1
            go_wp2
            go_roundw
            case rel => exact ⟨i + 1, s2, true, by omega, by omega, rfl, rfl, by go_num, H4⟩
            case measure => simp [intOf]; omega
          · have h3' : (((i : Int) - (s2 : Int)) == 3) = false := by simp; omega
            go_wp2_with fail
            refine (HBC.out.press1 hq H3.out (now := (i : Int)) (l := []) (by unfold BI; omega) (by rw [HDU.out, decide_eq_false h3]; rfl)).mono ?_
            rintro e y4 ⟨A2, c2, rfl, hi2, h1, -⟩
            simp only [List.length_nil, List.length_cons] at hi2 ⊢
            rw [HTE.out] at h1
            have H4 := Lib.hid h1
            clear h1 H3 hi2 HTE HDU e0 h3
            go_wp2
            go_roundw
            case rel => exact ⟨i + 1, s2, true, by omega, by omega, rfl, rfl, by go_num, H4⟩
            case measure => simp [intOf]; omega
    · have hkn : m = i := by omega
      subst hkn
      have hex : (¬ (m : Int) < (n : Int)) ∨ ((m : Int) < (n : Int) ∧ ¬ (m : Int) < 60) := by have := HLA.out; omega
      rcases hex with hl1 | ⟨hl1, hl2⟩
      all_goals
        go_wp2
        go_ret
        exact ⟨rfl, H.out.below⟩
end Go.Proofs.Ytgpgaeakioellaa
