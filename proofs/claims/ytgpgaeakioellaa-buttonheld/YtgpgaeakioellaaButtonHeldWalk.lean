/-
  lamplightlaw10.ButtonHeld, walked: true, under the conditions on buttons' calls.
-/
import Derived.Test.YtgpgaeakioellaaButT
import Derived.Deep.DeepCutAuto
namespace Go.Proofs.Ytgpgaeakioellaa
set_option linter.unusedVariables false
set_option linter.unusedSimpArgs false
open Go.RowKit

theorem told_due (s m : Int) : (⟨true, s, true⟩ : Bt).due m = false := rfl
theorem told_tell (s m : Int) : (⟨true, s, true⟩ : Bt).tell m = ⟨true, s, true⟩ := rfl
theorem late_due {s m : Int} (h : s + 3 ≤ m) : (⟨true, s, false⟩ : Bt).due m = true := by unfold Bt.due; simp [h]
theorem late_tell {s m : Int} (h : s + 3 ≤ m) : (⟨true, s, false⟩ : Bt).tell m = ⟨true, s, true⟩ := by unfold Bt.tell; rw [late_due h]; rfl
theorem early_due {s m : Int} (h : ¬ s + 3 ≤ m) : (⟨true, s, false⟩ : Bt).due m = false := by unfold Bt.due; simp; omega
theorem early_tell {s m : Int} (h : ¬ s + 3 ≤ m) : (⟨true, s, false⟩ : Bt).tell m = ⟨true, s, false⟩ := by unfold Bt.tell; rw [early_due h]; rfl
set_option maxRecDepth 20000 in
set_option maxHeartbeats 6400000 in
theorem buttonheld_walk {Bl : World → Nat → Bs → Prop} (BC : ButCond Bl) {wh fr0 : Int} {g n c : Nat} {A : Option Addr} {l : List UInt8} {w : World} (h : Holds w g A (bcs l)) (hn : l.length = n) (hc : n ≤ c) (hcm : c ≤ 9223372036854775807) :
    Calls Try.prog 8 #[.int .i64 wh, .int .i64 fr0, .slice A n c] w fun e w' => e = .returned (.bool true) ∧ Below w.heap.size w w' := by
  obtain ⟨m, hm1, hm2, hlast⟩ : ∃ m, m ≤ n ∧ m ≤ 50 ∧ (m = n ∨ m = 50) := ⟨min n 50, by omega, by omega, by omega⟩
  obtain ⟨q, hq, hand⟩ := and3 wh
  obtain ⟨fr, hfr, hand2⟩ := and40 fr0
  have HBC := Lib.hid BC
  have HH := Lib.hid h
  have HL := Lib.hid hn
  have HLA := Lib.hid hlast
  clear BC h hn hlast
  go_enter Try.func8, Try.ntmps8
  go_wp2_with fail
  refine (shown_on HBC.out w).mono ?_
  rintro e x0 ⟨rfl, hb0⟩
  have H0 := Lib.hid (Lb.one q (Lb.zero HBC.out hb0))
  clear hb0
  go_wp2_with fail
  refine (HBC.out.set1 hq H0.out (d := true) (now := (fr : Int)) (by unfold BI; omega)).mono ?_
  rintro e x1 ⟨rfl, h1, -⟩
  rw [show bt0.set true (fr : Int) = ⟨true, (fr : Int), false⟩ from rfl] at h1
  have H1 := Lib.hid h1
  clear h1 H0
  generalize x0.heap.size = D at *
  clear x0
  go_wp2
  go_loopw [9, 10, 11] (fun nv tv iv wr => ∃ (i nw : Nat) (td : Bool), i ≤ m ∧ fr ≤ nw ∧ nw ≤ fr + 4 * i ∧ nv = .int .i64 nw ∧ tv = .bool td ∧ iv = .int .i64 i ∧ Hid (Lb Bl w D (oneB q ⟨true, (fr : Int), td⟩) wr)) (fun _ _ iv _ => m - (intOf iv).toNat)
  case atStart => exact ⟨0, fr, false, Nat.zero_le _, Nat.le_refl _, Nat.le_refl _, rfl, rfl, rfl, H1⟩
  case round =>
    clear H1 x1
    obtain ⟨i, nw, td, hi, hnl, hnw, rfl, rfl, rfl, H⟩ := hrel
    rename World => y0
    by_cases hlt : i < m
    · have hlt1 : (i : Int) < (n : Int) := by omega
      have hlt3 : (i : Int) < 50 := by omega
      have hil : i < l.length := by rw [HL.out]; omega
      obtain ⟨hgw, o, rfl, hcell⟩ := HH.out (by rw [bcs_length]; omega)
      have HG : Hid (g < w.heap.size) := Lib.hid hgw
      have HCL : Hid (w.cell? ⟨g, o + i, none⟩ = some (.int .u8 (l[i].toNat : Int))) := Lib.hid (hcell i _ (bcs_get l i hil))
      generalize l[i].toNat = a at *
      obtain ⟨ga, hga⟩ : ∃ ga, a % 5 = ga := ⟨_, rfl⟩
      have hrem1 : (a : Int).tmod 5 = (ga : Int) := by rw [← hga]; rfl
      have hga4 : ga ≤ 4 := by omega
      have e0 := (H.out.below.cell (p := ⟨g, o + i, none⟩) HG.out).trans HCL.out
      clear hcell hgw hil hga
      cases td with
      | true =>
        as_aux_lemma =>
          go_wp2_with fail
          refine (HBC.out.press1 hq H.out (now := (nw : Int) + (ga : Int)) (l := []) (by unfold BI; omega) rfl).mono ?_
          rintro e y1 ⟨A2, c2, rfl, hi2, h1, -⟩
          simp only [List.length_nil, List.length_cons] at hi2 ⊢
          rw [told_tell] at h1
          have H1 := Lib.hid h1
          clear h1 H hi2 e0
          go_wp2_with fail
          refine (HBC.out.set1 hq H1.out (d := true) (now := (nw : Int) + (ga : Int)) (by unfold BI; omega)).mono ?_
          rintro e y2 ⟨rfl, h1, -⟩
          rw [show (⟨true, (fr : Int), true⟩ : Bt).set true ((nw : Int) + (ga : Int)) = ⟨true, (fr : Int), true⟩ from rfl] at h1
          have H2 := Lib.hid h1
          clear h1 H1
          go_wp2_with fail
          refine (HBC.out.down1 hq H2.out).mono ?_
          rintro e y3 ⟨rfl, h1, -⟩
          have H3 := Lib.hid h1
          clear h1 H2
          go_wp2
          go_roundw
          case rel => exact ⟨i + 1, nw + ga, true, by omega, by omega, by omega, by go_num, rfl, by go_num, H3⟩
          case measure => simp [intOf]; omega
      | false =>
        by_cases hd : (fr : Int) + 3 ≤ (nw : Int) + (ga : Int)
        · as_aux_lemma =>
            have hge : (3 : Int) ≤ (nw : Int) + (ga : Int) - (fr : Int) := by omega
            have HDU := Lib.hid (late_due hd)
            have HTE := Lib.hid (late_tell hd)
            clear hd
            go_wp2_with fail
            refine (HBC.out.press1 hq H.out (now := (nw : Int) + (ga : Int)) (l := [q]) (by unfold BI; omega) (by rw [HDU.out]; rfl)).mono ?_
            rintro e y1 ⟨A2, c2, rfl, hi2, h1, -⟩
            simp only [List.length_nil, List.length_cons] at hi2 ⊢
            rw [HTE.out] at h1
            have H1 := Lib.hid h1
            clear h1 H hi2 e0 HDU HTE
            go_wp2_with fail
            refine (HBC.out.set1 hq H1.out (d := true) (now := (nw : Int) + (ga : Int)) (by unfold BI; omega)).mono ?_
            rintro e y2 ⟨rfl, h1, -⟩
            rw [show (⟨true, (fr : Int), true⟩ : Bt).set true ((nw : Int) + (ga : Int)) = ⟨true, (fr : Int), true⟩ from rfl] at h1
            have H2 := Lib.hid h1
            clear h1 H1
            go_wp2_with fail
            refine (HBC.out.down1 hq H2.out).mono ?_
            rintro e y3 ⟨rfl, h1, -⟩
            have H3 := Lib.hid h1
            clear h1 H2
            go_wp2
            go_roundw
            case rel => exact ⟨i + 1, nw + ga, true, by omega, by omega, by omega, by go_num, rfl, by go_num, H3⟩
            case measure => simp [intOf]; omega
        · as_aux_lemma =>
            have hge : ¬ (3 : Int) ≤ (nw : Int) + (ga : Int) - (fr : Int) := by omega
            have HDU := Lib.hid (early_due hd)
            have HTE := Lib.hid (early_tell hd)
            clear hd
            go_wp2_with fail
            refine (HBC.out.press1 hq H.out (now := (nw : Int) + (ga : Int)) (l := []) (by unfold BI; omega) (by rw [HDU.out]; rfl)).mono ?_
            rintro e y1 ⟨A2, c2, rfl, hi2, h1, -⟩
            simp only [List.length_nil, List.length_cons] at hi2 ⊢
            rw [HTE.out] at h1
            have H1 := Lib.hid h1
            clear h1 H hi2 e0 HDU HTE
            go_wp2_with fail
            refine (HBC.out.set1 hq H1.out (d := true) (now := (nw : Int) + (ga : Int)) (by unfold BI; omega)).mono ?_
            rintro e y2 ⟨rfl, h1, -⟩
            rw [show (⟨true, (fr : Int), false⟩ : Bt).set true ((nw : Int) + (ga : Int)) = ⟨true, (fr : Int), false⟩ from rfl] at h1
            have H2 := Lib.hid h1
            clear h1 H1
            go_wp2_with fail
            refine (HBC.out.down1 hq H2.out).mono ?_
            rintro e y3 ⟨rfl, h1, -⟩
            have H3 := Lib.hid h1
            clear h1 H2
            go_wp2
            go_roundw
            case rel => exact ⟨i + 1, nw + ga, false, by omega, by omega, by omega, by go_num, rfl, by go_num, H3⟩
            case measure => simp [intOf]; omega
    · have hkn : m = i := by omega
      subst hkn
      have hex : (¬ (m : Int) < (n : Int)) ∨ ((m : Int) < (n : Int) ∧ ¬ (m : Int) < 50) := by have := HLA.out; omega
      have hnw2 : nw ≤ 1099511628976 := by omega
      clear hnl hnw hm1 hm2 hi hlt
      rcases hex with hl1 | ⟨hl1, hl2⟩
      all_goals
        go_wp2_with fail
        refine (HBC.out.resetL H.out).mono ?_
        rintro e y1 ⟨rfl, h1, -⟩
        have H1 := Lib.hid h1.one
        clear h1 H
        go_wp2_with fail
        refine (HBC.out.down1 hq (H1.out q)).mono ?_
        rintro e y2 ⟨rfl, h1, -⟩
        rw [show bt0.d = false from rfl]
        have H2 := Lib.hid h1
        clear h1 H1
        go_wp2_with fail
        refine (HBC.out.press1 hq H2.out (now := (nw : Int) + 100) (l := []) (by unfold BI; omega) rfl).mono ?_
        rintro e y3 ⟨A2, c2, rfl, hi2, h1, -⟩
        simp only [List.length_nil] at hi2 ⊢
        have H3 := Lib.hid h1
        clear h1 H2 hi2
        go_wp2
        go_ret
        exact ⟨rfl, H3.out.below⟩
end Go.Proofs.Ytgpgaeakioellaa
