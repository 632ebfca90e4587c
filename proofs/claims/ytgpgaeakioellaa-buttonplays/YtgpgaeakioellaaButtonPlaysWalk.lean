/-
  lamplightlaw10.ButtonPlays, walked: true, under the conditions on buttons' calls.
-/
import Derived.Test.YtgpgaeakioellaaButW
import Derived.Deep.DeepCutAuto
namespace Go.Proofs.Ytgpgaeakioellaa
set_option linter.unusedVariables false
set_option linter.unusedSimpArgs false
open Go.RowKit

set_option maxRecDepth 20000 in
set_option maxHeartbeats 6400000 in
theorem buttonplays_walk {Bl : World → Nat → Bs → Prop} (BC : ButCond Bl) {n c : Nat} {P : Option Addr} {ss : List St10} {w : World} (hp : Steps10 w P ss) (hs : ss.length = n) (hc : n ≤ c) (hcm : c ≤ 9223372036854775807) :
    Calls Try.prog 3 #[.slice P n c] w fun e w' => e = .returned (.bool true) ∧ Below w.heap.size w w' := by
  obtain ⟨m, hm1, hm2, hlast⟩ : ∃ m, m ≤ n ∧ m ≤ 200 ∧ (m = n ∨ m = 200) := ⟨min n 200, by omega, by omega, by omega⟩
  have HBC := Lib.hid BC
  have HP := Lib.hid hp
  have HS := Lib.hid hs
  have HLA := Lib.hid hlast
  clear BC hp hs hlast
  go_enter Try.func3, Try.ntmps3
  go_wp2_with fail
  refine (shown_on HBC.out w).mono ?_
  rintro e x0 ⟨rfl, hb0⟩
  have H0 := Lib.hid (Tr.start HBC.out hb0)
  clear hb0
  go_wp2
  generalize (x0.alloc (.cells bz 29)).alloc (.cells #[.slice none 0 0] 33) = x1 at *
  obtain ⟨R, hR⟩ : ∃ R, x0.heap.size + 1 = R := ⟨_, rfl⟩
  rw [hR] at H0 ⊢
  clear hR
  generalize x0.heap.size = D at *
  go_loopw [6] (fun iv wr => ∃ (i : Nat) (f : Bs) (l : List Ev), i ≤ m ∧ l.length ≤ 4 * i ∧ iv = .int .i64 i ∧ Hid (Tr Bl w D R f l wr)) (fun iv _ => m - (intOf iv).toNat)
  case atStart => exact ⟨0, zeroB, [], Nat.zero_le _, Nat.le_refl _, rfl, H0⟩
  case round =>
    clear H0 x1
    obtain ⟨i, f, l, hi, hll, rfl, H⟩ := hrel
    rename World => y0
    by_cases hlt : i < m
    · have hlt1 : (i : Int) < (n : Int) := by omega
      have hlt2 : (i : Int) < 200 := by omega
      have hil : i < ss.length := by rw [HS.out]; omega
      obtain ⟨b, o, rfl, e0, e1, e2, e3, hb, ht⟩ := HP.out.at H.out.a.below i hil
      generalize (ss[i]'hil) = st at *
      have HIB := Lib.hid hb
      have HIT := Lib.hid ht
      have HLL : Hid (l.length ≤ 4 * i ∧ i < 200) := Lib.hid ⟨hll, by omega⟩
      clear hb ht hil hll
      go_upto_region 9 with fail
      have hbx := new_below y0 (.cells #[.int .i64 st.k, .int .i64 st.b, .bool st.d, .int .i64 st.t] 35)
      have HX : Hid (Bx10 (y0.alloc (.cells #[.int .i64 st.k, .int .i64 st.b, .bool st.d, .int .i64 st.t] 35)) y0.heap.size st) := heap_alloc_new y0 _
      have HRX : Hid (R < y0.heap.size) := Lib.hid H.out.b.lt
      have HDR : Hid (D < R) := Lib.hid H.out.lt
      have HDX : Hid (D < y0.heap.size) := Lib.hid (by have := HRX.out; have := HDR.out; omega)
      replace H := Lib.hid (H.out.step HBC.out hbx)
      clear e0 e1 e2 e3 hbx
      generalize y0.alloc (.cells #[.int .i64 st.k, .int .i64 st.b, .bool st.d, .int .i64 st.t] 35) = y1 at *
      generalize y0.heap.size = X at *
      have e0 := HX.out.cells.1
      obtain ⟨k, hk⟩ : ∃ k, st.k = k := ⟨_, rfl⟩
      rw [hk] at e0
      clear hk
      go_upto_block 2 with fail
      clear e0
      go_cut [8] (fun v y => ∃ f' l', v = .bool true ∧ Hid (l'.length ≤ 4 * (i + 1)) ∧ Hid (Tr Bl w D R f' l' y) ∧ Hid (Bx10 y X st))
      case first =>
        by_cases k3 : k = 1 ∨ k = 2 ∨ k = 3
        · have e1 := HX.out.cells.2.1
          have e2 := HX.out.cells.2.2.1
          have e3 := HX.out.cells.2.2.2
          rcases k3 with rfl | rfl | rfl
          all_goals
            as_aux_lemma =>
              by_cases hin : 0 ≤ st.b ∧ st.b ≤ 3
              · have HIN := Lib.hid hin
                clear hin
                go_wp2_with fail
                refine (HBC.out.setL H.out.a HIB.out HIT.out).mono ?_
                rintro e y2 ⟨rfl, h1, hch⟩
                have HTE := Lib.hid (H.out.te.set HIN.out st.d st.t)
                have HBI := Lib.hid (bi_snoc (v := ⟨st.b, false, st.d, st.t⟩) H.out.bi HIT.out)
                have HE0 : Hid ((setB f st.b st.d st.t).2 = 0) := Lib.hid (by rw [setB_in HIN.out.1 HIN.out.2])
                have H1 := Lib.hid h1
                have HR1 := Lib.hid (H.out.b.ch hch HDR.out)
                have HX2 := Lib.hid (HX.out.ch hch HDX.out)
                rw [HE0.out]
                clear h1 hch H HX e1 e2 e3 HE0
                have e1 := HX2.out.cells.2.1
                have e2 := HX2.out.cells.2.2.1
                have e3 := HX2.out.cells.2.2.2
                go_wp2_with fail
                refine (rset_on HR1.out (by have := HLL.out; omega)).mono ?_
                rintro e y3 ⟨rfl, h2, hf⟩
                rw [if_pos HIN.out] at h2
                rw [decide_eq_true HIN.out]
                have H3 : Hid (Tr Bl w D R _ _ y3) := Lib.hid (Tr.both HBC.out HDR.out H1.out HR1.out.lt h2 hf HTE.out HBI.out)
                have HX3 := Lib.hid (HX2.out.ft hf (by decide))
                have HL3 : Hid ((l ++ [(⟨st.b, false, st.d, st.t⟩ : Ev)]).length ≤ 4 * (i + 1)) := Lib.hid (by have := HLL.out; rw [List.length_append, List.length_singleton]; omega)
                clear h2 hf H1 HR1 HX2 e1 e2 e3 HTE HBI
                go_wp2
                go_meet
                case rel => exact ⟨_, _, rfl, HL3, H3, HX3⟩
              · have HIN := Lib.hid hin
                clear hin
                go_wp2_with fail
                refine (HBC.out.setL H.out.a HIB.out HIT.out).mono ?_
                rintro e y2 ⟨rfl, h1, hch⟩
                rw [setB_out HIN.out] at h1 ⊢
                simp only at h1 ⊢
                have H1 := Lib.hid h1
                have HTE := Lib.hid H.out.te
                have HBI := Lib.hid H.out.bi
                have HR1 := Lib.hid (H.out.b.ch hch HDR.out)
                have HX2 := Lib.hid (HX.out.ch hch HDX.out)
                clear h1 hch H HX e1 e2 e3
                have e1 := HX2.out.cells.2.1
                have e2 := HX2.out.cells.2.2.1
                have e3 := HX2.out.cells.2.2.2
                go_wp2_with fail
                refine (rset_on HR1.out (by have := HLL.out; omega)).mono ?_
                rintro e y3 ⟨rfl, h2, hf⟩
                rw [if_neg HIN.out] at h2
                rw [decide_eq_false HIN.out]
                have H3 : Hid (Tr Bl w D R f l y3) := Lib.hid (Tr.both HBC.out HDR.out H1.out HR1.out.lt h2 hf HTE.out HBI.out)
                have HX3 := Lib.hid (HX2.out.ft hf (by decide))
                have HL3 : Hid (l.length ≤ 4 * (i + 1)) := Lib.hid (by have := HLL.out; omega)
                clear h2 hf H1 HR1 HX2 e1 e2 e3 HTE HBI
                go_wp2
                go_meet
                case rel => exact ⟨_, _, rfl, HL3, H3, HX3⟩
        · by_cases k4 : k = 4 ∨ k = 5
          · have j1 : (k == 1) = false := by simp; omega
            have j2 : (k == 2) = false := by simp; omega
            have j3 : (k == 3) = false := by simp; omega
            have HDL := Lib.hid (H.out.te.dueL st.t)
            have HTL := Lib.hid (H.out.te.toldE st.t)
            have HTP := Lib.hid (H.out.te.press st.t)
            have HBI := Lib.hid H.out.bi
            have hnp4 : (pressB f st.t).2.length ≤ 4 := dueL_len f st.t 4
            have HPP : Hid ((pressB f st.t).2 = dueL f st.t 4) := Lib.hid rfl
            clear k3
            rcases k4 with rfl | rfl
            all_goals
              as_aux_lemma =>
                have e3 := HX.out.cells.2.2.2
                go_wp2_with fail
                refine (HBC.out.pressedL H.out.a HIT.out).mono ?_
                rintro e y2 ⟨A2, c2, rfl, hir, h1, hch⟩
                have H1 := Lib.hid h1
                have HR1 := Lib.hid (H.out.b.ch hch HDR.out)
                have HX2 := Lib.hid (HX.out.ch hch HDX.out)
                have HI2 := Lib.hid hir
                obtain ⟨hc1, hc2⟩ := hir.cap
                have HRY : Hid (R < y1.heap.size) := Lib.hid H.out.b.lt
                clear h1 hch H HX hir e3
                generalize y1.heap.size = B2 at *
                obtain ⟨np, hnp⟩ : ∃ np, (pressB f st.t).2.length = np := ⟨_, rfl⟩
                rw [hnp] at HI2 hnp4 hc1 ⊢
                have HNP := Lib.hid hnp
                clear hnp
                have e3 := HX2.out.cells.2.2.2
                go_wp2_with fail
                refine (rpressed_on HR1.out (by have := HLL.out; omega) HBI.out HIT.out).mono ?_
                rintro e y3 ⟨A3, c3, rfl, hir, h2, hf⟩
                rw [HDL.out] at hir ⊢
                rw [HTL.out] at h2
                have HLE : Hid (l ++ toldE f st.t 4 = l ++ toldE f st.t 4 ∧ (l ++ toldE f st.t 4).length ≤ 4 * (i + 1)) := Lib.hid ⟨rfl, by have h1 := HLL.out; have h2 := toldE_len f st.t 4; rw [List.length_append]; omega⟩
                have H3 : Hid (Tr Bl w D R (pressB f st.t).1 (l ++ toldE f st.t 4) y3) := Lib.hid (Tr.both HBC.out HDR.out H1.out HR1.out.lt h2 hf HTP.out (bi_told HBI.out))
                have HX3 := Lib.hid (HX2.out.ft hf (by decide))
                have HI3 := Lib.hid (HI2.out.ft hf (by decide))
                have HJ3 : Hid (Ir y3 y2.heap.size np A3 c3 (pressB f st.t).2) := by
                  have h5 := HNP.out
                  rw [HPP.out] at h5 ⊢
                  rw [← h5]
                  exact hir
                have HNQ : Hid ((dueL f st.t 4).length = np) := Lib.hid HNP.out
                rw [HNQ.out]
                clear h2 hf hir H1 HR1 HX2 HI2 e3 HDL HTL HTP HBI HNQ HPP
                generalize l ++ toldE f st.t 4 = l2 at *
                generalize pressB f st.t = r at *
                obtain ⟨f2, L⟩ := r
                simp only at HI3 HJ3 H3 HNP
                obtain ⟨g2, hg2⟩ := HI3.out.holds
                obtain ⟨g3, hg3⟩ := HJ3.out.holds
                have HG2 := Lib.hid hg2
                have HG3 := Lib.hid hg3
                clear hg2 hg3
                go_wp2_with fail
                refine (same_on HG2.out HG3.out HNP.out HNP.out (by omega) HI3.out.cap.1 HJ3.out.cap.1).mono ?_
                rintro e y4 ⟨rfl, hb4⟩
                rw [decide_eq_true rfl]
                have H4 := Lib.hid (H3.out.step HBC.out hb4)
                have HX4 := Lib.hid (HX3.out.step hb4)
                have HU4 : Hid (IrU y4 B2 A2 np c2) := Lib.hid ⟨L, HI3.out.step hb4⟩
                have HL4 := Lib.hid HLE.out.2
                clear HG2 HG3 hb4 H3 HX3 HI3 HJ3 HLE
                go_wp2
                go_loopw [12] (fun kv wr => ∃ (j : Nat), j ≤ np ∧ kv = .int .i64 j ∧ Hid (Tr Bl w D R f2 l2 wr) ∧ Hid (Bx10 wr X st) ∧ Hid (IrU wr B2 A2 np c2)) (fun kv _ => np - (intOf kv).toNat)
                case atStart => exact ⟨0, Nat.zero_le _, rfl, H4, HX4, HU4⟩
                case round =>
                  clear H4 HX4 HU4 y4
                  obtain ⟨j, hj, rfl, H, HX, HU⟩ := hrel
                  rename World => z0
                  by_cases hjn : j < np
                  · have hjn1 : (j : Int) < (np : Int) := by omega
                    obtain ⟨gA, u, hgA, hgB, hbk, a0, z00⟩ := HU.out.at j hjn
                    have hch : Ch [gA] z0 (z0.setCell ⟨gA, j, none⟩ (.int .i64 ((9 : Nat) : Int))) := (Ch.refl [gA] z0).setCell (p := ⟨gA, j, none⟩) (fun _ => by simp) _
                    have H2 := Lib.hid (H.out.far HBC.out hch (by have := HRY.out; omega) hbk)
                    have HX2 := Lib.hid (HX.out.ft (B := 0) (Ts := [3]) (Ft.of_ch hch (fun z hz _ => by simp at hz; subst hz; exact ⟨Nat.zero_le _, hbk⟩)) (by decide))
                    have HU2 := Lib.hid (HU.out.set gA j 9 hgA)
                    rw [show (((9 : Nat) : Int)) = 9 from rfl] at H2 HX2 HU2
                    subst hgA
                    clear hch hbk hgB H HX HU
                    go_wp2
                    go_roundw
                    case rel => exact ⟨j + 1, by omega, by go_num, H2, HX2, HU2⟩
                    case measure => simp [intOf]; omega
                  · have hkn : np = j := by omega
                    subst hkn
                    go_wp2
                    go_meet
                    case rel => exact ⟨f2, l2, rfl, HL4, H, HX⟩
          · by_cases k6 : k = 6
            · as_aux_lemma =>
                subst k6
                clear k3 k4
                go_wp2_with fail
                refine (HBC.out.resetL H.out.a).mono ?_
                rintro e y2 ⟨rfl, h1, hch⟩
                have HR1 := Lib.hid (H.out.b.ch hch HDR.out)
                have HX2 := Lib.hid (HX.out.ch hch HDX.out)
                obtain ⟨q1, q2⟩ := Tr.clear HBC.out h1 HR1.out HDR.out
                have H3 := Lib.hid q1
                have HX3 := Lib.hid (HX2.out.ch q2 HRX.out)
                have HL3 : Hid (([] : List Ev).length ≤ 4 * (i + 1)) := Lib.hid (Nat.zero_le _)
                obtain ⟨A9, c9, r0, r1, _, _⟩ := HR1.out.c0
                clear h1 hch H HX q1 q2 HX2
                go_wp2
                go_meet
                case rel => exact ⟨_, _, rfl, HL3, H3, HX3⟩
            · as_aux_lemma =>
                have j1 : (k == 1) = false := by simp; omega
                have j2 : (k == 2) = false := by simp; omega
                have j3 : (k == 3) = false := by simp; omega
                have j4 : (k == 4) = false := by simp; omega
                have j5 : (k == 5) = false := by simp; omega
                have j6 : (k == 6) = false := by simp; omega
                have HL3 : Hid (l.length ≤ 4 * (i + 1)) := Lib.hid (by have := HLL.out; omega)
                clear k3 k4 k6
                go_wp2
                go_meet
                case rel => exact ⟨f, l, rfl, HL3, H, HX⟩
      case rest =>
        clear H HX HLL
        obtain ⟨f', l', rfl, HLL, H, HX⟩ := hcut
        rename World => y2
        obtain ⟨sb, hsb⟩ : ∃ sb, st.b = sb := ⟨_, rfl⟩
        have HSB := Lib.hid hsb
        have HIB2 : Hid (BI sb) := by rw [← hsb]; exact HIB
        clear hsb
        have e1 : y2.cell? ⟨X, 1, none⟩ = some (.int .i64 sb) := by rw [← HSB.out]; exact HX.out.cells.2.1
        go_wp2_with fail
        refine (rsince_on H.out.b (by have := HLL.out; omega)).mono ?_
        rintro e y3 ⟨rfl, hb3⟩
        have HDN := Lib.hid (H.out.te.down sb)
        have HOU := Lib.hid (H.out.te.out sb)
        have H3 := Lib.hid (H.out.step HBC.out hb3)
        have HX3 := Lib.hid (HX.out.step hb3)
        clear hb3 H HX e1
        have e1 : y3.cell? ⟨X, 1, none⟩ = some (.int .i64 sb) := by rw [← HSB.out]; exact HX3.out.cells.2.1
        obtain ⟨dn, hdn⟩ : ∃ dn, (evs l' sb).d = dn := ⟨_, rfl⟩
        have HDD := Lib.hid hdn
        rw [hdn] at HDN ⊢
        clear hdn
        go_wp2_with fail
        refine (HBC.out.downL H3.out.a HIB2.out).mono ?_
        rintro e y4 ⟨rfl, _, hb4⟩
        have H4 := Lib.hid (H3.out.step HBC.out hb4)
        have HX4 := Lib.hid (HX3.out.step hb4)
        clear hb4 H3 HX3 e1
        have e1 : y4.cell? ⟨X, 1, none⟩ = some (.int .i64 sb) := by rw [← HSB.out]; exact HX4.out.cells.2.1
        have hle4 : l'.length ≤ 4 * (i + 1) := HLL.out
        by_cases hin : 0 ≤ sb ∧ sb ≤ 3
        · have HDB : Hid (downB f' sb = dn) := Lib.hid (by rw [← HDN.out, decide_eq_true hin]; simp)
          rw [HDB.out]
          have h0 : (0 : Int) ≤ sb := hin.1
          have h4 : sb < 4 := by omega
          clear hin HDN HDB
          cases dn
          all_goals
            go_wp2
            go_roundw
            case rel => exact ⟨i + 1, f', l', by omega, hle4, by go_num, H4⟩
            case measure => simp [intOf]; omega
        · have hdf : dn = false := by rw [← HDD.out, HOU.out hin]; rfl
          have HDB : Hid (downB f' sb = false) := Lib.hid (by rw [← HDN.out, decide_eq_false hin]; simp)
          rw [HDB.out]
          clear HDD
          subst hdf
          clear hin HDN HDB
          go_wp2
          go_roundw
          case rel => exact ⟨i + 1, f', l', by omega, hle4, by go_num, H4⟩
          case measure => simp [intOf]; omega
    · have hkn : m = i := by omega
      subst hkn
      have hex : (¬ (m : Int) < (n : Int)) ∨ ((m : Int) < (n : Int) ∧ ¬ (m : Int) < 200) := by have := HLA.out; omega
      rcases hex with hl3 | ⟨hl3, hl4⟩
      all_goals
        go_wp2
        go_ret
        exact ⟨rfl, H.out.a.below⟩
end Go.Proofs.Ytgpgaeakioellaa
