/-
  lamplightlaw10.ButtonAgain, walked: true, under the conditions on buttons' calls.
-/
import Derived.Test.YtgpgaeakioellaaButT
import Derived.Deep.DeepCutAuto
namespace Go.Proofs.Ytgpgaeakioellaa
set_option linter.unusedVariables false
set_option linter.unusedSimpArgs false
open Go.RowKit

set_option maxRecDepth 20000 in
set_option maxHeartbeats 6400000 in
theorem buttonagain_walk {Bl : World → Nat → Bs → Prop} (BC : ButCond Bl) {n c n1 c1 : Nat} {P P1 : Option Addr} {ss ss1 : List St10} {w : World} (hp : Steps10 w P ss) (hs : ss.length = n) (hc : n ≤ c) (hcm : c ≤ 9223372036854775807)
    (hp1 : Steps10 w P1 ss1) (hs1 : ss1.length = n1) (hc1 : n1 ≤ c1) (hcm1 : c1 ≤ 9223372036854775807) :
    Calls Try.prog 9 #[.slice P n c, .slice P1 n1 c1] w fun e w' => e = .returned (.bool true) ∧ Below w.heap.size w w' := by
  obtain ⟨m, hm1, hm2, hlast⟩ : ∃ m, m ≤ n ∧ m ≤ 100 ∧ (m = n ∨ m = 100) := ⟨min n 100, by omega, by omega, by omega⟩
  obtain ⟨m1, hm3, hm4, hlast1⟩ : ∃ m, m ≤ n1 ∧ m ≤ 50 ∧ (m = n1 ∨ m = 50) := ⟨min n1 50, by omega, by omega, by omega⟩
  have HBC := Lib.hid BC
  have HP := Lib.hid hp
  have HP1 := Lib.hid hp1
  have HS := Lib.hid hs
  have HS1 := Lib.hid hs1
  have HLA := Lib.hid hlast
  have HLA1 := Lib.hid hlast1
  clear BC hp hp1 hs hs1 hlast hlast1
  go_enter Try.func9, Try.ntmps9
  go_wp2_with fail
  refine (shown_on HBC.out w).mono ?_
  rintro e x0 ⟨rfl, hb0⟩
  have H0 := Lib.hid (TwoB.start HBC.out hb0)
  clear hb0
  go_wp2
  generalize (x0.alloc (.cells bz 29)).alloc (.cells bz 29) = x1 at *
  obtain ⟨E, hE⟩ : ∃ E, x0.heap.size + 1 = E := ⟨_, rfl⟩
  rw [hE] at H0 ⊢
  clear hE
  generalize x0.heap.size = D at *
  go_loopw [8] (fun iv wr => ∃ (i : Nat) (f : Bs), i ≤ m1 ∧ iv = .int .i64 i ∧ Hid (TwoB Bl w D E f zeroB wr)) (fun iv _ => m1 - (intOf iv).toNat)
  case atStart => exact ⟨0, zeroB, Nat.zero_le _, rfl, H0⟩
  case round =>
    clear H0 x1
    obtain ⟨i, f, hi, rfl, H⟩ := hrel
    rename World => y0
    by_cases hlt : i < m1
    · have hlt1 : (i : Int) < (n1 : Int) := by omega
      have hlt2 : (i : Int) < 50 := by omega
      have hil : i < ss1.length := by rw [HS1.out]; omega
      obtain ⟨b, o, rfl, _, e1, e2, e3, hb, ht⟩ := HP1.out.at H.out.a.below i hil
      generalize (ss1[i]'hil) = st at *
      have HIB := Lib.hid hb
      have HIT := Lib.hid ht
      have HG1 : Hid (∀ y : World, Below y0.heap.size y0 y → y.cell? ⟨b, o + i * 4 + 3, none⟩ = some (.int .i64 st.t)) := Lib.hid (fun y hby => (hby.cell (p := ⟨b, _, none⟩) (World.block_lt_of_cell? _ _ e3)).trans e3)
      have HGD : Hid (∀ y : World, Ch [D] y0 y → y.cell? ⟨b, o + i * 4 + 1, none⟩ = some (.int .i64 st.b) ∧ y.cell? ⟨b, o + i * 4 + 2, none⟩ = some (.bool st.d) ∧ y.cell? ⟨b, o + i * 4 + 3, none⟩ = some (.int .i64 st.t)) := by
        intro y hcy
        have hbD : b < D := by
          obtain ⟨b', o', hq, q1, _⟩ := HP1.out i _ (List.getElem?_eq_getElem hil)
          injection hq with hq
          injection hq with hq
          subst hq
          have := World.block_lt_of_cell? _ _ q1
          have := H.out.a.le
          simp only at *
          omega
        have key : y.heap[b]? = y0.heap[b]? := hcy.block b (World.block_lt_of_cell? _ _ e1) (by simp; omega)
        exact ⟨(World.cell?_of_block key).trans e1, (World.cell?_of_block key).trans e2, (World.cell?_of_block key).trans e3⟩
      clear hb ht hil
      go_upto_region 7 with fail
      have HD := Lib.hid (drew_below y0)
      have HCD : Hid (Ch [D] y0 y0.drew) := Lib.hid ((Ch.refl _ y0).drew)
      replace H := Lib.hid (H.out.step HBC.out HD.out)
      refine region_plan [(true, 0), (true, 1), (true, 2), (true, 3), (true, 4), (true, 5), (true, 6), (true, 7), (true, 8), (true, 9), (true, 10), (true, 11), (true, 12), (true, 13), (true, 14), (true, 15), (false, 16)]
        (fun z => z.cell? ⟨b, o + i * 4 + 1, none⟩ = some (.int .i64 st.b) ∧ z.cell? ⟨b, o + i * 4 + 2, none⟩ = some (.bool st.d) ∧ z.cell? ⟨b, o + i * 4 + 3, none⟩ = some (.int .i64 st.t)) (by kernel_rfl) (by kernel_rfl) (by kernel_rfl) rfl ⟨e1, e2, e3⟩ ?_
      clear e1 e2 e3 HD HG1
      generalize y0.drew = y1 at *
      iterate 16 (refine Plan.take (v := ?_) rfl (by rfl) ?_ ?_; rotate_left 1; (focus (intro x hx; go_simp <;> (first | with_reducible rfl | rw [if_pos (by omega)]))); simp only [Act.put, List.setIfInBounds_toArray, List.set_cons_zero, List.set_cons_succ])
      refine Plan.loud rfl (fun K hK => ?_)
      go_simp
      refine (HBC.out.setL H.out.a HIB.out HIT.out).mono ?_
      rintro e y2 ⟨rfl, h1, hch⟩
      have H2 := Lib.hid (H.out.one HBC.out h1 hch)
      have HE := Lib.hid (HGD.out y2 (HCD.out.trans hch))
      clear h1 hch H HCD HGD
      refine hK.out _ _ _ (fun x hx => hx) HE.out ?_
      clear hK K
      refine Plan.done ?_
      generalize (setB f st.b st.d st.t).1 = f2 at *
      have e3 := HE.out.2.2
      go_wp2_with fail
      refine (HBC.out.pressedL H2.out.a HIT.out).mono ?_
      rintro e y3 ⟨A2, c2, rfl, _, h1, hch⟩
      have H3 := Lib.hid (H2.out.one HBC.out h1 hch)
      clear h1 hch H2 HE e3
      go_wp2
      go_roundw
      case rel => exact ⟨i + 1, _, by omega, by go_num, H3⟩
      case measure => simp [intOf]; omega
    · have hkn : m1 = i := by omega
      subst hkn
      have hex : (¬ (m1 : Int) < (n1 : Int)) ∨ ((m1 : Int) < (n1 : Int) ∧ ¬ (m1 : Int) < 50) := by have := HLA1.out; omega
      clear hi hlt
      rcases hex with hl1 | ⟨hl1, hl2⟩
      all_goals
        as_aux_lemma =>
          go_wp2_with fail
          refine (HBC.out.resetL H.out.a).mono ?_
          rintro e x2 ⟨rfl, h1, hch⟩
          have H1 := Lib.hid (H.out.one HBC.out h1 hch)
          clear h1 hch H
          clear y0
          go_wp2
          go_loopw [9] (fun iv wr => ∃ (i : Nat) (f : Bs), i ≤ m ∧ iv = .int .i64 i ∧ Hid (TwoB Bl w D E f f wr)) (fun iv _ => m - (intOf iv).toNat)
          case atStart => exact ⟨0, zeroB, Nat.zero_le _, rfl, H1⟩
          case round =>
            clear H1 x2
            obtain ⟨i, f, hi, rfl, H⟩ := hrel
            rename World => y0
            by_cases hlt : i < m
            · have hlt1 : (i : Int) < (n : Int) := by omega
              have hlt2 : (i : Int) < 100 := by omega
              have hil : i < ss.length := by rw [HS.out]; omega
              obtain ⟨b, o, rfl, e0, e1, e2, e3, hb, ht⟩ := HP.out.at H.out.a.below i hil
              generalize (ss[i]'hil) = st at *
              have HIB := Lib.hid hb
              have HIT := Lib.hid ht
              clear hb ht hil
              go_upto_region 14 with fail
              have hbx := new_below y0 (.cells #[.int .i64 st.k, .int .i64 st.b, .bool st.d, .int .i64 st.t] 35)
              have HX : Hid (Bx10 (y0.alloc (.cells #[.int .i64 st.k, .int .i64 st.b, .bool st.d, .int .i64 st.t] 35)) y0.heap.size st) := heap_alloc_new y0 _
              have HEX : Hid (E < y0.heap.size) := Lib.hid (H.out.b.lt HBC.out)
              have HDX : Hid (D < y0.heap.size) := Lib.hid (H.out.a.lt HBC.out)
              replace H := Lib.hid (H.out.step HBC.out hbx)
              clear e0 e1 e2 e3 hbx
              generalize y0.alloc (.cells #[.int .i64 st.k, .int .i64 st.b, .bool st.d, .int .i64 st.t] 35) = y1 at *
              generalize y0.heap.size = X at *
              have e0 := HX.out.cells.1
              obtain ⟨k, hk⟩ : ∃ k, st.k = k := ⟨_, rfl⟩
              rw [hk] at e0
              clear hk
              go_upto_block 4 with fail
              clear e0
              go_cut [11] (fun v y => ∃ f', v = .bool true ∧ Hid (TwoB Bl w D E f' f' y) ∧ Hid (Bx10 y X st))
              case first =>
                by_cases k3 : k = 1 ∨ k = 2 ∨ k = 3
                · rcases k3 with rfl | rfl | rfl
                  all_goals
                    as_aux_lemma =>
                      go_upto_region 19 with fail
                      have HD := Lib.hid (drew_below y1)
                      replace H := Lib.hid (H.out.step HBC.out HD.out)
                      replace HX := Lib.hid (HX.out.step HD.out)
                      have hcs := HX.out.cells
                      clear HD
                      refine region_plan [(true, 0), (true, 1), (true, 2), (true, 3), (true, 4), (true, 5), (true, 6), (true, 8), (true, 9), (true, 10), (true, 11), (true, 12), (true, 13), (true, 14), (false, 7), (false, 15), (true, 16), (true, 17)]
                        (fun z => z.cell? ⟨X, 1, none⟩ = some (.int .i64 st.b) ∧ z.cell? ⟨X, 2, none⟩ = some (.bool st.d) ∧ z.cell? ⟨X, 3, none⟩ = some (.int .i64 st.t)) (by kernel_rfl) (by kernel_rfl) (by kernel_rfl) rfl hcs.2 ?_
                      clear hcs
                      generalize y1.drew = z1 at *
                      iterate 14 (refine Plan.take (v := ?_) rfl (by rfl) ?_ ?_; rotate_left 1; (focus (intro x hx; go_simp <;> (first | with_reducible rfl | rw [if_pos (by omega)]))); simp only [Act.put, List.setIfInBounds_toArray, List.set_cons_zero, List.set_cons_succ])
                      refine Plan.loud rfl (fun K hK => ?_)
                      go_simp
                      refine (HBC.out.setL H.out.a HIB.out HIT.out).mono ?_
                      rintro e y2 ⟨rfl, h1, hch⟩
                      have H2 := Lib.hid (H.out.one HBC.out h1 hch)
                      have HX2 := Lib.hid (HX.out.ch hch HDX.out)
                      refine hK.out _ _ _ (fun x hx => hx) HX2.out.cells.2 ?_
                      clear hK K h1 hch H HX
                      refine Plan.loud rfl (fun K hK => ?_)
                      go_simp
                      refine (HBC.out.setL H2.out.b HIB.out HIT.out).mono ?_
                      rintro e y3 ⟨rfl, h1, hch⟩
                      have H3 := Lib.hid (H2.out.other HBC.out h1 hch)
                      have HX3 := Lib.hid (HX2.out.ch hch HEX.out)
                      refine hK.out _ _ _ (fun x hx => hx) HX3.out.cells.2 ?_
                      clear hK K h1 hch H2 HX2
                      iterate 2 (first | (refine Plan.take (v := ?_) rfl (by rfl) ?_ ?_; rotate_left 1; (focus (intro x hx; go_simp <;> (first | with_reducible rfl | rw [if_pos (by omega)]))); simp only [Act.put, List.setIfInBounds_toArray, List.set_cons_zero, List.set_cons_succ]) | (refine Plan.skip rfl (by rfl) ?_; simp only [Act.put, List.setIfInBounds_toArray, List.set_cons_zero, List.set_cons_succ]))
                      refine Plan.done ?_
                      go_wp2
                      go_meet
                      case rel => exact ⟨_, rfl, H3, HX3⟩
                · by_cases k4 : k = 4 ∨ k = 5
                  · have j1 : (k == 1) = false := by simp; omega
                    have j2 : (k == 2) = false := by simp; omega
                    have j3 : (k == 3) = false := by simp; omega
                    clear k3
                    rcases k4 with rfl | rfl
                    all_goals
                      as_aux_lemma =>
                        go_upto_region 22 with fail
                        have HD := Lib.hid (drew_below y1)
                        replace H := Lib.hid (H.out.step HBC.out HD.out)
                        replace HX := Lib.hid (HX.out.step HD.out)
                        have hcs := HX.out.cells
                        clear HD
                        refine region_plan [(true, 0), (true, 1), (true, 2), (true, 4), (true, 5), (true, 6), (false, 3), (false, 7), (false, 8), (true, 9)]
                          (fun z => z.cell? ⟨X, 3, none⟩ = some (.int .i64 st.t)) (by kernel_rfl) (by kernel_rfl) (by kernel_rfl) rfl hcs.2.2.2 ?_
                        clear hcs
                        generalize y1.drew = z1 at *
                        iterate 6 (refine Plan.take (v := ?_) rfl (by rfl) ?_ ?_; rotate_left 1; (focus (intro x hx; go_simp <;> (first | with_reducible rfl | rw [if_pos (by omega)]))); simp only [Act.put, List.setIfInBounds_toArray, List.set_cons_zero, List.set_cons_succ])
                        refine Plan.loud rfl (fun K hK => ?_)
                        go_simp
                        refine (HBC.out.pressedL H.out.a HIT.out).mono ?_
                        rintro e y2 ⟨A2, c2, rfl, hir, h1, hch⟩
                        have H2 := Lib.hid (H.out.one HBC.out h1 hch)
                        have HX2 := Lib.hid (HX.out.ch hch HDX.out)
                        have HEZ : Hid (E < z1.heap.size) := Lib.hid (H.out.b.lt HBC.out)
                        have HR2 := Lib.hid hir
                        refine hK.out _ _ _ (fun x hx => hx) HX2.out.cells.2.2.2 ?_
                        clear hK K h1 hch H HX hir
                        refine Plan.loud rfl (fun K hK => ?_)
                        go_simp
                        refine (HBC.out.pressedL H2.out.b HIT.out).mono ?_
                        rintro e y3 ⟨A3, c3, rfl, hir, h1, hch⟩
                        have H3 := Lib.hid (H2.out.other HBC.out h1 hch)
                        have HX3 := Lib.hid (HX2.out.ch hch HEX.out)
                        have HR3 := Lib.hid (HR2.out.ch hch HEZ.out)
                        have HR4 := Lib.hid hir
                        have HLE : Hid ((pressB f st.t).2.length ≤ 40) := Lib.hid (by have := dueL_len f st.t 4; show (dueL f st.t 4).length ≤ 40; omega)
                        refine hK.out _ _ _ (fun x hx => hx) HX3.out.cells.2.2.2 ?_
                        clear hK K h1 hch H2 HX2 hir HR2
                        generalize pressB f st.t = r at *
                        refine Plan.loud rfl (fun K hK => ?_)
                        go_simp
                        obtain ⟨g2, hg2⟩ := HR3.out.holds
                        obtain ⟨g3, hg3⟩ := HR4.out.holds
                        refine (same_on hg2 hg3 rfl rfl HLE.out HR3.out.cap.1 HR4.out.cap.1).mono ?_
                        rintro e y4 ⟨rfl, hb4⟩
                        rw [decide_eq_true rfl]
                        have H4 := Lib.hid (H3.out.step HBC.out hb4)
                        have HX4 := Lib.hid (HX3.out.step hb4)
                        refine hK.out _ _ _ (fun x hx => hx) HX4.out.cells.2.2.2 ?_
                        clear hK K hg2 hg3 hb4 H3 HX3 HR3 HR4
                        iterate 1 (first | (refine Plan.take (v := ?_) rfl (by rfl) ?_ ?_; rotate_left 1; (focus (intro x hx; go_simp <;> (first | with_reducible rfl | rw [if_pos (by omega)]))); simp only [Act.put, List.setIfInBounds_toArray, List.set_cons_zero, List.set_cons_succ]) | (refine Plan.skip rfl (by rfl) ?_; simp only [Act.put, List.setIfInBounds_toArray, List.set_cons_zero, List.set_cons_succ]))
                        refine Plan.done ?_
                        go_wp2
                        go_meet
                        case rel => exact ⟨_, rfl, H4, HX4⟩
                  · by_cases k6 : k = 6
                    · as_aux_lemma =>
                        subst k6
                        clear k3 k4
                        go_wp2_with fail
                        refine (HBC.out.resetL H.out.a).mono ?_
                        rintro e y2 ⟨rfl, h1, hch⟩
                        have H2 := Lib.hid (H.out.one HBC.out h1 hch)
                        have HX2 := Lib.hid (HX.out.ch hch HDX.out)
                        clear h1 hch H HX
                        go_wp2_with fail
                        refine (HBC.out.resetL H2.out.b).mono ?_
                        rintro e y3 ⟨rfl, h1, hch⟩
                        have H3 := Lib.hid (H2.out.other HBC.out h1 hch)
                        have HX3 := Lib.hid (HX2.out.ch hch HEX.out)
                        clear h1 hch H2 HX2
                        go_wp2
                        go_meet
                        case rel => exact ⟨_, rfl, H3, HX3⟩
                    · as_aux_lemma =>
                        have j1 : (k == 1) = false := by simp; omega
                        have j2 : (k == 2) = false := by simp; omega
                        have j3 : (k == 3) = false := by simp; omega
                        have j4 : (k == 4) = false := by simp; omega
                        have j5 : (k == 5) = false := by simp; omega
                        have j6 : (k == 6) = false := by simp; omega
                        clear k3 k4 k6
                        go_wp2
                        go_meet
                        case rel => exact ⟨f, rfl, H, HX⟩
              case rest =>
                clear H HX
                obtain ⟨f', rfl, H, HX⟩ := hcut
                rename World => y2
                go_upto_region 26 with fail
                have HD := Lib.hid (drew_below y2)
                replace H := Lib.hid (H.out.step HBC.out HD.out)
                replace HX := Lib.hid (HX.out.step HD.out)
                have hcs := HX.out.cells.2.1
                clear HD
                refine region_plan [(true, 0), (true, 1), (true, 2), (true, 3), (true, 4), (true, 5), (true, 7), (true, 8), (true, 9), (false, 6), (false, 10), (true, 11), (true, 12)]
                  (fun z => z.cell? ⟨X, 1, none⟩ = some (.int .i64 st.b)) (by kernel_rfl) (by kernel_rfl) (by kernel_rfl) rfl hcs ?_
                clear hcs
                generalize y2.drew = z1 at *
                iterate 9 (first | (refine Plan.take (v := ?_) rfl (by rfl) ?_ ?_; rotate_left 1; (focus (intro x hx; go_simp <;> (first | with_reducible rfl | rw [if_pos (by omega)]))); simp only [Act.put, List.setIfInBounds_toArray, List.set_cons_zero, List.set_cons_succ]) | (refine Plan.skip rfl (by rfl) ?_; simp only [Act.put, List.setIfInBounds_toArray, List.set_cons_zero, List.set_cons_succ]))
                refine Plan.loud rfl (fun K hK => ?_)
                go_simp
                refine (HBC.out.downL H.out.a HIB.out).mono ?_
                rintro e y3 ⟨rfl, _, hb⟩
                have H2 := Lib.hid (H.out.step HBC.out hb)
                have HX2 := Lib.hid (HX.out.step hb)
                refine hK.out _ _ _ (fun x hx => hx) HX2.out.cells.2.1 ?_
                clear hK K hb H HX
                refine Plan.loud rfl (fun K hK => ?_)
                go_simp
                refine (HBC.out.downL H2.out.b HIB.out).mono ?_
                rintro e y4 ⟨rfl, _, hb⟩
                have H3 := Lib.hid (H2.out.step HBC.out hb)
                have HX3 := Lib.hid (HX2.out.step hb)
                refine hK.out _ _ _ (fun x hx => hx) HX3.out.cells.2.1 ?_
                clear hK K hb H2 HX2
                iterate 2 (first | (refine Plan.take (v := ?_) rfl (by rfl) ?_ ?_; rotate_left 1; (focus (intro x hx; go_simp <;> (first | with_reducible rfl | rw [if_pos (by omega)]))); simp only [Act.put, List.setIfInBounds_toArray, List.set_cons_zero, List.set_cons_succ]) | (refine Plan.skip rfl (by rfl) ?_; simp only [Act.put, List.setIfInBounds_toArray, List.set_cons_zero, List.set_cons_succ]))
                refine Plan.done ?_
                go_wp2
                go_roundw
                case rel => exact ⟨i + 1, f', by omega, by go_num, H3⟩
                case measure => simp [intOf]; omega
            · have hkn : m = i := by omega
              subst hkn
              have hex : (¬ (m : Int) < (n : Int)) ∨ ((m : Int) < (n : Int) ∧ ¬ (m : Int) < 100) := by have := HLA.out; omega
              rcases hex with hl3 | ⟨hl3, hl4⟩
              all_goals
                go_wp2
                go_ret
                exact ⟨rfl, H.out.a.below⟩
end Go.Proofs.Ytgpgaeakioellaa
