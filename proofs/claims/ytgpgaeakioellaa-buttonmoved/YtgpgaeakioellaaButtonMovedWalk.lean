/-
  lamplightlaw10.ButtonMoved, walked: true, under the conditions on buttons' calls.
-/
import Derived.Test.YtgpgaeakioellaaButT
import Derived.Deep.DeepCutAuto
namespace Go.Proofs.Ytgpgaeakioellaa
set_option linter.unusedVariables false
set_option linter.unusedSimpArgs false
open Go.RowKit

set_option maxRecDepth 20000 in
set_option maxHeartbeats 6400000 in
theorem buttonmoved_walk {Bl : World → Nat → Bs → Prop} (BC : ButCond Bl) {n c by' : Nat} {P : Option Addr} {ss : List St10} {w : World} (hp : Steps10 w P ss) (hs : ss.length = n) (hc : n ≤ c) (hcm : c ≤ 9223372036854775807) (hby : by' < 4294967296) :
    Calls Try.prog 6 #[.slice P n c, .int .u32 (by' : Int)] w fun e w' => e = .returned (.bool true) ∧ Below w.heap.size w w' := by
  obtain ⟨m, hm1, hm2, hlast⟩ : ∃ m, m ≤ n ∧ m ≤ 100 ∧ (m = n ∨ m = 100) := ⟨min n 100, by omega, by omega, by omega⟩
  have HBC := Lib.hid BC
  have HP := Lib.hid hp
  have HS := Lib.hid hs
  have HLA := Lib.hid hlast
  clear BC hp hs hlast
  go_enter Try.func6, Try.ntmps6
  go_wp2_with fail
  refine (shown_on HBC.out w).mono ?_
  rintro e x0 ⟨rfl, hb0⟩
  have H0 := Lib.hid (TwoB.start HBC.out hb0)
  clear hb0
  go_wp2
  generalize (x0.alloc (.cells bz 29)).alloc (.cells bz 29) = x1 at *
  obtain ⟨E, hE⟩ : ∃ E, x0.heap.size + 1 = E := ⟨_, rfl⟩
  rw [hE] at H0 ⊢
  clear hE
  generalize x0.heap.size = D at *
  have HL0 := Lib.hid (LaterB.zero (by' : Int))
  go_loopw [8] (fun iv wr => ∃ (i : Nat) (f f1 : Bs), i ≤ m ∧ iv = .int .i64 i ∧ Hid (LaterB (by' : Int) f f1) ∧ Hid (TwoB Bl w D E f f1 wr)) (fun iv _ => m - (intOf iv).toNat)
  case atStart => exact ⟨0, zeroB, zeroB, Nat.zero_le _, rfl, HL0, H0⟩
  case round =>
    clear H0 x1 HL0
    obtain ⟨i, f, f1, hi, rfl, HL, H⟩ := hrel
    rename World => y0
    by_cases hlt : i < m
    · have hlt1 : (i : Int) < (n : Int) := by omega
      have hlt2 : (i : Int) < 100 := by omega
      have hil : i < ss.length := by rw [HS.out]; omega
      obtain ⟨b, o, rfl, e0, e1, e2, e3, hb, ht⟩ := HP.out.at H.out.a.below i hil
      generalize (ss[i]'hil) = st0 at *
      clear ht hil
      obtain ⟨tm, htm, hand⟩ := and40 st0.t
      go_upto_region 8 with fail
      have hbx := new_below y0 (.cells #[.int .i64 st0.k, .int .i64 st0.b, .bool st0.d, .int .i64 st0.t] 35)
      have HX : Hid (Bx10 (y0.alloc (.cells #[.int .i64 st0.k, .int .i64 st0.b, .bool st0.d, .int .i64 st0.t] 35)) y0.heap.size st0) := heap_alloc_new y0 _
      have HEX : Hid (E < y0.heap.size) := Lib.hid (H.out.b.lt HBC.out)
      have HDX : Hid (D < y0.heap.size) := Lib.hid (H.out.a.lt HBC.out)
      replace H := Lib.hid (H.out.step HBC.out hbx)
      clear e0 e1 e2 e3 hbx
      generalize y0.alloc (.cells #[.int .i64 st0.k, .int .i64 st0.b, .bool st0.d, .int .i64 st0.t] 35) = y1 at *
      generalize y0.heap.size = X at *
      have e3 := HX.out.cells.2.2.2
      have z3 : y1.frozen? ⟨X, 3, none⟩ = false := by have := HX.out; unfold Bx10 at this; simp [World.frozen?, this]
      obtain ⟨hp1, hp2⟩ := HX.out.put (tm : Int)
      replace HX := Lib.hid hp1
      replace H := Lib.hid (H.out.far HBC.out hp2 HEX.out)
      clear hp1 hp2
      have HIB : Hid (BI ({ st0 with t := (tm : Int) } : St10).b) := Lib.hid hb
      clear hb
      have e3' := HX.out.cells.2.2.2
      simp only at e3'
      go_upto_region 10 with fail
      obtain ⟨st, hst⟩ : ∃ st : St10, ({ st0 with t := (tm : Int) } : St10) = st := ⟨_, rfl⟩
      have HTM : Hid (st.t = (tm : Int)) := by rw [← hst]; rfl
      rw [hst] at HX HIB
      clear hst e3 z3 e3' hand
      generalize y1.setCell ⟨X, 3, none⟩ (.int .i64 (tm : Int)) = y2 at *
      clear y1
      have e0 := HX.out.cells.1
      have HIT : Hid (BI (tm : Int)) := Lib.hid (by unfold BI; omega)
      have HIT2 : Hid (BI ((tm : Int) + (by' : Int))) := Lib.hid (by unfold BI; omega)
      obtain ⟨k, hk⟩ : ∃ k, st.k = k := ⟨_, rfl⟩
      rw [hk] at e0
      clear hk
      go_upto_block 2 with fail
      clear e0
      by_cases k3 : k = 1 ∨ k = 2 ∨ k = 3
      · rcases k3 with rfl | rfl | rfl
        all_goals
          as_aux_lemma =>
            go_upto_region 14 with fail
            have HD := Lib.hid (drew_below y2)
            replace H := Lib.hid (H.out.step HBC.out HD.out)
            replace HX := Lib.hid (HX.out.step HD.out)
            have hcs := HX.out.cells
            rw [HTM.out] at hcs
            clear HD
            refine region_plan [(true, 0), (true, 1), (true, 2), (true, 3), (true, 4), (true, 5), (true, 6), (true, 8), (true, 9), (true, 10), (true, 11), (true, 12), (true, 13), (false, 7), (false, 14), (true, 15)]
              (fun z => z.cell? ⟨X, 1, none⟩ = some (.int .i64 st.b) ∧ z.cell? ⟨X, 2, none⟩ = some (.bool st.d) ∧ z.cell? ⟨X, 3, none⟩ = some (.int .i64 (tm : Int))) (by kernel_rfl) (by kernel_rfl) (by kernel_rfl) rfl hcs.2 ?_
            clear hcs
            generalize y2.drew = z1 at *
            iterate 13 (refine Plan.take (v := ?_) rfl (by rfl) ?_ ?_; rotate_left 1; (focus (intro x hx; go_simp <;> (first | with_reducible rfl | rw [if_pos (by omega)]))); simp only [Act.put, List.setIfInBounds_toArray, List.set_cons_zero, List.set_cons_succ])
            refine Plan.loud rfl (fun K hK => ?_)
            go_simp
            refine (HBC.out.setL H.out.a HIB.out HIT.out).mono ?_
            rintro e y3 ⟨rfl, h1, hch⟩
            have H2 := Lib.hid (H.out.one HBC.out h1 hch)
            have HX2 := Lib.hid (HX.out.ch hch HDX.out)
            refine hK.out _ _ _ (fun x hx => hx) (by have := HX2.out.cells.2; rw [HTM.out] at this; exact this) ?_
            clear hK K h1 hch H HX
            refine Plan.loud rfl (fun K hK => ?_)
            go_simp
            refine (HBC.out.setL H2.out.b HIB.out HIT2.out).mono ?_
            rintro e y4 ⟨rfl, h1, hch⟩
            have H3 := Lib.hid (H2.out.other HBC.out h1 hch)
            have HX3 := Lib.hid (HX2.out.ch hch HEX.out)
            refine hK.out _ _ _ (fun x hx => hx) (by have := HX3.out.cells.2; rw [HTM.out] at this; exact this) ?_
            clear hK K h1 hch H2 HX2
            obtain ⟨hl1, hl2⟩ := HL.out.set st.b st.d (tm : Int)
            have HL2 := Lib.hid hl2
            rw [hl1]
            clear hl1 hl2
            iterate 1 (first | (refine Plan.take (v := ?_) rfl (by rfl) ?_ ?_; rotate_left 1; (focus (intro x hx; go_simp <;> (first | with_reducible rfl | rw [if_pos (by omega)]))); simp only [Act.put, List.setIfInBounds_toArray, List.set_cons_zero, List.set_cons_succ]) | (refine Plan.skip rfl (by rfl) ?_; simp only [Act.put, List.setIfInBounds_toArray, List.set_cons_zero, List.set_cons_succ]))
            refine Plan.done ?_
            go_wp2
            go_roundw
            case rel => exact ⟨i + 1, _, _, by omega, by go_num, HL2, H3⟩
            case measure => simp [intOf]; omega
      · by_cases k4 : k = 4 ∨ k = 5
        · have j1 : (k == 1) = false := by simp; omega
          have j2 : (k == 2) = false := by simp; omega
          have j3 : (k == 3) = false := by simp; omega
          clear k3
          rcases k4 with rfl | rfl
          all_goals
            as_aux_lemma =>
              have e3 := HX.out.cells.2.2.2
              rw [HTM.out] at e3
              go_wp2_with fail
              refine (HBC.out.pressedL H.out.a HIT.out).mono ?_
              rintro e y3 ⟨A2, c2, rfl, hir, h1, hch⟩
              have H2 := Lib.hid (H.out.one HBC.out h1 hch)
              have HEZ : Hid (E < y2.heap.size) := Lib.hid (H.out.b.lt HBC.out)
              have HR2 := Lib.hid hir
              clear h1 hch H HX hir e3
              go_wp2_with fail
              refine (HBC.out.pressedL H2.out.b HIT2.out).mono ?_
              rintro e y4 ⟨A3, c3, rfl, hir, h1, hch⟩
              have H3 := Lib.hid (H2.out.other HBC.out h1 hch)
              have HR3 := Lib.hid (HR2.out.ch hch HEZ.out)
              obtain ⟨hl1, hl2⟩ := HL.out.press (tm : Int)
              have HL2 := Lib.hid hl2
              rw [hl1] at hir ⊢
              have HR4 := Lib.hid hir
              have HLE : Hid ((pressB f (tm : Int)).2.length ≤ 40) := Lib.hid (by have := dueL_len f (tm : Int) 4; show (dueL f (tm : Int) 4).length ≤ 40; omega)
              clear hl1 hl2 h1 hch H2 hir HR2
              generalize pressB f (tm : Int) = r at *
              generalize pressB f1 ((tm : Int) + (by' : Int)) = r1 at *
              obtain ⟨g2, hg2⟩ := HR3.out.holds
              obtain ⟨g3, hg3⟩ := HR4.out.holds
              have HG2 := Lib.hid hg2
              have HG3 := Lib.hid hg3
              clear hg2 hg3
              go_wp2_with fail
              refine (same_on HG2.out HG3.out rfl rfl HLE.out HR3.out.cap.1 HR4.out.cap.1).mono ?_
              rintro e y5 ⟨rfl, hb4⟩
              rw [decide_eq_true rfl]
              have H4 := Lib.hid (H3.out.step HBC.out hb4)
              clear HG2 HG3 hb4 H3 HR3 HR4
              go_wp2
              go_roundw
              case rel => exact ⟨i + 1, _, _, by omega, by go_num, HL2, H4⟩
              case measure => simp [intOf]; omega
        · by_cases k6 : k = 6
          · as_aux_lemma =>
              subst k6
              clear k3 k4
              go_wp2_with fail
              refine (HBC.out.resetL H.out.a).mono ?_
              rintro e y3 ⟨rfl, h1, hch⟩
              have H2 := Lib.hid (H.out.one HBC.out h1 hch)
              clear h1 hch H HX
              go_wp2_with fail
              refine (HBC.out.resetL H2.out.b).mono ?_
              rintro e y4 ⟨rfl, h1, hch⟩
              have H3 := Lib.hid (H2.out.other HBC.out h1 hch)
              have HL2 := Lib.hid (LaterB.zero (by' : Int))
              clear h1 hch H2
              go_wp2
              go_roundw
              case rel => exact ⟨i + 1, _, _, by omega, by go_num, HL2, H3⟩
              case measure => simp [intOf]; omega
          · as_aux_lemma =>
              have j1 : (k == 1) = false := by simp; omega
              have j2 : (k == 2) = false := by simp; omega
              have j3 : (k == 3) = false := by simp; omega
              have j4 : (k == 4) = false := by simp; omega
              have j5 : (k == 5) = false := by simp; omega
              have j6 : (k == 6) = false := by simp; omega
              clear k3 k4 k6
              go_wp2
              go_roundw
              case rel => exact ⟨i + 1, f, f1, by omega, by go_num, HL, H⟩
              case measure => simp [intOf]; omega
    · have hkn : m = i := by omega
      subst hkn
      have hex : (¬ (m : Int) < (n : Int)) ∨ ((m : Int) < (n : Int) ∧ ¬ (m : Int) < 100) := by have := HLA.out; omega
      rcases hex with hl3 | ⟨hl3, hl4⟩
      all_goals
        go_wp2
        go_ret
        exact ⟨rfl, H.out.a.below⟩
end Go.Proofs.Ytgpgaeakioellaa
