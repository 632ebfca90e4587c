/-
  lamplightlaw10.ButtonApart, walked: true, under the conditions on buttons' calls.
-/
import Derived.Test.YtgpgaeakioellaaButT
import Derived.Deep.DeepCutAuto
namespace Go.Proofs.Ytgpgaeakioellaa
set_option linter.unusedVariables false
set_option linter.unusedSimpArgs false
open Go.RowKit

theorem take_mem10 {R : List Nat} {i a v : Nat} (h : R[i]? = some a) : (v ∈ R.take (i + 1)) ↔ (v ∈ R.take i ∨ a = v) := by
  rw [List.take_add_one, h]
  simp [eq_comm]
theorem rise_at {R : List Nat} (h : R.Pairwise (· < ·)) {j u v : Nat} (h1 : R[j]? = some v) (h2 : R[j + 1]? = some u) : v < u := by
  obtain ⟨k1, rfl⟩ := List.getElem?_eq_some_iff.1 h1
  obtain ⟨k2, rfl⟩ := List.getElem?_eq_some_iff.1 h2
  exact List.pairwise_iff_getElem.1 h j (j + 1) k1 k2 (Nat.lt_succ_self _)
theorem Ir.num {w : World} {B n c : Nat} {A : Option Addr} {l : List Nat} (h : Ir w B n A c l) (k : Nat) (hk : k < n) : ∃ g u, A = some ⟨g, 0, none⟩ ∧ w.cell? ⟨g, k, none⟩ = some (.int .i64 ((u : Nat) : Int)) ∧ l[k]? = some u := by
  obtain ⟨g, h1, _, h2, _⟩ := h.at k hk
  exact ⟨g, _, h1, h2, List.getElem?_eq_getElem (by rw [h.len]; exact hk)⟩
set_option maxRecDepth 20000 in
set_option maxHeartbeats 6400000 in
theorem buttonapart_walk {Bl : World → Nat → Bs → Prop} (BC : ButCond Bl) {n c : Nat} {wh : Int} {P : Option Addr} {ss : List St10} {w : World} (hp : Steps10 w P ss) (hs : ss.length = n) (hc : n ≤ c) (hcm : c ≤ 9223372036854775807) :
    Calls Try.prog 5 #[.slice P n c, .int .i64 wh] w fun e w' => e = .returned (.bool true) ∧ Below w.heap.size w w' := by
  obtain ⟨m, hm1, hm2, hlast⟩ : ∃ m, m ≤ n ∧ m ≤ 100 ∧ (m = n ∨ m = 100) := ⟨min n 100, by omega, by omega, by omega⟩
  obtain ⟨q, hq, hand⟩ := and3 wh
  have HBC := Lib.hid BC
  have HP := Lib.hid hp
  have HS := Lib.hid hs
  have HLA := Lib.hid hlast
  clear BC hp hs hlast
  go_enter Try.func5, Try.ntmps5
  go_wp2_with fail
  refine (shown_on HBC.out w).mono ?_
  rintro e x0 ⟨rfl, hb0⟩
  have H0 := Lib.hid (TwoB.start HBC.out hb0)
  clear hb0
  go_wp2
  generalize (x0.alloc (.cells bz 29)).alloc (.cells bz 29) = x1 at *
  obtain ⟨E, hE⟩ : ∃ E, x0.heap.size + 1 = E := ⟨_, rfl⟩
  rw [hE] at H0 ⊢
  clear hE
  generalize x0.heap.size = D at *
  have HO0 := Lib.hid (Only.zero q)
  go_loopw [8] (fun iv wr => ∃ (i : Nat) (f f1 : Bs), i ≤ m ∧ iv = .int .i64 i ∧ Hid (Only q f f1) ∧ Hid (TwoB Bl w D E f f1 wr)) (fun iv _ => m - (intOf iv).toNat)
  case atStart => exact ⟨0, zeroB, zeroB, Nat.zero_le _, rfl, HO0, H0⟩
  case round =>
    clear H0 x1 HO0
    obtain ⟨i, f, f1, hi, rfl, HO, H⟩ := hrel
    rename World => y0
    by_cases hlt : i < m
    · have hlt1 : (i : Int) < (n : Int) := by omega
      have hlt2 : (i : Int) < 100 := by omega
      have hil : i < ss.length := by rw [HS.out]; omega
      obtain ⟨b, o, rfl, e0, e1, e2, e3, hb, ht⟩ := HP.out.at H.out.a.below i hil
      generalize (ss[i]'hil) = st at *
      have HIB := Lib.hid hb
      have HIT := Lib.hid ht
      clear hb ht hil
      go_upto_region 9 with fail
      have hbx := new_below y0 (.cells #[.int .i64 st.k, .int .i64 st.b, .bool st.d, .int .i64 st.t] 35)
      have HX : Hid (Bx10 (y0.alloc (.cells #[.int .i64 st.k, .int .i64 st.b, .bool st.d, .int .i64 st.t] 35)) y0.heap.size st) := heap_alloc_new y0 _
      have HEX : Hid (E < y0.heap.size) := Lib.hid (H.out.b.lt HBC.out)
      have HDX : Hid (D < y0.heap.size) := Lib.hid (H.out.a.lt HBC.out)
      replace H := Lib.hid (H.out.step HBC.out hbx)
      clear e0 e1 e2 e3 hbx
      generalize y0.alloc (.cells #[.int .i64 st.k, .int .i64 st.b, .bool st.d, .int .i64 st.t] 35) = y1 at *
      generalize y0.heap.size = X at *
      have e0 := HX.out.cells.1
      obtain ⟨k, hk⟩ : ∃ k, st.k = k := ⟨_, rfl⟩
      rw [hk] at e0
      clear hk
      go_upto_block 2 with fail
      clear e0
      by_cases k3 : k = 1 ∨ k = 2 ∨ k = 3
      · obtain ⟨sb, hsb⟩ : ∃ sb, st.b = sb := ⟨_, rfl⟩
        have HSB := Lib.hid hsb
        have HIB2 : Hid (BI sb) := by rw [← hsb]; exact HIB
        clear hsb
        rcases k3 with rfl | rfl | rfl
        all_goals
          as_aux_lemma =>
            have e1 : y1.cell? ⟨X, 1, none⟩ = some (.int .i64 sb) := by rw [← HSB.out]; exact HX.out.cells.2.1
            have e2 := HX.out.cells.2.2.1
            have e3 := HX.out.cells.2.2.2
            go_wp2_with fail
            refine (HBC.out.setL H.out.a HIB2.out HIT.out).mono ?_
            rintro e y2 ⟨rfl, h1, hch⟩
            have H2 := Lib.hid (H.out.one HBC.out h1 hch)
            have HX2 := Lib.hid (HX.out.ch hch HDX.out)
            clear h1 hch H HX e1 e2 e3
            have e1 : y2.cell? ⟨X, 1, none⟩ = some (.int .i64 sb) := by rw [← HSB.out]; exact HX2.out.cells.2.1
            have e2 := HX2.out.cells.2.2.1
            have e3 := HX2.out.cells.2.2.2
            by_cases hbq : sb = (q : Int)
            · subst hbq
              have HO2 := Lib.hid (HO.out.same hq st.d st.t)
              go_wp2_with fail
              refine (HBC.out.setL H2.out.b HIB2.out HIT.out).mono ?_
              rintro e y3 ⟨rfl, h1, hch⟩
              have H3 := Lib.hid (H2.out.other HBC.out h1 hch)
              clear h1 hch H2 HX2 e1 e2 e3
              go_wp2
              go_roundw
              case rel => exact ⟨i + 1, _, _, by omega, by go_num, HO2, H3⟩
              case measure => simp [intOf]; omega
            · have hbq' : (sb == (q : Int)) = false := by simpa using hbq
              have HO2 := Lib.hid (HO.out.other hbq st.d st.t)
              clear hbq
              go_wp2
              go_roundw
              case rel => exact ⟨i + 1, _, f1, by omega, by go_num, HO2, H2⟩
              case measure => simp [intOf]; omega
      · by_cases k4 : k = 4 ∨ k = 5
        · have j1 : (k == 1) = false := by simp; omega
          have j2 : (k == 2) = false := by simp; omega
          have j3 : (k == 3) = false := by simp; omega
          have HPR := Lib.hid (HO.out.press hq st.t)
          have HMEM : Hid (q ∈ (pressB f st.t).2 ↔ (f q).due st.t = true) := Lib.hid (by
            show q ∈ dueL f st.t 4 ↔ _
            rw [dueL_mem]
            constructor
            · exact fun h => h.2
            · exact fun h => ⟨by omega, h⟩)
          have HRI : Hid ((pressB f st.t).2.Pairwise (· < ·)) := Lib.hid dueL_rise
          have HU3 : Hid (∀ u ∈ (pressB f st.t).2, u < 4) := Lib.hid (fun u hu => dueL_lt hu)
          have hnp4 : (pressB f st.t).2.length ≤ 4 := dueL_len f st.t 4
          clear k3
          rcases k4 with rfl | rfl
          all_goals
            as_aux_lemma =>
              have e3 := HX.out.cells.2.2.2
              go_wp2_with fail
              refine (HBC.out.pressedL H.out.a HIT.out).mono ?_
              rintro e y2 ⟨A2, c2, rfl, hir, h1, hch⟩
              have H2 := Lib.hid (H.out.one HBC.out h1 hch)
              have HX2 := Lib.hid (HX.out.ch hch HDX.out)
              have HEZ : Hid (E < y1.heap.size) := Lib.hid (H.out.b.lt HBC.out)
              have HR2 := Lib.hid hir
              obtain ⟨hc1, hc2⟩ := hir.cap
              clear h1 hch H HX hir e3
              have e3 := HX2.out.cells.2.2.2
              obtain ⟨np, hnp⟩ : ∃ np, (pressB f st.t).2.length = np := ⟨_, rfl⟩
              rw [hnp] at HR2 hnp4 hc1 ⊢
              have HNP := Lib.hid hnp
              clear hnp
              go_wp2_with fail
              refine (HBC.out.pressedL H2.out.b HIT.out).mono ?_
              rintro e y3 ⟨A3, c3, rfl, -, h1, hch⟩
              have H3 := Lib.hid (H2.out.other HBC.out h1 hch)
              have HR3 := Lib.hid (HR2.out.ch hch HEZ.out)
              have HO3 := Lib.hid HPR.out.1
              rw [HPR.out.2]
              clear h1 hch H2 HX2 HR2 e3
              generalize y1.heap.size = B2 at *
              generalize (pressB f1 st.t).1 = f3 at *
              obtain ⟨dq, hdq⟩ : ∃ dq, (f q).due st.t = dq := ⟨_, rfl⟩
              rw [hdq] at HMEM ⊢
              clear hdq HPR
              generalize pressB f st.t = r at *
              obtain ⟨f2, R⟩ := r
              simp only at *
              obtain ⟨nq, hnq, hnq1⟩ : ∃ nq : Nat, (if dq = true then [q] else []).length = nq ∧ ((nq = 1 ∧ dq = true) ∨ (nq = 0 ∧ dq = false)) := by
                cases dq
                · exact ⟨0, rfl, .inr ⟨rfl, rfl⟩⟩
                · exact ⟨1, rfl, .inl ⟨rfl, rfl⟩⟩
              rw [hnq]
              have HNQ := Lib.hid hnq1
              clear hnq hnq1
              go_wp2
              go_loopw [12, 13] (fun hv kv wr => ∃ (j : Nat), j ≤ np ∧ hv = .bool (decide (q ∈ R.take j)) ∧ kv = .int .i64 j ∧ Hid (TwoB Bl w D E f2 f3 wr) ∧ Hid (Ir wr B2 np A2 c2 R)) (fun _ kv _ => np - (intOf kv).toNat)
              case atStart => exact ⟨0, Nat.zero_le _, by simp, rfl, H3, HR3⟩
              case round =>
                clear H3 HR3 y3
                obtain ⟨j, hj, rfl, rfl, H, HR⟩ := hrel
                rename World => z0
                by_cases hjn : j < np
                · have hjn1 : (j : Int) < (np : Int) := by omega
                  obtain ⟨gA, u, rfl, a0, hu⟩ := HR.out.num j hjn
                  have hu4 : u < 4 := HU3.out u (List.mem_of_getElem? hu)
                  have hu0 : ¬ (u : Int) < 0 := by omega
                  have hu3 : ¬ (3 : Int) < (u : Int) := by omega
                  have HTM : Hid (q ∈ R.take (j + 1) ↔ (q ∈ R.take j ∨ u = q)) := Lib.hid (take_mem10 hu)
                  have HUJ := Lib.hid hu
                  clear hu
                  go_upto_region 24 with fail
                  go_cut [12] (fun v z => v = .bool (decide (q ∈ R.take (j + 1))) ∧ z = z0)
                  case first =>
                    by_cases hin : q ∈ R.take j
                    · have HD : Hid (decide (q ∈ R.take j) = true) := Lib.hid (by simpa using hin)
                      have HD2 : Hid (decide (q ∈ R.take (j + 1)) = true) := Lib.hid (by simpa using HTM.out.2 (.inl hin))
                      rw [HD.out]
                      clear hin
                      go_wp2
                      go_meet
                      case rel => exact ⟨by rw [HD2.out], rfl⟩
                    · have HD : Hid (decide (q ∈ R.take j) = false) := Lib.hid (by simpa using hin)
                      rw [HD.out]
                      by_cases hao : u = q
                      · have HD2 : Hid (decide (q ∈ R.take (j + 1)) = true) := Lib.hid (by simpa using HTM.out.2 (.inr hao))
                        subst hao
                        clear hin
                        go_wp2
                        go_meet
                        case rel => exact ⟨by rw [HD2.out], rfl⟩
                      · have HD2 : Hid (decide (q ∈ R.take (j + 1)) = false) := Lib.hid (by simp; intro hh; rcases HTM.out.1 hh with h1 | h1; exact hin h1; exact hao h1)
                        have hao' : ((u : Int) == (q : Int)) = false := by simp; omega
                        clear hin hao
                        go_wp2
                        go_meet
                        case rel => exact ⟨by rw [HD2.out], rfl⟩
                  case rest =>
                    obtain ⟨rfl, hz⟩ := hcut
                    subst hz
                    rename World => z0
                    go_upto_region 25 with fail
                    have HD := Lib.hid (drew_below z0)
                    have H2 := Lib.hid (H.out.step HBC.out HD.out)
                    have HR2 := Lib.hid (HR.out.step HD.out)
                    clear HD
                    rcases Nat.eq_zero_or_pos j with hjz | hjz
                    · subst hjz
                      refine region_plan [(true, 0), (true, 1), (true, 2), (true, 3), (true, 4), (true, 5), (true, 6), (true, 7), (true, 8), (true, 9), (true, 10), (true, 11), (true, 12), (true, 13), (true, 14), (true, 15), (true, 16), (true, 17), (true, 18), (true, 19), (true, 20), (true, 21), (true, 22), (true, 23), (true, 24), (true, 25), (true, 26), (true, 27)]
                        (fun z => z.cell? ⟨gA, 0, none⟩ = some (.int .i64 (u : Int))) (by kernel_rfl) (by kernel_rfl) (by kernel_rfl) rfl a0 ?_
                      clear a0 H HR
                      generalize z0.drew = z1 at *
                      iterate 28 (first | (refine Plan.take (v := ?_) rfl (by rfl) ?_ ?_; rotate_left 1; (focus (intro x hx; go_simp <;> (first | with_reducible rfl | rw [if_pos (by omega)]))); simp only [Act.put, List.setIfInBounds_toArray, List.set_cons_zero, List.set_cons_succ]) | (refine Plan.skip rfl (by rfl) ?_; simp only [Act.put, List.setIfInBounds_toArray, List.set_cons_zero, List.set_cons_succ]))
                      refine Plan.done ?_
                      go_wp2
                      go_roundw
                      case rel => exact ⟨1, by omega, rfl, by go_num, H2, HR2⟩
                      case measure => simp [intOf]; omega
                    · obtain ⟨j', hj'⟩ : ∃ j', j = j' + 1 := ⟨j - 1, by omega⟩
                      obtain ⟨gB, v, hgB, a1, hv⟩ := HR.out.num j' (by omega)
                      injection hgB with hgB
                      injection hgB with hgB
                      subst hgB
                      have hvu := rise_at HRI.out hv (by rw [← hj']; exact HUJ.out)
                      have hvu1 : ¬ (u : Int) ≤ (v : Int) := by omega
                      have hj0 : (0 : Int) < (j : Int) := by omega
                      have hjs : (j : Int) - 1 = (j' : Int) := by omega
                      have hjw : IntKind.i64.wrap ((j : Int) - 1) = (j' : Int) := by rw [hjs, IntKind.wrap_i64]; omega
                      have hjv : IntKind.i64.wrap (j' : Int) = (j' : Int) := by rw [IntKind.wrap_i64]; omega
                      have hjp : (j' : Int) < (np : Int) := by omega
                      clear hv hvu hj'
                      refine region_plan [(true, 0), (true, 1), (true, 2), (true, 3), (true, 4), (true, 5), (true, 6), (true, 7), (true, 8), (true, 9), (true, 10), (true, 11), (true, 12), (true, 13), (true, 14), (true, 15), (true, 16), (true, 17), (true, 18), (true, 19), (true, 20), (true, 21), (true, 22), (true, 23), (true, 24), (true, 25), (true, 26), (true, 27)]
                        (fun z => z.cell? ⟨gA, j, none⟩ = some (.int .i64 (u : Int)) ∧ z.cell? ⟨gA, j', none⟩ = some (.int .i64 (v : Int))) (by kernel_rfl) (by kernel_rfl) (by kernel_rfl) rfl ⟨a0, a1⟩ ?_
                      clear a0 a1 H HR
                      generalize z0.drew = z1 at *
                      iterate 28 (first | (refine Plan.take (v := ?_) rfl (by rfl) ?_ ?_; rotate_left 1; (focus (intro x hx; go_simp <;> (first | with_reducible rfl | rw [if_pos (by omega)]))); simp only [Act.put, List.setIfInBounds_toArray, List.set_cons_zero, List.set_cons_succ]) | (refine Plan.skip rfl (by rfl) ?_; simp only [Act.put, List.setIfInBounds_toArray, List.set_cons_zero, List.set_cons_succ]))
                      refine Plan.done ?_
                      go_wp2
                      go_roundw
                      case rel => exact ⟨j + 1, by omega, rfl, by go_num, H2, HR2⟩
                      case measure => simp [intOf]; omega
                · have hkn : np = j := by omega
                  subst hkn
                  have HTK : Hid (R.take np = R) := Lib.hid (List.take_of_length_le (by rw [HNP.out]; exact Nat.le_refl _))
                  rw [HTK.out]
                  rcases HNQ.out with ⟨rfl, hd⟩ | ⟨rfl, hd⟩
                  · have HD : Hid (decide (q ∈ R) = true) := Lib.hid (by simpa using HMEM.out.2 hd)
                    rw [HD.out]
                    clear hd
                    go_wp2
                    go_roundw
                    case rel => exact ⟨i + 1, f2, f3, by omega, by go_num, HO3, H⟩
                    case measure => simp [intOf]; omega
                  · have HD : Hid (decide (q ∈ R) = false) := Lib.hid (by
                      simp
                      intro hh
                      have := HMEM.out.1 hh
                      rw [hd] at this
                      cases this)
                    rw [HD.out]
                    clear hd
                    go_wp2
                    go_roundw
                    case rel => exact ⟨i + 1, f2, f3, by omega, by go_num, HO3, H⟩
                    case measure => simp [intOf]; omega
        · by_cases k6 : k = 6
          · as_aux_lemma =>
              subst k6
              clear k3 k4
              go_wp2_with fail
              refine (HBC.out.resetL H.out.a).mono ?_
              rintro e y3 ⟨rfl, h1, hch⟩
              have H2 := Lib.hid (H.out.one HBC.out h1 hch)
              clear h1 hch H HX
              go_wp2_with fail
              refine (HBC.out.resetL H2.out.b).mono ?_
              rintro e y4 ⟨rfl, h1, hch⟩
              have H3 := Lib.hid (H2.out.other HBC.out h1 hch)
              have HO2 := Lib.hid (Only.zero q)
              clear h1 hch H2
              go_wp2
              go_roundw
              case rel => exact ⟨i + 1, _, _, by omega, by go_num, HO2, H3⟩
              case measure => simp [intOf]; omega
          · as_aux_lemma =>
              have j1 : (k == 1) = false := by simp; omega
              have j2 : (k == 2) = false := by simp; omega
              have j3 : (k == 3) = false := by simp; omega
              have j4 : (k == 4) = false := by simp; omega
              have j5 : (k == 5) = false := by simp; omega
              have j6 : (k == 6) = false := by simp; omega
              clear k3 k4 k6
              go_wp2
              go_roundw
              case rel => exact ⟨i + 1, f, f1, by omega, by go_num, HO, H⟩
              case measure => simp [intOf]; omega
    · have hkn : m = i := by omega
      subst hkn
      have hex : (¬ (m : Int) < (n : Int)) ∨ ((m : Int) < (n : Int) ∧ ¬ (m : Int) < 100) := by have := HLA.out; omega
      rcases hex with hl3 | ⟨hl3, hl4⟩
      all_goals
        go_wp2
        go_ret
        exact ⟨rfl, H.out.a.below⟩
end Go.Proofs.Ytgpgaeakioellaa
