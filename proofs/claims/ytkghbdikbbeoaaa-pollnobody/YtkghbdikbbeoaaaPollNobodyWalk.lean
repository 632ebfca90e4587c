/-
  lamplightlaw09.PollNobody, walked: true, under the conditions on poll's calls.
-/
import Derived.Test.YtkghbdikbbeoaaaPolT
import Derived.Deep.DeepCutAuto
namespace Go.Proofs.Ytkghbdikbbeoaaa
set_option linter.unusedVariables false
set_option linter.unusedSimpArgs false
open Go.RowKit

set_option maxRecDepth 20000 in
set_option maxHeartbeats 6400000 in
theorem pollnobody_walk {Pl : World → Nat → Nat → Nat → Po → Prop} (PC : PolCond Pl) {g n c n0 c0 ot : Nat} {A P : Option Addr} {l : List UInt8} {ss : List St9} {w : World} (h : Holds w g A (bcs l)) (hn : l.length = n) (hc : n ≤ c) (hcm : c ≤ 9223372036854775807)
    (hp : Steps9 w P ss) (hs : ss.length = n0) (hc0 : n0 ≤ c0) (hm0 : c0 ≤ 9223372036854775807) :
    Calls Try.prog 6 #[.slice A n c, .int .u8 (ot : Int), .slice P n0 c0] w fun e w' => e = .returned (.bool true) ∧ Below w.heap.size w w' := by
  obtain ⟨p, hp40, hpn, hpe, hmin⟩ := min40 n
  obtain ⟨m, hm1, hm2, hlast⟩ : ∃ m, m ≤ n0 ∧ m ≤ 100 ∧ (m = n0 ∨ m = 100) := ⟨min n0 100, by omega, by omega, by omega⟩
  have hpc : p ≤ c := by omega
  have HPC := Lib.hid PC
  have HH : Hid (Holds w g A (bcs (l.take p))) := by show Holds _ _ _ _; rw [bcs_take]; exact h.take p
  have HLP : Hid ((l.take p).length = p) := by show _ = _; rw [List.length_take]; omega
  have HP := Lib.hid hp
  have HS := Lib.hid hs
  have HLA := Lib.hid hlast
  clear PC h hn hp hs hpe hlast
  generalize l.take p = lp at *
  go_enter Try.func6, Try.ntmps6
  go_wp2_with fail
  refine (shown_on HPC.out w).mono ?_
  rintro e x0 ⟨rfl, hb0⟩
  have HB0 := Lib.hid hb0
  clear hb0
  go_wp2_with fail
  refine (HPC.out.newL (w := w) HB0.out (HH.out.keep (F := []) (Ch.of_below HB0.out) (by simp)) HLP.out hp40 hpc hcm).mono ?_
  rintro e x1 ⟨D, rfl, h1, hb1⟩
  have H1 := Lib.hid h1
  clear h1 hb1 HB0
  generalize x0.heap.size = L at *
  generalize x1.heap.size = U at *
  generalize newP lp = s0 at *
  clear HH HLP hp40 hpn hmin hpc hc hcm
  go_wp2_with fail
  refine (HPC.out.addrsL H1.out).mono ?_
  rintro e x2 ⟨Ax, cx, rfl, ho, h2, _⟩
  have H2 := Lib.hid h2
  have HUB : Hid (U ≤ x1.heap.size) := Lib.hid H1.out.us
  have HAL : Hid (Al9 x2 x1.heap.size s0.l.length Ax cx s0.bytes) := Lib.hid ⟨ho, bytes_len s0⟩
  have HOK := Lib.hid H1.out.ok
  obtain ⟨hncx, hcxm⟩ := HAL.out.cap
  have HRL : Hid (s0.row.length = s0.l.length) := Lib.hid (row_len s0)
  clear h2 ho H1
  generalize x1.heap.size = B at *
  obtain ⟨n2, hn2⟩ : ∃ n2, s0.l.length = n2 := ⟨_, rfl⟩
  rw [hn2] at HAL hncx HRL ⊢
  have hn240 : n2 ≤ 40 := by have := HOK.out.len; omega
  clear hn2
  go_wp2
  go_loopw [10, 11] (fun v j wr => ∃ (i : Nat), i ≤ n2 ∧ j = .int .i64 i ∧ v = .bool (decide (ot ∈ s0.row.take i)) ∧ Hid (Lp Pl w L U D s0 wr) ∧ Hid (Al9 wr B n2 Ax cx s0.bytes)) (fun _ j _ => n2 - (intOf j).toNat)
  case atStart => exact ⟨0, Nat.zero_le _, rfl, by simp, H2, HAL⟩
  case round =>
    clear H2 HAL
    obtain ⟨i, hi, rfl, rfl, H, HAL⟩ := hrel
    rename World => y0
    by_cases hlt : i < n2
    · have hlt1 : (i : Int) < (n2 : Int) := by omega
      obtain ⟨ga, a, rfl, _, e0, hra⟩ := HAL.out.num HOK.out i hlt
      have ha1 : ¬ (a : Int) < 1 := by have := HOK.out.lo a (List.mem_of_getElem? hra); omega
      have ha2 : ¬ (31 : Int) < (a : Int) := by have := HOK.out.hi a (List.mem_of_getElem? hra); omega
      have HTM : Hid (ot ∈ s0.row.take (i + 1) ↔ (ot ∈ s0.row.take i ∨ a = ot)) := Lib.hid (take_mem hra)
      clear hra
      by_cases hin : ot ∈ s0.row.take i
      · have HD : Hid (decide (ot ∈ s0.row.take i) = true) := Lib.hid (by simpa using hin)
        have HD2 : Hid (decide (ot ∈ s0.row.take (i + 1)) = true) := Lib.hid (by simpa using HTM.out.2 (.inl hin))
        rw [HD.out]
        clear hin
        go_wp2
        go_roundw
        case rel => exact ⟨i + 1, by omega, by go_num, by rw [HD2.out], H, HAL⟩
        case measure => simp [intOf]; omega
      · have HD : Hid (decide (ot ∈ s0.row.take i) = false) := Lib.hid (by simpa using hin)
        rw [HD.out]
        by_cases hao : a = ot
        · have HD2 : Hid (decide (ot ∈ s0.row.take (i + 1)) = true) := Lib.hid (by simpa using HTM.out.2 (.inr hao))
          subst hao
          clear hin
          go_wp2
          go_roundw
          case rel => exact ⟨i + 1, by omega, by go_num, by rw [HD2.out], H, HAL⟩
          case measure => simp [intOf]; omega
        · have HD2 : Hid (decide (ot ∈ s0.row.take (i + 1)) = false) := Lib.hid (by simp; intro hh; rcases HTM.out.1 hh with h1 | h1; exact hin h1; exact hao h1)
          have hao' : ((a : Int) == (ot : Int)) = false := by simp; omega
          clear hin hao
          go_wp2
          go_roundw
          case rel => exact ⟨i + 1, by omega, by go_num, by rw [HD2.out], H, HAL⟩
          case measure => simp [intOf]; omega
    · have hkn : n2 = i := by omega
      subst hkn
      have HTK : Hid (s0.row.take n2 = s0.row) := Lib.hid (List.take_of_length_le (by rw [HRL.out]; exact Nat.le_refl _))
      rw [HTK.out]
      obtain ⟨inb, hinb⟩ : ∃ inb, decide (ot ∈ s0.row) = inb := ⟨_, rfl⟩
      rw [hinb]
      have HIN := Lib.hid hinb
      clear hinb hi hlt
      go_wp2
      go_loopw [12] (fun j wr => ∃ (i : Nat) (s : Po), i ≤ m ∧ j = .int .i64 i ∧ Hid (s.row = s0.row) ∧ Hid (Lp Pl w L U D s wr) ∧ Hid (Al9 wr B n2 Ax cx s0.bytes)) (fun j _ => m - (intOf j).toNat)
      case atStart => exact ⟨0, s0, Nat.zero_le _, rfl, Lib.hid rfl, H, HAL⟩
      case round =>
        clear H HAL y0
        obtain ⟨i, s, hi, rfl, HR, H, HAL⟩ := hrel
        rename World => y0
        by_cases hlt : i < m
        · have hlt1 : (i : Int) < (n0 : Int) := by omega
          have hlt2 : (i : Int) < 100 := by omega
          have hil : i < ss.length := by rw [HS.out]; omega
          obtain ⟨b, o, rfl, e0, e1, e2, ha, ht⟩ := HP.out.at H.out.below i hil
          generalize (ss[i]'hil) = st at *
          have HI := Lib.hid ht
          clear ha ht hil
          go_upto_region 18 with fail
          have hbx := new_below y0 (.cells #[.int .i64 st.k, .int .u8 (st.a : Int), .int .i64 st.t] 30)
          have HX : Hid (Bx9 (y0.alloc (.cells #[.int .i64 st.k, .int .u8 (st.a : Int), .int .i64 st.t] 30)) y0.heap.size st) := heap_alloc_new y0 _
          have HUX : Hid (U ≤ y0.heap.size) := Lib.hid H.out.us
          replace H := Lib.hid (H.out.step HPC.out hbx)
          replace HAL := Lib.hid (HAL.out.step hbx)
          clear e0 e1 e2 hbx
          generalize y0.alloc (.cells #[.int .i64 st.k, .int .u8 (st.a : Int), .int .i64 st.t] 30) = y1 at *
          generalize y0.heap.size = X at *
          have e0 := HX.out.cells.1
          obtain ⟨k, hk⟩ : ∃ k, st.k = k := ⟨_, rfl⟩
          rw [hk] at e0
          clear hk
          go_upto_block 4 with fail
          clear e0
          go_cut [] (fun y => ∃ s', Hid (s'.row = s0.row) ∧ Hid (Lp Pl w L U D s' y) ∧ Hid (Al9 y B n2 Ax cx s0.bytes) ∧ Hid (Bx9 y X st))
          case first =>
            have hc := HX.out.cells
            have e1 := hc.2.1
            have e2 := hc.2.2
            clear hc
            by_cases k3 : k = 1 ∨ k = 2 ∨ k = 3
            · have HTO := Lib.hid (nextP_told (p := s) (now := st.t))
              have HNR := Lib.hid (nextP_row s st.t)
              obtain ⟨s1, a1, k1, hr⟩ : ∃ s1 a1 k1, nextP s st.t = (s1, a1, k1) := ⟨_, _, _, rfl⟩
              have HRE := Lib.hid hr
              clear hr e1
              rcases k3 with rfl | rfl | rfl
              all_goals
                as_aux_lemma =>
                  go_wp2_with fail
                  refine (HPC.out.nextL H.out HI.out).mono ?_
                  rintro e y2 ⟨rfl, h1, hc1⟩
                  rw [HRE.out] at h1 HTO HNR ⊢
                  simp only at h1 HTO HNR ⊢
                  have H2 := Lib.hid h1
                  have HX2 := Lib.hid (HX.out.cr hc1 HUX.out)
                  have HAL2 := Lib.hid (HAL.out.cr hc1 HUB.out)
                  have HR2 : Hid (s1.row = s0.row) := Lib.hid (HNR.out.trans HR.out)
                  clear h1 hc1 H HX HAL e2 HNR HRE
                  go_wp2
                  go_loopw [16, 17] (fun v j wr => ∃ (q : Nat), q ≤ n2 ∧ j = .int .i64 q ∧ v = .bool (decide (a1 ∈ s0.row.take q)) ∧ Hid (Lp Pl w L U D s1 wr) ∧ Hid (Al9 wr B n2 Ax cx s0.bytes) ∧ Hid (Bx9 wr X st)) (fun _ j _ => n2 - (intOf j).toNat)
                  case atStart => exact ⟨0, Nat.zero_le _, rfl, by simp, H2, HAL2, HX2⟩
                  case round =>
                    clear H2 HAL2 HX2 y2
                    obtain ⟨q, hq, rfl, rfl, H, HAL, HX⟩ := hrel
                    rename World => y2
                    by_cases hqn : q < n2
                    · have hqn1 : (q : Int) < (n2 : Int) := by omega
                      obtain ⟨ga, a, rfl, _, e0, hra⟩ := HAL.out.num HOK.out q hqn
                      have HTM : Hid (a1 ∈ s0.row.take (q + 1) ↔ (a1 ∈ s0.row.take q ∨ a = a1)) := Lib.hid (take_mem hra)
                      clear hra
                      by_cases hin : a1 ∈ s0.row.take q
                      · have HD : Hid (decide (a1 ∈ s0.row.take q) = true) := Lib.hid (by simpa using hin)
                        have HD2 : Hid (decide (a1 ∈ s0.row.take (q + 1)) = true) := Lib.hid (by simpa using HTM.out.2 (.inl hin))
                        rw [HD.out]
                        clear hin
                        go_wp2
                        go_roundw
                        case rel => exact ⟨q + 1, by omega, by go_num, by rw [HD2.out], H, HAL, HX⟩
                        case measure => simp [intOf]; omega
                      · have HD : Hid (decide (a1 ∈ s0.row.take q) = false) := Lib.hid (by simpa using hin)
                        rw [HD.out]
                        by_cases hao : a = a1
                        · have HD2 : Hid (decide (a1 ∈ s0.row.take (q + 1)) = true) := Lib.hid (by simpa using HTM.out.2 (.inr hao))
                          subst hao
                          clear hin
                          go_wp2
                          go_roundw
                          case rel => exact ⟨q + 1, by omega, by go_num, by rw [HD2.out], H, HAL, HX⟩
                          case measure => simp [intOf]; omega
                        · have HD2 : Hid (decide (a1 ∈ s0.row.take (q + 1)) = false) := Lib.hid (by simp; intro hh; rcases HTM.out.1 hh with h1 | h1; exact hin h1; exact hao h1)
                          have hao' : ((a : Int) == (a1 : Int)) = false := by simp; omega
                          clear hin hao
                          go_wp2
                          go_roundw
                          case rel => exact ⟨q + 1, by omega, by go_num, by rw [HD2.out], H, HAL, HX⟩
                          case measure => simp [intOf]; omega
                    · have hkq : n2 = q := by omega
                      subst hkq
                      rw [HTK.out]
                      clear hq hqn
                      rcases HTO.out with ⟨hk1, hin⟩ | hno
                      · have HD : Hid (decide (a1 ∈ s0.row) = true) := by show _ = _; rw [← HR.out]; simpa using hin
                        rw [HD.out]
                        subst hk1
                        by_cases hao : a1 = ot
                        · have HIB : Hid (inb = true) := by show _ = _; rw [← HIN.out, ← HR.out, ← hao]; simpa using hin
                          have hib := HIB.out
                          subst hib
                          subst hao
                          clear hin
                          go_wp2
                          go_meet
                          case rel => exact ⟨s1, HR2, H, HAL, HX⟩
                        · have hao' : ((a1 : Int) == (ot : Int)) = false := by simp; omega
                          clear hin hao
                          go_wp2
                          go_meet
                          case rel => exact ⟨s1, HR2, H, HAL, HX⟩
                      · injection hno with hs1 hno
                        injection hno with ha1 hk1
                        subst ha1 hk1
                        have HD : Hid (decide (0 ∈ s0.row) = false) := by
                          show _ = _
                          simp
                          intro h0
                          have := HOK.out.lo 0 h0
                          omega
                        rw [HD.out]
                        clear hs1
                        go_wp2
                        go_meet
                        case rel => exact ⟨s1, HR2, H, HAL, HX⟩
            · by_cases k4 : k = 4
              · as_aux_lemma =>
                  subst k4
                  clear k3
                  have HNR := Lib.hid (deadP_row s st.a st.t)
                  go_wp2_with fail
                  refine (HPC.out.deadL H.out HI.out).mono ?_
                  rintro e y2 ⟨rfl, h1, hc1⟩
                  have H2 := Lib.hid h1
                  have HX2 := Lib.hid (HX.out.cr hc1 HUX.out)
                  have HAL2 := Lib.hid (HAL.out.cr hc1 HUB.out)
                  have HR2 : Hid ((deadP s st.a st.t).1.row = s0.row) := Lib.hid (HNR.out.trans HR.out)
                  clear h1 hc1 H HX HAL e1 e2 HNR
                  generalize deadP s st.a st.t = r at *
                  go_wp2
                  go_meet
                  case rel => exact ⟨r.1, HR2, H2, HAL2, HX2⟩
              · by_cases k5 : k = 5
                · as_aux_lemma =>
                    subst k5
                    clear k3 k4
                    have HNR := Lib.hid (aliveP_row s st.a)
                    go_wp2_with fail
                    refine (HPC.out.aliveL H.out).mono ?_
                    rintro e y2 ⟨rfl, h1, hc1⟩
                    have H2 := Lib.hid h1
                    have HX2 := Lib.hid (HX.out.cr hc1 HUX.out)
                    have HAL2 := Lib.hid (HAL.out.cr hc1 HUB.out)
                    have HR2 : Hid ((aliveP s st.a).1.row = s0.row) := Lib.hid (HNR.out.trans HR.out)
                    clear h1 hc1 H HX HAL e1 e2 HNR
                    generalize aliveP s st.a = r at *
                    go_wp2
                    go_meet
                    case rel => exact ⟨r.1, HR2, H2, HAL2, HX2⟩
                · as_aux_lemma =>
                    have j1 : (k == 1) = false := by simp; omega
                    have j2 : (k == 2) = false := by simp; omega
                    have j3 : (k == 3) = false := by simp; omega
                    have j4 : (k == 4) = false := by simp; omega
                    have j5 : (k == 5) = false := by simp; omega
                    clear k3 k4 k5 e1 e2
                    go_wp2
                    go_meet
                    case rel => exact ⟨s, HR, H, HAL, HX⟩
          case rest =>
            clear H HX HAL HR
            obtain ⟨s', HR, H, HAL, HX⟩ := hcut
            rename World => y2
            cases inb with
            | true =>
              go_wp2
              go_roundw
              case rel => exact ⟨i + 1, s', by omega, by go_num, HR, H, HAL⟩
              case measure => simp [intOf]; omega
            | false =>
              have HNI : Hid (ot ∉ s'.row) := Lib.hid (by rw [HR.out]; simpa using HIN.out)
              go_wp2_with fail
              refine (HPC.out.isL H.out).mono ?_
              rintro e y3 ⟨rfl, h1, hb1⟩
              rw [isP_not HNI.out]
              have H3 := Lib.hid h1
              have HX3 := Lib.hid (HX.out.step hb1)
              have HAL3 := Lib.hid (HAL.out.step hb1)
              clear h1 hb1 H HX HAL
              go_wp2_with fail
              refine (HPC.out.aliveL H3.out).mono ?_
              rintro e y4 ⟨rfl, h1, hc1⟩
              rw [aliveP_not HNI.out] at h1 ⊢
              simp only at h1 ⊢
              have H4 := Lib.hid h1
              have HX4 := Lib.hid (HX3.out.cr hc1 HUX.out)
              have HAL4 := Lib.hid (HAL3.out.cr hc1 HUB.out)
              clear h1 hc1 H3 HX3 HAL3
              have e2 := HX4.out.cells.2.2
              go_wp2_with fail
              refine (HPC.out.deadL H4.out HI.out).mono ?_
              rintro e y5 ⟨rfl, h1, hc1⟩
              rw [deadP_not HNI.out] at h1 ⊢
              simp only at h1 ⊢
              have H5 := Lib.hid h1
              have HAL5 := Lib.hid (HAL4.out.cr hc1 HUB.out)
              clear h1 hc1 H4 HX4 HAL4 e2
              go_wp2
              go_roundw
              case rel => exact ⟨i + 1, s', by omega, by go_num, HR, H5, HAL5⟩
              case measure => simp [intOf]; omega
        · have hkn : m = i := by omega
          subst hkn
          have hex : (¬ (m : Int) < (n0 : Int)) ∨ ((m : Int) < (n0 : Int) ∧ ¬ (m : Int) < 100) := by have := HLA.out; omega
          have HLE : Hid (s.l.length = n2) := Lib.hid (by rw [← row_len s, HR.out, HRL.out])
          rcases hex with hl1 | ⟨hl1, hl2⟩
          all_goals
            go_wp2_with fail
            refine (HPC.out.addrsL H.out).mono ?_
            rintro e y3 ⟨A3, c3, rfl, _, h1, _⟩
            rw [HLE.out]
            have H3 := Lib.hid h1
            clear h1 H
            go_wp2
            go_ret
            exact ⟨rfl, H3.out.below⟩

end Go.Proofs.Ytkghbdikbbeoaaa
