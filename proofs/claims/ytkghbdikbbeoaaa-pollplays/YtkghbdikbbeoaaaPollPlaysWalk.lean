/-
  lamplightlaw09.PollPlays, walked: true, under the conditions on poll's calls.
-/
import Derived.Test.YtkghbdikbbeoaaaPolW
import Derived.Deep.DeepCutAuto
namespace Go.Proofs.Ytkghbdikbbeoaaa
set_option linter.unusedVariables false
set_option linter.unusedSimpArgs false
open Go.RowKit

set_option maxRecDepth 20000 in
set_option maxHeartbeats 12800000 in
theorem pollplays_walk {Pl : World → Nat → Nat → Nat → Po → Prop} (PC : PolCond Pl) {g n c n0 c0 : Nat} {A P : Option Addr} {l : List UInt8} {ss : List St9} {w : World} (h : Holds w g A (bcs l)) (hn : l.length = n) (hc : n ≤ c) (hcm : c ≤ 9223372036854775807)
    (hp : Steps9 w P ss) (hs : ss.length = n0) (hc0 : n0 ≤ c0) (hm0 : c0 ≤ 9223372036854775807) :
    Calls Try.prog 3 #[.slice A n c, .slice P n0 c0] w fun e w' => e = .returned (.bool true) ∧ Below w.heap.size w w' := by
  obtain ⟨p, hp40, hpn, hpe, hmin⟩ := min40 n
  obtain ⟨m, hm1, hm2, hlast⟩ : ∃ m, m ≤ n0 ∧ m ≤ 200 ∧ (m = n0 ∨ m = 200) := ⟨min n0 200, by omega, by omega, by omega⟩
  have hpc : p ≤ c := by omega
  have HPC := Lib.hid PC
  have HH : Hid (Holds w g A (bcs (l.take p))) := by show Holds _ _ _ _; rw [bcs_take]; exact h.take p
  have HLP : Hid ((l.take p).length = p) := by show _ = _; rw [List.length_take]; omega
  have HP := Lib.hid hp
  have HS := Lib.hid hs
  have HLA := Lib.hid hlast
  have HP40 := Lib.hid hp40
  clear PC h hn hp hs hpe hlast
  generalize l.take p = lp at *
  go_enter Try.func3, Try.ntmps3
  go_wp2_with fail
  refine (shown_on HPC.out w).mono ?_
  rintro e x0 ⟨rfl, hb0⟩
  have HB0 := Lib.hid hb0
  clear hb0
  obtain ⟨i0, hi0, hz0, hz1, hz2⟩ := info_parts info_byte
  have hb1 := new_below x0 (.cells #[] 5)
  have HB1 : Hid (Below w.heap.size w (x0.alloc (.cells #[] 5))) := Lib.hid (HB0.out.trans (hb1.mono HB0.out.size))
  have HO1 : Hid ((x0.alloc (.cells #[] 5)).ownsRow x0.heap.size 5 1 (.slice (some ⟨x0.heap.size, 0, none⟩) 0 0) 0 []) := Lib.hid (World.ownsRow_made (base := x0.heap.size) (e := 5) (size := 1) x0 #[] 0 (Nat.le_refl _) (Nat.zero_le _) rfl)
  have HH1 := Lib.hid (HH.out.keep (F := []) (Ch.of_below HB1.out) (by simp))
  have HS1 : Hid (x0.heap.size ≤ (x0.alloc (.cells #[] 5)).heap.size) := Lib.hid hb1.size
  have HBD : Hid (0 + p ≤ maxLen ∧ (0 + p) * 1 ≤ 140737488355328) := Lib.hid ⟨by unfold maxLen; omega, by omega⟩
  have HML : Hid ((bcs lp).length = p * 1) := Lib.hid (by rw [bcs_length, HLP.out, Nat.mul_one])
  clear hb1
  go_upto_region 3 with (refine wpList_append_wide rfl _ _ 22 rfl x0.heap.size 5 i0 (.int .u8 0) 1 1 Try.underlying22 hi0 hz0 hz1 hz2 rfl (by decide) _ 0 [] rfl HO1.out g A p c (bcs lp) rfl HML.out HH1.out (bcs_one lp) HBD.out.1 HBD.out.2 HS1.out ?_; intro A5 c5 x5 ho5 hg5; simp only [Nat.zero_add] at ho5 ⊢)
  have hft5 := (ft_grown HO1.out hg5).below HS1.out
  have HB5 : Hid (Below w.heap.size w x5) := Lib.hid (HB1.out.trans (hft5.mono HB0.out.size))
  have HO5 : Hid (Al9 x5 x0.heap.size p A5 c5 lp) := Lib.hid ⟨by simpa using ho5, HLP.out⟩
  have HWB : Hid (w.heap.size ≤ x0.heap.size) := Lib.hid HB0.out.size
  clear hft5 ho5 hg5 HB0 HB1 HO1 HH1 HS1 HBD HML HH hi0 hz0 hz1 hz2 hmin hpc hc hcm
  generalize x0.heap.size = B0 at *
  obtain ⟨hpc5, hcm5⟩ := HO5.out.cap
  obtain ⟨g5, hh5⟩ := HO5.out.holds
  have HH5 := Lib.hid hh5
  have HLT : Hid (∀ g, A5 = some ⟨g, 0, none⟩ → g < x5.heap.size) := Lib.hid HO5.out.lt
  clear hh5
  go_wp2_with fail
  refine (HPC.out.newL (w := w) HB5.out HH5.out HLP.out hp40 hpc5 hcm5).mono ?_
  rintro e x6 ⟨D, rfl, h6, hb6⟩
  have H6 := Lib.hid h6
  have HO6 := Lib.hid (HO5.out.step hb6)
  have HH6 := Lib.hid (HH5.out.keep (F := []) (Ch.of_below hb6) (by simp))
  clear h6 hb6 HB5 HO5 HH5
  generalize x5.heap.size = L at *
  go_wp2_with fail
  refine (rnew_on HH6.out HLP.out hp40 hpc5 hcm5).mono ?_
  rintro e x7 ⟨rfl, h7, hb7⟩
  have HT : Hid (Tw Pl w L x6.heap.size D x6.heap.size (newP lp) (newP lp) x7) := Lib.hid ⟨H6.out.step HPC.out hb7, h7, Nat.le_refl _⟩
  have HO7 := Lib.hid (HO6.out.step hb7)
  have HU7 : Hid (OwnU x7 B0 (.slice A5 p c5) p) := Lib.hid ⟨lp, HLP.out, HO7.out.own⟩
  clear h7 hb7 H6 HO6 HH6 HO7
  obtain ⟨R, hR⟩ : ∃ R, x6.heap.size = R := ⟨_, rfl⟩
  obtain ⟨U, hU⟩ : ∃ U, x6.heap.size = U := ⟨_, rfl⟩
  have HTT : Hid (Tw Pl w L U D R (newP lp) (newP lp) x7) := by rw [← hU, ← hR]; exact HT
  rw [hR]
  clear hR hU HT
  generalize newP lp = s0 at *
  clear HLP
  go_wp2
  go_loopw [8] (fun j wr => ∃ (k : Nat), k ≤ p ∧ j = .int .i64 k ∧ Hid (Tw Pl w L U D R s0 s0 wr) ∧ Hid (OwnU wr B0 (.slice A5 p c5) p)) (fun j _ => p - (intOf j).toNat)
  case atStart => exact ⟨0, Nat.zero_le _, rfl, HTT, HU7⟩
  case round =>
    clear HTT HU7
    obtain ⟨k, hk, rfl, HT, HU⟩ := hrel
    rename World => y4
    by_cases hkq : k < p
    · have hkq1 : (k : Int) < (p : Int) := by omega
      obtain ⟨gx, bx, hgx, hgx2, _, hcell, hfz⟩ := HU.out.at k hkq
      have hgl := HLT.out gx hgx
      have HU2 := Lib.hid (HU.out.set gx k 77)
      have HT2 := Lib.hid (HT.out.near HPC.out ((Ch.refl [gx] y4).setCell (p := ⟨gx, k, none⟩) (fun _ => by simp) (.int .u8 ((77 : UInt8).toNat : Int))) hgl (Nat.le_trans HWB.out hgx2))
      rw [show (((77 : UInt8).toNat : Nat) : Int) = 77 from rfl] at HU2 HT2
      subst hgx
      clear HT HU hgx2 hgl
      go_wp2
      go_roundw
      case rel => exact ⟨k + 1, by omega, by go_num, HT2, HU2⟩
      case measure => simp [intOf]; omega
    · have hkk : p = k := by omega
      subst hkk
      clear HU hk hkq
      go_wp2
      go_loopw [9] (fun j wr => ∃ (i : Nat) (s : Po), i ≤ m ∧ j = .int .i64 i ∧ Hid (Tw Pl w L U D R s s wr)) (fun j _ => m - (intOf j).toNat)
      case atStart => exact ⟨0, s0, Nat.zero_le _, rfl, HT⟩
      case round =>
        clear HT y4
        obtain ⟨i, s, hi, rfl, HT⟩ := hrel
        rename World => y0
        by_cases hlt : i < m
        · have hlt1 : (i : Int) < (n0 : Int) := by omega
          have hlt2 : (i : Int) < 200 := by omega
          have hil : i < ss.length := by rw [HS.out]; omega
          obtain ⟨b, o, rfl, e0, e1, e2, ha, ht⟩ := HP.out.at HT.out.a.below i hil
          generalize (ss[i]'hil) = st at *
          have HI := Lib.hid ht
          have HL40 : Hid (s.l.length ≤ 40) := Lib.hid HT.out.a.ok.len
          clear ha ht hil
          go_upto_region 15 with fail
          have hbx := new_below y0 (.cells #[.int .i64 st.k, .int .u8 (st.a : Int), .int .i64 st.t] 30)
          have HX : Hid (Bx9 (y0.alloc (.cells #[.int .i64 st.k, .int .u8 (st.a : Int), .int .i64 st.t] 30)) y0.heap.size st) := heap_alloc_new y0 _
          have HUX : Hid (U ≤ y0.heap.size) := Lib.hid HT.out.a.us
          replace HT := Lib.hid (HT.out.step HPC.out hbx)
          clear e0 e1 e2 hbx
          generalize y0.alloc (.cells #[.int .i64 st.k, .int .u8 (st.a : Int), .int .i64 st.t] 30) = y1 at *
          generalize y0.heap.size = X at *
          have e0 := HX.out.cells.1
          obtain ⟨k, hk⟩ : ∃ k, st.k = k := ⟨_, rfl⟩
          rw [hk] at e0
          clear hk
          go_upto_block 4 with fail
          clear e0
          go_cut [11] (fun v y => v = .bool true ∧ ∃ s', Hid (Tw Pl w L U D R s' s' y) ∧ Hid (Bx9 y X st))
          case first =>
            have hc := HX.out.cells
            have e1 := hc.2.1
            have e2 := hc.2.2
            clear hc
            by_cases k3 : k = 1 ∨ k = 2 ∨ k = 3
            · obtain ⟨s1, a1, k1, hr⟩ : ∃ s1 a1 k1, nextP s st.t = (s1, a1, k1) := ⟨_, _, _, rfl⟩
              have HR := Lib.hid hr
              clear hr e1
              rcases k3 with rfl | rfl | rfl
              all_goals
                as_aux_lemma =>
                  go_wp2_with fail
                  refine (HPC.out.nextL HT.out.a HI.out).mono ?_
                  rintro e y2 ⟨rfl, h1, hc1⟩
                  rw [HR.out] at h1 ⊢
                  simp only at h1 ⊢
                  have HT2 := Lib.hid (HT.out.one h1 hc1)
                  have HX2 := Lib.hid (HX.out.cr hc1 HUX.out)
                  have e3 := HX2.out.cells.2.2
                  have HOKS := Lib.hid HT.out.a.ok
                  clear h1 hc1 HT e2
                  go_wp2_with fail
                  refine (rnext_on HT2.out.b HOKS.out HI.out).mono ?_
                  rintro e y3 hpost
                  obtain ⟨rfl, h1, hc1⟩ := hpost
                  rw [HR.out] at h1 ⊢
                  simp only at h1 ⊢
                  have HT3 := Lib.hid (HT2.out.other HPC.out h1 hc1)
                  have HX3 := Lib.hid (HX2.out.ft hc1 (by decide))
                  clear h1 hc1 HT2 e3
                  go_wp2
                  go_meet
                  case rel => exact ⟨rfl, s1, HT3, HX3⟩
            · by_cases k4 : k = 4
              · as_aux_lemma =>
                  subst k4
                  clear k3
                  go_upto_region 20 with fail
                  have hd := drew_below y1
                  replace HT := Lib.hid (HT.out.step HPC.out hd)
                  replace HX := Lib.hid (HX.out.step hd)
                  clear e1 e2 hd
                  refine region_plan [(true, 0), (true, 1), (true, 2), (true, 3), (true, 4), (true, 6), (true, 7), (true, 8), (true, 9), (true, 10), (false, 5), (false, 11), (true, 12), (true, 13)]
                    (fun y => y.cell? ⟨X, 1, none⟩ = some (.int .u8 (st.a : Int)) ∧ y.cell? ⟨X, 2, none⟩ = some (.int .i64 st.t)) (by kernel_rfl) (by kernel_rfl) (by kernel_rfl) rfl HX.out.cells.2 ?_
                  generalize y1.drew = y2 at *
                  iterate 10 (refine Plan.take (v := ?_) rfl (by rfl) ?_ ?_; rotate_left 1; (focus (intro x hx; go_simp <;> (first | with_reducible rfl | rw [if_pos (by omega)]))); simp only [Act.put, List.setIfInBounds_toArray, List.set_cons_zero, List.set_cons_succ])
                  obtain ⟨s1, r1, hr⟩ : ∃ s1 r1, deadP s st.a st.t = (s1, r1) := ⟨_, _, rfl⟩
                  have HR := Lib.hid hr
                  clear hr
                  refine Plan.loud rfl (fun K hK => ?_)
                  go_simp
                  refine (HPC.out.deadL HT.out.a HI.out).mono ?_
                  rintro e y3 ⟨rfl, h1, hc1⟩
                  rw [HR.out] at h1 ⊢
                  simp only at h1 ⊢
                  have HT3 := Lib.hid (HT.out.one h1 hc1)
                  have HX3 := Lib.hid (HX.out.cr hc1 HUX.out)
                  refine hK.out _ _ _ (fun x hx => hx) HX3.out.cells.2 ?_
                  clear hK K h1 hc1 HT HX
                  refine Plan.loud rfl (fun K hK => ?_)
                  go_simp
                  refine (rdead_on HT3.out.b HL40.out).mono ?_
                  rintro e y4 ⟨rfl, h1, hc1⟩
                  rw [HR.out] at h1 ⊢
                  simp only at h1 ⊢
                  have HT4 := Lib.hid (HT3.out.other HPC.out h1 hc1)
                  have HX4 := Lib.hid (HX3.out.ft hc1 (by decide))
                  refine hK.out _ _ _ (fun x hx => hx) HX4.out.cells.2 ?_
                  clear hK K h1 hc1 HT3 HX3
                  iterate 2 (refine Plan.take (v := ?_) rfl (by rfl) ?_ ?_; rotate_left 1; (focus (intro x hx; go_simp <;> (first | with_reducible rfl | rw [if_pos (by omega)]))); simp only [Act.put, List.setIfInBounds_toArray, List.set_cons_zero, List.set_cons_succ])
                  refine Plan.done ?_
                  go_wp2
                  go_meet
                  case rel => exact ⟨rfl, s1, HT4, HX4⟩
              · by_cases k5 : k = 5
                · as_aux_lemma =>
                    subst k5
                    clear k3 k4
                    go_upto_region 22 with fail
                    have hd := drew_below y1
                    replace HT := Lib.hid (HT.out.step HPC.out hd)
                    replace HX := Lib.hid (HX.out.step hd)
                    clear e1 e2 hd
                    refine region_plan [(true, 0), (true, 1), (true, 2), (true, 4), (true, 5), (true, 6), (false, 3), (false, 7), (true, 8), (true, 9)]
                      (fun y => y.cell? ⟨X, 1, none⟩ = some (.int .u8 (st.a : Int))) (by kernel_rfl) (by kernel_rfl) (by kernel_rfl) rfl HX.out.cells.2.1 ?_
                    generalize y1.drew = y2 at *
                    iterate 6 (refine Plan.take (v := ?_) rfl (by rfl) ?_ ?_; rotate_left 1; (focus (intro x hx; go_simp <;> (first | with_reducible rfl | rw [if_pos (by omega)]))); simp only [Act.put, List.setIfInBounds_toArray, List.set_cons_zero, List.set_cons_succ])
                    obtain ⟨s1, r1, hr⟩ : ∃ s1 r1, aliveP s st.a = (s1, r1) := ⟨_, _, rfl⟩
                    have HR := Lib.hid hr
                    clear hr
                    refine Plan.loud rfl (fun K hK => ?_)
                    go_simp
                    refine (HPC.out.aliveL HT.out.a).mono ?_
                    rintro e y3 ⟨rfl, h1, hc1⟩
                    rw [HR.out] at h1 ⊢
                    simp only at h1 ⊢
                    have HT3 := Lib.hid (HT.out.one h1 hc1)
                    have HX3 := Lib.hid (HX.out.cr hc1 HUX.out)
                    refine hK.out _ _ _ (fun x hx => hx) HX3.out.cells.2.1 ?_
                    clear hK K h1 hc1 HT HX
                    refine Plan.loud rfl (fun K hK => ?_)
                    go_simp
                    refine (ralive_on HT3.out.b HL40.out).mono ?_
                    rintro e y4 ⟨rfl, h1, hc1⟩
                    rw [HR.out] at h1 ⊢
                    simp only at h1 ⊢
                    have HT4 := Lib.hid (HT3.out.other HPC.out h1 hc1)
                    have HX4 := Lib.hid (HX3.out.ft hc1 (by decide))
                    refine hK.out _ _ _ (fun x hx => hx) HX4.out.cells.2.1 ?_
                    clear hK K h1 hc1 HT3 HX3
                    iterate 2 (refine Plan.take (v := ?_) rfl (by rfl) ?_ ?_; rotate_left 1; (focus (intro x hx; go_simp <;> (first | with_reducible rfl | rw [if_pos (by omega)]))); simp only [Act.put, List.setIfInBounds_toArray, List.set_cons_zero, List.set_cons_succ])
                    refine Plan.done ?_
                    go_wp2
                    go_meet
                    case rel => exact ⟨rfl, s1, HT4, HX4⟩
                · as_aux_lemma =>
                    have j1 : (k == 1) = false := by simp; omega
                    have j2 : (k == 2) = false := by simp; omega
                    have j3 : (k == 3) = false := by simp; omega
                    have j4 : (k == 4) = false := by simp; omega
                    have j5 : (k == 5) = false := by simp; omega
                    clear k3 k4 k5 e1 e2
                    go_wp2
                    go_meet
                    case rel => exact ⟨rfl, s, HT, HX⟩
          case rest =>
            clear HT HX HL40
            obtain ⟨rfl, s', HT, HX⟩ := hcut
            rename World => y2
            have HL40 : Hid (s'.l.length ≤ 40) := Lib.hid HT.out.a.ok.len
            go_upto_region 27 with fail
            have hd := drew_below y2
            replace HT := Lib.hid (HT.out.step HPC.out hd)
            replace HX := Lib.hid (HX.out.step hd)
            clear hd
            refine region_plan [(true, 0), (true, 1), (true, 2), (true, 3), (true, 4), (true, 5), (true, 7), (true, 8), (true, 9), (false, 6), (false, 10), (true, 11), (true, 12)]
              (fun y => y.cell? ⟨X, 1, none⟩ = some (.int .u8 (st.a : Int))) (by kernel_rfl) (by kernel_rfl) (by kernel_rfl) rfl HX.out.cells.2.1 ?_
            generalize y2.drew = y3 at *
            iterate 9 (refine Plan.take (v := ?_) rfl (by rfl) ?_ ?_; rotate_left 1; (focus (intro x hx; go_simp <;> (first | with_reducible rfl | rw [if_pos (by omega)]))); simp only [Act.put, List.setIfInBounds_toArray, List.set_cons_zero, List.set_cons_succ])
            refine Plan.loud rfl (fun K hK => ?_)
            go_simp
            refine (HPC.out.isL HT.out.a).mono ?_
            rintro e y4 ⟨rfl, _, hb4⟩
            have HT4 := Lib.hid (HT.out.step HPC.out hb4)
            have HX4 := Lib.hid (HX.out.step hb4)
            refine hK.out _ _ _ (fun x hx => hx) HX4.out.cells.2.1 ?_
            clear hK K hb4 HT HX
            refine Plan.loud rfl (fun K hK => ?_)
            go_simp
            refine (ris_on HT4.out.b HL40.out).mono ?_
            rintro e y5 ⟨rfl, rfl⟩
            refine hK.out _ _ _ (fun x hx => hx) HX4.out.cells.2.1 ?_
            clear hK K HX4
            generalize isP s' st.a = isb at *
            iterate 2 (refine Plan.take (v := ?_) rfl (by rfl) ?_ ?_; rotate_left 1; (focus (intro x hx; go_simp <;> (first | with_reducible rfl | rw [if_pos (by omega)]))); simp only [Act.put, List.setIfInBounds_toArray, List.set_cons_zero, List.set_cons_succ])
            refine Plan.done ?_
            go_wp2
            go_roundw
            case rel => exact ⟨i + 1, s', by omega, by go_num, HT4⟩
            case measure => simp [intOf]; omega
        · have hkn : m = i := by omega
          subst hkn
          have hex : (¬ (m : Int) < (n0 : Int)) ∨ ((m : Int) < (n0 : Int) ∧ ¬ (m : Int) < 200) := by have := HLA.out; omega
          rcases hex with hl1 | ⟨hl1, hl2⟩
          all_goals
            as_aux_lemma =>
              have HOK := Lib.hid HT.out.a.ok
              go_wp2_with fail
              refine (HPC.out.addrsL HT.out.a).mono ?_
              rintro e y2 ⟨Ax, cx, rfl, ho, _, hb2⟩
              have HT2 := Lib.hid (HT.out.step HPC.out hb2)
              have HAL : Hid (Al9 y2 y0.heap.size s.l.length Ax cx s.bytes) := Lib.hid ⟨ho, bytes_len s⟩
              obtain ⟨hncx, hcxm⟩ := HAL.out.cap
              clear ho hb2 HT
              generalize y0.heap.size = B at *
              obtain ⟨n2, hn2⟩ : ∃ n2, s.l.length = n2 := ⟨_, rfl⟩
              have HN2 := Lib.hid hn2
              rw [hn2] at HAL hncx ⊢
              clear hn2
              have hn240 : n2 ≤ 40 := by have := HOK.out.len; rw [HN2.out] at this; exact this
              obtain ⟨Ar, gr, cr, hrc⟩ := HT2.out.b.rc
              have c0 := hrc.c0
              rw [HN2.out] at c0
              clear hrc
              go_wp2
              go_loopw [17] (fun j wr => ∃ (k : Nat), k ≤ n2 ∧ j = .int .i64 k ∧ Hid (Tw Pl w L U D R s s wr) ∧ Hid (Al9 wr B n2 Ax cx s.bytes)) (fun j _ => n2 - (intOf j).toNat)
              case atStart => exact ⟨0, Nat.zero_le _, rfl, HT2, HAL⟩
              case round =>
                clear HT2 HAL c0
                obtain ⟨k, hk, rfl, HT, HAL⟩ := hrel
                rename World => y3
                by_cases hkn : k < n2
                · have hkn1 : (k : Int) < (n2 : Int) := by omega
                  have hkl : k < s.l.length := by rw [HN2.out]; exact hkn
                  go_upto_region 35 with fail
                  have hd := drew_below y3
                  replace HT := Lib.hid (HT.out.step HPC.out hd)
                  replace HAL := Lib.hid (HAL.out.step hd)
                  clear hd
                  obtain ⟨ga, a, rfl, _, e0, hra⟩ := HAL.out.num HOK.out k hkn
                  rw [row_pe hkl] at hra
                  injection hra with hra
                  obtain ⟨gq, cq, k1, _, hrow, _⟩ := HT.out.b.opened (by omega)
                  have c0 : y3.drew.cell? ⟨R, 0, none⟩ = some (.slice (some ⟨gq, 0, none⟩) n2 cq) := by rw [← HN2.out]; simp [World.cell?, k1]
                  have e1 := (hrow.cell hkl).1
                  rw [hra] at e1
                  have hcq : n2 ≤ cq := by have := hrow.cap; rw [HN2.out] at this; exact this
                  refine region_plan [(true, 0), (true, 1), (true, 2), (true, 3), (true, 4), (true, 5), (true, 6), (true, 7), (true, 8), (true, 9), (true, 10), (true, 11), (true, 12)]
                    (fun y => y.cell? ⟨ga, k, none⟩ = some (.int .u8 (a : Int)) ∧ y.cell? ⟨R, 0, none⟩ = some (.slice (some ⟨gq, 0, none⟩) n2 cq) ∧ y.cell? ⟨gq, k * 3, none⟩ = some (.int .u8 (a : Int))) (by kernel_rfl) (by kernel_rfl) (by kernel_rfl) rfl ⟨e0, c0, e1⟩ ?_
                  clear e0 c0 e1 k1 hrow hra hkl
                  generalize y3.drew = y4 at *
                  iterate 13 (refine Plan.take (v := ?_) rfl (by rfl) ?_ ?_; rotate_left 1; (focus (intro x hx; go_simp <;> (first | with_reducible rfl | rw [if_pos (by omega)]))); simp only [Act.put, List.setIfInBounds_toArray, List.set_cons_zero, List.set_cons_succ])
                  refine Plan.done ?_
                  go_wp2
                  go_roundw
                  case rel => exact ⟨k + 1, by omega, by go_num, HT, HAL⟩
                  case measure => simp [intOf]; omega
                · have hkk : n2 = k := by omega
                  subst hkk
                  go_wp2
                  go_ret
                  exact ⟨rfl, HT.out.a.below⟩

end Go.Proofs.Ytkghbdikbbeoaaa
