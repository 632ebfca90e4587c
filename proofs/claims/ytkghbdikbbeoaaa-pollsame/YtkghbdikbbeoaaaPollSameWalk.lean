/-
  lamplightlaw09.PollSame, walked: true, under the conditions on poll's calls.
-/
import Derived.Test.YtkghbdikbbeoaaaPolT
import Derived.Deep.DeepCutAuto
namespace Go.Proofs.Ytkghbdikbbeoaaa
set_option linter.unusedVariables false
set_option linter.unusedSimpArgs false
open Go.RowKit

set_option maxRecDepth 20000 in
set_option maxHeartbeats 6400000 in
theorem pollsame_walk {Pl : World → Nat → Nat → Nat → Po → Prop} (PC : PolCond Pl) {g n c n0 c0 : Nat} {A P : Option Addr} {l : List UInt8} {ss : List St9} {w : World} (h : Holds w g A (bcs l)) (hn : l.length = n) (hc : n ≤ c) (hcm : c ≤ 9223372036854775807)
    (hp : Steps9 w P ss) (hs : ss.length = n0) (hc0 : n0 ≤ c0) (hm0 : c0 ≤ 9223372036854775807) :
    Calls Try.prog 9 #[.slice A n c, .slice P n0 c0] w fun e w' => e = .returned (.bool true) ∧ Below w.heap.size w w' := by
  obtain ⟨p, hp40, hpn, hpe, hmin⟩ := min40 n
  obtain ⟨m, hm1, hm2, hlast⟩ : ∃ m, m ≤ n0 ∧ m ≤ 100 ∧ (m = n0 ∨ m = 100) := ⟨min n0 100, by omega, by omega, by omega⟩
  have hpc : p ≤ c := by omega
  have HPC := Lib.hid PC
  have HH : Hid (Holds w g A (bcs (l.take p))) := by show Holds _ _ _ _; rw [bcs_take]; exact h.take p
  have HLP : Hid ((l.take p).length = p) := by show _ = _; rw [List.length_take]; omega
  have HP := Lib.hid hp
  have HS := Lib.hid hs
  have HLA := Lib.hid hlast
  clear PC h hn hp hs hpe hlast
  generalize l.take p = lp at *
  go_enter Try.func9, Try.ntmps9
  go_wp2_with fail
  refine (shown_on HPC.out w).mono ?_
  rintro e x0 ⟨rfl, hb0⟩
  have HB0 := Lib.hid hb0
  clear hb0
  go_wp2_with fail
  refine (HPC.out.newL (w := w) HB0.out (HH.out.keep (F := []) (Ch.of_below HB0.out) (by simp)) HLP.out hp40 hpc hcm).mono ?_
  rintro e x1 ⟨D, rfl, h1, hb1⟩
  have H1 := Lib.hid h1
  have HB1 := Lib.hid h1.below
  clear h1 hb1 HB0
  generalize x0.heap.size = L at *
  go_wp2_with fail
  refine (HPC.out.newL (w := w) HB1.out (HH.out.keep (F := []) (Ch.of_below HB1.out) (by simp)) HLP.out hp40 hpc hcm).mono ?_
  rintro e x2 ⟨E, rfl, h2, hb2⟩
  have HT : Hid (Two Pl w L x1.heap.size D x2.heap.size E (newP lp) (newP lp) x2) := Lib.hid ⟨H1.out.step HPC.out hb2, h2⟩
  clear h2 hb2 H1 HB1
  generalize x1.heap.size = U at *
  generalize x2.heap.size = V at *
  generalize newP lp = s0 at *
  clear HH HLP hp40 hpn hmin hpc hc hcm
  go_wp2
  go_loopw [8] (fun j wr => ∃ (i : Nat) (s : Po), i ≤ m ∧ j = .int .i64 i ∧ Hid (Two Pl w L U D V E s s wr)) (fun j _ => m - (intOf j).toNat)
  case atStart => exact ⟨0, s0, Nat.zero_le _, rfl, HT⟩
  case round =>
    clear HT
    obtain ⟨i, s, hi, rfl, HT⟩ := hrel
    rename World => y0
    by_cases hlt : i < m
    · have hlt1 : (i : Int) < (n0 : Int) := by omega
      have hlt2 : (i : Int) < 100 := by omega
      have hil : i < ss.length := by rw [HS.out]; omega
      obtain ⟨b, o, rfl, e0, e1, e2, ha, ht⟩ := HP.out.at HT.out.a.below i hil
      generalize (ss[i]'hil) = st at *
      have HA := Lib.hid ha
      have HI := Lib.hid ht
      clear ha ht hil
      go_upto_region 11 with fail
      have hbx := new_below y0 (.cells #[.int .i64 st.k, .int .u8 (st.a : Int), .int .i64 st.t] 30)
      have HX : Hid (Bx9 (y0.alloc (.cells #[.int .i64 st.k, .int .u8 (st.a : Int), .int .i64 st.t] 30)) y0.heap.size st) := heap_alloc_new y0 _
      have HVX : Hid (V ≤ y0.heap.size) := Lib.hid HT.out.b.us
      have HUV : Hid (U ≤ V) := Lib.hid HT.out.b.lu
      replace HT := Lib.hid (HT.out.step HPC.out hbx)
      clear e0 e1 e2 hbx
      generalize y0.alloc (.cells #[.int .i64 st.k, .int .u8 (st.a : Int), .int .i64 st.t] 30) = y1 at *
      generalize y0.heap.size = X at *
      have e0 := HX.out.cells.1
      obtain ⟨k, hk⟩ : ∃ k, st.k = k := ⟨_, rfl⟩
      rw [hk] at e0
      clear hk
      go_upto_block 2 with fail
      clear e0
      go_cut [10] (fun v y => v = .bool true ∧ ∃ s', Hid (Two Pl w L U D V E s' s' y))
      case first =>
        have hc := HX.out.cells
        have e1 := hc.2.1
        have e2 := hc.2.2
        clear hc
        by_cases k3 : k = 1 ∨ k = 2 ∨ k = 3
        · obtain ⟨s1, a1, k1, hr⟩ : ∃ s1 a1 k1, nextP s st.t = (s1, a1, k1) := ⟨_, _, _, rfl⟩
          have HR := Lib.hid hr
          clear hr e1
          rcases k3 with rfl | rfl | rfl
          all_goals
            as_aux_lemma =>
              go_wp2_with fail
              refine (HPC.out.nextL HT.out.a HI.out).mono ?_
              rintro e y2 ⟨rfl, h1, hc1⟩
              rw [HR.out] at h1 ⊢
              simp only at h1 ⊢
              have HT2 := Lib.hid (HT.out.one HPC.out h1 hc1)
              have e3 := (HX.out.cr hc1 (by have := HVX.out; have := HUV.out; omega)).cells.2.2
              clear h1 hc1 HT e2
              go_wp2_with fail
              refine (HPC.out.nextL HT2.out.b HI.out).mono ?_
              rintro e y3 ⟨rfl, h1, hc1⟩
              rw [HR.out] at h1 ⊢
              simp only at h1 ⊢
              have HT3 := Lib.hid (HT2.out.other HPC.out h1 hc1)
              clear h1 hc1 HT2 e3
              go_wp2
              go_meet
              case rel => exact ⟨rfl, s1, HT3⟩
        · by_cases k4 : k = 4
          · as_aux_lemma =>
              subst k4
              clear k3
              go_upto_region 20 with fail
              have hd := drew_below y1
              replace HT := Lib.hid (HT.out.step HPC.out hd)
              replace HX := Lib.hid (HX.out.step hd)
              clear e1 e2 hd
              refine region_plan [(true, 0), (true, 1), (true, 2), (true, 3), (true, 4), (true, 6), (true, 7), (true, 8), (true, 9), (true, 10), (false, 5), (false, 11), (true, 12), (true, 13)]
                (fun y => y.cell? ⟨X, 1, none⟩ = some (.int .u8 (st.a : Int)) ∧ y.cell? ⟨X, 2, none⟩ = some (.int .i64 st.t)) (by kernel_rfl) (by kernel_rfl) (by kernel_rfl) rfl HX.out.cells.2 ?_
              generalize y1.drew = y2 at *
              iterate 10 (refine Plan.take (v := ?_) rfl (by rfl) ?_ ?_; rotate_left 1; (focus (intro x hx; go_simp <;> (first | with_reducible rfl | rw [if_pos (by omega)]))); simp only [Act.put, List.setIfInBounds_toArray, List.set_cons_zero, List.set_cons_succ])
              obtain ⟨s1, r1, hr⟩ : ∃ s1 r1, deadP s st.a st.t = (s1, r1) := ⟨_, _, rfl⟩
              have HR := Lib.hid hr
              clear hr
              refine Plan.loud rfl (fun K hK => ?_)
              go_simp
              refine (HPC.out.deadL HT.out.a HI.out).mono ?_
              rintro e y3 ⟨rfl, h1, hc1⟩
              rw [HR.out] at h1 ⊢
              simp only at h1 ⊢
              have HT3 := Lib.hid (HT.out.one HPC.out h1 hc1)
              have HX3 := Lib.hid (HX.out.cr hc1 (by have := HVX.out; have := HUV.out; omega))
              refine hK.out _ _ _ (fun x hx => hx) HX3.out.cells.2 ?_
              clear hK K h1 hc1 HT HX
              refine Plan.loud rfl (fun K hK => ?_)
              go_simp
              refine (HPC.out.deadL HT3.out.b HI.out).mono ?_
              rintro e y4 ⟨rfl, h1, hc1⟩
              rw [HR.out] at h1 ⊢
              simp only at h1 ⊢
              have HT4 := Lib.hid (HT3.out.other HPC.out h1 hc1)
              have HX4 := Lib.hid (HX3.out.cr hc1 HVX.out)
              refine hK.out _ _ _ (fun x hx => hx) HX4.out.cells.2 ?_
              clear hK K h1 hc1 HT3 HX3 HX4
              iterate 2 (refine Plan.take (v := ?_) rfl (by rfl) ?_ ?_; rotate_left 1; (focus (intro x hx; go_simp <;> (first | with_reducible rfl | rw [if_pos (by omega)]))); simp only [Act.put, List.setIfInBounds_toArray, List.set_cons_zero, List.set_cons_succ])
              refine Plan.done ?_
              go_wp2
              go_meet
              case rel => exact ⟨rfl, s1, HT4⟩
          · by_cases k5 : k = 5
            · as_aux_lemma =>
                subst k5
                clear k3 k4
                go_upto_region 22 with fail
                have hd := drew_below y1
                replace HT := Lib.hid (HT.out.step HPC.out hd)
                replace HX := Lib.hid (HX.out.step hd)
                clear e1 e2 hd
                refine region_plan [(true, 0), (true, 1), (true, 2), (true, 4), (true, 5), (true, 6), (false, 3), (false, 7), (true, 8), (true, 9)]
                  (fun y => y.cell? ⟨X, 1, none⟩ = some (.int .u8 (st.a : Int))) (by kernel_rfl) (by kernel_rfl) (by kernel_rfl) rfl HX.out.cells.2.1 ?_
                generalize y1.drew = y2 at *
                iterate 6 (refine Plan.take (v := ?_) rfl (by rfl) ?_ ?_; rotate_left 1; (focus (intro x hx; go_simp <;> (first | with_reducible rfl | rw [if_pos (by omega)]))); simp only [Act.put, List.setIfInBounds_toArray, List.set_cons_zero, List.set_cons_succ])
                obtain ⟨s1, r1, hr⟩ : ∃ s1 r1, aliveP s st.a = (s1, r1) := ⟨_, _, rfl⟩
                have HR := Lib.hid hr
                clear hr
                refine Plan.loud rfl (fun K hK => ?_)
                go_simp
                refine (HPC.out.aliveL HT.out.a).mono ?_
                rintro e y3 ⟨rfl, h1, hc1⟩
                rw [HR.out] at h1 ⊢
                simp only at h1 ⊢
                have HT3 := Lib.hid (HT.out.one HPC.out h1 hc1)
                have HX3 := Lib.hid (HX.out.cr hc1 (by have := HVX.out; have := HUV.out; omega))
                refine hK.out _ _ _ (fun x hx => hx) HX3.out.cells.2.1 ?_
                clear hK K h1 hc1 HT HX
                refine Plan.loud rfl (fun K hK => ?_)
                go_simp
                refine (HPC.out.aliveL HT3.out.b).mono ?_
                rintro e y4 ⟨rfl, h1, hc1⟩
                rw [HR.out] at h1 ⊢
                simp only at h1 ⊢
                have HT4 := Lib.hid (HT3.out.other HPC.out h1 hc1)
                have HX4 := Lib.hid (HX3.out.cr hc1 HVX.out)
                refine hK.out _ _ _ (fun x hx => hx) HX4.out.cells.2.1 ?_
                clear hK K h1 hc1 HT3 HX3 HX4
                iterate 2 (refine Plan.take (v := ?_) rfl (by rfl) ?_ ?_; rotate_left 1; (focus (intro x hx; go_simp <;> (first | with_reducible rfl | rw [if_pos (by omega)]))); simp only [Act.put, List.setIfInBounds_toArray, List.set_cons_zero, List.set_cons_succ])
                refine Plan.done ?_
                go_wp2
                go_meet
                case rel => exact ⟨rfl, s1, HT4⟩
            · as_aux_lemma =>
                have j1 : (k == 1) = false := by simp; omega
                have j2 : (k == 2) = false := by simp; omega
                have j3 : (k == 3) = false := by simp; omega
                have j4 : (k == 4) = false := by simp; omega
                have j5 : (k == 5) = false := by simp; omega
                clear k3 k4 k5 e1 e2
                go_wp2
                go_meet
                case rel => exact ⟨rfl, s, HT⟩
      case rest =>
        clear HT HX
        obtain ⟨rfl, s', HT⟩ := hcut
        rename World => y2
        go_wp2_with fail
        refine (HPC.out.addrsL HT.out.a).mono ?_
        rintro e y3 ⟨Ax, cx, rfl, ho, _, hb3⟩
        have HU : Hid (OwnU y3 y2.heap.size (.slice Ax s'.l.length cx) s'.l.length) := Lib.hid ⟨_, bytes_len s', ho⟩
        have HVY : Hid (V ≤ y2.heap.size) := Lib.hid HT.out.b.us
        have hcx : s'.l.length ≤ cx := by
          rcases ho.2 with ⟨hh, h0⟩ | ⟨_, _, _, hh, _, _, h3, _⟩
          · omega
          · injection hh with _ _ h4; omega
        have hmx : cx ≤ 9223372036854775807 := by
          rcases ho.2 with ⟨hh, h0⟩ | ⟨_, _, _, hh, _, _, _, h3, _⟩
          · injection hh with _ _ h4; omega
          · injection hh with _ _ h4; unfold maxLen at h3; omega
        replace HT := Lib.hid (HT.out.step HPC.out hb3)
        have HL40 : Hid (s'.l.length ≤ 40) := Lib.hid HT.out.a.ok.len
        clear ho hb3
        generalize y2.heap.size = B at *
        obtain ⟨q, hq⟩ : ∃ q, s'.l.length = q := ⟨_, rfl⟩
        rw [hq] at HU hcx HL40 ⊢
        have hq40 : q ≤ 40 := HL40.out
        clear hq
        go_wp2
        go_loopw [16] (fun j wr => ∃ (k : Nat), k ≤ q ∧ j = .int .i64 k ∧ Hid (Two Pl w L U D V E s' s' wr) ∧ Hid (OwnU wr B (.slice Ax q cx) q)) (fun j _ => q - (intOf j).toNat)
        case atStart => exact ⟨0, Nat.zero_le _, rfl, HT, HU⟩
        case round =>
          clear HT HU
          obtain ⟨k, hk, rfl, HT, HU⟩ := hrel
          rename World => y4
          by_cases hkq : k < q
          · have hkq1 : (k : Int) < (q : Int) := by omega
            obtain ⟨gx, bx, rfl, hgx, _, hcell, hfz⟩ := HU.out.at k hkq
            have HU2 := Lib.hid (HU.out.set gx k 0)
            have HT2 := Lib.hid (HT.out.far HPC.out ((Ch.refl [gx] y4).setCell (p := ⟨gx, k, none⟩) (fun _ => by simp) (.int .u8 ((0 : UInt8).toNat : Int))) (Nat.le_trans HVY.out hgx))
            rw [show (((0 : UInt8).toNat : Nat) : Int) = 0 from rfl] at HU2 HT2
            clear HT HU hgx
            go_wp2
            go_roundw
            case rel => exact ⟨k + 1, by omega, by go_num, HT2, HU2⟩
            case measure => simp [intOf]; omega
          · have hkk : q = k := by omega
            subst hkk
            clear HU
            go_upto_region 28 with fail
            have hd := drew_below y4
            replace HT := Lib.hid (HT.out.step HPC.out hd)
            clear hd
            refine region_plan [(true, 0), (true, 1), (true, 2), (true, 3), (true, 6), (false, 4), (true, 5), (false, 7), (true, 8), (true, 9), (true, 10)] (fun _ => True) (by kernel_rfl) (by kernel_rfl) (by kernel_rfl) rfl trivial ?_
            generalize y4.drew = y5 at *
            iterate 5 (refine Plan.take (v := ?_) rfl (by rfl) ?_ ?_; rotate_left 1; (focus (intro x hx; go_simp <;> (first | with_reducible rfl | rw [if_pos (by omega)]))); simp only [Act.put, List.setIfInBounds_toArray, List.set_cons_zero, List.set_cons_succ])
            refine Plan.loud rfl (fun K hK => ?_)
            go_simp
            refine (HPC.out.addrsL HT.out.a).mono ?_
            rintro e y6 ⟨A6, c6, rfl, ho6, _, hb6⟩
            have HT6 := Lib.hid (HT.out.step HPC.out hb6)
            have HO6 := Lib.hid ho6
            refine hK.out (fun y => (convert 22 9 (.slice A6 s'.l.length c6)).run Try.prog y = .ok (.string ⟨s'.bytes.toArray⟩) y) _ _ (fun x hx => trivial) (hb_own ho6 (bytes_len s')) ?_
            clear hK K ho6 hb6 HT
            iterate 1 (refine Plan.take (v := ?_) rfl (by rfl) ?_ ?_; rotate_left 1; (focus (intro x hx; go_simp <;> (first | with_reducible rfl | rw [if_pos (by omega)]))); simp only [Act.put, List.setIfInBounds_toArray, List.set_cons_zero, List.set_cons_succ])
            refine Plan.loud rfl (fun K hK => ?_)
            go_simp
            refine (HPC.out.addrsL HT6.out.b).mono ?_
            rintro e y7 ⟨A7, c7, rfl, ho7, _, hb7⟩
            have HT7 := Lib.hid (HT6.out.step HPC.out hb7)
            refine hK.out (fun y => (convert 22 9 (.slice A6 s'.l.length c6)).run Try.prog y = .ok (.string ⟨s'.bytes.toArray⟩) y ∧ (convert 22 9 (.slice A7 s'.l.length c7)).run Try.prog y = .ok (.string ⟨s'.bytes.toArray⟩) y) _ _ (fun x hx => hx.1)
              ⟨hb_own (own_ft (B := 0) (T := []) HO6.out (Ft.of_below hb7) (by simp)) (bytes_len s'), hb_own ho7 (bytes_len s')⟩ ?_
            clear hK K ho7 hb7 HT6 HO6
            iterate 3 (refine Plan.take (v := ?_) rfl (by rfl) ?_ ?_; rotate_left 1; (focus (intro x hx; go_simp <;> (first | with_reducible rfl | rw [if_pos (by omega)]))); simp only [Act.put, List.setIfInBounds_toArray, List.set_cons_zero, List.set_cons_succ])
            refine Plan.done ?_
            go_wp2
            go_roundw
            case rel => exact ⟨i + 1, s', by omega, by go_num, HT7⟩
            case measure => simp [intOf]; omega
    · have hkn : m = i := by omega
      subst hkn
      have hex : (¬ (m : Int) < (n0 : Int)) ∨ ((m : Int) < (n0 : Int) ∧ ¬ (m : Int) < 100) := by have := HLA.out; omega
      rcases hex with hl1 | ⟨hl1, hl2⟩
      all_goals
        go_wp2
        go_ret
        exact ⟨rfl, HT.out.a.below⟩

end Go.Proofs.Ytkghbdikbbeoaaa
