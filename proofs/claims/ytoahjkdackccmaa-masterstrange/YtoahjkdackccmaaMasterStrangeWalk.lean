/-
  lamplightlaw07.MasterStrange, walked: true, whatever came in.
-/
import Derived.Test.YtoahjkdackccmaaMasJ
import Derived.Deep.DeepCutAuto
namespace Go.Proofs.Ytoahjkdackccmaa
set_option linter.unusedVariables false
set_option linter.unusedSimpArgs false
open Go.RowKit

set_option maxRecDepth 100000 in
set_option maxHeartbeats 12800000 in
theorem masterstrange_walk (a : Nat) (P : Option Addr) (n0 c0 : Nat) (ss : List St7) (f : Fr) (gF : Nat) (AF : Option Addr) (cF : Nat) (w : World) (ha : a < 256) (hp : StepsAt w P ss) (hn : ss.length = n0) (hc : n0 ≤ c0) (hm : c0 ≤ 9223372036854775807)
    (hfit : f.Fits) (hfh : Holds w gF AF (bcs f.b)) (hfc : f.b.length ≤ cF) (hfm : cF ≤ maxLen) :
    Calls Try.prog 6 #[.int .u8 (a : Int), .slice P n0 c0, .agg (fcs f (.slice AF f.b.length cF))] w fun e w' => e = .returned (.bool true) ∧ Below w.heap.size w w' := by
  obtain ⟨n, hn0, hn100, hlast⟩ : ∃ n, n ≤ n0 ∧ n ≤ 100 ∧ (n = n0 ∨ n = 100) := ⟨min n0 100, by omega, by omega, by omega⟩
  have hw0 := new_below w (.cells (fcs f (.slice AF f.b.length cF)) 30)
  have HW0 := Lib.hid hw0
  have HL := Lib.hid hn
  have HP := Lib.hid (hp.keep hw0)
  have HFX0 : Hid (Fx (w.alloc (.cells (fcs f (.slice AF f.b.length cF)) 30)) w.heap.size f (.slice AF f.b.length cF)) := heap_alloc_new w _
  have HA := Lib.hid ha
  have HLS := Lib.hid hlast
  have HFH := Lib.hid hfh
  have HFIT := Lib.hid hfit
  clear hp hn ha hlast hfh hfit hw0
  go_enter Try.func6, Try.ntmps6
  go_upto_region 1 with fail
  generalize w.alloc (.cells (fcs f (.slice AF f.b.length cF)) 30) = w0 at *
  obtain ⟨X, hX⟩ : ∃ X, X = w.heap.size := ⟨_, rfl⟩
  have HX := Lib.hid hX
  rw [← hX] at HFX0 ⊢
  clear hX
  go_wp2_with fail
  refine (shown_on w0).mono ?_
  rintro e x0 ⟨rfl, hb0⟩
  have HB0 := Lib.hid hb0
  clear hb0
  go_wp2_with fail
  refine (new_lm (w := w0) HA.out (by decide) HB0.out).mono ?_
  rintro e x1 ⟨rfl, h1, _⟩
  have H1 := Lib.hid h1
  clear h1 HB0
  generalize x0.heap.size = D at *
  go_wp2
  go_loopw [9] (fun i wr => ∃ (k : Nat) (m : Ma), k ≤ n ∧ i = .int .i64 k ∧ Hid (m.addr = a) ∧ Hid (Lm w0 D k m wr)) (fun i _ => n - (intOf i).toNat)
  case atStart => exact ⟨0, newM a 3, Nat.zero_le _, rfl, Lib.hid rfl, H1⟩
  case round =>
    clear H1
    obtain ⟨k, m, hk, rfl, HAD, H⟩ := hrel
    by_cases hlt : k < n
    · have hlt1 : (k : Int) < (n0 : Int) := by omega
      have hlt2 : (k : Int) < 100 := by omega
      have hkl : k < ss.length := by rw [HL.out]; omega
      obtain ⟨b, o, g, A, c, rfl, hsc, -, hhold, hbc, hcm⟩ := HP.out.at k hkl
      generalize (ss[k]'hkl) = s at *
      have HSC := Lib.hid (hsc.step H.out.below)
      have HHO : Hid (Holds w0 g A (bcs (s.f.b.take 40))) := by show Holds _ _ _ _; rw [bcs_take]; exact hhold.take 40
      have HBC := Lib.hid hbc
      have HCM := Lib.hid hcm
      obtain ⟨sk, hsk⟩ : ∃ sk, s.k = sk := ⟨_, rfl⟩
      have e0 := HSC.out.c0
      have e1 := HSC.out.c1
      have e2 := HSC.out.c2
      have e3 := HSC.out.c3
      have e4 := HSC.out.c4
      have e5 := HSC.out.c5
      have e6 := HSC.out.c6
      have e7 := HSC.out.c7
      rw [hsk] at e0
      have HSK := Lib.hid hsk
      clear hsc hhold hbc hcm hsk
      go_wp2_with fail
      have hst : stepc s (.slice A s.f.b.length c) = #[.int .i64 sk, .int .u8 (s.f.a : Int), .int .u8 (s.f.k : Int), .int .u8 (s.f.s : Int), .int .u8 (s.f.q : Int), .int .u8 (s.f.c : Int), .slice A s.f.b.length c, .bool s.own] := by rw [← HSK.out]
      rw [← hst]
      refine (frame_on (s := s) (a := a) H.out HBC.out HCM.out).mono ?_
      rintro e x3 ⟨rfl, h3, hb3⟩
      rw [hst]
      clear hst
      have HSC3 := Lib.hid (HSC.out.step hb3)
      have HFB := Lib.hid (frM_b s a m)
      have HFL := Lib.hid (frM_len s a m)
      generalize frM s a m = F at *
      have hb4 := new_below x3 (.cells #[.int .u8 (F.a : Int), .int .u8 (F.k : Int), .int .u8 (F.s : Int), .int .u8 (F.q : Int), .int .u8 (F.c : Int), .slice A F.b.length c] 30)
      have HFX : Hid (Fx (x3.alloc (.cells #[.int .u8 (F.a : Int), .int .u8 (F.k : Int), .int .u8 (F.s : Int), .int .u8 (F.q : Int), .int .u8 (F.c : Int), .slice A F.b.length c] 30)) x3.heap.size F (.slice A F.b.length c)) := heap_alloc_new x3 _
      have H4 := Lib.hid (h3.step hb4)
      have HC4 := Lib.hid (HSC3.out.step hb4)
      have e0 := HC4.out.c0
      rw [HSK.out] at e0
      clear e1 e2 e3 e4 e5 e6 e7 h3 hb3 hb4 HSC HSC3 HC4 H HSK
      go_upto_region 10 with fail
      generalize x3.alloc (.cells #[.int .u8 (F.a : Int), .int .u8 (F.k : Int), .int .u8 (F.s : Int), .int .u8 (F.q : Int), .int .u8 (F.c : Int), .slice A F.b.length c] 30) = x4 at *
      generalize x3.heap.size = G at *
      have HHB : Hid (Hb x4 D A F.b) := Lib.hid (Hb.of_arg (by rw [HFB.out]; exact HHO.out) H4.out.below H4.out.le)
      have r0 := HFX.out.fc.c0
      have r1 := HFX.out.fc.c1
      have r2 := HFX.out.fc.c2
      have r3 := HFX.out.fc.c3
      have r4 := HFX.out.fc.c4
      have r5 := HFX.out.fc.c5
      clear e0 HHO HFB HBC HCM HFX
      by_cases k0 : sk = 0 ∨ sk = 1
      · rcases k0 with rfl | rfl
        · go_wp2_with fail
          refine (send_lm H4.out HHB.out rfl).mono ?_
          rintro e x5 ⟨rfl, h5, _⟩
          have H5 : Hid (Lm w0 D (k + 1) (sendM m F.b).1 x5) := h5.more (Nat.le_succ _)
          have HA5 : Hid ((sendM m F.b).1.addr = a) := Lib.hid ((sendM_addr m F.b).trans HAD.out)
          generalize (sendM m F.b).1 = m' at *
          generalize (sendM m F.b).2 = er at *
          clear h5
          clear r0 r1 r2 r3 r4 r5 HHB H4
          go_wp2
          go_roundw
          case rel => exact ⟨k + 1, m', by omega, by go_num, HA5, H5⟩
          case measure => simp [intOf]; omega
        · go_wp2_with fail
          refine (send_lm H4.out HHB.out rfl).mono ?_
          rintro e x5 ⟨rfl, h5, _⟩
          have H5 : Hid (Lm w0 D (k + 1) (sendM m F.b).1 x5) := h5.more (Nat.le_succ _)
          have HA5 : Hid ((sendM m F.b).1.addr = a) := Lib.hid ((sendM_addr m F.b).trans HAD.out)
          generalize (sendM m F.b).1 = m' at *
          generalize (sendM m F.b).2 = er at *
          clear h5
          clear r0 r1 r2 r3 r4 r5 HHB H4
          go_wp2
          go_roundw
          case rel => exact ⟨k + 1, m', by omega, by go_num, HA5, H5⟩
          case measure => simp [intOf]; omega
      · by_cases k1 : sk = 2 ∨ sk = 3 ∨ sk = 4 ∨ sk = 5
        · rcases k1 with rfl | rfl | rfl | rfl
          · go_wp2_with fail
            refine (heard_lm (f := F) H4.out (by omega) HHB.out (by have := HFL.out; omega)).mono ?_
            rintro e x5 ⟨A5, c5, rfl, -, h5, _⟩
            have H5 : Hid (Lm w0 D (k + 1) (heardM m F).1 x5) := h5
            have HA5 : Hid ((heardM m F).1.addr = a) := Lib.hid ((heardM_addr m F).trans HAD.out)
            generalize (heardM m F).1 = m' at *
            generalize (heardM m F).2 = er at *
            clear h5
            clear r0 r1 r2 r3 r4 r5 HHB H4
            go_wp2
            go_roundw
            case rel => exact ⟨k + 1, m', by omega, by go_num, HA5, H5⟩
            case measure => simp [intOf]; omega
          · go_wp2_with fail
            refine (heard_lm (f := F) H4.out (by omega) HHB.out (by have := HFL.out; omega)).mono ?_
            rintro e x5 ⟨A5, c5, rfl, -, h5, _⟩
            have H5 : Hid (Lm w0 D (k + 1) (heardM m F).1 x5) := h5
            have HA5 : Hid ((heardM m F).1.addr = a) := Lib.hid ((heardM_addr m F).trans HAD.out)
            generalize (heardM m F).1 = m' at *
            generalize (heardM m F).2 = er at *
            clear h5
            clear r0 r1 r2 r3 r4 r5 HHB H4
            go_wp2
            go_roundw
            case rel => exact ⟨k + 1, m', by omega, by go_num, HA5, H5⟩
            case measure => simp [intOf]; omega
          · go_wp2_with fail
            refine (heard_lm (f := F) H4.out (by omega) HHB.out (by have := HFL.out; omega)).mono ?_
            rintro e x5 ⟨A5, c5, rfl, -, h5, _⟩
            have H5 : Hid (Lm w0 D (k + 1) (heardM m F).1 x5) := h5
            have HA5 : Hid ((heardM m F).1.addr = a) := Lib.hid ((heardM_addr m F).trans HAD.out)
            generalize (heardM m F).1 = m' at *
            generalize (heardM m F).2 = er at *
            clear h5
            clear r0 r1 r2 r3 r4 r5 HHB H4
            go_wp2
            go_roundw
            case rel => exact ⟨k + 1, m', by omega, by go_num, HA5, H5⟩
            case measure => simp [intOf]; omega
          · go_wp2_with fail
            refine (heard_lm (f := F) H4.out (by omega) HHB.out (by have := HFL.out; omega)).mono ?_
            rintro e x5 ⟨A5, c5, rfl, -, h5, _⟩
            have H5 : Hid (Lm w0 D (k + 1) (heardM m F).1 x5) := h5
            have HA5 : Hid ((heardM m F).1.addr = a) := Lib.hid ((heardM_addr m F).trans HAD.out)
            generalize (heardM m F).1 = m' at *
            generalize (heardM m F).2 = er at *
            clear h5
            clear r0 r1 r2 r3 r4 r5 HHB H4
            go_wp2
            go_roundw
            case rel => exact ⟨k + 1, m', by omega, by go_num, HA5, H5⟩
            case measure => simp [intOf]; omega
        · by_cases k2 : sk = 6
          · subst k2
            go_wp2_with fail
            refine (missed_lm H4.out (by omega)).mono ?_
            rintro e x5 ⟨rfl, h5, _⟩
            have H5 : Hid (Lm w0 D (k + 1) (missedM m).1 x5) := h5
            have HA5 : Hid ((missedM m).1.addr = a) := Lib.hid ((missedM_addr m).trans HAD.out)
            generalize (missedM m).1 = m' at *
            generalize (missedM m).2 = er at *
            clear h5
            clear r0 r1 r2 r3 r4 r5 HHB H4
            go_wp2
            go_roundw
            case rel => exact ⟨k + 1, m', by omega, by go_num, HA5, H5⟩
            case measure => simp [intOf]; omega
          · have q0 : (sk == 0) = false := by simp; omega
            have q1 : (sk == 1) = false := by simp; omega
            have q2 : (sk == 2) = false := by simp; omega
            have q3 : (sk == 3) = false := by simp; omega
            have q4 : (sk == 4) = false := by simp; omega
            have q5 : (sk == 5) = false := by simp; omega
            have q6 : (sk == 6) = false := by simp; omega
            have H5 : Hid (Lm w0 D (k + 1) m x4) := H4.out.more (Nat.le_succ _)
            clear k0 k1 k2
            clear r0 r1 r2 r3 r4 r5 HHB H4
            go_wp2
            go_roundw
            case rel => exact ⟨k + 1, m, by omega, by go_num, HAD, H5⟩
            case measure => simp [intOf]; omega
    · have hkn : n = k := by omega
      subst hkn
      have hl2 : (n : Int) < (n0 : Int) → ¬ (n : Int) < 100 := by have := HLS.out; omega
      have hex : (¬ (n : Int) < (n0 : Int)) ∨ ((n : Int) < (n0 : Int) ∧ ¬ (n : Int) < 100) := by have := HLS.out; omega
      clear hl2
      have HFX := Lib.hid (HFX0.out.step H.out.below)
      have r0 := HFX.out.fc.c0
      have r1 := HFX.out.fc.c1
      have z1 := HFX.out.fc.fz 1
      have HLW := Lib.hid (H.out.base HW0.out)
      rcases hex with hl1 | ⟨hl1, hl2⟩
      all_goals
        go_upto_region 20 with fail
        go_cut [75] (fun v y => y = wr ∧ ∃ t : Bool, v = .bool t ∧ Hid (t = false → f.a = a → f.k ≠ 4 ∧ f.k ≠ 5))
        case first =>
          by_cases hfa : f.a = a
          · have hfa' : (f.a : Int) = (a : Int) := by omega
            by_cases h4 : f.k = 4
            · have h4' : (f.k : Int) = 4 := by omega
              clear h4 hfa
              go_wp2
              go_meet
              case rel => exact ⟨rfl, true, rfl, Lib.hid (fun h => Bool.noConfusion h)⟩
            · have h4' : ((f.k : Int) == 4) = false := by simp; omega
              by_cases h5 : f.k = 5
              · have h5' : (f.k : Int) = 5 := by omega
                clear h4 h5 hfa
                go_wp2
                go_meet
                case rel => exact ⟨rfl, true, rfl, Lib.hid (fun h => Bool.noConfusion h)⟩
              · have h5' : ((f.k : Int) == 5) = false := by simp; omega
                have HS : Hid (f.a = a → f.k ≠ 4 ∧ f.k ≠ 5) := Lib.hid (fun _ => ⟨h4, h5⟩)
                clear h4 h5 hfa
                go_wp2
                go_meet
                case rel => exact ⟨rfl, false, rfl, Lib.hid (fun _ => HS.out)⟩
          · have hfa' : ((f.a : Int) == (a : Int)) = false := by simp; omega
            have HS : Hid (f.a = a → f.k ≠ 4 ∧ f.k ≠ 5) := Lib.hid (fun h => absurd h hfa)
            clear hfa
            go_wp2
            go_meet
            case rel => exact ⟨rfl, false, rfl, Lib.hid (fun _ => HS.out)⟩
        case' rest =>
          obtain ⟨rfl, t, rfl, HS⟩ := hcut
          go_upto_if 75 with fail
          go_cut [] (fun y => ∃ F : Fr, Hid (F.a = a → F.k ≠ 4 ∧ F.k ≠ 5) ∧ Hid (Fx y X F (.slice AF F.b.length cF)) ∧ Hid (Lm w D n m y))
        case first =>
          cases t with
          | true =>
            have hft : Ft w.heap.size [30] wc (wc.setCell ⟨X, 1, none⟩ (.int .u8 3)) := Ft.of_ch ((Ch.refl [X] wc).setCell (by simp) _) (fun x hx _ => by simp at hx; subst hx; exact ⟨by rw [HX.out]; exact Nat.le_refl _, _, _, _, HFX.out, by simp⟩)
            have HL2 := Lib.hid (HLW.out.ft hft (Nat.le_refl _) (by decide) (by decide) (by decide))
            have HX2 : Hid (Fx (wc.setCell ⟨X, 1, none⟩ (.int .u8 3)) X ⟨f.a, 3, f.s, f.q, f.c, f.b⟩ (.slice AF f.b.length cF)) := (heap_setCell_same wc X 1 _ _ (.int .u8 3) HFX.out).trans (by simp)
            clear hft
            go_wp2
            go_meet
            case rel => exact ⟨_, Lib.hid (fun _ => by simp), HX2, HL2⟩
          | false =>
            have HS2 : Hid (f.a = a → f.k ≠ 4 ∧ f.k ≠ 5) := Lib.hid (HS.out rfl)
            go_wp2
            go_meet
            case rel => exact ⟨f, HS2, HFX, HLW⟩
        case rest =>
          clear r0 r1 z1 HFX HLW H
          obtain ⟨F, HFS, HFX, H⟩ := hcut
          go_wp2_with fail
          refine (next_lm H.out).mono ?_
          rintro e x3 ⟨A3, c3, rfl, ho3, h3, hb3⟩
          have HO3 := Lib.hid ho3
          have H3 := Lib.hid h3
          have HFX3 := Lib.hid (HFX.out.step hb3)
          clear ho3 h3 hb3 HFX H
          obtain ⟨R, hR⟩ : ∃ R, nextM m = R := ⟨_, rfl⟩
          rw [hR] at HO3 ⊢
          have HR := Lib.hid hR
          clear hR
          go_wp2_with fail
          refine (of_own HO3.out).mono ?_
          rintro e x4 ⟨rfl, hb4⟩
          have hb5 := new_below x4 (.cells (rcs R) 42)
          have HRX : Hid (Rx (x4.alloc (.cells (rcs R) 42)) x4.heap.size R) := heap_alloc_new x4 _
          have H5 := Lib.hid ((H3.out.step hb4).step hb5)
          have HFX5 := Lib.hid ((HFX3.out.step hb4).step hb5)
          clear hb4 hb5 H3 HFX3 HO3
          go_upto_region 23 with fail
          generalize x4.alloc (.cells (rcs R) 42) = x5 at *
          generalize x4.heap.size = W at *
          go_wp2_with fail
          refine (state_lm H5.out).mono ?_
          rintro e y ⟨rfl, rfl⟩
          go_wp2_with fail
          refine (len_lm H5.out).mono ?_
          rintro e y ⟨rfl, rfl⟩
          have r0 := HFX5.out.fc.c0
          have r1 := HFX5.out.fc.c1
          have r2 := HFX5.out.fc.c2
          have r3 := HFX5.out.fc.c3
          have r4 := HFX5.out.fc.c4
          have r5 := HFX5.out.fc.c5
          have hlis : lisM m F = false := by
            have hs := HFS.out
            rw [← HAD.out] at hs
            unfold lisM
            rw [decide_eq_false_iff_not]
            rintro ⟨q1, q2⟩
            have := hs q1
            omega
          have HLI := Lib.hid hlis
          clear hlis
          go_wp2_with fail
          refine (heard_deaf (f := F) H5.out.mas HLI.out).mono ?_
          rintro e x6 ⟨rfl, hb6⟩
          have H6 := Lib.hid (H5.out.step hb6)
          have HRX6 := Lib.hid (HRX.out.step hb6)
          clear r0 r1 r2 r3 r4 r5 hb6 H5 HRX HFX5
          go_upto_region 26 with fail
          have hd := drew_below x6
          have H7 := Lib.hid (H6.out.step hd)
          have HRX7 := Lib.hid (HRX6.out.step hd)
          clear hd H6 HRX6
          refine region_plan [(true, 0), (true, 1), (true, 2), (true, 3), (true, 4), (true, 5), (true, 6), (true, 7), (true, 8), (true, 9), (true, 10), (true, 11), (true, 14), (false, 12), (false, 13), (true, 15), (true, 16), (true, 17), (true, 18), (true, 20), (false, 19), (true, 21), (true, 22), (true, 23), (true, 24), (true, 26), (false, 25), (true, 27), (true, 28), (true, 29)]
            (fun y => y.cell? ⟨W, 0, none⟩ = some (.int .u8 (R.a : Int)) ∧ y.cell? ⟨W, 1, none⟩ = some (.int .u8 (R.k : Int)) ∧ y.cell? ⟨W, 2, none⟩ = some (.int .u8 (R.s : Int)) ∧ y.cell? ⟨W, 3, none⟩ = some (.int .u8 (R.q : Int)) ∧ y.cell? ⟨W, 4, none⟩ = some (.int .u8 (R.c : Int)) ∧ y.cell? ⟨W, 5, none⟩ = some (.string ⟨R.b.toArray⟩)) (by kernel_rfl) (by kernel_rfl) (by kernel_rfl) rfl ⟨HRX7.out.rc.c0, HRX7.out.rc.c1, HRX7.out.rc.c2, HRX7.out.rc.c3, HRX7.out.rc.c4, HRX7.out.rc.c5⟩ ?_
          generalize x6.drew = x7 at *
          iterate 13 (first | (refine Plan.take (v := ?_) rfl (by rfl) ?_ ?_; rotate_left 1; (focus (intro x hx; go_simp <;> (first | with_reducible rfl | rw [if_pos (by omega)]))); simp only [Act.put, List.setIfInBounds_toArray, List.set_cons_zero, List.set_cons_succ]) | (refine Plan.skip rfl (by rfl) ?_; simp only [Act.put, List.setIfInBounds_toArray, List.set_cons_zero, List.set_cons_succ]))
          refine Plan.loud rfl (fun K hK => ?_)
          go_simp
          refine (next_lm H7.out).mono ?_
          rintro e x8 ⟨A8, c8, rfl, ho8, h8, hb8⟩
          rw [HR.out] at ho8 ⊢
          have HO8 := Lib.hid ho8
          have H8 := Lib.hid h8
          have HRX8 := Lib.hid (HRX7.out.step hb8)
          clear ho8 h8 hb8 H7 HRX7
          refine hK.out _ _ _ (fun x hx => hx) ⟨HRX8.out.rc.c0, HRX8.out.rc.c1, HRX8.out.rc.c2, HRX8.out.rc.c3, HRX8.out.rc.c4, HRX8.out.rc.c5⟩ ?_
          clear hK K
          refine Plan.loud rfl (fun K hK => ?_)
          go_simp
          refine (of_own HO8.out).mono ?_
          rintro e x9 ⟨rfl, hb9⟩
          have H9 := Lib.hid (H8.out.step hb9)
          have HRX9 := Lib.hid (HRX8.out.step hb9)
          clear hb9 H8 HRX8 HO8
          refine hK.out _ _ _ (fun x hx => hx) ⟨HRX9.out.rc.c0, HRX9.out.rc.c1, HRX9.out.rc.c2, HRX9.out.rc.c3, HRX9.out.rc.c4, HRX9.out.rc.c5⟩ ?_
          clear hK K
          iterate 5 (first | (refine Plan.take (v := ?_) rfl (by rfl) ?_ ?_; rotate_left 1; (focus (intro x hx; go_simp <;> (first | with_reducible rfl | rw [if_pos (by omega)]))); simp only [Act.put, List.setIfInBounds_toArray, List.set_cons_zero, List.set_cons_succ]) | (refine Plan.skip rfl (by rfl) ?_; simp only [Act.put, List.setIfInBounds_toArray, List.set_cons_zero, List.set_cons_succ]))
          refine Plan.loud rfl (fun K hK => ?_)
          go_simp
          refine (state_lm H9.out).mono ?_
          rintro e y ⟨rfl, rfl⟩
          refine hK.out _ _ _ (fun x hx => hx) ⟨HRX9.out.rc.c0, HRX9.out.rc.c1, HRX9.out.rc.c2, HRX9.out.rc.c3, HRX9.out.rc.c4, HRX9.out.rc.c5⟩ ?_
          clear hK K
          iterate 5 (first | (refine Plan.take (v := ?_) rfl (by rfl) ?_ ?_; rotate_left 1; (focus (intro x hx; go_simp <;> (first | with_reducible rfl | rw [if_pos (by omega)]))); simp only [Act.put, List.setIfInBounds_toArray, List.set_cons_zero, List.set_cons_succ]) | (refine Plan.skip rfl (by rfl) ?_; simp only [Act.put, List.setIfInBounds_toArray, List.set_cons_zero, List.set_cons_succ]))
          refine Plan.loud rfl (fun K hK => ?_)
          go_simp
          refine (len_lm H9.out).mono ?_
          rintro e y ⟨rfl, rfl⟩
          refine hK.out _ _ _ (fun x hx => hx) ⟨HRX9.out.rc.c0, HRX9.out.rc.c1, HRX9.out.rc.c2, HRX9.out.rc.c3, HRX9.out.rc.c4, HRX9.out.rc.c5⟩ ?_
          clear hK K
          iterate 3 (first | (refine Plan.take (v := ?_) rfl (by rfl) ?_ ?_; rotate_left 1; (focus (intro x hx; go_simp <;> (first | with_reducible rfl | rw [if_pos (by omega)]))); simp only [Act.put, List.setIfInBounds_toArray, List.set_cons_zero, List.set_cons_succ]) | (refine Plan.skip rfl (by rfl) ?_; simp only [Act.put, List.setIfInBounds_toArray, List.set_cons_zero, List.set_cons_succ]))
          refine Plan.done ?_
          go_wp2
          go_ret
          exact ⟨rfl, H9.out.below⟩

end Go.Proofs.Ytoahjkdackccmaa
