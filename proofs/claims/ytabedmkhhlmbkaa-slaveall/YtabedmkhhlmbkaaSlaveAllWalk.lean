/-
  lamplightlaw08.SlaveAll, walked: true, whatever came in.
-/
import Derived.Test.YtabedmkhhlmbkaaSlaX
import Derived.Deep.DeepCutAuto
namespace Go.Proofs.Ytabedmkhhlmbkaa
set_option linter.unusedVariables false
set_option linter.unusedSimpArgs false
open Go.RowKit

theorem loopL_end {n : Nat} {l : Ln} (h : l.down.length + l.up.length = 0) : loopL n l = l := by
  cases n with
  | zero => rfl
  | succ n => unfold loopL; rw [if_neg (by omega)]

set_option maxRecDepth 100000 in
set_option maxHeartbeats 12800000 in
theorem slaveall_walk (g : Nat) (P : Option Addr) (n0 c0 : Nat) (ks : List Int) (w : World) (hp : Holds w g P (ks.map (Value.int .i64))) (hn : ks.length = n0) (hc : n0 ≤ c0) (hm : c0 ≤ 9223372036854775807) :
    Calls Try.prog 5 #[.slice P n0 c0] w fun e w' => e = .returned (.bool true) ∧ Below w.heap.size w w' := by
  obtain ⟨n, hn0, hn200, hlast⟩ : ∃ n, n ≤ n0 ∧ n ≤ 200 ∧ (n = n0 ∨ n = 200) := ⟨min n0 200, by omega, by omega, by omega⟩
  have HL := Lib.hid hn
  have HP := Lib.hid hp
  have HLS := Lib.hid hlast
  clear hp hn hlast
  go_enter Try.func5, Try.ntmps5
  go_wp2_with fail
  refine (shown_on w).mono ?_
  rintro e x0 ⟨rfl, hb0⟩
  have HB0 := Lib.hid hb0
  clear hb0
  go_wp2_with fail
  refine (opened_on (w := w) HB0.out).mono ?_
  rintro e x1 ⟨L, D, S, rfl, h1⟩
  have H0 := Lib.hid h1
  have HV0 := Lib.hid ivx_open
  clear h1 HB0
  generalize openL = l0 at *
  go_upto_block 0 with fail
  go_cut [] (fun y => ∃ l, Hid (Lxx w L D S 201 l y) ∧ Hid (Ivx l))
  case first =>
    go_wp2
    go_loopw [5] (fun i wr => ∃ (k : Nat) (l : Ln), k ≤ n ∧ i = .int .i64 k ∧ Hid (Lxx w L D S (k + 1) l wr) ∧ Hid (Ivx l)) (fun i _ => n - (intOf i).toNat)
    case atStart => exact ⟨0, l0, Nat.zero_le _, rfl, H0, HV0⟩
    case round =>
      clear H0 HV0
      obtain ⟨k, l, hk, rfl, H, HV⟩ := hrel
      by_cases hlt : k < n
      · have hlt1 : (k : Int) < (n0 : Int) := by omega
        have hlt2 : (k : Int) < 200 := by omega
        have hkl : k < ks.length := by rw [HL.out]; omega
        obtain ⟨_, o, rfl, hcell⟩ := HP.out.keep (F := []) (Ch.of_below H.out.below) (by simp) (by rw [List.length_map]; omega)
        have ck := hcell k (.int .i64 (ks[k]'hkl)) (by rw [List.getElem?_map, List.getElem?_eq_getElem hkl]; rfl)
        generalize (ks[k]'hkl) = kk at *
        clear hcell
        go_wp2_with fail
        refine (does_on H.out HV.out (by omega) kk).mono ?_
        rintro e x3 ⟨rfl, h3⟩
        have H3 := Lib.hid h3
        have HV3 := Lib.hid (ivx_does HV.out kk).2
        clear h3 ck H HV
        generalize (doesL l kk).1 = l' at *
        go_wp2
        go_roundw
        case rel => exact ⟨k + 1, l', by omega, by go_num, H3, HV3⟩
        case measure => simp [intOf]; omega
      · have hkn : n = k := by omega
        subst hkn
        have hex : (¬ (n : Int) < (n0 : Int)) ∨ ((n : Int) < (n0 : Int) ∧ ¬ (n : Int) < 200) := by have := HLS.out; omega
        rcases hex with hl1 | ⟨hl1, hl2⟩
        · go_wp2
          go_meet
          case rel => exact ⟨l, Lib.hid (by obtain ⟨_, _, _, _, _, _, h⟩ := H.out; exact ⟨_, _, _, _, _, _, h.more (by omega)⟩), HV⟩
        · go_wp2
          go_meet
          case rel => exact ⟨l, Lib.hid (by obtain ⟨_, _, _, _, _, _, h⟩ := H.out; exact ⟨_, _, _, _, _, _, h.more (by omega)⟩), HV⟩
  case rest =>
    clear H0 HV0
    obtain ⟨lb, H0, HV0⟩ := hcut
    rename World => x2
    go_wp2
    go_loopw [7] (fun i wr => ∃ (e : Nat) (l : Ln) (N : Nat), e ≤ 40 ∧ i = .int .i64 e ∧ N ≤ 201 + 101 * e ∧ Hid (Lxx w L D S N l wr) ∧ Hid (Ivx l) ∧ Hid (l = exchN e lb)) (fun i _ => 40 - (intOf i).toNat)
    case atStart => exact ⟨0, lb, 201, Nat.zero_le _, rfl, by omega, H0, HV0, Lib.hid rfl⟩
    case round =>
      clear H0
      obtain ⟨e, l, N, he, rfl, hN, H, HV, HE⟩ := hrel
      rename World => y0
      by_cases hlt : e < 40
      · have hlt1 : (e : Int) < 40 := by omega
        go_upto_block 3 with fail
        go_cut [] (fun y => ∃ N2, N2 ≤ 201 + 101 * (e + 1) ∧ Hid (Lxx w L D S N2 (exchN (e + 1) lb) y) ∧ Hid (Ivx (exchN (e + 1) lb)))
        case first =>
          go_wp2_with fail
          refine (does_on H.out HV.out (by omega) 2).mono ?_
          rintro e1 x3 ⟨rfl, h3⟩
          have H3 := Lib.hid h3
          have HV3 := Lib.hid (ivx_does HV.out 2).2
          have HX : Hid (loopL 50 (doesL l 2).1 = exchN (e + 1) lb) := by show _ = _; rw [exchN_succ, ← HE.out]; rfl
          clear h3 H HV HE
          generalize (doesL l 2).1 = l1 at *
          generalize exchN (e + 1) lb = le at *
          go_wp2
          go_loopw [9] (fun i wr => ∃ (k : Nat) (l2 : Ln) (N2 : Nat), k ≤ 50 ∧ i = .int .i64 k ∧ N2 ≤ 202 + 101 * e + 2 * k ∧ Hid (Lxx w L D S N2 l2 wr) ∧ Hid (Ivx l2) ∧ Hid (loopL (50 - k) l2 = le)) (fun i _ => 50 - (intOf i).toNat)
          case atStart => exact ⟨0, l1, N + 1, Nat.zero_le _, rfl, by omega, H3, HV3, HX⟩
          case round =>
            clear H3 HV3 HX
            obtain ⟨k, l2, N2, hk, rfl, hN2, H, HV, HX⟩ := hrel
            go_upto_region 18 with fail
            rename World => y1
            obtain ⟨-, -, -, -, -, -, -, -, -, -, i9, i10⟩ := ivx_seen HV.out
            have H4 := Lib.hid (H.out.step (drew_below y1))
            obtain ⟨Ad, cd, Au, cu, hlc⟩ := H4.out.lc
            obtain ⟨dl, hdl⟩ : ∃ dl, l2.down.length = dl := ⟨_, rfl⟩
            obtain ⟨ul, hul⟩ : ∃ ul, l2.up.length = ul := ⟨_, rfl⟩
            obtain ⟨sm, hsm⟩ : ∃ sm, dl + ul = sm := ⟨_, rfl⟩
            have c2 := hlc.c2
            have c3 := hlc.c3
            rw [hdl] at c2 i9
            rw [hul] at c3 i10
            have w1 : IntKind.i64.wrap ((dl : Int) + (ul : Int)) = (sm : Int) := by rw [IntKind.wrap_i64]; omega
            have HSM : Hid (l2.down.length + l2.up.length = sm) := by show _ = _; rw [hdl, hul, hsm]
            clear hdl hul hlc hsm
            refine region_plan [(true, 0), (true, 1), (true, 2), (true, 3), (true, 4), (true, 5), (true, 6), (true, 7), (true, 8), (true, 9), (true, 10), (true, 11), (true, 12), (true, 13), (true, 14), (true, 15)]
              (fun y => y.cell? ⟨L, 2, none⟩ = some (.slice Ad dl cd) ∧ y.cell? ⟨L, 3, none⟩ = some (.slice Au ul cu)) (by kernel_rfl) (by kernel_rfl) (by kernel_rfl) rfl ⟨c2, c3⟩ ?_
            clear c2 c3 H
            generalize y1.drew = y2 at *
            by_cases hkl : k < 50
            · have hk1 : (k : Int) < 50 := by omega
              by_cases hz : sm = 0
              · have hz1 : ¬ (0 : Int) < (sm : Int) := by omega
                have HZ := Lib.hid hz
                clear hz
                iterate 16 (first | (refine Plan.take (v := ?_) rfl (by rfl) ?_ ?_; rotate_left 1; (focus (intro x hx; go_simp <;> (first | with_reducible rfl | rw [if_pos (by omega)]))); simp only [Act.put, List.setIfInBounds_toArray, List.set_cons_zero, List.set_cons_succ]) | (refine Plan.skip rfl (by rfl) ?_; simp only [Act.put, List.setIfInBounds_toArray, List.set_cons_zero, List.set_cons_succ]))
                refine Plan.done ?_
                go_wp2
                go_meet
                case rel => exact ⟨N2, by omega, by rw [← HX.out, loopL_end (HSM.out.trans HZ.out)]; exact H4, by rw [← HX.out, loopL_end (HSM.out.trans HZ.out)]; exact HV⟩
              · have hz1 : (0 : Int) < (sm : Int) := by omega
                have HX4 : Hid (loopL (50 - (k + 1)) (doesL (doesL l2 4).1 7).1 = le) := by
                  show _ = _
                  rw [← HX.out, show 50 - k = (50 - (k + 1)) + 1 by omega]
                  conv => rhs; unfold loopL
                  rw [if_pos (by rw [HSM.out]; omega)]
                  rfl
                iterate 16 (first | (refine Plan.take (v := ?_) rfl (by rfl) ?_ ?_; rotate_left 1; (focus (intro x hx; go_simp <;> (first | with_reducible rfl | rw [if_pos (by omega)]))); simp only [Act.put, List.setIfInBounds_toArray, List.set_cons_zero, List.set_cons_succ]) | (refine Plan.skip rfl (by rfl) ?_; simp only [Act.put, List.setIfInBounds_toArray, List.set_cons_zero, List.set_cons_succ]))
                refine Plan.done ?_
                clear HX w1 HSM
                go_wp2_with fail
                refine (does_on H4.out HV.out (by omega) 4).mono ?_
                rintro e2 x5 ⟨rfl, h5⟩
                have H5 := Lib.hid h5
                have HV5 := Lib.hid (ivx_does HV.out 4).2
                clear h5 H4 HV
                generalize (doesL l2 4).1 = l5 at *
                go_wp2_with fail
                refine (does_on H5.out HV5.out (by omega) 7).mono ?_
                rintro e2 x6 ⟨rfl, h6⟩
                have H6 := Lib.hid h6
                have HV6 := Lib.hid (ivx_does HV5.out 7).2
                clear h6 H5 HV5
                generalize (doesL l5 7).1 = l6 at *
                go_wp2
                go_roundw
                case rel => exact ⟨k + 1, l6, N2 + 1 + 1, by omega, by go_num, by omega, H6, HV6, HX4⟩
                case measure => simp [intOf]; omega
            · have hk1 : ¬ (k : Int) < 50 := by omega
              have hk50 : Hid (50 - k = 0) := Lib.hid (by omega)
              iterate 16 (first | (refine Plan.take (v := ?_) rfl (by rfl) ?_ ?_; rotate_left 1; (focus (intro x hx; go_simp <;> (first | with_reducible rfl | rw [if_pos (by omega)]))); simp only [Act.put, List.setIfInBounds_toArray, List.set_cons_zero, List.set_cons_succ]) | (refine Plan.skip rfl (by rfl) ?_; simp only [Act.put, List.setIfInBounds_toArray, List.set_cons_zero, List.set_cons_succ]))
              refine Plan.done ?_
              go_wp2
              go_meet
              case rel => exact ⟨N2, by omega, by rw [← HX.out, hk50.out]; exact H4, by rw [← HX.out, hk50.out]; exact HV⟩
        case rest =>
          clear H HV HE
          obtain ⟨N2, hN2, H4, HV4⟩ := hcut
          go_wp2
          go_roundw
          case rel => exact ⟨e + 1, exchN (e + 1) lb, N2, by omega, by go_num, hN2, H4, HV4, Lib.hid rfl⟩
          case measure => simp [intOf]; omega
      · have hen : e = 40 := by omega
        subst hen
        have HE40 : Hid (l = exchN 40 lb) := HE
        obtain ⟨hv1, hcs, hho, hq0, hp0⟩ := ivx_all HV0.out
        rw [← HE40.out] at hcs hho hq0 hp0
        have HQ0 := Lib.hid hq0
        have HPE := Lib.hid hp0
        have HCS := Lib.hid hcs
        have HHO := Lib.hid hho
        clear hv1 hcs hho hq0 hp0 HE HV0 HV HE40
        go_upto_region 24 with fail
        rename World => y0
        have H4 := Lib.hid (H.out.step (drew_below y0))
        obtain ⟨Ad, cd, Au, cu, hlc⟩ := H4.out.lc
        obtain ⟨sn, hsn⟩ : ∃ sn, l.sent = sn := ⟨_, rfl⟩
        obtain ⟨off, hoff⟩ : ∃ off, l.offered = off := ⟨_, rfl⟩
        have d0 := hlc.c0
        have d1 := hlc.c1
        have d4 := hlc.c4
        have d5 := hlc.c5
        have d6 := hlc.c6
        have d7 := hlc.c7
        rw [HCS.out, hsn] at d5
        rw [hsn] at d4
        rw [hoff] at d6
        rw [HHO.out, hoff] at d7
        have HS4 : Hid (y0.drew.cell? ⟨L, 0, none⟩ = some (.pointer (some ⟨D, 0, none⟩)) ∧ y0.drew.cell? ⟨L, 1, none⟩ = some (.pointer (some ⟨S, 0, none⟩)) ∧ y0.drew.cell? ⟨L, 4, none⟩ = some (.int .i64 (sn : Int)) ∧ y0.drew.cell? ⟨L, 5, none⟩ = some (.int .i64 (sn : Int)) ∧ y0.drew.cell? ⟨L, 6, none⟩ = some (.int .i64 (off : Int)) ∧ y0.drew.cell? ⟨L, 7, none⟩ = some (.int .i64 (off : Int))) := Lib.hid ⟨d0, d1, d4, d5, d6, d7⟩
        clear hlc hsn hoff d0 d1 d4 d5 d6 d7
        refine region_plan [(true, 0), (true, 1), (true, 2), (true, 3), (true, 4), (true, 5), (true, 6), (true, 7), (true, 8), (true, 9), (true, 10), (true, 11), (true, 12), (true, 13), (true, 14), (true, 15), (true, 16), (true, 17), (true, 18), (true, 19), (true, 20), (true, 21), (true, 22), (true, 23), (true, 24), (true, 25), (true, 26), (true, 27), (false, 28), (true, 29), (true, 30), (true, 31), (true, 32), (true, 33), (true, 34), (true, 35), (false, 36), (true, 37), (true, 38), (true, 39)]
          (fun y => y.cell? ⟨L, 0, none⟩ = some (.pointer (some ⟨D, 0, none⟩)) ∧ y.cell? ⟨L, 1, none⟩ = some (.pointer (some ⟨S, 0, none⟩)) ∧ y.cell? ⟨L, 4, none⟩ = some (.int .i64 (sn : Int)) ∧ y.cell? ⟨L, 5, none⟩ = some (.int .i64 (sn : Int)) ∧ y.cell? ⟨L, 6, none⟩ = some (.int .i64 (off : Int)) ∧ y.cell? ⟨L, 7, none⟩ = some (.int .i64 (off : Int))) (by kernel_rfl) (by kernel_rfl) (by kernel_rfl) rfl HS4.out ?_
        clear H
        generalize y0.drew = y1 at *
        iterate 28 (first | (refine Plan.take (v := ?_) rfl (by rfl) ?_ ?_; rotate_left 1; (focus (intro x hx; go_simp <;> (first | with_reducible rfl | rw [if_pos (by omega)]))); simp only [Act.put, List.setIfInBounds_toArray, List.set_cons_zero, List.set_cons_succ]) | (refine Plan.skip rfl (by rfl) ?_; simp only [Act.put, List.setIfInBounds_toArray, List.set_cons_zero, List.set_cons_succ]))
        refine Plan.loud rfl (fun K hK => ?_)
        go_simp
        refine (len_lm H4.out.mas).mono ?_
        rintro e1 z ⟨rfl, rfl⟩
        rw [HQ0.out]
        refine hK.out _ _ _ (fun x hx => hx) HS4.out ?_
        clear hK K
        iterate 7 (first | (refine Plan.take (v := ?_) rfl (by rfl) ?_ ?_; rotate_left 1; (focus (intro x hx; go_simp <;> (first | with_reducible rfl | rw [if_pos (by omega)]))); simp only [Act.put, List.setIfInBounds_toArray, List.set_cons_zero, List.set_cons_succ]) | (refine Plan.skip rfl (by rfl) ?_; simp only [Act.put, List.setIfInBounds_toArray, List.set_cons_zero, List.set_cons_succ]))
        refine Plan.loud rfl (fun K hK => ?_)
        go_simp
        refine (sla_cond.pending H4.out.sla).mono ?_
        rintro e1 z2 ⟨rfl, rfl⟩
        rw [HPE.out]
        refine hK.out _ _ _ (fun x hx => hx) HS4.out ?_
        clear hK K
        iterate 3 (first | (refine Plan.take (v := ?_) rfl (by rfl) ?_ ?_; rotate_left 1; (focus (intro x hx; go_simp <;> (first | with_reducible rfl | rw [if_pos (by omega)]))); simp only [Act.put, List.setIfInBounds_toArray, List.set_cons_zero, List.set_cons_succ]) | (refine Plan.skip rfl (by rfl) ?_; simp only [Act.put, List.setIfInBounds_toArray, List.set_cons_zero, List.set_cons_succ]))
        refine Plan.done ?_
        clear HS4
        go_wp2
        go_ret
        exact ⟨rfl, H4.out.below⟩

end Go.Proofs.Ytabedmkhhlmbkaa
