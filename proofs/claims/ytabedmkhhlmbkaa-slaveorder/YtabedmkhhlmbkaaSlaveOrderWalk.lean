/-
  lamplightlaw08.SlaveOrder, walked: true, whatever came in.
-/
import Derived.Test.YtabedmkhhlmbkaaSlaX
namespace Go.Proofs.Ytabedmkhhlmbkaa
set_option linter.unusedVariables false
set_option linter.unusedSimpArgs false
open Go.RowKit

set_option maxRecDepth 100000 in
set_option maxHeartbeats 12800000 in
theorem slaveorder_walk (g : Nat) (P : Option Addr) (n0 c0 : Nat) (ks : List Int) (w : World) (hp : Holds w g P (ks.map (Value.int .i64))) (hn : ks.length = n0) (hc : n0 ≤ c0) (hm : c0 ≤ 9223372036854775807) :
    Calls Try.prog 4 #[.slice P n0 c0] w fun e w' => e = .returned (.bool true) ∧ Below w.heap.size w w' := by
  obtain ⟨n, hn0, hn400, hlast⟩ : ∃ n, n ≤ n0 ∧ n ≤ 400 ∧ (n = n0 ∨ n = 400) := ⟨min n0 400, by omega, by omega, by omega⟩
  have HL := Lib.hid hn
  have HP := Lib.hid hp
  have HLS := Lib.hid hlast
  clear hp hn hlast
  go_enter Try.func4, Try.ntmps4
  go_wp2_with fail
  refine (shown_on w).mono ?_
  rintro e x0 ⟨rfl, hb0⟩
  have HB0 := Lib.hid hb0
  clear hb0
  go_wp2_with fail
  refine (opened_on (w := w) HB0.out).mono ?_
  rintro e x1 ⟨L, D, S, rfl, h1⟩
  have H0 := Lib.hid h1
  have HV0 := Lib.hid ivx_open
  clear h1 HB0
  generalize openL = l0 at *
  go_wp2
  go_loopw [5] (fun i wr => ∃ (k : Nat) (l : Ln), k ≤ n ∧ i = .int .i64 k ∧ Hid (Lxx w L D S (k + 1) l wr) ∧ Hid (Ivx l)) (fun i _ => n - (intOf i).toNat)
  case atStart => exact ⟨0, l0, Nat.zero_le _, rfl, H0, HV0⟩
  case round =>
    clear H0 HV0
    obtain ⟨k, l, hk, rfl, H, HV⟩ := hrel
    by_cases hlt : k < n
    · have hlt1 : (k : Int) < (n0 : Int) := by omega
      have hlt2 : (k : Int) < 400 := by omega
      have hkl : k < ks.length := by rw [HL.out]; omega
      obtain ⟨_, o, rfl, hcell⟩ := HP.out.keep (F := []) (Ch.of_below H.out.below) (by simp) (by rw [List.length_map]; omega)
      have ck := hcell k (.int .i64 (ks[k]'hkl)) (by rw [List.getElem?_map, List.getElem?_eq_getElem hkl]; rfl)
      generalize (ks[k]'hkl) = kk at *
      clear hcell
      go_wp2_with fail
      refine (does_on H.out HV.out (by omega) kk).mono ?_
      rintro e x3 ⟨rfl, h3⟩
      have H3 := Lib.hid h3
      have HV3 := Lib.hid (ivx_does HV.out kk).2
      clear h3 ck H HV
      generalize (doesL l kk).1 = l' at *
      obtain ⟨i1, i2, -, -, i3, i4, i5, i6, i7, i8, -, -⟩ := ivx_seen HV3.out
      obtain ⟨n1, n2, n3, n4⟩ := H3.out.nums
      obtain ⟨Ad, cd, Au, cu, hlc⟩ := H3.out.lc
      have d0 := hlc.c0
      have hst : (l'.m.st : Int) = 1 := by omega
      have hep : (l'.m.ep : Int) = 1 := by omega
      have I3 := Lib.hid i3
      have I4 := Lib.hid i4
      have I5 := Lib.hid i5
      have I6 := Lib.hid i6
      have I7 := Lib.hid i7
      have I8 := Lib.hid i8
      have N1 := Lib.hid n1
      have N4 := Lib.hid n4
      have HST := Lib.hid hst
      have HEP := Lib.hid hep
      clear i1 i2 i3 i4 i5 i6 i7 i8 n1 n2 n3 n4 hlc hst hep
      go_wp2_with fail
      refine (state_lm H3.out.mas).mono ?_
      rintro e y ⟨rfl, rfl⟩
      rw [HST.out]
      go_wp2_with fail
      refine (epoch_lm H3.out.mas).mono ?_
      rintro e z ⟨rfl, rfl⟩
      rw [HEP.out]
      clear d0
      go_upto_region 11 with fail
      rename World => x3
      have H4 := Lib.hid (H3.out.step (drew_below x3))
      obtain ⟨Ad, cd, Au, cu, hlc⟩ := H4.out.lc
      obtain ⟨sn, hsn⟩ : ∃ sn, l'.sent = sn := ⟨_, rfl⟩
      obtain ⟨cm, hcm⟩ : ∃ cm, l'.came = cm := ⟨_, rfl⟩
      obtain ⟨off, hoff⟩ : ∃ off, l'.offered = off := ⟨_, rfl⟩
      obtain ⟨hd, hhd⟩ : ∃ hd, l'.heard = hd := ⟨_, rfl⟩
      obtain ⟨ql, hql⟩ : ∃ ql, l'.m.q.length = ql := ⟨_, rfl⟩
      obtain ⟨dd, hdd⟩ : ∃ dd, sn - ql = dd := ⟨_, rfl⟩
      have c0 := hlc.c0
      have c4 := hlc.c4
      have c5 := hlc.c5
      have c6 := hlc.c6
      have c7 := hlc.c7
      rw [hsn] at c4
      rw [hcm] at c5
      rw [hoff] at c6
      rw [hhd] at c7
      have g1 : ¬ (sn : Int) < (cm : Int) := by have := I3.out; omega
      have g2 : ¬ (cm : Int) < (dd : Int) := by have := I5.out; omega
      have g3 : ¬ (dd : Int) + 1 < (cm : Int) := by have := I6.out; omega
      have g4 : ¬ (off : Int) < (hd : Int) := by have := I7.out; omega
      have g5 : ¬ (hd : Int) + 1 < (off : Int) := by have := I8.out; omega
      have w1 : IntKind.i64.wrap ((sn : Int) - (ql : Int)) = (dd : Int) := by rw [IntKind.wrap_i64]; have := I4.out; have := N1.out; omega
      have w2 : IntKind.i64.wrap ((dd : Int) + 1) = (dd : Int) + 1 := by rw [IntKind.wrap_i64]; have := N1.out; omega
      have w3 : IntKind.i64.wrap ((hd : Int) + 1) = (hd : Int) + 1 := by rw [IntKind.wrap_i64]; have := N4.out; omega
      have HQL := Lib.hid hql
      clear hsn hcm hoff hhd hql hdd hlc
      refine region_plan [(true, 0), (true, 1), (true, 2), (true, 3), (true, 4), (true, 5), (true, 6), (true, 7), (true, 8), (true, 9), (true, 10), (true, 11), (true, 12), (true, 13), (true, 14), (true, 15), (true, 16), (true, 17), (true, 20), (true, 21), (true, 22), (true, 23), (false, 18), (true, 19), (true, 24), (true, 25), (true, 26), (true, 27), (true, 28), (true, 29), (true, 30), (true, 31), (true, 32), (true, 33), (true, 34), (true, 35), (true, 36), (true, 37), (true, 38), (false, 39), (true, 40), (true, 41), (true, 42), (true, 43), (true, 44), (true, 45), (true, 46), (true, 47), (true, 48), (true, 49), (true, 50), (true, 51), (true, 52), (true, 53), (true, 54), (true, 55), (true, 56), (true, 57), (true, 58), (true, 59), (true, 60), (true, 61), (true, 62), (true, 63), (true, 64), (true, 65), (true, 66)]
        (fun y => y.cell? ⟨L, 0, none⟩ = some (.pointer (some ⟨D, 0, none⟩)) ∧ y.cell? ⟨L, 4, none⟩ = some (.int .i64 (sn : Int)) ∧ y.cell? ⟨L, 5, none⟩ = some (.int .i64 (cm : Int)) ∧ y.cell? ⟨L, 6, none⟩ = some (.int .i64 (off : Int)) ∧ y.cell? ⟨L, 7, none⟩ = some (.int .i64 (hd : Int))) (by kernel_rfl) (by kernel_rfl) (by kernel_rfl) rfl ⟨c0, c4, c5, c6, c7⟩ ?_
      have HC : Hid (x3.drew.cell? ⟨L, 0, none⟩ = some (.pointer (some ⟨D, 0, none⟩)) ∧ x3.drew.cell? ⟨L, 4, none⟩ = some (.int .i64 (sn : Int)) ∧ x3.drew.cell? ⟨L, 5, none⟩ = some (.int .i64 (cm : Int)) ∧ x3.drew.cell? ⟨L, 6, none⟩ = some (.int .i64 (off : Int)) ∧ x3.drew.cell? ⟨L, 7, none⟩ = some (.int .i64 (hd : Int))) := Lib.hid ⟨c0, c4, c5, c6, c7⟩
      clear c0 c4 c5 c6 c7 H3
      generalize x3.drew = x4 at *
      iterate 22 (first | (refine Plan.take (v := ?_) rfl (by rfl) ?_ ?_; rotate_left 1; (focus (intro x hx; go_simp <;> (first | with_reducible rfl | rw [if_pos (by omega)]))); simp only [Act.put, List.setIfInBounds_toArray, List.set_cons_zero, List.set_cons_succ]) | (refine Plan.skip rfl (by rfl) ?_; simp only [Act.put, List.setIfInBounds_toArray, List.set_cons_zero, List.set_cons_succ]))
      refine Plan.loud rfl (fun K hK => ?_)
      go_simp
      refine (len_lm H4.out.mas).mono ?_
      rintro e y ⟨rfl, rfl⟩
      rw [HQL.out]
      refine hK.out _ _ _ (fun x hx => hx) HC.out ?_
      clear hK K
      iterate 16 (first | (refine Plan.take (v := ?_) rfl (by rfl) ?_ ?_; rotate_left 1; (focus (intro x hx; go_simp <;> (first | with_reducible rfl | rw [if_pos (by omega)]))); simp only [Act.put, List.setIfInBounds_toArray, List.set_cons_zero, List.set_cons_succ]) | (refine Plan.skip rfl (by rfl) ?_; simp only [Act.put, List.setIfInBounds_toArray, List.set_cons_zero, List.set_cons_succ]))
      refine Plan.loud rfl (fun K hK => ?_)
      go_simp
      refine (len_lm H4.out.mas).mono ?_
      rintro e z ⟨rfl, rfl⟩
      rw [HQL.out]
      refine hK.out _ _ _ (fun x hx => hx) HC.out ?_
      clear hK K
      iterate 27 (first | (refine Plan.take (v := ?_) rfl (by rfl) ?_ ?_; rotate_left 1; (focus (intro x hx; go_simp <;> (first | with_reducible rfl | rw [if_pos (by omega)]))); simp only [Act.put, List.setIfInBounds_toArray, List.set_cons_zero, List.set_cons_succ]) | (refine Plan.skip rfl (by rfl) ?_; simp only [Act.put, List.setIfInBounds_toArray, List.set_cons_zero, List.set_cons_succ]))
      refine Plan.done ?_
      clear HC
      go_wp2
      go_roundw
      case rel => exact ⟨k + 1, l', by omega, by go_num, H4, HV3⟩
      case measure => simp [intOf]; omega
    · have hkn : n = k := by omega
      subst hkn
      have hex : (¬ (n : Int) < (n0 : Int)) ∨ ((n : Int) < (n0 : Int) ∧ ¬ (n : Int) < 400) := by have := HLS.out; omega
      rcases hex with hl1 | ⟨hl1, hl2⟩
      all_goals
        go_wp2
        go_ret
        exact ⟨rfl, H.out.below⟩

end Go.Proofs.Ytabedmkhhlmbkaa
