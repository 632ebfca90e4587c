/-
  lamplightlaw06.WireFull, walked: true, whatever came in.
-/
import Derived.Test.YthpalepkilmpiaaWireL
namespace Go.Proofs.Ythpalepkilmpiaa
set_option linter.unusedVariables false
set_option linter.unusedSimpArgs false
open Go.RowKit

set_option maxRecDepth 100000 in
set_option maxHeartbeats 3200000 in
theorem wirefull_walk (room : Int) (P : Option Addr) (n c : Nat) (ps : List (List UInt8)) (w : World) (hp : InParts w P ps) (hn : ps.length = n) (hc : n ≤ c) (hm : c ≤ 9223372036854775807) :
    Calls Try.prog 7 #[.int .i64 room, .slice P n c] w fun e w' => e = .returned (.bool true) ∧ Below w.heap.size w w' := by
  obtain ⟨a, ha, hr, _⟩ := place_at room 20 (by decide)
  rw [show ((20 : Nat) : Int) = 20 from rfl] at hr
  have HP := Lib.hid hp
  have HN := Lib.hid hn
  clear hp hn
  go_enter Try.func7, Try.ntmps7
  go_wp2_with fail
  refine (shown_on w).mono ?_
  rintro e x0 ⟨rfl, hb0⟩
  have HB0 := Lib.hid hb0
  clear hb0
  have ha20 : (a : Int) < 20 := by omega
  have hwr : IntKind.i64.wrap (1 + (a : Int)) = 1 + (a : Int) := by rw [IntKind.wrap_i64]; omega
  go_wp2_with fail
  refine (new_lw (w := w) (by omega) HB0.out).mono ?_
  rintro e x1 ⟨rfl, h1, _⟩
  have H1 := Lib.hid h1
  have hmax : max (1 + (a : Int)) 1 = 1 + (a : Int) := by omega
  rw [hmax] at H1
  clear h1 hmax hwr HB0
  generalize x0.heap.size = D at *
  go_wp2
  go_loopw [7, 8] (fun v i wr => ∃ k m : Nat, k ≤ n ∧ k ≤ 40 ∧ i = .int .i64 k ∧ v = .int .i64 m ∧ Hid (m = min k (a + 1)) ∧ Hid (Lw w D (1 + (a : Int)) (fq ps m) wr)) (fun _ i _ => n - (intOf i).toNat)
  case atStart => exact ⟨0, 0, Nat.zero_le _, Nat.zero_le _, rfl, rfl, by show _ = _; omega, H1⟩
  case round =>
    clear H1
    obtain ⟨k, m, hk, hk40, rfl, rfl, HKM, H⟩ := hrel
    have hmp : m ≤ ps.length := by have := HKM.out; rw [HN.out]; omega
    have HL := Lib.hid (fq_length hmp)
    have HMP := Lib.hid hmp
    clear hmp
    by_cases hlt : k < n ∧ k < 40
    · obtain ⟨hlt1, hlt2⟩ := hlt
      have i1 : (k : Int) < (n : Int) := by omega
      have i2 : (k : Int) < 40 := by omega
      obtain ⟨p, hpk⟩ : ∃ p, ps[k]? = some p := ⟨_, List.getElem?_eq_getElem (by rw [HN.out]; exact hlt1)⟩
      obtain ⟨b, o, g, A, cp, rfl, hbw, hcell, hlc, hcm, hh⟩ := HP.out k p hpk
      have hcr : wr.cell? ⟨b, o + k, none⟩ = some (.slice A p.length cp) := (H.out.below.cell (p := ⟨b, o + k, none⟩) hbw).trans hcell
      have HH : Hid (Holds wr g A (bcs (p.take 200))) := by
        show Holds _ _ _ _
        rw [bcs_take]
        exact (hh.keep (F := []) (Ch.of_below H.out.below) (by simp)).take _
      have HPL : Hid ((p.take 200).length = min p.length 200) := by show _ = _; rw [List.length_take]; omega
      have HPK := Lib.hid hpk
      have HLC := Lib.hid hlc
      have HCM := Lib.hid hcm
      clear hcell hh hbw hpk hlc hcm
      generalize p.length = pl at *
      go_wp2_with fail
      refine (few_on HLC.out (by unfold maxLen; have := HCM.out; omega)).mono ?_
      rintro e x2 ⟨rfl, rfl⟩
      clear hcr
      go_wp2_with fail
      refine (put_pass H.out (by have := HKM.out; rw [HL.out]; omega) HH.out HPL.out (by omega) (by have := HLC.out; omega) HCM.out).mono ?_
      rintro e x3 ⟨rfl, h3, _⟩
      rw [putM_pass, HL.out] at *
      by_cases hroom : k < a + 1
      · obtain rfl : m = k := by have := HKM.out; omega
        rw [if_neg (by omega)] at h3 ⊢
        rw [show (fq ps m ++ [⟨p.take 200, 0⟩] : List Rw) = fq ps (m + 1) from (fq_succ HPK.out).symm] at h3
        have H3 := Lib.hid h3
        have i3 : (m : Int) < 1 + (a : Int) := by omega
        clear h3 H HH HPL HLC HCM HKM HMP HL
        simp only
        go_wp2
        go_roundw
        case rel => exact ⟨m + 1, m + 1, by omega, by omega, by go_num, by go_num, by show _ = _; omega, H3⟩
        case measure => simp [intOf]; omega
      · obtain rfl : m = a + 1 := by have := HKM.out; omega
        rw [if_pos (by omega)] at h3 ⊢
        have H3 := Lib.hid h3
        have i3 : ¬ (k : Int) < 1 + (a : Int) := by omega
        clear h3 H HH HPL HLC HCM HKM HMP HL
        simp only
        go_wp2
        go_roundw
        case rel => exact ⟨k + 1, a + 1, by omega, by omega, by go_num, by go_num, by show _ = _; omega, H3⟩
        case measure => simp [intOf]; omega
    · have hcase : (¬ (k : Int) < (n : Int)) ∨ ((k : Int) < (n : Int) ∧ ¬ (k : Int) < 40) := by omega
      have HT := Lib.hid (takeM_all (fq_free ps m))
      have hm20 : m ≤ 20 := by have := HKM.out; omega
      rcases hcase with i1 | ⟨i1, i2⟩
      all_goals
        go_wp2_with fail
        refine (take_lw H.out (by rw [HL.out]; omega)).mono ?_
        rintro e x2 ⟨V, n', cv, vs, rfl, hr2, h2, _⟩
        rw [HT.out] at hr2 h2
        obtain rfl : n' = m := by rw [← hr2.len, List.length_map, HL.out]
        have H2 := Lib.hid h2
        have HR2 := Lib.hid hr2
        clear h2 hr2 H
        go_wp2_with fail
        refine (len_lw H2.out).mono ?_
        rintro e x3 ⟨rfl, rfl⟩
        simp only [List.length_nil]
        go_wp2
        clear i1
        go_loopw [11] (fun i wr => ∃ j : Nat, j ≤ n' ∧ i = .int .i64 j ∧ Hid (Below x3.heap.size x3 wr)) (fun i _ => n' - (intOf i).toNat)
        case atStart => exact ⟨0, Nat.zero_le _, rfl, Lib.hid (Below.refl _ _)⟩
        case round =>
          obtain ⟨j, hj, rfl, HB⟩ := hrel
          by_cases hlt2 : j < n'
          · have i3 : (j : Int) < (n' : Int) := by omega
            have hbd := HB.out.trans ((drew_below wr).mono HB.out.size)
            have hwd := H2.out.below.trans (hbd.mono H2.out.below.size)
            obtain ⟨p, hpk⟩ : ∃ p, ps[j]? = some p := ⟨_, List.getElem?_eq_getElem (by have := HMP.out; omega)⟩
            obtain ⟨b, o, g, A, cp, rfl, hbw, hcell, hlc, hcm, hh⟩ := HP.out j p hpk
            have hcr : wr.drew.cell? ⟨b, o + j, none⟩ = some (.slice A p.length cp) := (hwd.cell (p := ⟨b, o + j, none⟩) hbw).trans hcell
            have hcv1 : (convert 28 9 (.slice A (min p.length 200) cp)).run Try.prog wr.drew = .ok (.string ⟨(p.take 200).toArray⟩) wr.drew := by
              refine convert_holds (g := g) ?_ (by rw [List.length_take]; omega)
              rw [bcs_take]
              exact (hh.keep (F := []) (Ch.of_below hwd) (by simp)).take _
            obtain ⟨gv, Av, l, cl, rfl, _, _, _, hpl, hcl, _, hown⟩ := (HR2.out.step hbd).at j hlt2
            rw [fq_get hlt2 hpk] at hpl
            injection hpl with hpl
            have hcv2 : (convert 28 9 (.slice Av l.length cl)).run Try.prog wr.drew = .ok (.string ⟨(p.take 200).toArray⟩) wr.drew := by
              rw [hpl]
              exact convert_own (own_zero hown) rfl
            have HLC := Lib.hid hlc
            have HCM := Lib.hid hcm
            have hjn : (j : Int) < (n : Int) := by have := HKM.out; omega
            clear hcell hh hbw hpk hlc hcm hown hbd hwd hpl
            generalize p.length = pl at *
            generalize l.length = ll at *
            go_upto_region 21 with fail
            refine region_plan [(true, 0), (true, 1), (true, 2), (true, 3), (true, 4), (true, 5), (true, 6), (true, 7), (true, 8), (false, 9), (true, 10), (true, 11)]
              (fun x => x.cell? ⟨b, o + j, none⟩ = some (.slice A pl cp) ∧ x.cell? ⟨gv, j, none⟩ = some (.slice Av ll cl) ∧ (convert 28 9 (.slice A (min pl 200) cp)).run Try.prog x = .ok (.string ⟨(p.take 200).toArray⟩) x ∧ (convert 28 9 (.slice Av ll cl)).run Try.prog x = .ok (.string ⟨(p.take 200).toArray⟩) x) (by kernel_rfl) (by kernel_rfl) (by kernel_rfl) rfl ⟨hcr, hcl, hcv1, hcv2⟩ ?_
            have HAll := Lib.hid (And.intro hcr (And.intro hcl (And.intro hcv1 hcv2)))
            clear hcr hcl hcv1 hcv2
            iterate 9 (refine Plan.take (v := ?_) rfl (by rfl) ?_ ?_; rotate_left 1; (focus (intro x hx; go_simp <;> (first | with_reducible rfl | rw [if_pos (by omega)]))); simp only [Act.put, List.setIfInBounds_toArray, List.set_cons_zero, List.set_cons_succ])
            refine Plan.loud rfl (fun K hK => ?_)
            go_simp
            refine (few_on HLC.out (by unfold maxLen; have := HCM.out; omega)).mono ?_
            rintro e x4 ⟨rfl, rfl⟩
            refine hK.out _ _ _ (fun x hx => hx) HAll.out ?_
            clear hK K
            iterate 2 (refine Plan.take (v := ?_) rfl (by rfl) ?_ ?_; rotate_left 1; (focus (intro x hx; go_simp <;> (first | with_reducible rfl | rw [if_pos (by omega)]))); simp only [Act.put, List.setIfInBounds_toArray, List.set_cons_zero, List.set_cons_succ])
            refine Plan.done ?_
            go_wp2
            go_simp
            exact ⟨⟨j + 1, by omega, by omega, Lib.hid (HB.out.trans ((drew_below wr).mono HB.out.size))⟩, by simp [intOf]; omega⟩
          · have hjm : j = n' := by omega
            subst hjm
            go_wp2
            go_ret
            exact ⟨rfl, H2.out.below.trans (HB.out.mono H2.out.below.size)⟩

end Go.Proofs.Ythpalepkilmpiaa
