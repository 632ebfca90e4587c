/-
  lamplightlaw06.WireHeld, walked: true, whatever came in.
-/
import Derived.Test.YthpalepkilmpiaaWireL
namespace Go.Proofs.Ythpalepkilmpiaa
set_option linter.unusedVariables false
set_option linter.unusedSimpArgs false
open Go.RowKit

def first5 : List UInt8 := [102, 105, 114, 115, 116]
theorem putM_first (a : Nat) (h : a ≤ 16) : putM 20 [] ⟨3, (a : Int), 0, []⟩ first5 = ([⟨first5, a⟩], 0) := by
  show ([Rw.mk first5 (min (a : Int).toNat 16)], (0 : Int)) = _
  rw [show min (a : Int).toNat 16 = a by omega]
theorem put_first {w x : World} {D g : Nat} {qs : List Rw} {A : Option Addr} {a : Nat} (hw : Lw w D 20 [] x) (h : Holds x g A (bcs first5)) (ha : a ≤ 16) :
    Calls Try.prog 17 #[.pointer (some ⟨D, 0, none⟩), .slice A 5 5, .agg #[.int .i64 3, .int .i64 (a : Int), .int .u8 0, .slice none 0 0]] x fun e y => e = .returned (.int .i64 0) ∧ Lw w D 20 [⟨first5, a⟩] y ∧ Ft D [57, 61] x y := by
  have h1 := put_lw (f := ⟨3, (a : Int), 0, []⟩) (gB := 0) (AB := none) (bc := 0) (c := 5) hw (by simp) h rfl (by decide) (by decide) (by decide) (Holds.nil _ _ _) (Nat.le_refl _) (Nat.zero_le _)
  rw [putM_first a ha] at h1
  exact h1

set_option maxRecDepth 100000 in
set_option maxHeartbeats 3200000 in
theorem wireheld_walk (n0 : Int) (P : Option Addr) (n c : Nat) (ps : List (List UInt8)) (w : World) (hp : InParts w P ps) (hn : ps.length = n) (hc : n ≤ c) (hm : c ≤ 9223372036854775807) :
    Calls Try.prog 5 #[.int .i64 n0, .slice P n c] w fun e w' => e = .returned (.bool true) ∧ Below w.heap.size w w' := by
  obtain ⟨a, ha, hr, _⟩ := place_at n0 17 (by decide)
  rw [show ((17 : Nat) : Int) = 17 from rfl] at hr
  obtain ⟨m, hm10, hmn, hmin⟩ := min_of n 10 10 rfl
  have HP := Lib.hid hp
  have HN := Lib.hid hn
  have HMN := Lib.hid hmn
  clear hp hn hmn
  go_enter Try.func5, Try.ntmps5
  go_wp2_with fail
  refine (shown_on w).mono ?_
  rintro e x0 ⟨rfl, hb0⟩
  have HB0 := Lib.hid hb0
  clear hb0
  go_wp2_with fail
  refine (new_lw (w := w) (by decide) HB0.out).mono ?_
  rintro e x1 ⟨rfl, h1, _⟩
  have H1 := Lib.hid h1
  rw [show max (20 : Int) 1 = 20 from rfl] at H1
  clear h1 HB0
  generalize x0.heap.size = D at *
  have hcv := const_one x1 #[.int .u8 102, .int .u8 105, .int .u8 114, .int .u8 115, .int .u8 116] 5 5
  have HB1 := Lib.hid (new_below x1 (.cells #[.int .u8 102, .int .u8 105, .int .u8 114, .int .u8 115, .int .u8 116] 5 (5, 6)))
  have HH1 : Hid (Holds (x1.alloc (.cells #[.int .u8 102, .int .u8 105, .int .u8 114, .int .u8 115, .int .u8 116] 5 (5, 6))) x1.heap.size (some ⟨x1.heap.size, 0, none⟩) (bcs first5)) := Holds.of_row (cs := bcs first5) (heap_alloc_new x1 _)
  go_wp2_with fail
  clear hcv
  refine (put_first (qs := []) (H1.out.step HB1.out) HH1.out (by omega)).mono ?_
  rintro e x2 ⟨rfl, h2, _⟩
  have H2 := Lib.hid h2
  clear h2 H1 HB1 HH1
  go_wp2
  go_loopw [8] (fun i wr => ∃ k : Nat, k ≤ m ∧ i = .int .i64 k ∧ Hid (Lw w D 20 (⟨first5, a⟩ :: fq ps k) wr)) (fun i _ => m - (intOf i).toNat)
  case atStart => exact ⟨0, Nat.zero_le _, rfl, H2⟩
  case round =>
    clear H2
    obtain ⟨k, hk, rfl, H⟩ := hrel
    have HL : Hid ((fq ps k).length = k) := fq_length (by have := HMN.out; rw [HN.out]; omega)
    by_cases hlt : k < m
    · have i1 : (k : Int) < (m : Int) := by omega
      have i2 : (k : Int) < (n : Int) := by have := HMN.out; omega
      obtain ⟨p, hpk⟩ : ∃ p, ps[k]? = some p := ⟨_, List.getElem?_eq_getElem (by rw [HN.out]; omega)⟩
      obtain ⟨b, o, g, A, cp, rfl, hbw, hcell, hlc, hcm, hh⟩ := HP.out k p hpk
      have hcr : wr.cell? ⟨b, o + k, none⟩ = some (.slice A p.length cp) := (H.out.below.cell (p := ⟨b, o + k, none⟩) hbw).trans hcell
      have HH : Hid (Holds wr g A (bcs (p.take 200))) := by
        show Holds _ _ _ _
        rw [bcs_take]
        exact (hh.keep (F := []) (Ch.of_below H.out.below) (by simp)).take _
      have HPL : Hid ((p.take 200).length = min p.length 200) := by show _ = _; rw [List.length_take]; omega
      have HPK := Lib.hid hpk
      have HLC := Lib.hid hlc
      have HCM := Lib.hid hcm
      clear hcell hh hbw hpk hlc hcm
      generalize p.length = pl at *
      go_wp2_with fail
      refine (few_on HLC.out (by unfold maxLen; have := HCM.out; omega)).mono ?_
      rintro e x2 ⟨rfl, rfl⟩
      clear hcr
      go_wp2_with fail
      refine (put_pass H.out (by rw [List.length_cons, HL.out]; omega) HH.out HPL.out (by omega) (by have := HLC.out; omega) HCM.out).mono ?_
      rintro e x3 ⟨rfl, h3, _⟩
      rw [putM_pass, List.length_cons, HL.out, if_neg (by omega)] at h3 ⊢
      rw [List.cons_append, show (fq ps k ++ [⟨p.take 200, 0⟩] : List Rw) = fq ps (k + 1) from (fq_succ HPK.out).symm] at h3
      have H3 := Lib.hid h3
      clear h3 H HH HPL HLC HCM HL
      simp only
      go_wp2
      go_simp
      exact ⟨⟨k + 1, by omega, by omega, H3⟩, by simp [intOf]; omega⟩
    · have hkm : k = m := by omega
      subst hkm
      have i1 : ¬ (k : Int) < (k : Int) := by omega
      go_wp2
      go_loopw [9] (fun i wr => ∃ j : Nat, j ≤ a ∧ i = .int .i64 j ∧ Hid (Lw w D 20 (⟨first5, a - j⟩ :: fq ps k) wr)) (fun i _ => a - (intOf i).toNat)
      case atStart => exact ⟨0, Nat.zero_le _, rfl, H⟩
      case round =>
        clear H
        obtain ⟨j, hj, rfl, H⟩ := hrel
        by_cases hlt2 : j < a
        · have i2 : (j : Int) < (a : Int) := by omega
          have HT := Lib.hid (takeM_held (r := ⟨first5, a - j⟩) (fq ps k) (by show 0 < a - j; omega))
          have hsum : IntKind.i64.wrap ((k : Int) + 1) = (k : Int) + 1 := by rw [IntKind.wrap_i64]; omega
          go_wp2_with fail
          refine (take_lw H.out (by rw [List.length_cons, HL.out]; omega)).mono ?_
          rintro e x2 ⟨V, n', cv, vs, rfl, hr2, h2, _⟩
          rw [HT.out] at hr2 h2
          obtain rfl : 0 = n' := hr2.len
          have H2 : Hid (Lw w D 20 (⟨first5, a - (j + 1)⟩ :: fq ps k) x2) := h2
          clear h2 hr2 H
          go_wp2_with fail
          refine (len_lw H2.out).mono ?_
          rintro e x3 ⟨rfl, rfl⟩
          rw [List.length_cons, HL.out]
          go_wp2
          go_simp
          exact ⟨⟨j + 1, by omega, by omega, H2⟩, by simp [intOf]; omega⟩
        · have hja : j = a := by omega
          subst hja
          have i2 : ¬ (j : Int) < (j : Int) := by omega
          rw [Nat.sub_self] at H
          have HT : Hid (takeM (⟨first5, 0⟩ :: fq ps k) = (first5 :: (fq ps k).map (·.l), [])) := takeM_all (qs := ⟨first5, 0⟩ :: fq ps k) (by
            intro r hr
            rcases List.mem_cons.1 hr with rfl | hr
            · rfl
            · exact fq_free ps k r hr)
          have hsum : IntKind.i64.wrap ((k : Int) + 1) = (k : Int) + 1 := by rw [IntKind.wrap_i64]; omega
          go_wp2_with fail
          refine (take_lw H.out (by rw [List.length_cons, HL.out]; omega)).mono ?_
          rintro e x2 ⟨V, n', cv, vs, rfl, hr2, h2, _⟩
          rw [HT.out] at hr2 h2
          obtain rfl : k + 1 = n' := by rw [← hr2.len, List.length_cons, List.length_map, HL.out]
          have H2 := Lib.hid h2
          have HR2 := Lib.hid hr2
          obtain ⟨gv, Av, l, cl, rfl, _, _, _, hpl, hcl, _, hown⟩ := hr2.at 0 (by omega)
          simp at hpl
          subst hpl
          have hcv2 : (convert 28 9 (.slice Av first5.length cl)).run Try.prog x2 = .ok (.string ⟨#[102, 105, 114, 115, 116]⟩) x2 := convert_own (own_zero hown) rfl
          rw [show first5.length = 5 from rfl] at hcv2 hcl
          clear h2 hr2 H hown
          have i4 : (0 : Int) < (k : Int) + 1 := by omega
          go_wp2
          clear hcv2 hcl i4 i2 i1
          go_loopw [12] (fun i wr => ∃ q : Nat, q ≤ k ∧ i = .int .i64 q ∧ Hid (Below x2.heap.size x2 wr)) (fun i _ => k - (intOf i).toNat)
          case atStart => exact ⟨0, Nat.zero_le _, rfl, Lib.hid (Below.refl _ _)⟩
          case round =>
            obtain ⟨q, hq, rfl, HB⟩ := hrel
            by_cases hlt3 : q < k
            · have i3 : (q : Int) < (k : Int) := by omega
              have hbd := HB.out.trans ((drew_below wr).mono HB.out.size)
              have hwd := H2.out.below.trans (hbd.mono H2.out.below.size)
              obtain ⟨p, hpk⟩ : ∃ p, ps[q]? = some p := ⟨_, List.getElem?_eq_getElem (by have := HMN.out; rw [HN.out]; omega)⟩
              obtain ⟨b, o, g, A, cp, rfl, hbw, hcell, hlc, hcm, hh⟩ := HP.out q p hpk
              have hcr : wr.drew.cell? ⟨b, o + q, none⟩ = some (.slice A p.length cp) := (hwd.cell (p := ⟨b, o + q, none⟩) hbw).trans hcell
              have hcv1 : (convert 28 9 (.slice A (min p.length 200) cp)).run Try.prog wr.drew = .ok (.string ⟨(p.take 200).toArray⟩) wr.drew := by
                refine convert_holds (g := g) ?_ (by rw [List.length_take]; omega)
                rw [bcs_take]
                exact (hh.keep (F := []) (Ch.of_below hwd) (by simp)).take _
              obtain ⟨gv', Av', l, cl', hgv, _, _, _, hpl, hcl, _, hown⟩ := (HR2.out.step hbd).at (q + 1) (by omega)
              injection hgv with hgv
              injection hgv with hgv
              subst hgv
              rw [List.getElem?_cons_succ, fq_get hlt3 hpk] at hpl
              injection hpl with hpl
              have hcv2 : (convert 28 9 (.slice Av' l.length cl')).run Try.prog wr.drew = .ok (.string ⟨(p.take 200).toArray⟩) wr.drew := by
                rw [hpl]
                exact convert_own (own_zero hown) rfl
              have HLC := Lib.hid hlc
              have HCM := Lib.hid hcm
              have hqn : (q : Int) < (n : Int) := by have := HMN.out; omega
              have hqs : IntKind.i64.wrap ((q : Int) + 1) = (q : Int) + 1 := by rw [IntKind.wrap_i64]; omega
              have hqk : (q : Int) + 1 < (k : Int) + 1 := by omega
              clear hcell hh hbw hpk hlc hcm hown hbd hwd hpl
              generalize p.length = pl at *
              generalize l.length = ll at *
              go_upto_region 24 with fail
              refine region_plan [(true, 0), (true, 1), (true, 2), (true, 3), (true, 4), (true, 5), (true, 6), (true, 7), (true, 8), (true, 9), (false, 10), (true, 11), (true, 12)]
                (fun x => x.cell? ⟨b, o + q, none⟩ = some (.slice A pl cp) ∧ x.cell? ⟨gv, q + 1, none⟩ = some (.slice Av' ll cl') ∧ (convert 28 9 (.slice A (min pl 200) cp)).run Try.prog x = .ok (.string ⟨(p.take 200).toArray⟩) x ∧ (convert 28 9 (.slice Av' ll cl')).run Try.prog x = .ok (.string ⟨(p.take 200).toArray⟩) x) (by kernel_rfl) (by kernel_rfl) (by kernel_rfl) rfl ⟨hcr, hcl, hcv1, hcv2⟩ ?_
              have HAll := Lib.hid (And.intro hcr (And.intro hcl (And.intro hcv1 hcv2)))
              clear hcr hcl hcv1 hcv2
              iterate 10 (refine Plan.take (v := ?_) rfl (by rfl) ?_ ?_; rotate_left 1; (focus (intro x hx; go_simp <;> (first | with_reducible rfl | rw [if_pos (by omega)]))); simp only [Act.put, List.setIfInBounds_toArray, List.set_cons_zero, List.set_cons_succ])
              refine Plan.loud rfl (fun K hK => ?_)
              go_simp
              refine (few_on HLC.out (by unfold maxLen; have := HCM.out; omega)).mono ?_
              rintro e x4 ⟨rfl, rfl⟩
              refine hK.out _ _ _ (fun x hx => hx) HAll.out ?_
              clear hK K
              iterate 2 (refine Plan.take (v := ?_) rfl (by rfl) ?_ ?_; rotate_left 1; (focus (intro x hx; go_simp <;> (first | with_reducible rfl | rw [if_pos (by omega)]))); simp only [Act.put, List.setIfInBounds_toArray, List.set_cons_zero, List.set_cons_succ])
              refine Plan.done ?_
              go_wp2
              go_simp
              exact ⟨⟨q + 1, by omega, by omega, Lib.hid (HB.out.trans ((drew_below wr).mono HB.out.size))⟩, by simp [intOf]; omega⟩
            · have hqk : q = k := by omega
              subst hqk
              have H3 := Lib.hid (H2.out.step HB.out)
              go_wp2_with fail
              refine (len_lw H3.out).mono ?_
              rintro e x5 ⟨rfl, rfl⟩
              simp only [List.length_nil]
              go_wp2
              go_ret
              exact ⟨rfl, H3.out.below⟩

end Go.Proofs.Ythpalepkilmpiaa
