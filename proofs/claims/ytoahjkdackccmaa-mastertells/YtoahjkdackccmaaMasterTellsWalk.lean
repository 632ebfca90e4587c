/-
  lamplightlaw07.MasterTells, walked: true, whatever came in.
-/
import Derived.Test.YtoahjkdackccmaaMasO
import Derived.Test.YtoahjkdackccmaaMasP
import Derived.Deep.DeepCutAuto
namespace Go.Proofs.Ytoahjkdackccmaa
set_option linter.unusedVariables false
set_option linter.unusedSimpArgs false
open Go.RowKit

set_option maxRecDepth 100000 in
set_option maxHeartbeats 12800000 in
theorem mastertells_walk (a : Nat) (t : Int) (P : Option Addr) (n0 c0 : Nat) (ss : List St7) (w : World) (ha : a < 256) (ht : -9223372036854775808 ≤ t ∧ t ≤ 9223372036854775807) (hp : StepsAt w P ss) (hn : ss.length = n0) (hc : n0 ≤ c0) (hm : c0 ≤ 9223372036854775807) :
    Calls Try.prog 3 #[.int .u8 (a : Int), .int .i64 t, .slice P n0 c0] w fun e w' => e = .returned (.bool true) ∧ Below w.heap.size w w' := by
  obtain ⟨n, hn0, hn300, hlast⟩ : ∃ n, n ≤ n0 ∧ n ≤ 300 ∧ (n = n0 ∨ n = 300) := ⟨min n0 300, by omega, by omega, by omega⟩
  have HL := Lib.hid hn
  have HP := Lib.hid hp
  have HA := Lib.hid ha
  have HT := Lib.hid ht
  have HLS := Lib.hid hlast
  clear hp hn ha hlast ht
  go_enter Try.func3, Try.ntmps3
  go_wp2_with fail
  refine (shown_on w).mono ?_
  rintro e x0 ⟨rfl, hb0⟩
  have HB0 := Lib.hid hb0
  clear hb0
  go_wp2_with fail
  refine (new_lm (w := w) HA.out HT.out.2 HB0.out).mono ?_
  rintro e x1 ⟨rfl, h1, _⟩
  have H0 := Lib.hid h1
  clear h1 HB0
  generalize x0.heap.size = D at *
  go_wp2_with fail
  refine refnew_on.mono ?_
  rintro e x2 ⟨rfl, h2, hb2⟩
  have H1 := Lib.hid (H0.out.step hb2)
  have HR1 := Lib.hid h2
  have HWR : Hid (w.heap.size ≤ x1.heap.size) := Lib.hid H0.out.below.size
  clear h2 hb2 H0
  generalize x1.heap.size = R at *
  generalize newM a t = m0 at *
  go_wp2
  go_loopw [10] (fun i wr => ∃ (k : Nat) (m : Ma), k ≤ n ∧ i = .int .i64 k ∧ Hid (Lm w D k m wr) ∧ Hid (Rm wr R R m)) (fun i _ => n - (intOf i).toNat)
  case atStart => exact ⟨0, m0, Nat.zero_le _, rfl, H1, HR1⟩
  case round =>
    clear H1 HR1
    obtain ⟨k, m, hk, rfl, H, HR⟩ := hrel
    by_cases hlt : k < n
    · have hlt1 : (k : Int) < (n0 : Int) := by omega
      have hlt2 : (k : Int) < 300 := by omega
      have hkl : k < ss.length := by rw [HL.out]; omega
      obtain ⟨b, o, g, A, c, rfl, hsc, -, hhold, hbc, hcm⟩ := HP.out.at k hkl
      generalize (ss[k]'hkl) = s at *
      have HSC := Lib.hid (hsc.step H.out.below)
      have HHO : Hid (Holds w g A (bcs (s.f.b.take 40))) := by show Holds _ _ _ _; rw [bcs_take]; exact hhold.take 40
      have HBC := Lib.hid hbc
      have HCM := Lib.hid hcm
      obtain ⟨sk, hsk⟩ : ∃ sk, s.k = sk := ⟨_, rfl⟩
      have e0 := HSC.out.c0
      have e1 := HSC.out.c1
      have e2 := HSC.out.c2
      have e3 := HSC.out.c3
      have e4 := HSC.out.c4
      have e5 := HSC.out.c5
      have e6 := HSC.out.c6
      have e7 := HSC.out.c7
      rw [hsk] at e0
      have HSK := Lib.hid hsk
      clear hsc hhold hbc hcm hsk
      go_wp2_with fail
      have hst : stepc s (.slice A s.f.b.length c) = #[.int .i64 sk, .int .u8 (s.f.a : Int), .int .u8 (s.f.k : Int), .int .u8 (s.f.s : Int), .int .u8 (s.f.q : Int), .int .u8 (s.f.c : Int), .slice A s.f.b.length c, .bool s.own] := by rw [← HSK.out]
      rw [← hst]
      refine (frame_on (s := s) (a := a) H.out HBC.out HCM.out).mono ?_
      rintro e x3 ⟨rfl, h3, hb3⟩
      rw [hst]
      clear hst
      have HSC3 := Lib.hid (HSC.out.step hb3)
      have HFB := Lib.hid (frM_b s a m)
      have HFL := Lib.hid (frM_len s a m)
      generalize frM s a m = F at *
      have hb4 := new_below x3 (.cells #[.int .u8 (F.a : Int), .int .u8 (F.k : Int), .int .u8 (F.s : Int), .int .u8 (F.q : Int), .int .u8 (F.c : Int), .slice A F.b.length c] 30)
      have HFX : Hid (Fx (x3.alloc (.cells #[.int .u8 (F.a : Int), .int .u8 (F.k : Int), .int .u8 (F.s : Int), .int .u8 (F.q : Int), .int .u8 (F.c : Int), .slice A F.b.length c] 30)) x3.heap.size F (.slice A F.b.length c)) := heap_alloc_new x3 _
      have H4 := Lib.hid (h3.step hb4)
      have HR4 := Lib.hid ((HR.out.step hb3).step hb4)
      have HC4 := Lib.hid (HSC3.out.step hb4)
      have e0 := HC4.out.c0
      rw [HSK.out] at e0
      clear e1 e2 e3 e4 e5 e6 e7 h3 hb3 hb4 HSC HSC3 HC4 H HR HSK
      go_upto_block 2 with fail
      generalize x3.alloc (.cells #[.int .u8 (F.a : Int), .int .u8 (F.k : Int), .int .u8 (F.s : Int), .int .u8 (F.q : Int), .int .u8 (F.c : Int), .slice A F.b.length c] 30) = x4 at *
      generalize x3.heap.size = G at *
      have HHF : Hid (Holds w g A (bcs F.b)) := by show Holds _ _ _ _; rw [HFB.out]; exact HHO.out
      have HHB : Hid (Hb x4 D A F.b) := Lib.hid (Hb.of_arg HHF.out H4.out.below H4.out.le)
      clear e0 HHO HFB HBC HCM
      go_cut [12] (fun v y => v = .bool true ∧ ∃ m', Hid (Lm w D (k + 1) m' y) ∧ Hid (Rm y R R m'))
      case first =>
        have HSF : Hid (∀ y, Ft D [62, 28] x4 y → Below w.heap.size w y → y.cell? ⟨G, 5, none⟩ = some (.slice A F.b.length c) ∧ (convert 28 9 (.slice A F.b.length c)).run Try.prog y = .ok (.string ⟨F.b.toArray⟩) y) := by
          intro y h1 h2
          exact ⟨(HFX.out.ft h1 (by decide)).fc.c5, convert_holds (HHF.out.keep (F := []) (Ch.of_below h2) (by simp)) rfl⟩
        have r0 := HFX.out.fc.c0
        have r1 := HFX.out.fc.c1
        have r2 := HFX.out.fc.c2
        have r3 := HFX.out.fc.c3
        have r4 := HFX.out.fc.c4
        have r5 := HFX.out.fc.c5
        by_cases k0 : sk = 0 ∨ sk = 1
        · rcases k0 with rfl | rfl
          · go_upto_region 14 with fail
            have hd := drew_below x4
            have H5 := Lib.hid (H4.out.step hd)
            have HR5 := Lib.hid (HR4.out.step hd)
            have HHB5 := Lib.hid (HHB.out.step hd)
            have HD5 : Hid (Ft D [62, 28] x4 x4.drew) := Ft.of_below hd
            refine region_plan [(true, 0), (true, 1), (true, 2), (true, 4), (true, 5), (true, 6), (true, 7), (false, 3), (false, 8), (true, 9), (true, 10)]
              (fun y => y.cell? ⟨G, 5, none⟩ = some (.slice A F.b.length c) ∧ (convert 28 9 (.slice A F.b.length c)).run Try.prog y = .ok (.string ⟨F.b.toArray⟩) y) (by kernel_rfl) (by kernel_rfl) (by kernel_rfl) rfl (HSF.out _ HD5.out H5.out.below) ?_
            clear hd H4 HR4 HHB r0 r1 r2 r3 r4 r5
            generalize x4.drew = x5 at *
            iterate 7 (refine Plan.take (v := ?_) rfl (by rfl) ?_ ?_; rotate_left 1; (focus (intro x hx; go_simp <;> (first | with_reducible rfl | rw [if_pos (by omega)]))); simp only [Act.put, List.setIfInBounds_toArray, List.set_cons_zero, List.set_cons_succ])
            refine Plan.loud rfl (fun K hK => ?_)
            go_simp
            refine (send_lm H5.out HHB5.out rfl).mono ?_
            rintro e x6 ⟨rfl, h6, hf6⟩
            have HR6 := Lib.hid (HR5.out.ft hf6 (by decide) (by decide))
            have H6 := Lib.hid h6
            have hs6 := HSF.out _ (HD5.out.trans hf6) H6.out.below
            refine hK.out _ _ _ (fun x hx => hx) hs6 ?_
            have HD6 := Lib.hid (HD5.out.trans hf6)
            clear hK K h6 hf6 hs6 HR5
            refine Plan.loud rfl (fun K hK => ?_)
            go_simp
            refine (refsend_on (l := F.b) HR6.out H5.out.ok (Nat.le_of_lt HR6.out.lt) (by have := HFL.out; omega)).mono ?_
            rintro e x7 ⟨rfl, h7, hf7⟩
            have HR7 := Lib.hid h7
            have H7 : Hid (Lm w D (k + 1) (sendM m F.b).1 x7) := (H6.out.ft hf7 HWR.out (by decide) (by decide) (by decide)).more (Nat.le_succ _)
            have hs7 : x7.cell? ⟨G, 5, none⟩ = some (.slice A F.b.length c) ∧ (convert 28 9 (.slice A F.b.length c)).run Try.prog x7 = .ok (.string ⟨F.b.toArray⟩) x7 := ⟨((HFX.out.ft HD6.out (by decide)).ft hf7 (by decide)).fc.c5, convert_holds (HHF.out.keep (F := []) (Ch.of_below H7.out.below) (by simp)) rfl⟩
            refine hK.out _ _ _ (fun x hx => hx) hs7 ?_
            clear hK K h7 hf7 hs7 H6 HR6 H5
            generalize (sendM m F.b).1 = m' at *
            generalize (sendM m F.b).2 = er at *
            iterate 2 (refine Plan.take (v := ?_) rfl (by rfl) ?_ ?_; rotate_left 1; (focus (intro x hx; go_simp <;> (first | with_reducible rfl | rw [if_pos (by omega)]))); simp only [Act.put, List.setIfInBounds_toArray, List.set_cons_zero, List.set_cons_succ])
            refine Plan.done ?_
            go_wp2
            go_meet
            case rel => exact ⟨rfl, m', H7, HR7⟩
          · go_upto_region 14 with fail
            have hd := drew_below x4
            have H5 := Lib.hid (H4.out.step hd)
            have HR5 := Lib.hid (HR4.out.step hd)
            have HHB5 := Lib.hid (HHB.out.step hd)
            have HD5 : Hid (Ft D [62, 28] x4 x4.drew) := Ft.of_below hd
            refine region_plan [(true, 0), (true, 1), (true, 2), (true, 4), (true, 5), (true, 6), (true, 7), (false, 3), (false, 8), (true, 9), (true, 10)]
              (fun y => y.cell? ⟨G, 5, none⟩ = some (.slice A F.b.length c) ∧ (convert 28 9 (.slice A F.b.length c)).run Try.prog y = .ok (.string ⟨F.b.toArray⟩) y) (by kernel_rfl) (by kernel_rfl) (by kernel_rfl) rfl (HSF.out _ HD5.out H5.out.below) ?_
            clear hd H4 HR4 HHB r0 r1 r2 r3 r4 r5
            generalize x4.drew = x5 at *
            iterate 7 (refine Plan.take (v := ?_) rfl (by rfl) ?_ ?_; rotate_left 1; (focus (intro x hx; go_simp <;> (first | with_reducible rfl | rw [if_pos (by omega)]))); simp only [Act.put, List.setIfInBounds_toArray, List.set_cons_zero, List.set_cons_succ])
            refine Plan.loud rfl (fun K hK => ?_)
            go_simp
            refine (send_lm H5.out HHB5.out rfl).mono ?_
            rintro e x6 ⟨rfl, h6, hf6⟩
            have HR6 := Lib.hid (HR5.out.ft hf6 (by decide) (by decide))
            have H6 := Lib.hid h6
            have hs6 := HSF.out _ (HD5.out.trans hf6) H6.out.below
            refine hK.out _ _ _ (fun x hx => hx) hs6 ?_
            have HD6 := Lib.hid (HD5.out.trans hf6)
            clear hK K h6 hf6 hs6 HR5
            refine Plan.loud rfl (fun K hK => ?_)
            go_simp
            refine (refsend_on (l := F.b) HR6.out H5.out.ok (Nat.le_of_lt HR6.out.lt) (by have := HFL.out; omega)).mono ?_
            rintro e x7 ⟨rfl, h7, hf7⟩
            have HR7 := Lib.hid h7
            have H7 : Hid (Lm w D (k + 1) (sendM m F.b).1 x7) := (H6.out.ft hf7 HWR.out (by decide) (by decide) (by decide)).more (Nat.le_succ _)
            have hs7 : x7.cell? ⟨G, 5, none⟩ = some (.slice A F.b.length c) ∧ (convert 28 9 (.slice A F.b.length c)).run Try.prog x7 = .ok (.string ⟨F.b.toArray⟩) x7 := ⟨((HFX.out.ft HD6.out (by decide)).ft hf7 (by decide)).fc.c5, convert_holds (HHF.out.keep (F := []) (Ch.of_below H7.out.below) (by simp)) rfl⟩
            refine hK.out _ _ _ (fun x hx => hx) hs7 ?_
            clear hK K h7 hf7 hs7 H6 HR6 H5
            generalize (sendM m F.b).1 = m' at *
            generalize (sendM m F.b).2 = er at *
            iterate 2 (refine Plan.take (v := ?_) rfl (by rfl) ?_ ?_; rotate_left 1; (focus (intro x hx; go_simp <;> (first | with_reducible rfl | rw [if_pos (by omega)]))); simp only [Act.put, List.setIfInBounds_toArray, List.set_cons_zero, List.set_cons_succ])
            refine Plan.done ?_
            go_wp2
            go_meet
            case rel => exact ⟨rfl, m', H7, HR7⟩
        · by_cases k1 : sk = 2 ∨ sk = 3 ∨ sk = 4 ∨ sk = 5
          · rcases k1 with rfl | rfl | rfl | rfl
            · go_wp2_with fail
              refine (heard_lm (f := F) H4.out (by omega) HHB.out (by have := HFL.out; omega)).mono ?_
              rintro e x5 ⟨A5, c5, rfl, ho5, h5, hf5⟩
              have H5 := Lib.hid h5
              have HO5 := Lib.hid (own_zero ho5)
              have HR5 := Lib.hid (HR4.out.ft hf5 (by decide) (by decide))
              have HFX5 := Lib.hid (HFX.out.ft hf5 (by decide))
              obtain ⟨mm, hmm⟩ : ∃ mm, heardM m F = mm := ⟨_, rfl⟩
              rw [hmm] at H5 HO5 ⊢
              have HMM := Lib.hid hmm
              clear ho5 h5 hf5 r0 r1 r2 r3 r4 r5 hmm
              have r0 := HFX5.out.fc.c0
              have r1 := HFX5.out.fc.c1
              have r2 := HFX5.out.fc.c2
              have r3 := HFX5.out.fc.c3
              have r4 := HFX5.out.fc.c4
              have r5 := HFX5.out.fc.c5
              go_wp2_with fail
              refine (of_on (f := F) (HHF.out.keep (F := []) (Ch.of_below H5.out.below) (by simp)) rfl).mono ?_
              rintro e x6 ⟨rfl, hb6⟩
              have H6 := Lib.hid (H5.out.step hb6)
              have HR6 := Lib.hid (HR5.out.step hb6)
              have HO6 := Lib.hid (own_ft (B := 0) (T := []) HO5.out (Ft.of_below hb6) (by simp))
              clear hb6 H5 HR5 HO5 r0 r1 r2 r3 r4 r5 HFX5
              go_wp2_with fail
              refine (refheard_on (f := F) HR6.out H4.out.ok (by omega)).mono ?_
              rw [HMM.out]
              rintro e x7 ⟨rfl, h7, hf7⟩
              have HR7 := Lib.hid h7
              have H7 : Hid (Lm w D (k + 1) mm.1 x7) := H6.out.ft hf7 HWR.out (by decide) (by decide) (by decide)
              have k7 := convert_own (own_ft HO6.out hf7 (by decide)) rfl
              clear h7 hf7 H6 HR6 HO6 HMM
              obtain ⟨m', ol, ob⟩ := mm
              simp only at H7 HR7 k7 ⊢
              go_wp2
              go_meet
              case rel => exact ⟨rfl, m', H7, HR7⟩
            · go_wp2_with fail
              refine (heard_lm (f := F) H4.out (by omega) HHB.out (by have := HFL.out; omega)).mono ?_
              rintro e x5 ⟨A5, c5, rfl, ho5, h5, hf5⟩
              have H5 := Lib.hid h5
              have HO5 := Lib.hid (own_zero ho5)
              have HR5 := Lib.hid (HR4.out.ft hf5 (by decide) (by decide))
              have HFX5 := Lib.hid (HFX.out.ft hf5 (by decide))
              obtain ⟨mm, hmm⟩ : ∃ mm, heardM m F = mm := ⟨_, rfl⟩
              rw [hmm] at H5 HO5 ⊢
              have HMM := Lib.hid hmm
              clear ho5 h5 hf5 r0 r1 r2 r3 r4 r5 hmm
              have r0 := HFX5.out.fc.c0
              have r1 := HFX5.out.fc.c1
              have r2 := HFX5.out.fc.c2
              have r3 := HFX5.out.fc.c3
              have r4 := HFX5.out.fc.c4
              have r5 := HFX5.out.fc.c5
              go_wp2_with fail
              refine (of_on (f := F) (HHF.out.keep (F := []) (Ch.of_below H5.out.below) (by simp)) rfl).mono ?_
              rintro e x6 ⟨rfl, hb6⟩
              have H6 := Lib.hid (H5.out.step hb6)
              have HR6 := Lib.hid (HR5.out.step hb6)
              have HO6 := Lib.hid (own_ft (B := 0) (T := []) HO5.out (Ft.of_below hb6) (by simp))
              clear hb6 H5 HR5 HO5 r0 r1 r2 r3 r4 r5 HFX5
              go_wp2_with fail
              refine (refheard_on (f := F) HR6.out H4.out.ok (by omega)).mono ?_
              rw [HMM.out]
              rintro e x7 ⟨rfl, h7, hf7⟩
              have HR7 := Lib.hid h7
              have H7 : Hid (Lm w D (k + 1) mm.1 x7) := H6.out.ft hf7 HWR.out (by decide) (by decide) (by decide)
              have k7 := convert_own (own_ft HO6.out hf7 (by decide)) rfl
              clear h7 hf7 H6 HR6 HO6 HMM
              obtain ⟨m', ol, ob⟩ := mm
              simp only at H7 HR7 k7 ⊢
              go_wp2
              go_meet
              case rel => exact ⟨rfl, m', H7, HR7⟩
            · go_wp2_with fail
              refine (heard_lm (f := F) H4.out (by omega) HHB.out (by have := HFL.out; omega)).mono ?_
              rintro e x5 ⟨A5, c5, rfl, ho5, h5, hf5⟩
              have H5 := Lib.hid h5
              have HO5 := Lib.hid (own_zero ho5)
              have HR5 := Lib.hid (HR4.out.ft hf5 (by decide) (by decide))
              have HFX5 := Lib.hid (HFX.out.ft hf5 (by decide))
              obtain ⟨mm, hmm⟩ : ∃ mm, heardM m F = mm := ⟨_, rfl⟩
              rw [hmm] at H5 HO5 ⊢
              have HMM := Lib.hid hmm
              clear ho5 h5 hf5 r0 r1 r2 r3 r4 r5 hmm
              have r0 := HFX5.out.fc.c0
              have r1 := HFX5.out.fc.c1
              have r2 := HFX5.out.fc.c2
              have r3 := HFX5.out.fc.c3
              have r4 := HFX5.out.fc.c4
              have r5 := HFX5.out.fc.c5
              go_wp2_with fail
              refine (of_on (f := F) (HHF.out.keep (F := []) (Ch.of_below H5.out.below) (by simp)) rfl).mono ?_
              rintro e x6 ⟨rfl, hb6⟩
              have H6 := Lib.hid (H5.out.step hb6)
              have HR6 := Lib.hid (HR5.out.step hb6)
              have HO6 := Lib.hid (own_ft (B := 0) (T := []) HO5.out (Ft.of_below hb6) (by simp))
              clear hb6 H5 HR5 HO5 r0 r1 r2 r3 r4 r5 HFX5
              go_wp2_with fail
              refine (refheard_on (f := F) HR6.out H4.out.ok (by omega)).mono ?_
              rw [HMM.out]
              rintro e x7 ⟨rfl, h7, hf7⟩
              have HR7 := Lib.hid h7
              have H7 : Hid (Lm w D (k + 1) mm.1 x7) := H6.out.ft hf7 HWR.out (by decide) (by decide) (by decide)
              have k7 := convert_own (own_ft HO6.out hf7 (by decide)) rfl
              clear h7 hf7 H6 HR6 HO6 HMM
              obtain ⟨m', ol, ob⟩ := mm
              simp only at H7 HR7 k7 ⊢
              go_wp2
              go_meet
              case rel => exact ⟨rfl, m', H7, HR7⟩
            · go_wp2_with fail
              refine (heard_lm (f := F) H4.out (by omega) HHB.out (by have := HFL.out; omega)).mono ?_
              rintro e x5 ⟨A5, c5, rfl, ho5, h5, hf5⟩
              have H5 := Lib.hid h5
              have HO5 := Lib.hid (own_zero ho5)
              have HR5 := Lib.hid (HR4.out.ft hf5 (by decide) (by decide))
              have HFX5 := Lib.hid (HFX.out.ft hf5 (by decide))
              obtain ⟨mm, hmm⟩ : ∃ mm, heardM m F = mm := ⟨_, rfl⟩
              rw [hmm] at H5 HO5 ⊢
              have HMM := Lib.hid hmm
              clear ho5 h5 hf5 r0 r1 r2 r3 r4 r5 hmm
              have r0 := HFX5.out.fc.c0
              have r1 := HFX5.out.fc.c1
              have r2 := HFX5.out.fc.c2
              have r3 := HFX5.out.fc.c3
              have r4 := HFX5.out.fc.c4
              have r5 := HFX5.out.fc.c5
              go_wp2_with fail
              refine (of_on (f := F) (HHF.out.keep (F := []) (Ch.of_below H5.out.below) (by simp)) rfl).mono ?_
              rintro e x6 ⟨rfl, hb6⟩
              have H6 := Lib.hid (H5.out.step hb6)
              have HR6 := Lib.hid (HR5.out.step hb6)
              have HO6 := Lib.hid (own_ft (B := 0) (T := []) HO5.out (Ft.of_below hb6) (by simp))
              clear hb6 H5 HR5 HO5 r0 r1 r2 r3 r4 r5 HFX5
              go_wp2_with fail
              refine (refheard_on (f := F) HR6.out H4.out.ok (by omega)).mono ?_
              rw [HMM.out]
              rintro e x7 ⟨rfl, h7, hf7⟩
              have HR7 := Lib.hid h7
              have H7 : Hid (Lm w D (k + 1) mm.1 x7) := H6.out.ft hf7 HWR.out (by decide) (by decide) (by decide)
              have k7 := convert_own (own_ft HO6.out hf7 (by decide)) rfl
              clear h7 hf7 H6 HR6 HO6 HMM
              obtain ⟨m', ol, ob⟩ := mm
              simp only at H7 HR7 k7 ⊢
              go_wp2
              go_meet
              case rel => exact ⟨rfl, m', H7, HR7⟩
          · by_cases k2 : sk = 6
            · subst k2
              go_wp2_with fail
              refine (missed_lm H4.out (by omega)).mono ?_
              rintro e x5 ⟨rfl, h5, hf5⟩
              have H5 := Lib.hid h5
              have HR5 := Lib.hid (HR4.out.ft hf5 (by decide) (by decide))
              clear h5 hf5 r0 r1 r2 r3 r4 r5
              go_wp2_with fail
              refine (refmissed_on HR5.out H4.out.ok (by omega)).mono ?_
              rintro e x6 ⟨rfl, h6, hf6⟩
              have HR6 := Lib.hid h6
              have H6 : Hid (Lm w D (k + 1) (missedM m).1 x6) := H5.out.ft hf6 HWR.out (by decide) (by decide) (by decide)
              clear h6 hf6 H5 HR5
              generalize (missedM m).1 = m' at *
              generalize (missedM m).2 = er at *
              go_wp2
              go_meet
              case rel => exact ⟨rfl, m', H6, HR6⟩
            · have q0 : (sk == 0) = false := by simp; omega
              have q1 : (sk == 1) = false := by simp; omega
              have q2 : (sk == 2) = false := by simp; omega
              have q3 : (sk == 3) = false := by simp; omega
              have q4 : (sk == 4) = false := by simp; omega
              have q5 : (sk == 5) = false := by simp; omega
              have q6 : (sk == 6) = false := by simp; omega
              have H5 : Hid (Lm w D (k + 1) m x4) := H4.out.more (Nat.le_succ _)
              clear k0 k1 k2 r0 r1 r2 r3 r4 r5
              go_wp2
              go_meet
              case rel => exact ⟨rfl, m, H5, HR4⟩
      case rest =>
        clear H4 HR4 HHB HHF HFX HFL
        obtain ⟨rfl, m', H, HR⟩ := hcut
        go_upto_region 24 with fail
        rename World => x5
        have hd := drew_below x5
        have H5 := Lib.hid (H.out.step hd)
        have HR5 := Lib.hid (HR.out.step hd)
        obtain ⟨A5, c5, hrc⟩ := HR5.out.mc

        have HCC : Hid (∀ y, Below x5.drew.heap.size x5.drew y → y.cell? ⟨R, 3, none⟩ = some (.int .i64 (m'.st : Int)) ∧ y.cell? ⟨R, 4, none⟩ = some (.int .i64 (m'.ep : Int)) ∧ y.cell? ⟨R, 7, none⟩ = some (.slice A5 m'.q.length c5)) := by
          intro y hy
          have hlt := HR5.out.lt
          exact ⟨(hy.cell (p := ⟨R, 3, none⟩) hlt).trans hrc.c3, (hy.cell (p := ⟨R, 4, none⟩) hlt).trans hrc.c4, (hy.cell (p := ⟨R, 7, none⟩) hlt).trans hrc.c7⟩

        refine region_plan [(true, 0), (true, 1), (true, 2), (true, 3), (true, 6), (false, 4), (false, 5), (false, 7), (true, 8), (true, 9), (true, 10), (true, 11), (true, 13), (true, 14), (true, 15), (true, 16), (false, 12), (true, 17), (true, 18), (true, 19), (true, 20), (true, 22), (true, 23), (true, 24), (true, 25), (false, 21), (true, 26), (true, 27), (true, 28), (true, 29), (true, 31), (true, 32), (true, 33), (true, 34), (true, 35), (false, 30), (true, 36), (true, 37)]
          (fun y => y.cell? ⟨R, 3, none⟩ = some (.int .i64 (m'.st : Int)) ∧ y.cell? ⟨R, 4, none⟩ = some (.int .i64 (m'.ep : Int)) ∧ y.cell? ⟨R, 7, none⟩ = some (.slice A5 m'.q.length c5)) (by kernel_rfl) (by kernel_rfl) (by kernel_rfl) rfl (HCC.out _ (Below.refl _ _)) ?_
        clear hd hrc H HR
        generalize x5.drew = x6 at *
        iterate 5 (first | (refine Plan.take (v := ?_) rfl (by rfl) ?_ ?_; rotate_left 1; (focus (intro x hx; go_simp <;> (first | with_reducible rfl | rw [if_pos (by omega)]))); simp only [Act.put, List.setIfInBounds_toArray, List.set_cons_zero, List.set_cons_succ]) | (refine Plan.skip rfl (by rfl) ?_; simp only [Act.put, List.setIfInBounds_toArray, List.set_cons_zero, List.set_cons_succ]))
        refine Plan.loud rfl (fun K hK => ?_)
        go_simp
        refine (next_lm H5.out).mono ?_
        rintro e x7 ⟨A7, c7, rfl, ho7, h7, hb7⟩
        have HO7 := Lib.hid ho7
        have HB7 := Lib.hid hb7
        refine hK.out _ _ _ (fun x hx => hx) (HCC.out _ HB7.out) ?_
        clear hK K ho7 h7 hb7
        obtain ⟨N, hN⟩ : ∃ N, nextM m' = N := ⟨_, rfl⟩
        rw [hN] at HO7 ⊢
        have HN := Lib.hid hN
        clear hN
        refine Plan.loud rfl (fun K hK => ?_)
        go_simp
        refine (of_own HO7.out).mono ?_
        rintro e x8 ⟨rfl, hb8⟩
        have HB8 : Hid (Below x6.heap.size x6 x8) := HB7.out.trans (hb8.mono HB7.out.size)
        refine hK.out _ _ _ (fun x hx => hx) (HCC.out _ HB8.out) ?_
        clear hK K hb8 HO7
        refine Plan.loud rfl (fun K hK => ?_)
        go_simp
        refine (refnext_on (HR5.out.step HB8.out)).mono ?_
        rintro e x9 ⟨rfl, hb9⟩
        rw [HN.out]
        have HB9 : Hid (Below x6.heap.size x6 x9) := HB8.out.trans (hb9.mono HB8.out.size)
        refine hK.out _ _ _ (fun x hx => hx) (HCC.out _ HB9.out) ?_
        clear hK K hb9
        have H9 := Lib.hid (H5.out.step HB9.out)
        have HR9 := Lib.hid (HR5.out.step HB9.out)
        iterate 8 (first | (refine Plan.take (v := ?_) rfl (by rfl) ?_ ?_; rotate_left 1; (focus (intro x hx; go_simp <;> (first | with_reducible rfl | rw [if_pos (by omega)]))); simp only [Act.put, List.setIfInBounds_toArray, List.set_cons_zero, List.set_cons_succ]) | (refine Plan.skip rfl (by rfl) ?_; simp only [Act.put, List.setIfInBounds_toArray, List.set_cons_zero, List.set_cons_succ]))
        refine Plan.loud rfl (fun K hK => ?_)
        go_simp
        refine (state_lm H9.out).mono ?_
        rintro e y ⟨rfl, rfl⟩
        refine hK.out _ _ _ (fun x hx => hx) (HCC.out _ HB9.out) ?_
        clear hK K
        iterate 8 (first | (refine Plan.take (v := ?_) rfl (by rfl) ?_ ?_; rotate_left 1; (focus (intro x hx; go_simp <;> (first | with_reducible rfl | rw [if_pos (by omega)]))); simp only [Act.put, List.setIfInBounds_toArray, List.set_cons_zero, List.set_cons_succ]) | (refine Plan.skip rfl (by rfl) ?_; simp only [Act.put, List.setIfInBounds_toArray, List.set_cons_zero, List.set_cons_succ]))
        refine Plan.loud rfl (fun K hK => ?_)
        go_simp
        refine (epoch_lm H9.out).mono ?_
        rintro e y ⟨rfl, rfl⟩
        refine hK.out _ _ _ (fun x hx => hx) (HCC.out _ HB9.out) ?_
        clear hK K
        iterate 9 (first | (refine Plan.take (v := ?_) rfl (by rfl) ?_ ?_; rotate_left 1; (focus (intro x hx; go_simp <;> (first | with_reducible rfl | rw [if_pos (by omega)]))); simp only [Act.put, List.setIfInBounds_toArray, List.set_cons_zero, List.set_cons_succ]) | (refine Plan.skip rfl (by rfl) ?_; simp only [Act.put, List.setIfInBounds_toArray, List.set_cons_zero, List.set_cons_succ]))
        refine Plan.loud rfl (fun K hK => ?_)
        go_simp
        refine (len_lm H9.out).mono ?_
        rintro e y ⟨rfl, rfl⟩
        refine hK.out _ _ _ (fun x hx => hx) (HCC.out _ HB9.out) ?_
        clear hK K
        iterate 2 (first | (refine Plan.take (v := ?_) rfl (by rfl) ?_ ?_; rotate_left 1; (focus (intro x hx; go_simp <;> (first | with_reducible rfl | rw [if_pos (by omega)]))); simp only [Act.put, List.setIfInBounds_toArray, List.set_cons_zero, List.set_cons_succ]) | (refine Plan.skip rfl (by rfl) ?_; simp only [Act.put, List.setIfInBounds_toArray, List.set_cons_zero, List.set_cons_succ]))
        refine Plan.done ?_
        go_wp2
        go_roundw
        case rel => exact ⟨k + 1, m', by omega, by go_num, H9, HR9⟩
        case measure => simp [intOf]; omega
    · have hkn : n = k := by omega
      subst hkn
      have hex : (¬ (n : Int) < (n0 : Int)) ∨ ((n : Int) < (n0 : Int) ∧ ¬ (n : Int) < 300) := by have := HLS.out; omega
      rcases hex with hl1 | ⟨hl1, hl2⟩
      all_goals
        go_wp2
        go_ret
        exact ⟨rfl, H.out.below⟩

end Go.Proofs.Ytoahjkdackccmaa
