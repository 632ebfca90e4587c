/-
  lamplightlaw08.SlaveTells, walked: true, whatever came in.
-/
import Derived.Test.YtabedmkhhlmbkaaSlaR
import Derived.Deep.DeepCutAuto
namespace Go.Proofs.Ytabedmkhhlmbkaa
set_option linter.unusedVariables false
set_option linter.unusedSimpArgs false
open Go.RowKit

/-- The frame of a step, as a slave takes it. -/
def frS (st : St7) (a ses : Nat) : Fr := if st.own then ⟨a, st.f.k, ses, st.f.q, st.f.c, st.f.b.take 40⟩ else { st.f with b := st.f.b.take 40 }
theorem frS_b (st : St7) (a ses : Nat) : (frS st a ses).b = st.f.b.take 40 := by unfold frS; split <;> rfl
theorem frS_fits {st : St7} (h : st.f.Fits) {a ses : Nat} (h1 : ses < 256) : (frS st a ses).s < 256 := by
  unfold frS
  split
  · exact h1
  · obtain ⟨_, _, h3, _, _⟩ := h
    exact h3
theorem Sc8.chg {w x : World} {b o i c : Nat} {s : St7} {A : Option Addr} {F : List Nat} (h : Sc8 w b o i s A c) (hc : Ch F w x) (hF : b ∉ F) : Sc8 x b o i s A c := by
  have hl : b < w.heap.size := World.block_lt_of_cell? w _ h.c0
  exact ⟨(hc.cell (p := ⟨b, _, none⟩) hl hF).trans h.c0, (hc.cell (p := ⟨b, _, none⟩) hl hF).trans h.c1, (hc.cell (p := ⟨b, _, none⟩) hl hF).trans h.c2, (hc.cell (p := ⟨b, _, none⟩) hl hF).trans h.c3, (hc.cell (p := ⟨b, _, none⟩) hl hF).trans h.c4, (hc.cell (p := ⟨b, _, none⟩) hl hF).trans h.c5, (hc.cell (p := ⟨b, _, none⟩) hl hF).trans h.c6, (hc.cell (p := ⟨b, _, none⟩) hl hF).trans h.c7⟩

set_option maxRecDepth 100000 in
set_option maxHeartbeats 25600000 in
theorem slavetells_walk (a : Nat) (P : Option Addr) (n0 c0 : Nat) (ss : List St7) (w : World) (ha : a < 256) (hp : StepsAt w P ss) (hn : ss.length = n0) (hc : n0 ≤ c0) (hm : c0 ≤ 9223372036854775807) :
    Calls Try.prog 3 #[.int .u8 (a : Int), .slice P n0 c0] w fun e w' => e = .returned (.bool true) ∧ Below w.heap.size w w' := by
  obtain ⟨n, hn0, hn300, hlast⟩ : ∃ n, n ≤ n0 ∧ n ≤ 300 ∧ (n = n0 ∨ n = 300) := ⟨min n0 300, by omega, by omega, by omega⟩
  have HL := Lib.hid hn
  have HP := Lib.hid hp
  have HA := Lib.hid ha
  have HLS := Lib.hid hlast
  clear hp hn ha hlast
  go_enter Try.func3, Try.ntmps3
  go_wp2_with fail
  refine (shown_on w).mono ?_
  rintro e x0 ⟨rfl, hb0⟩
  have HB0 := Lib.hid hb0
  clear hb0
  go_wp2_with fail
  refine (sla_cond.new (w := w) HA.out HB0.out).mono ?_
  rintro e x1 ⟨rfl, h1, _⟩
  have H0 := Lib.hid h1
  clear h1 HB0
  generalize x0.heap.size = S at *
  go_wp2_with fail
  refine rnew_on.mono ?_
  rintro e x2 ⟨rfl, h2, hb2⟩
  have HR0 := Lib.hid h2
  have HWR0 : Hid (w.heap.size ≤ x1.heap.size) := H0.out.below.size
  replace H0 := Lib.hid (H0.out.step hb2)
  clear h2 hb2
  generalize x1.heap.size = R0 at *
  have HAD0 : Hid ((newS a).addr = a) := rfl
  generalize newS a = s0 at *
  go_wp2
  go_loopw [8, 7] (fun j rv wr => ∃ (i : Nat) (s : Sl) (R : Nat), i ≤ n ∧ j = .int .i64 i ∧ rv = .pointer (some ⟨R, 0, none⟩) ∧ Hid (s.addr = a) ∧ Hid (w.heap.size ≤ R) ∧ Hid (Ls w S s wr) ∧ Hid (Rv wr R R s)) (fun j _ _ => n - (intOf j).toNat)
  case atStart => exact ⟨0, s0, R0, Nat.zero_le _, rfl, rfl, HAD0, HWR0, H0, HR0⟩
  case round =>
    clear H0 HAD0 HWR0 HR0
    obtain ⟨i, s, R, hi, rfl, rfl, HAD, HWR, H, HR⟩ := hrel
    rename World => y0
    by_cases hlt : i < n
    · have hlt1 : (i : Int) < (n0 : Int) := by omega
      have hlt2 : (i : Int) < 300 := by omega
      have hil : i < ss.length := by rw [HL.out]; omega
      have HY0 : Hid (w.heap.size ≤ y0.heap.size) := H.out.below.size
      obtain ⟨b, o, g, A, c, rfl, hsc, hfits, hhold, hbc, hcm⟩ := HP.out.at i hil
      generalize (ss[i]'hil) = st at *
      have HSC := Lib.hid (hsc.step H.out.below)
      have HBL := Lib.hid (World.block_lt_of_cell? _ _ hsc.c0)
      have HFI := Lib.hid hfits
      have HHO : Hid (Holds w g A (bcs (st.f.b.take 40))) := by show Holds _ _ _ _; rw [bcs_take]; exact hhold.take 40
      obtain ⟨sk, hsk⟩ : ∃ sk, st.k = sk := ⟨_, rfl⟩
      obtain ⟨ow, how⟩ : ∃ ow, st.own = ow := ⟨_, rfl⟩
      obtain ⟨n1, hn1⟩ : ∃ n1, st.f.b.length = n1 := ⟨_, rfl⟩
      obtain ⟨p, hp40, hpn, hmin⟩ := min_of n1 40 40 rfl
      have HPL : Hid ((st.f.b.take 40).length = p) := by
        show _ = _
        rw [List.length_take, hn1]
        split at hmin <;> omega
      have hpc : p ≤ c := by rw [hn1] at hbc; omega
      have hcm' : c ≤ 9223372036854775807 := by unfold maxLen at hcm; omega
      have e0 := HSC.out.c0
      have e1 := HSC.out.c1
      have e2 := HSC.out.c2
      have e3 := HSC.out.c3
      have e4 := HSC.out.c4
      have e5 := HSC.out.c5
      have e6 := HSC.out.c6
      have e7 := HSC.out.c7
      rw [hsk] at e0
      rw [how] at e7
      rw [hn1] at e6
      have HSK := Lib.hid hsk
      have HOW := Lib.hid how
      clear hsc hfits hhold hbc hcm hsk how hn1
      go_upto_region 11 with fail
      have hbx := new_below y0 (.cells #[.int .u8 (st.f.a : Int), .int .u8 (st.f.k : Int), .int .u8 (st.f.s : Int), .int .u8 (st.f.q : Int), .int .u8 (st.f.c : Int), .slice A p c] 30)
      have HFX : Hid (Fx (y0.alloc (.cells #[.int .u8 (st.f.a : Int), .int .u8 (st.f.k : Int), .int .u8 (st.f.s : Int), .int .u8 (st.f.q : Int), .int .u8 (st.f.c : Int), .slice A p c] 30)) y0.heap.size { st.f with b := st.f.b.take 40 } (.slice A p c)) := heap_alloc_new y0 _
      replace H := Lib.hid (H.out.step hbx)
      replace HR := Lib.hid (HR.out.step hbx)
      replace HSC := Lib.hid (HSC.out.step hbx)
      have HXW := HY0
      generalize y0.alloc (.cells #[.int .u8 (st.f.a : Int), .int .u8 (st.f.k : Int), .int .u8 (st.f.s : Int), .int .u8 (st.f.q : Int), .int .u8 (st.f.c : Int), .slice A p c] 30) = ya at *
      generalize y0.heap.size = X at *
      clear e0 e1 e2 e3 e4 e5 e6 e7 hbx
      have e7 := HSC.out.c7
      rw [HOW.out] at e7
      go_upto_if 51 with fail
      clear e7
      go_cut [] (fun y => Hid (Fx y X (frS st a s.ses) (.slice A p c)) ∧ Hid (Ls w S s y) ∧ Hid (Rv y R R s) ∧ Hid (Sc8 y b o i st A c))
      case first =>
        as_aux_lemma =>
          have hf := HFX.out.fc
          have p0 := hf.c0
          have p2 := hf.c2
          have q0 := hf.fz 0
          have q2 := hf.fz 2
          clear hf
          have e7 := HSC.out.c7
          rw [HOW.out] at e7
          cases ow with
          | true =>
            obtain ⟨h1, h2⟩ := sets_row [(0, .int .u8 (a : Int))] HFX.out
            have hft1 : Ft w.heap.size [30] ya (sets X [(0, .int .u8 (a : Int))] ya) := Ft.of_ch h2 (fun z hz _ => by simp at hz; subst hz; exact ⟨HXW.out, _, _, _, HFX.out, by simp⟩)
            obtain ⟨h3, h4⟩ := sets_row [(0, .int .u8 (a : Int)), (2, .int .u8 (s.ses : Int))] HFX.out
            have hft2 : Ft w.heap.size [30] ya (sets X [(0, .int .u8 (a : Int)), (2, .int .u8 (s.ses : Int))] ya) := Ft.of_ch h4 (fun z hz _ => by simp at hz; subst hz; exact ⟨HXW.out, _, _, _, HFX.out, by simp⟩)
            have H1 := Lib.hid (H.out.ft hft1 (Nat.le_refl _) (by decide) (by decide))
            have H2 := Lib.hid (H.out.ft hft2 (Nat.le_refl _) (by decide) (by decide))
            have HR2 := Lib.hid (HR.out.ft hft2 (by decide))
            have HS2 : Hid (Sc8 (sets X [(0, .int .u8 (a : Int)), (2, .int .u8 (s.ses : Int))] ya) b o i st A c) := Lib.hid (HSC.out.chg h4 (by intro hh; have h1 : b < w.heap.size := HBL.out; have h2 := HXW.out; simp at hh; omega))
            have HF2 : Hid (Fx (sets X [(0, .int .u8 (a : Int)), (2, .int .u8 (s.ses : Int))] ya) X (frS st a s.ses) (.slice A p c)) := by
              have e : frS st a s.ses = ⟨a, st.f.k, s.ses, st.f.q, st.f.c, st.f.b.take 40⟩ := by unfold frS; rw [HOW.out]; rfl
              rw [e]
              exact h3
            simp only [sets, List.foldl] at H1 H2 HR2 HF2 HS2
            clear h1 h2 h3 h4 hft1 hft2
            go_wp2_with fail
            refine (sla_cond.session H1.out).mono ?_
            rintro e z ⟨rfl, rfl⟩
            go_wp2
            go_meet
            case rel => exact ⟨HF2, H2, HR2, HS2⟩
          | false =>
            have HF2 : Hid (Fx ya X (frS st a s.ses) (.slice A p c)) := by
              have e : frS st a s.ses = { st.f with b := st.f.b.take 40 } := by unfold frS; rw [HOW.out]; rfl
              rw [e]
              exact HFX.out
            go_wp2
            go_meet
            case rel => exact ⟨HF2, H, HR, HSC⟩
      case rest =>
        clear H HFX HSC HR
        obtain ⟨HFX, H, HR, HSC⟩ := hcut
        rename World => yb
        have e0 := HSC.out.c0
        rw [HSK.out] at e0
        go_upto_block 2 with fail
        clear e0 HSC HSK HOW
        go_cut [10, 7] (fun v rv y => v = .bool true ∧ ∃ s' R', rv = .pointer (some ⟨R', 0, none⟩) ∧ Hid (s'.addr = a) ∧ Hid (w.heap.size ≤ R') ∧ Hid (Ls w S s' y) ∧ Hid (Rv y R' R' s'))
        case first =>
          as_aux_lemma =>
            have HFB : Hid ((frS st a s.ses).b.length = p) := by show _ = _; rw [frS_b]; exact HPL.out
            have HFS := Lib.hid (frS_fits HFI.out (a := a) H.out.ok.ses)
            have HHF : Hid (Holds w g A (bcs (frS st a s.ses).b)) := by
              show Holds _ _ _ _
              rw [frS_b]
              exact HHO.out
            have HHB : Hid (Hb yb S A (frS st a s.ses).b) := Lib.hid (Hb.of_arg HHF.out H.out.below H.out.le)
            have hf := HFX.out.fc
            have p0 := hf.c0
            have p1 := hf.c1
            have p2 := hf.c2
            have p3 := hf.c3
            have p4 := hf.c4
            have p5 := hf.c5
            clear hf HPL HHO HFI HY0 HXW HBL
            generalize hfr : frS st a s.ses = fr at *
            clear hfr
            by_cases k0 : sk = 0
            · as_aux_lemma =>
                subst k0
                go_upto_region 17 with fail
                have hd := drew_below yb
                have H5 := Lib.hid (H.out.step hd)
                have HR5 := Lib.hid (HR.out.step hd)
                have HB5 := Lib.hid (HHB.out.step hd)
                have HSF : Hid (∀ y, Below w.heap.size w y → Fx y X fr (.slice A p c) → y.cell? ⟨X, 5, none⟩ = some (.slice A p c) ∧ (convert 28 9 (.slice A p c)).run Try.prog y = .ok (.string ⟨fr.b.toArray⟩) y) := by
                  intro y h1 h2
                  exact ⟨h2.fc.c5, convert_holds (HHF.out.keep (F := []) (Ch.of_below h1) (by simp)) HFB.out⟩
                have HFX5 := Lib.hid (HFX.out.step hd)
                refine region_plan [(true, 0), (true, 1), (true, 2), (true, 4), (true, 5), (true, 6), (true, 7), (false, 3), (false, 8), (true, 9), (true, 10)]
                  (fun y => y.cell? ⟨X, 5, none⟩ = some (.slice A p c) ∧ (convert 28 9 (.slice A p c)).run Try.prog y = .ok (.string ⟨fr.b.toArray⟩) y) (by kernel_rfl) (by kernel_rfl) (by kernel_rfl) rfl (HSF.out _ H5.out.below HFX5.out) ?_
                clear hd H HR HHB HFX p0 p1 p2 p3 p4 p5
                generalize yb.drew = y5 at *
                iterate 7 (refine Plan.take (v := ?_) rfl (by rfl) ?_ ?_; rotate_left 1; (focus (intro x hx; go_simp <;> (first | with_reducible rfl | rw [if_pos (by omega)]))); simp only [Act.put, List.setIfInBounds_toArray, List.set_cons_zero, List.set_cons_succ])
                refine Plan.loud rfl (fun K hK => ?_)
                go_simp
                refine (sla_cond.offer (l := fr.b) H5.out HB5.out HFB.out).mono ?_
                rintro e y6 ⟨rfl, h6, hf6⟩
                have HR6 := Lib.hid (HR5.out.ft hf6 (by decide))
                have HFX6 := Lib.hid (HFX5.out.ft hf6 (by decide))
                have H6 := Lib.hid h6
                refine hK.out _ _ _ (fun x hx => hx) (HSF.out _ H6.out.below HFX6.out) ?_
                clear hK K h6 hf6 HR5 HFX5 H5 HB5
                refine Plan.loud rfl (fun K hK => ?_)
                go_simp
                refine (roffer_on (l := fr.b) HR6.out).mono ?_
                rintro e y7 ⟨rfl, h7, hf7⟩
                have HR7 := Lib.hid h7
                have HFX7 := Lib.hid (HFX6.out.ft hf7 (by decide))
                have H7 := Lib.hid (H6.out.ft hf7 HWR.out (by decide) (by decide))
                have HAD7 : Hid ((offerS s fr.b).1.addr = a) := Lib.hid ((offerS_addr _ _).trans HAD.out)
                refine hK.out _ _ _ (fun x hx => hx) (HSF.out _ H7.out.below HFX7.out) ?_
                clear hK K h7 hf7 H6 HR6 HFX6
                generalize (offerS s fr.b).1 = s' at *
                generalize (offerS s fr.b).2 = er at *
                iterate 2 (refine Plan.take (v := ?_) rfl (by rfl) ?_ ?_; rotate_left 1; (focus (intro x hx; go_simp <;> (first | with_reducible rfl | rw [if_pos (by omega)]))); simp only [Act.put, List.setIfInBounds_toArray, List.set_cons_zero, List.set_cons_succ])
                refine Plan.done ?_
                go_wp2
                go_meet
                case rel => exact ⟨rfl, s', R, rfl, HAD7, HWR, H7, HR7⟩
            · by_cases k1 : sk = 1 ∨ sk = 2 ∨ sk = 3 ∨ sk = 4 ∨ sk = 5
              · rw [← HFB.out] at p5
                rcases k1 with rfl | rfl | rfl | rfl | rfl
                all_goals
                  as_aux_lemma =>
                    go_wp2_with fail
                    refine (sla_cond.take (f := fr) H.out HHB.out (by rw [HFB.out]; omega) HFS.out).mono ?_
                    rintro e z ⟨A5, c5, A6, c6, rfl, o5, o6, h5, hf5⟩
                    have HAD5 : Hid ((takeS s fr).1.addr = a) := Lib.hid ((takeS_addr _ _).trans HAD.out)
                    have HR5 := Lib.hid (HR.out.ft hf5 (by decide))
                    have HFX5 := Lib.hid (HFX.out.ft hf5 (by decide))
                    have HOK := Lib.hid H.out.ok
                    obtain ⟨ts, hts⟩ : ∃ ts, takeS s fr = ts := ⟨_, rfl⟩
                    rw [hts] at h5 o5 o6 HAD5 ⊢
                    have HTS := Lib.hid hts
                    obtain ⟨s', an, out, ok⟩ := ts
                    simp only at h5 o5 o6 HAD5 ⊢
                    have H5 := Lib.hid h5
                    have HO6 := Lib.hid (own_zero o6)
                    have HO5 := Lib.hid (own_zero o5)
                    clear h5 hf5 o5 o6 hts H HR HFX HHB p0 p1 p2 p3 p4 p5
                    have hb6 := new_below z (.cells (fcs an (.slice A5 an.b.length c5)) 30)
                    have HG6 : Hid (Fx (z.alloc (.cells (fcs an (.slice A5 an.b.length c5)) 30)) z.heap.size an (.slice A5 an.b.length c5)) := heap_alloc_new z _
                    have H6 := Lib.hid (H5.out.step hb6)
                    have HR6 := Lib.hid (HR5.out.step hb6)
                    have HFX6 := Lib.hid (HFX5.out.step hb6)
                    have HO6b := Lib.hid (own_ft (B := 0) (T := []) HO6.out (Ft.of_below hb6) (by simp))
                    have HO5b := Lib.hid (own_ft (B := 0) (T := []) HO5.out (Ft.of_below hb6) (by simp))
                    clear hb6 H5 HR5 HFX5 HO6 HO5
                    go_upto_region 24 with fail
                    generalize z.alloc (.cells (fcs an (.slice A5 an.b.length c5)) 30) = z1 at *
                    generalize z.heap.size = G1 at *
                    have hf := HFX6.out.fc
                    have p0 := hf.c0
                    have p1 := hf.c1
                    have p2 := hf.c2
                    have p3 := hf.c3
                    have p4 := hf.c4
                    have p5 := hf.c5
                    clear hf
                    go_wp2_with fail
                    refine (of_on (f := fr) (HHF.out.keep (F := []) (Ch.of_below H6.out.below) (by simp)) HFB.out).mono ?_
                    rintro e z2 ⟨rfl, hb7⟩
                    have H7 := Lib.hid (H6.out.step hb7)
                    have HR7 := Lib.hid (HR6.out.step hb7)
                    have HG7 := Lib.hid (HG6.out.step hb7)
                    have HO7 := Lib.hid (own_ft (B := 0) (T := []) HO6b.out (Ft.of_below hb7) (by simp))
                    have HP7 := Lib.hid (own_ft (B := 0) (T := []) HO5b.out (Ft.of_below hb7) (by simp))
                    clear hb7 H6 HR6 HG6 HO6b HO5b p0 p1 p2 p3 p4 p5 HFX6
                    go_wp2_with fail
                    refine (rtake_on (f := fr) HR7.out HOK.out).mono ?_
                    rintro e z3 ⟨rfl, h8, hf8⟩
                    rw [HTS.out] at h8 ⊢
                    simp only at h8 ⊢
                    have HR8 := Lib.hid h8
                    have H8 := Lib.hid (H7.out.ft hf8 HWR.out (by decide) (by decide))
                    have HG8 := Lib.hid (HG7.out.ft hf8 (by decide))
                    have HO8 := Lib.hid (own_ft HO7.out hf8 (by decide))
                    have HP8 := Lib.hid (own_ft HP7.out hf8 (by decide))
                    clear h8 hf8 H7 HR7 HG7 HO7 HP7 HTS
                    have hb9 := new_below z3 (.cells (rcs an) 44)
                    have HE9 : Hid (Rx8 (z3.alloc (.cells (rcs an) 44)) z3.heap.size an) := heap_alloc_new z3 _
                    have H9 := Lib.hid (H8.out.step hb9)
                    have HR9 := Lib.hid (HR8.out.step hb9)
                    have HG9 := Lib.hid (HG8.out.step hb9)
                    have HO9 := Lib.hid (own_ft (B := 0) (T := []) HO8.out (Ft.of_below hb9) (by simp))
                    have HP9 := Lib.hid (own_ft (B := 0) (T := []) HP8.out (Ft.of_below hb9) (by simp))
                    clear hb9 H8 HR8 HG8 HO8 HP8
                    go_upto_region 25 with fail
                    generalize z3.alloc (.cells (rcs an) 44) = z4 at *
                    generalize z3.heap.size = G2 at *
                    have hd := drew_below z4
                    have HSS : Hid (∀ y, Below z4.heap.size z4 y → y.cell? ⟨G1, 0, none⟩ = some (.int .u8 (an.a : Int)) ∧ y.cell? ⟨G1, 1, none⟩ = some (.int .u8 (an.k : Int)) ∧ y.cell? ⟨G1, 2, none⟩ = some (.int .u8 (an.s : Int)) ∧ y.cell? ⟨G1, 3, none⟩ = some (.int .u8 (an.q : Int)) ∧ y.cell? ⟨G1, 4, none⟩ = some (.int .u8 (an.c : Int)) ∧ y.cell? ⟨G1, 5, none⟩ = some (.slice A5 an.b.length c5) ∧
                        y.cell? ⟨G2, 0, none⟩ = some (.int .u8 (an.a : Int)) ∧ y.cell? ⟨G2, 1, none⟩ = some (.int .u8 (an.k : Int)) ∧ y.cell? ⟨G2, 2, none⟩ = some (.int .u8 (an.s : Int)) ∧ y.cell? ⟨G2, 3, none⟩ = some (.int .u8 (an.q : Int)) ∧ y.cell? ⟨G2, 4, none⟩ = some (.int .u8 (an.c : Int)) ∧ y.cell? ⟨G2, 5, none⟩ = some (.string ⟨an.b.toArray⟩) ∧
                        (convert 28 9 (.slice A6 out.length c6)).run Try.prog y = .ok (.string ⟨out.toArray⟩) y) := by
                      intro y hy
                      have h1 := (HG9.out.step hy).fc
                      have h2 := rc8_of ((hy.block G2 (Array.getElem?_eq_some_iff.1 HE9.out).1).trans HE9.out)
                      exact ⟨h1.c0, h1.c1, h1.c2, h1.c3, h1.c4, h1.c5, h2.c0, h2.c1, h2.c2, h2.c3, h2.c4, h2.c5, convert_own (own_ft (B := 0) (T := []) HO9.out (Ft.of_below hy) (by simp)) rfl⟩
                    have HB10 := Lib.hid hd
                    refine region_plan [(true, 0), (true, 2), (false, 1), (true, 3), (true, 4), (true, 5), (true, 6), (true, 7), (true, 8), (true, 9), (true, 10), (true, 11), (true, 12), (true, 13), (true, 14), (true, 15)]
                      (fun y => y.cell? ⟨G1, 0, none⟩ = some (.int .u8 (an.a : Int)) ∧ y.cell? ⟨G1, 1, none⟩ = some (.int .u8 (an.k : Int)) ∧ y.cell? ⟨G1, 2, none⟩ = some (.int .u8 (an.s : Int)) ∧ y.cell? ⟨G1, 3, none⟩ = some (.int .u8 (an.q : Int)) ∧ y.cell? ⟨G1, 4, none⟩ = some (.int .u8 (an.c : Int)) ∧ y.cell? ⟨G1, 5, none⟩ = some (.slice A5 an.b.length c5) ∧
                        y.cell? ⟨G2, 0, none⟩ = some (.int .u8 (an.a : Int)) ∧ y.cell? ⟨G2, 1, none⟩ = some (.int .u8 (an.k : Int)) ∧ y.cell? ⟨G2, 2, none⟩ = some (.int .u8 (an.s : Int)) ∧ y.cell? ⟨G2, 3, none⟩ = some (.int .u8 (an.q : Int)) ∧ y.cell? ⟨G2, 4, none⟩ = some (.int .u8 (an.c : Int)) ∧ y.cell? ⟨G2, 5, none⟩ = some (.string ⟨an.b.toArray⟩) ∧
                        (convert 28 9 (.slice A6 out.length c6)).run Try.prog y = .ok (.string ⟨out.toArray⟩) y) (by kernel_rfl) (by kernel_rfl) (by kernel_rfl) rfl (HSS.out _ HB10.out) ?_
                    have H10 := Lib.hid (H9.out.step hd)
                    have HR10 := Lib.hid (HR9.out.step hd)
                    have HP10 := Lib.hid (own_ft (B := 0) (T := []) HP9.out (Ft.of_below hd) (by simp))
                    clear hd H9 HR9 HP9
                    generalize z4.drew = z5 at *
                    iterate 2 (refine Plan.take (v := ?_) rfl (by rfl) ?_ ?_; rotate_left 1; (focus (intro x hx; go_simp <;> (first | with_reducible rfl | rw [if_pos (by omega)]))); simp only [Act.put, List.setIfInBounds_toArray, List.set_cons_zero, List.set_cons_succ])
                    refine Plan.loud rfl (fun K hK => ?_)
                    go_simp
                    refine (of_own HP10.out).mono ?_
                    rintro e z6 ⟨rfl, hb11⟩
                    have H11 := Lib.hid (H10.out.step hb11)
                    have HR11 := Lib.hid (HR10.out.step hb11)
                    refine hK.out _ _ _ (fun x hx => hx) (HSS.out _ (HB10.out.trans (hb11.mono HB10.out.size))) ?_
                    clear hK K hb11 H10 HR10 HP10 HSS HB10 HE9 HG9 HO9
                    iterate 13 (first | (refine Plan.take (v := ?_) rfl (by rfl) ?_ ?_; rotate_left 1; (focus (intro x hx; go_simp <;> (first | with_reducible rfl | rw [if_pos (by omega)]))); simp only [Act.put, List.setIfInBounds_toArray, List.set_cons_zero, List.set_cons_succ]) | (refine Plan.skip rfl (by rfl) ?_; simp only [Act.put, List.setIfInBounds_toArray, List.set_cons_zero, List.set_cons_succ]))
                    refine Plan.done ?_
                    go_wp2
                    go_meet
                    case rel => exact ⟨rfl, s', R, rfl, HAD5, HWR, H11, HR11⟩
              · by_cases k6 : sk = 6
                · as_aux_lemma =>
                    subst k6
                    clear p0 p1 p2 p3 p4 p5
                    go_wp2_with fail
                    refine (sla_cond.reset H.out).mono ?_
                    rintro e z ⟨rfl, h5, hf5⟩
                    rw [HAD.out] at h5
                    have H5 := Lib.hid h5
                    clear h5 hf5 H HHB HR
                    go_wp2_with fail
                    refine rnew_on.mono ?_
                    rintro e z2 ⟨rfl, h6, hb6⟩
                    have HR6 := Lib.hid h6
                    have HW6 : Hid (w.heap.size ≤ z.heap.size) := H5.out.below.size
                    replace H5 := Lib.hid (H5.out.step hb6)
                    have HAD5 : Hid ((newS a).addr = a) := rfl
                    clear h6 hb6
                    generalize z.heap.size = R2 at *
                    generalize newS a = s2 at *
                    go_wp2
                    go_meet
                    case rel => exact ⟨rfl, s2, R2, rfl, HAD5, HW6, H5, HR6⟩
                · as_aux_lemma =>
                    have j0 : (sk == 0) = false := by simpa using k0
                    have j1 : (sk == 1) = false := by simp; omega
                    have j2 : (sk == 2) = false := by simp; omega
                    have j3 : (sk == 3) = false := by simp; omega
                    have j4 : (sk == 4) = false := by simp; omega
                    have j5 : (sk == 5) = false := by simp; omega
                    have j6 : (sk == 6) = false := by simpa using k6
                    clear k0 k1 k6 p0 p1 p2 p3 p4 p5
                    go_wp2
                    go_meet
                    case rel => exact ⟨rfl, s, R, rfl, HAD, HWR, H, HR⟩
        case rest =>
          clear H HFX HPL HFI HHO HXW HY0 HBL HR HAD HWR
          obtain ⟨rfl, s', R', rfl, HAD, HWR, H, HR⟩ := hcut
          rename World => yc
          go_upto_region 29 with fail
          replace H := Lib.hid (H.out.step (drew_below yc))
          replace HR := Lib.hid (HR.out.step (drew_below yc))
          have c1 := HR.out.vc.c1
          have c4 := HR.out.vc.c4
          by_cases hp : s'.pend = []
          · as_aux_lemma =>
              have HD : Hid (decide (s'.pend.length ≠ 0) = false) := by show _ = _; rw [hp]; rfl
              rw [hp] at c4
              clear hp
              refine region_plan [(true, 0), (true, 1), (true, 2), (true, 3), (true, 5), (true, 6), (true, 7), (true, 8), (true, 9), (false, 4), (true, 10), (true, 11), (true, 12), (true, 13), (true, 14), (true, 15), (true, 17), (true, 18), (true, 19), (true, 20), (false, 16), (true, 21), (true, 22)]
                (fun y => y.cell? ⟨R', 1, none⟩ = some (.int .u8 (s'.ses : Int)) ∧ y.cell? ⟨R', 4, none⟩ = some (.string ⟨([] : List UInt8).toArray⟩)) (by kernel_rfl) (by kernel_rfl) (by kernel_rfl) rfl ⟨c1, c4⟩ ?_
              have HC : Hid (yc.drew.cell? ⟨R', 1, none⟩ = some (.int .u8 (s'.ses : Int)) ∧ yc.drew.cell? ⟨R', 4, none⟩ = some (.string ⟨([] : List UInt8).toArray⟩)) := Lib.hid ⟨c1, c4⟩
              clear c1 c4
              generalize yc.drew = yd at *
              iterate 9 (refine Plan.take (v := ?_) rfl (by rfl) ?_ ?_; rotate_left 1; (focus (intro x hx; go_simp <;> (first | with_reducible rfl | rw [if_pos (by omega)]))); simp only [Act.put, List.setIfInBounds_toArray, List.set_cons_zero, List.set_cons_succ])
              refine Plan.loud rfl (fun K hK => ?_)
              go_simp
              refine (sla_cond.pending H.out).mono ?_
              rintro e z ⟨rfl, rfl⟩
              rw [HD.out]
              refine hK.out _ _ _ (fun x hx => hx) HC.out ?_
              clear hK K
              iterate 10 (first | (refine Plan.take (v := ?_) rfl (by rfl) ?_ ?_; rotate_left 1; (focus (intro x hx; go_simp <;> (first | with_reducible rfl | rw [if_pos (by omega)]))); simp only [Act.put, List.setIfInBounds_toArray, List.set_cons_zero, List.set_cons_succ]) | (refine Plan.skip rfl (by rfl) ?_; simp only [Act.put, List.setIfInBounds_toArray, List.set_cons_zero, List.set_cons_succ]))
              refine Plan.loud rfl (fun K hK => ?_)
              go_simp
              refine (sla_cond.session H.out).mono ?_
              rintro e z2 ⟨rfl, rfl⟩
              refine hK.out _ _ _ (fun x hx => hx) HC.out ?_
              clear hK K
              iterate 2 (first | (refine Plan.take (v := ?_) rfl (by rfl) ?_ ?_; rotate_left 1; (focus (intro x hx; go_simp <;> (first | with_reducible rfl | rw [if_pos (by omega)]))); simp only [Act.put, List.setIfInBounds_toArray, List.set_cons_zero, List.set_cons_succ]) | (refine Plan.skip rfl (by rfl) ?_; simp only [Act.put, List.setIfInBounds_toArray, List.set_cons_zero, List.set_cons_succ]))
              refine Plan.done ?_
              clear HC
              go_wp2
              go_roundw
              case rel => exact ⟨i + 1, s', R', by omega, by go_num, rfl, HAD, HWR, H, HR⟩
              case measure => simp [intOf]; omega
          · as_aux_lemma =>
              have HD : Hid (decide (s'.pend.length ≠ 0) = true) := by show _ = _; simp [hp]
              have p1 : (s'.pend == []) = false := by cases hq : s'.pend with | nil => exact absurd hq hp | cons a t => rfl
              have p2 : (s'.pend != []) = true := by simp [hp]
              refine region_plan [(true, 0), (true, 1), (true, 2), (true, 3), (true, 5), (true, 6), (true, 7), (true, 8), (true, 9), (false, 4), (true, 10), (true, 11), (true, 12), (true, 13), (true, 14), (true, 15), (true, 17), (true, 18), (true, 19), (true, 20), (false, 16), (true, 21), (true, 22)]
                (fun y => y.cell? ⟨R', 1, none⟩ = some (.int .u8 (s'.ses : Int)) ∧ y.cell? ⟨R', 4, none⟩ = some (.string ⟨s'.pend.toArray⟩)) (by kernel_rfl) (by kernel_rfl) (by kernel_rfl) rfl ⟨c1, c4⟩ ?_
              have HC : Hid (yc.drew.cell? ⟨R', 1, none⟩ = some (.int .u8 (s'.ses : Int)) ∧ yc.drew.cell? ⟨R', 4, none⟩ = some (.string ⟨s'.pend.toArray⟩)) := Lib.hid ⟨c1, c4⟩
              clear c1 c4
              generalize yc.drew = yd at *
              iterate 9 (refine Plan.take (v := ?_) rfl (by rfl) ?_ ?_; rotate_left 1; (focus (intro x hx; go_simp <;> (first | with_reducible rfl | rw [if_pos (by omega)]))); simp only [Act.put, List.setIfInBounds_toArray, List.set_cons_zero, List.set_cons_succ])
              refine Plan.loud rfl (fun K hK => ?_)
              go_simp
              refine (sla_cond.pending H.out).mono ?_
              rintro e z ⟨rfl, rfl⟩
              rw [HD.out]
              refine hK.out _ _ _ (fun x hx => hx) HC.out ?_
              clear hK K
              iterate 10 (first | (refine Plan.take (v := ?_) rfl (by rfl) ?_ ?_; rotate_left 1; (focus (intro x hx; go_simp <;> (first | with_reducible rfl | rw [if_pos (by omega)]))); simp only [Act.put, List.setIfInBounds_toArray, List.set_cons_zero, List.set_cons_succ]) | (refine Plan.skip rfl (by rfl) ?_; simp only [Act.put, List.setIfInBounds_toArray, List.set_cons_zero, List.set_cons_succ]))
              refine Plan.loud rfl (fun K hK => ?_)
              go_simp
              refine (sla_cond.session H.out).mono ?_
              rintro e z2 ⟨rfl, rfl⟩
              refine hK.out _ _ _ (fun x hx => hx) HC.out ?_
              clear hK K
              iterate 2 (first | (refine Plan.take (v := ?_) rfl (by rfl) ?_ ?_; rotate_left 1; (focus (intro x hx; go_simp <;> (first | with_reducible rfl | rw [if_pos (by omega)]))); simp only [Act.put, List.setIfInBounds_toArray, List.set_cons_zero, List.set_cons_succ]) | (refine Plan.skip rfl (by rfl) ?_; simp only [Act.put, List.setIfInBounds_toArray, List.set_cons_zero, List.set_cons_succ]))
              refine Plan.done ?_
              clear HC
              go_wp2
              go_roundw
              case rel => exact ⟨i + 1, s', R', by omega, by go_num, rfl, HAD, HWR, H, HR⟩
              case measure => simp [intOf]; omega
    · have hkn : n = i := by omega
      subst hkn
      have hex : (¬ (n : Int) < (n0 : Int)) ∨ ((n : Int) < (n0 : Int) ∧ ¬ (n : Int) < 300) := by have := HLS.out; omega
      rcases hex with hl1 | ⟨hl1, hl2⟩
      all_goals
        go_wp2
        go_ret
        exact ⟨rfl, H.out.below⟩

end Go.Proofs.Ytabedmkhhlmbkaa
