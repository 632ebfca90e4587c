/-
  lamplightlaw08.SlaveQuiet, walked: true, whatever came in.
-/
import Derived.Test.YtabedmkhhlmbkaaSlaV
import Derived.Deep.DeepCutAuto
namespace Go.Proofs.Ytabedmkhhlmbkaa
set_option linter.unusedVariables false
set_option linter.unusedSimpArgs false
open Go.RowKit

/-- The frame of a step, as a slave takes it. -/
def frS (st : St7) (a ses : Nat) : Fr := if st.own then ⟨a, st.f.k, ses, st.f.q, st.f.c, st.f.b.take 40⟩ else { st.f with b := st.f.b.take 40 }
theorem frS_b (st : St7) (a ses : Nat) : (frS st a ses).b = st.f.b.take 40 := by unfold frS; split <;> rfl
theorem frS_fits {st : St7} (h : st.f.Fits) {a ses : Nat} (h1 : ses < 256) : (frS st a ses).s < 256 := by
  unfold frS
  split
  · exact h1
  · obtain ⟨_, _, h3, _, _⟩ := h
    exact h3
theorem Sc8.chg {w x : World} {b o i c : Nat} {s : St7} {A : Option Addr} {F : List Nat} (h : Sc8 w b o i s A c) (hc : Ch F w x) (hF : b ∉ F) : Sc8 x b o i s A c := by
  have hl : b < w.heap.size := World.block_lt_of_cell? w _ h.c0
  exact ⟨(hc.cell (p := ⟨b, _, none⟩) hl hF).trans h.c0, (hc.cell (p := ⟨b, _, none⟩) hl hF).trans h.c1, (hc.cell (p := ⟨b, _, none⟩) hl hF).trans h.c2, (hc.cell (p := ⟨b, _, none⟩) hl hF).trans h.c3, (hc.cell (p := ⟨b, _, none⟩) hl hF).trans h.c4, (hc.cell (p := ⟨b, _, none⟩) hl hF).trans h.c5, (hc.cell (p := ⟨b, _, none⟩) hl hF).trans h.c6, (hc.cell (p := ⟨b, _, none⟩) hl hF).trans h.c7⟩

set_option maxRecDepth 100000 in
set_option maxHeartbeats 12800000 in
theorem slavequiet_walk (a : Nat) (P : Option Addr) (n0 c0 : Nat) (ss : List St7) (F : Fr) (gF : Nat) (AF : Option Addr) (cF : Nat) (w : World) (ha : a < 256) (hp : StepsAt w P ss) (hn : ss.length = n0) (hc : n0 ≤ c0) (hm : c0 ≤ 9223372036854775807)
    (hfit : F.Fits) (hhF : Holds w gF AF (bcs F.b)) (hcF : F.b.length ≤ cF) (hmF : cF ≤ maxLen) :
    Calls Try.prog 7 #[.int .u8 (a : Int), .slice P n0 c0, .agg (fcs F (.slice AF F.b.length cF))] w fun e w' => e = .returned (.bool true) ∧ Below w.heap.size w w' := by
  obtain ⟨n, hn0, hn100, hlast⟩ : ∃ n, n ≤ n0 ∧ n ≤ 100 ∧ (n = n0 ∨ n = 100) := ⟨min n0 100, by omega, by omega, by omega⟩
  have HBX := Lib.hid (new_below w (.cells (fcs F (.slice AF F.b.length cF)) 30))
  have HL := Lib.hid hn
  have HP := Lib.hid (hp.keep HBX.out)
  have HA := Lib.hid ha
  have HLS := Lib.hid hlast
  have HBF : Hid (Fx (w.alloc (.cells (fcs F (.slice AF F.b.length cF)) 30)) w.heap.size F (.slice AF F.b.length cF)) := heap_alloc_new w _
  clear hp hn ha hlast hfit hhF hcF hmF
  go_enter Try.func7, Try.ntmps7
  go_upto_region 1 with fail
  have HXB : Hid (w.heap.size < (w.alloc (.cells (fcs F (.slice AF F.b.length cF)) 30)).heap.size) := HBF.out.lt
  generalize w.alloc (.cells (fcs F (.slice AF F.b.length cF)) 30) = w1 at *
  obtain ⟨Xb, hXb⟩ : ∃ Xb, w.heap.size = Xb := ⟨_, rfl⟩
  have HXE := Lib.hid hXb
  rw [hXb] at HBF HXB ⊢
  clear hXb
  go_wp2_with fail
  refine (shown_on w1).mono ?_
  rintro e x0 ⟨rfl, hb0⟩
  have HB0 := Lib.hid hb0
  clear hb0
  go_wp2_with fail
  refine (sla_cond.new (w := w1) HA.out HB0.out).mono ?_
  rintro e x1 ⟨rfl, h1, _⟩
  have H0 := Lib.hid h1
  clear h1 HB0
  generalize x0.heap.size = S at *
  have HAD0 : Hid ((newS a).addr = a) := rfl
  generalize newS a = s0 at *
  go_upto_block 0 with fail
  go_cut [] (fun y => ∃ s, Hid (s.addr = a) ∧ Hid (Ls w1 S s y))
  case first =>
    as_aux_lemma =>
      go_wp2
      go_loopw [9] (fun j wr => ∃ (i : Nat) (s : Sl), i ≤ n ∧ j = .int .i64 i ∧ Hid (s.addr = a) ∧ Hid (Ls w1 S s wr)) (fun j _ => n - (intOf j).toNat)
      case atStart => exact ⟨0, s0, Nat.zero_le _, rfl, HAD0, H0⟩
      case round =>
        clear H0 HAD0
        obtain ⟨i, s, hi, rfl, HAD, H⟩ := hrel
        rename World => y0
        by_cases hlt : i < n
        · have hlt1 : (i : Int) < (n0 : Int) := by omega
          have hlt2 : (i : Int) < 100 := by omega
          have hil : i < ss.length := by rw [HL.out]; omega
          have HY0 : Hid (w1.heap.size ≤ y0.heap.size) := H.out.below.size
          obtain ⟨b, o, g, A, c, rfl, hsc, hfits, hhold, hbc, hcm⟩ := HP.out.at i hil
          generalize (ss[i]'hil) = st at *
          have HSC := Lib.hid (hsc.step H.out.below)
          have HBL := Lib.hid (World.block_lt_of_cell? _ _ hsc.c0)
          have HFI := Lib.hid hfits
          have HHO : Hid (Holds w1 g A (bcs (st.f.b.take 40))) := by show Holds _ _ _ _; rw [bcs_take]; exact hhold.take 40
          obtain ⟨sk, hsk⟩ : ∃ sk, st.k = sk := ⟨_, rfl⟩
          obtain ⟨ow, how⟩ : ∃ ow, st.own = ow := ⟨_, rfl⟩
          obtain ⟨n1, hn1⟩ : ∃ n1, st.f.b.length = n1 := ⟨_, rfl⟩
          obtain ⟨p, hp40, hpn, hmin⟩ := min_of n1 40 40 rfl
          have HPL : Hid ((st.f.b.take 40).length = p) := by
            show _ = _
            rw [List.length_take, hn1]
            split at hmin <;> omega
          have hpc : p ≤ c := by rw [hn1] at hbc; omega
          have hcm' : c ≤ 9223372036854775807 := by unfold maxLen at hcm; omega
          have e0 := HSC.out.c0
          have e1 := HSC.out.c1
          have e2 := HSC.out.c2
          have e3 := HSC.out.c3
          have e4 := HSC.out.c4
          have e5 := HSC.out.c5
          have e6 := HSC.out.c6
          have e7 := HSC.out.c7
          rw [hsk] at e0
          rw [how] at e7
          rw [hn1] at e6
          have HSK := Lib.hid hsk
          have HOW := Lib.hid how
          clear hsc hfits hhold hbc hcm hsk how hn1
          go_upto_region 10 with fail
          have hbx := new_below y0 (.cells #[.int .u8 (st.f.a : Int), .int .u8 (st.f.k : Int), .int .u8 (st.f.s : Int), .int .u8 (st.f.q : Int), .int .u8 (st.f.c : Int), .slice A p c] 30)
          have HFX : Hid (Fx (y0.alloc (.cells #[.int .u8 (st.f.a : Int), .int .u8 (st.f.k : Int), .int .u8 (st.f.s : Int), .int .u8 (st.f.q : Int), .int .u8 (st.f.c : Int), .slice A p c] 30)) y0.heap.size { st.f with b := st.f.b.take 40 } (.slice A p c)) := heap_alloc_new y0 _
          replace H := Lib.hid (H.out.step hbx)
          replace HSC := Lib.hid (HSC.out.step hbx)
          have HXW := HY0
          generalize y0.alloc (.cells #[.int .u8 (st.f.a : Int), .int .u8 (st.f.k : Int), .int .u8 (st.f.s : Int), .int .u8 (st.f.q : Int), .int .u8 (st.f.c : Int), .slice A p c] 30) = ya at *
          generalize y0.heap.size = X at *
          clear e0 e1 e2 e3 e4 e5 e6 e7 hbx
          have e7 := HSC.out.c7
          rw [HOW.out] at e7
          go_upto_if 52 with fail
          clear e7
          go_cut [] (fun y => Hid (Fx y X (frS st a s.ses) (.slice A p c)) ∧ Hid (Ls w1 S s y) ∧ Hid (Sc8 y b o i st A c))
          case first =>
            as_aux_lemma =>
              have hf := HFX.out.fc
              have p0 := hf.c0
              have p2 := hf.c2
              have q0 := hf.fz 0
              have q2 := hf.fz 2
              clear hf
              have e7 := HSC.out.c7
              rw [HOW.out] at e7
              cases ow with
              | true =>
                obtain ⟨h1, h2⟩ := sets_row [(0, .int .u8 (a : Int))] HFX.out
                have hft1 : Ft w1.heap.size [30] ya (sets X [(0, .int .u8 (a : Int))] ya) := Ft.of_ch h2 (fun z hz _ => by simp at hz; subst hz; exact ⟨HXW.out, _, _, _, HFX.out, by simp⟩)
                obtain ⟨h3, h4⟩ := sets_row [(0, .int .u8 (a : Int)), (2, .int .u8 (s.ses : Int))] HFX.out
                have hft2 : Ft w1.heap.size [30] ya (sets X [(0, .int .u8 (a : Int)), (2, .int .u8 (s.ses : Int))] ya) := Ft.of_ch h4 (fun z hz _ => by simp at hz; subst hz; exact ⟨HXW.out, _, _, _, HFX.out, by simp⟩)
                have H1 := Lib.hid (H.out.ft hft1 (Nat.le_refl _) (by decide) (by decide))
                have H2 := Lib.hid (H.out.ft hft2 (Nat.le_refl _) (by decide) (by decide))
                have HS2 : Hid (Sc8 (sets X [(0, .int .u8 (a : Int)), (2, .int .u8 (s.ses : Int))] ya) b o i st A c) := Lib.hid (HSC.out.chg h4 (by intro hh; have h1 : b < w1.heap.size := HBL.out; have h2 := HXW.out; simp at hh; omega))
                have HF2 : Hid (Fx (sets X [(0, .int .u8 (a : Int)), (2, .int .u8 (s.ses : Int))] ya) X (frS st a s.ses) (.slice A p c)) := by
                  have e : frS st a s.ses = ⟨a, st.f.k, s.ses, st.f.q, st.f.c, st.f.b.take 40⟩ := by unfold frS; rw [HOW.out]; rfl
                  rw [e]
                  exact h3
                simp only [sets, List.foldl] at H1 H2 HF2 HS2
                clear h1 h2 h3 h4 hft1 hft2
                go_wp2_with fail
                refine (sla_cond.session H1.out).mono ?_
                rintro e z ⟨rfl, rfl⟩
                go_wp2
                go_meet
                case rel => exact ⟨HF2, H2, HS2⟩
              | false =>
                have HF2 : Hid (Fx ya X (frS st a s.ses) (.slice A p c)) := by
                  have e : frS st a s.ses = { st.f with b := st.f.b.take 40 } := by unfold frS; rw [HOW.out]; rfl
                  rw [e]
                  exact HFX.out
                go_wp2
                go_meet
                case rel => exact ⟨HF2, H, HSC⟩
          case rest =>
            clear H HFX HSC
            obtain ⟨HFX, H, HSC⟩ := hcut
            rename World => yb
            have e0 := HSC.out.c0
            rw [HSK.out] at e0
            go_upto_block 2 with fail
            clear e0 HSC HSK HOW
            have HFB : Hid ((frS st a s.ses).b.length = p) := by show _ = _; rw [frS_b]; exact HPL.out
            have HFS := Lib.hid (frS_fits HFI.out (a := a) H.out.ok.ses)
            have HHB : Hid (Hb yb S A (frS st a s.ses).b) := by
              show Hb _ _ _ _
              rw [frS_b]
              exact Hb.of_arg HHO.out H.out.below H.out.le
            have hf := HFX.out.fc
            have p0 := hf.c0
            have p1 := hf.c1
            have p2 := hf.c2
            have p3 := hf.c3
            have p4 := hf.c4
            have p5 := hf.c5
            clear hf HFX HPL HHO HFI
            have HK := H
            clear H
            generalize hfr : frS st a s.ses = fr at *
            rw [← HFB.out] at p5
            by_cases k0 : sk = 0
            · subst k0
              go_wp2_with fail
              refine (sla_cond.offer (l := fr.b) HK.out HHB.out rfl).mono ?_
              rintro e z ⟨rfl, h5, hf5⟩
              have H5 := Lib.hid h5
              have HAD5 : Hid ((offerS s fr.b).1.addr = a) := Lib.hid ((offerS_addr _ _).trans HAD.out)
              clear h5 hf5 HK HHB p0 p1 p2 p3 p4 p5
              go_wp2
              go_roundw
              case rel => exact ⟨i + 1, _, by omega, by go_num, HAD5, H5⟩
              case measure => simp [intOf]; omega
            · by_cases k1 : sk = 1 ∨ sk = 2 ∨ sk = 3 ∨ sk = 4 ∨ sk = 5
              · rcases k1 with rfl | rfl | rfl | rfl | rfl
                all_goals
                  go_wp2_with fail
                  refine (sla_cond.take (f := fr) HK.out HHB.out (by rw [HFB.out]; omega) HFS.out).mono ?_
                  rintro e z ⟨A5, c5, A6, c6, rfl, o5, o6, h5, hf5⟩
                  have H5 := Lib.hid h5
                  have HAD5 : Hid ((takeS s fr).1.addr = a) := Lib.hid ((takeS_addr _ _).trans HAD.out)
                  clear o5 o6 h5 hf5 HK HHB p0 p1 p2 p3 p4 p5
                  go_wp2
                  go_roundw
                  case rel => exact ⟨i + 1, _, by omega, by go_num, HAD5, H5⟩
                  case measure => simp [intOf]; omega
              · by_cases k6 : sk = 6
                · subst k6
                  go_wp2_with fail
                  refine (sla_cond.reset HK.out).mono ?_
                  rintro e z ⟨rfl, h5, hf5⟩
                  have H5 := Lib.hid h5
                  have HAD5 : Hid ((newS s.addr).addr = a) := HAD
                  clear h5 hf5 HK HHB p0 p1 p2 p3 p4 p5
                  go_wp2
                  go_roundw
                  case rel => exact ⟨i + 1, _, by omega, by go_num, HAD5, H5⟩
                  case measure => simp [intOf]; omega
                · have j0 : (sk == 0) = false := by simpa using k0
                  have j1 : (sk == 1) = false := by simp; omega
                  have j2 : (sk == 2) = false := by simp; omega
                  have j3 : (sk == 3) = false := by simp; omega
                  have j4 : (sk == 4) = false := by simp; omega
                  have j5 : (sk == 5) = false := by simp; omega
                  have j6 : (sk == 6) = false := by simpa using k6
                  clear k0 k1 k6
                  go_wp2
                  go_roundw
                  case rel => exact ⟨i + 1, s, by omega, by go_num, HAD, HK⟩
                  case measure => simp [intOf]; omega
        · have hkn : n = i := by omega
          subst hkn
          have hex : Hid ((¬ (n : Int) < (n0 : Int)) ∨ ((n : Int) < (n0 : Int) ∧ ¬ (n : Int) < 100)) := by have := HLS.out; exact Lib.hid (by omega)
          rcases hex.out with hl1 | ⟨hl1, hl2⟩
          · go_wp2
            go_meet
            case rel => exact ⟨s, HAD, H⟩
          · go_wp2
            go_meet
            case rel => exact ⟨s, HAD, H⟩
  case rest =>
    as_aux_lemma =>
      clear H0 HAD0
      obtain ⟨s, HAD, H⟩ := hcut
      rename World => yl
      obtain ⟨pd, hpd⟩ : ∃ pd, decide (s.pend.length ≠ 0) = pd := ⟨_, rfl⟩
      obtain ⟨se, hse⟩ : ∃ se, s.ses = se := ⟨_, rfl⟩
      have HPD := Lib.hid hpd
      have HSE := Lib.hid hse
      clear hpd hse
      go_wp2_with fail
      refine (sla_cond.pending H.out).mono ?_
      rintro e z ⟨rfl, rfl⟩
      rw [HPD.out]
      go_wp2_with fail
      refine (sla_cond.session H.out).mono ?_
      rintro e z2 ⟨rfl, rfl⟩
      rw [HSE.out]
      rename World => yq
      have HFB := Lib.hid (HBF.out.step H.out.below)
      obtain ⟨fa, fk, fs, fq, fc, fb⟩ := F
      have p0 := HFB.out.fc.c0
      have p1 := HFB.out.fc.c1
      have r1 := HFB.out.fc.fz 1
      simp only at p0 p1
      go_upto_region 26 with fail
      go_cut [103] (fun v y => y = yq ∧ ∃ t : Bool, v = .bool t ∧ Hid (t = false → fa = a → fk < 1 ∨ 3 < fk))
      case first =>
        by_cases hfa : fa = a
        · have hfa' : (fa : Int) = (a : Int) := by omega
          by_cases h1 : 1 ≤ fk
          · have h1' : (1 : Int) ≤ (fk : Int) := by omega
            by_cases h3 : fk ≤ 3
            · have h3' : (fk : Int) ≤ 3 := by omega
              clear h1 h3 hfa
              go_wp2
              go_meet
              case rel => exact ⟨rfl, true, rfl, Lib.hid (fun h => Bool.noConfusion h)⟩
            · have h3' : ¬ (fk : Int) ≤ 3 := by omega
              have HS : Hid (fa = a → fk < 1 ∨ 3 < fk) := Lib.hid (fun _ => by omega)
              clear h1 h3 hfa
              go_wp2
              go_meet
              case rel => exact ⟨rfl, false, rfl, Lib.hid (fun _ => HS.out)⟩
          · have h1' : ¬ (1 : Int) ≤ (fk : Int) := by omega
            have HS : Hid (fa = a → fk < 1 ∨ 3 < fk) := Lib.hid (fun _ => by omega)
            clear h1 hfa
            go_wp2
            go_meet
            case rel => exact ⟨rfl, false, rfl, Lib.hid (fun _ => HS.out)⟩
        · have hfa' : ((fa : Int) == (a : Int)) = false := by simp; omega
          have HS : Hid (fa = a → fk < 1 ∨ 3 < fk) := Lib.hid (fun h => absurd h hfa)
          clear hfa
          go_wp2
          go_meet
          case rel => exact ⟨rfl, false, rfl, Lib.hid (fun _ => HS.out)⟩
      case rest =>
        obtain ⟨hy, t, rfl, HT⟩ := hcut
        subst hy
        rename World => yq
        have HLW := Lib.hid (H.out.base HBX.out)
        go_upto_if 103 with fail
        go_cut [] (fun y => ∃ k', Hid (fa = a → k' < 1 ∨ 3 < k') ∧ Hid (Fx y Xb ⟨fa, k', fs, fq, fc, fb⟩ (.slice AF fb.length cF)) ∧ Hid (Ls w S s y))
        case first =>
          cases t with
          | true =>
            obtain ⟨h1, h2⟩ := sets_row [(1, .int .u8 4)] HFB.out
            have hft : Ft w.heap.size [30] yq (sets Xb [(1, .int .u8 4)] yq) := Ft.of_ch h2 (fun z hz _ => by simp at hz; subst hz; exact ⟨Nat.le_of_eq HXE.out, _, _, _, HFB.out, by simp⟩)
            have H2 := Lib.hid (HLW.out.ft hft (Nat.le_refl _) (by decide) (by decide))
            have HF2 : Hid (Fx (sets Xb [(1, .int .u8 4)] yq) Xb ⟨fa, 4, fs, fq, fc, fb⟩ (.slice AF fb.length cF)) := h1
            have HK2 : Hid (fa = a → 4 < 1 ∨ 3 < 4) := Lib.hid (fun _ => by omega)
            simp only [sets, List.foldl] at H2 HF2
            clear h1 h2 hft
            go_wp2
            go_meet
            case rel => exact ⟨4, HK2, HF2, H2⟩
          | false =>
            have HT2 := Lib.hid (HT.out rfl)
            clear HT
            go_wp2
            go_meet
            case rel => exact ⟨fk, HT2, HFB, HLW⟩
        case rest =>
          clear H HFB HT HLW p0 p1 r1
          obtain ⟨k', HT, HFB, H⟩ := hcut
          rename World => yr
          have hf := HFB.out.fc
          have p0 := hf.c0
          have p1 := hf.c1
          have p2 := hf.c2
          have p3 := hf.c3
          have p4 := hf.c4
          have p5 := hf.c5
          clear hf
          simp only at p0 p1 p2 p3 p4 p5
          go_wp2_with fail
          refine (stake_deaf (f := ⟨fa, k', fs, fq, fc, fb⟩) H.out.sv (by show fa = s.addr → _; rw [HAD.out]; exact HT.out)).mono ?_
          rintro e z ⟨rfl, h5, hf5⟩
          replace HFB := Lib.hid (HFB.out.ft hf5 (by decide))
          replace H : Hid (Ls w S s z) := Lib.hid ⟨h5, H.out.ok, H.out.below.trans ((hf5.mono H.out.le (T' := [37]) (fun _ h => h)).below H.out.below.size), H.out.le⟩
          clear h5 hf5 p0 p1 p2 p3 p4 p5
          have hb6 := new_below z (.cells #[.int .u8 0, .int .u8 0, .int .u8 0, .int .u8 0, .int .u8 0, .slice none 0 0] 30)
          replace HFB := Lib.hid (HFB.out.step hb6)
          replace H := Lib.hid (H.out.step hb6)
          clear hb6
          go_upto_region 29 with fail
          generalize z.alloc (.cells #[.int .u8 0, .int .u8 0, .int .u8 0, .int .u8 0, .int .u8 0, .slice none 0 0] 30) = ys at *
          generalize z.heap.size = G1 at *
          have p3 := HFB.out.fc.c3
          have p4 := HFB.out.fc.c4
          simp only at p3 p4
          obtain ⟨s1, hs1⟩ : ∃ s1, (se + 1) % 256 = s1 := ⟨_, rfl⟩
          have hse256 : se < 256 := by rw [← HSE.out]; exact H.out.ok.ses
          have w1' : IntKind.u8.wrap ((se : Int) + 1) = (s1 : Int) := by rw [IntKind.wrap_u8]; omega
          have w2' : ((se : Int) + 1) % 256 = (s1 : Int) := by omega
          have HNE : Hid (s1 ≠ s.ses) := by show _ ≠ _; rw [HSE.out]; omega
          have HS1 : Hid (s1 < 256) := Lib.hid (by omega)
          clear hs1
          have hcv := const_one ys #[.int .u8 120] 1 1
          have HB7 := Lib.hid (new_below ys (.cells #[.int .u8 120] 5 (1, 2)))
          have HH7 : Hid (Hb (ys.alloc (.cells #[.int .u8 120] 5 (1, 2))) S (some ⟨ys.heap.size, 0, none⟩) [120]) := Lib.hid (Hb.lit ys S [120] (1, 2))
          replace H := Lib.hid (H.out.step HB7.out)
          go_upto_region 30 with fail
          clear hcv
          have hz : (ys.alloc (.cells #[.int .u8 120] 5 (1, 2))).heap.size = ys.heap.size + 1 := by simp
          generalize ys.alloc (.cells #[.int .u8 120] 5 (1, 2)) = yt at *
          generalize ys.heap.size = G2 at *
          have hb8 := new_below yt (.cells #[.int .u8 (a : Int), .int .u8 2, .int .u8 (s1 : Int), .int .u8 (fq : Int), .int .u8 (fc : Int), .slice (some ⟨G2, 0, none⟩) 1 1] 30)
          have HG8 : Hid (Fx (yt.alloc (.cells #[.int .u8 (a : Int), .int .u8 2, .int .u8 (s1 : Int), .int .u8 (fq : Int), .int .u8 (fc : Int), .slice (some ⟨G2, 0, none⟩) 1 1] 30)) yt.heap.size ⟨a, 2, s1, fq, fc, [120]⟩ (.slice (some ⟨G2, 0, none⟩) 1 1)) := heap_alloc_new yt _
          replace H := Lib.hid (H.out.step hb8)
          replace HH7 := Lib.hid (HH7.out.step hb8)
          rw [hz] at HG8
          clear hb8 hz
          generalize yt.alloc (.cells #[.int .u8 (a : Int), .int .u8 2, .int .u8 (s1 : Int), .int .u8 (fq : Int), .int .u8 (fc : Int), .slice (some ⟨G2, 0, none⟩) 1 1] 30) = yu at *
          generalize G2 + 1 = G3 at *
          have hf := HG8.out.fc
          have p0 := hf.c0
          have p1 := hf.c1
          have p2 := hf.c2
          have p3 := hf.c3
          have p4 := hf.c4
          have p5 := hf.c5
          clear hf
          simp only at p0 p1 p2 p3 p4 p5
          go_wp2_with fail
          refine (take_at sla_cond (f := ⟨a, 2, s1, fq, fc, [120]⟩) H.out HH7.out (by show 1 ≤ 1000000; omega) HS1.out (otherS HAD.out HNE.out)).mono ?_
          rintro e z ⟨A5, c5, A6, c6, rfl, o5, o6, h5, hf5⟩
          simp only [List.length_nil] at o5 o6 ⊢
          rw [HSE.out]
          replace H := Lib.hid h5
          clear o5 o6 h5 hf5 HH7 HG8 p0 p1 p2 p3 p4 p5
          have hb9 := new_below z (.cells #[.int .u8 (a : Int), .int .u8 5, .int .u8 (se : Int), .int .u8 0, .int .u8 0, .slice A5 0 c5] 30)
          have HG9 : Hid (Fx (z.alloc (.cells #[.int .u8 (a : Int), .int .u8 5, .int .u8 (se : Int), .int .u8 0, .int .u8 0, .slice A5 0 c5] 30)) z.heap.size ⟨a, 5, se, 0, 0, []⟩ (.slice A5 0 c5)) := heap_alloc_new z _
          replace H := Lib.hid (H.out.step hb9)
          clear hb9
          go_upto_region 31 with fail
          generalize z.alloc (.cells #[.int .u8 (a : Int), .int .u8 5, .int .u8 (se : Int), .int .u8 0, .int .u8 0, .slice A5 0 c5] 30) = yv at *
          generalize z.heap.size = G4 at *
          have p1 := HG9.out.fc.c1
          have p2 := HG9.out.fc.c2
          have p5 : yv.cell? ⟨G4, 5, none⟩ = some (.slice A5 0 c5) := HG9.out.fc.c5
          go_wp2_with fail
          refine (sla_cond.pending H.out).mono ?_
          rintro e z2 ⟨rfl, rfl⟩
          rw [HPD.out]
          go_wp2_with fail
          refine (sla_cond.session H.out).mono ?_
          rintro e z3 ⟨rfl, rfl⟩
          rw [HSE.out]
          go_wp2
          go_ret
          exact ⟨rfl, H.out.below⟩

end Go.Proofs.Ytabedmkhhlmbkaa
