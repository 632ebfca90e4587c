/-
  lamplightlaw11.ModuleReset, walked: true, under the conditions on module's calls.
-/
import Derived.Test.YtdcnmbglbopgdaaModS
namespace Go.Proofs.Ytdcnmbglbopgdaa
set_option linter.unusedVariables false
set_option linter.unusedSimpArgs false
open Go.RowKit

theorem take_poll0 : takeMo (newMo 3) ⟨3, 3, 1, 0, 0, []⟩ = (newMo 3, ⟨3, 5, 0, 0, 0, []⟩, true) := rfl
theorem fits_poll : Fr.Fits ⟨3, 3, 1, 0, 0, []⟩ := ⟨by decide, by decide, by decide, by decide, by decide⟩
theorem disp_size : (Try.prog.info? 53).map (·.size) = some 5 := by kernel_rfl
set_option maxRecDepth 20000 in
set_option maxHeartbeats 6400000 in
theorem modulereset_walk {Mp : World → List Nat → Nat → Mo → Prop} (MC : ModCond Mp) {g n c t q : Nat} {A : Option Addr} {l : List UInt8} {w : World} (h : Holds w g A (bcs l)) (hn : l.length = n) (hc : n ≤ c) (hcm : c ≤ 9223372036854775807) (ht : t < 65536) (hq : q < 65536) :
    Calls Try.prog 8 #[.slice A n c, .int .u16 (t : Int), .int .u16 (q : Int)] w fun e w' => e = .returned (.bool true) ∧ Below w.heap.size w w' := by
  obtain ⟨m, hm1, hm2, hlast⟩ : ∃ m, m ≤ n ∧ m ≤ 10 ∧ (m = n ∨ m = 10) := ⟨min n 10, by omega, by omega, by omega⟩
  have HMC := Lib.hid MC
  have HH := Lib.hid h
  have HL := Lib.hid hn
  have HLA := Lib.hid hlast
  clear MC h hn hlast
  go_enter Try.func8, Try.ntmps8
  go_wp2_with fail
  refine (shown_on HMC.out w).mono ?_
  rintro e x0 ⟨rfl, hb0⟩
  have HB0 := Lib.hid hb0
  clear hb0
  go_wp2_with fail
  refine (opened_on HMC.out x0).mono ?_
  rintro e x1 ⟨D, X, rfl, h1, -⟩
  have H1 := Lib.hid (h1.base HB0.out)
  clear h1
  go_upto_region 6 with fail
  have hb2 := new_below x1 (.cells #[.int .u8 1, .int .u8 ((t : Int) / 256), .int .u8 ((t : Int) % 256), .int .u8 ((q : Int) / 256), .int .u8 ((q : Int) % 256)] 5)
  have hd2 := heap_alloc_new x1 (.cells #[.int .u8 1, .int .u8 ((t : Int) / 256), .int .u8 ((t : Int) % 256), .int .u8 ((q : Int) / 256), .int .u8 ((q : Int) % 256)] 5)
  have H2 := Lib.hid (H1.out.more HMC.out hb2 (by simp))
  have HX2 : Hid (X ≠ x1.heap.size) := Lib.hid (H1.out.ne (Nat.le_refl _))
  have HR2 := Lib.hid hd2
  clear hb2 hd2 H1
  generalize x1.alloc (.cells #[.int .u8 1, .int .u8 ((t : Int) / 256), .int .u8 ((t : Int) % 256), .int .u8 ((q : Int) / 256), .int .u8 ((q : Int) % 256)] 5) = x2 at *
  generalize x1.heap.size = L at *
  have HLT : Hid (∀ y : World, y.heap[L]? = some (.cells #[.int .u8 1, .int .u8 ((t : Int) / 256), .int .u8 ((t : Int) % 256), .int .u8 ((q : Int) / 256), .int .u8 ((q : Int) % 256)] 5 (0, 0)) → Holds y L (some ⟨L, 0, none⟩) (bcs (txt5 1 t q))) := Lib.hid (fun y hy => by rw [txt5_cells ht hq]; exact Holds.of_row hy)
  have HTL := Lib.hid (tell_lit ht hq)
  go_wp2_with fail
  refine (tells_on HMC.out H2.out (by simpa using HX2.out) (by omega) (by omega) (HLT.out _ HR2.out) (.inr (.inr (by simp))) rfl (by rw [txt5_len]; omega) (by omega) (by rw [txt5_len]; omega)).mono ?_
  rintro e x3 ⟨rfl, h, hv⟩
  rw [HTL.out] at h
  simp only at h
  have H3 := Lib.hid h
  have HR3 := Lib.hid ((hv.block L (by simp)).trans HR2.out)
  have HZ3 : Hid ((litMo t q).f = zeroB ∧ (litMo t q).s.addr = 3) := Lib.hid ⟨rfl, rfl⟩
  clear h hv H2 HR2
  generalize litMo t q = m0 at HZ3 H3
  go_wp2
  go_loopw [10, 11] (fun nv iv wr => ∃ (i : Nat) (mo : Mo), i ≤ m ∧ nv = .int .i64 ((1 + 10 * i : Nat) : Int) ∧ iv = .int .i64 i ∧ Hid (mo.f = zeroB ∧ mo.s.addr = 3) ∧ Hid (Ll Mp w [L] X D mo 1 0 wr) ∧ Hid (wr.heap[L]? = some (.cells #[.int .u8 1, .int .u8 ((t : Int) / 256), .int .u8 ((t : Int) % 256), .int .u8 ((q : Int) / 256), .int .u8 ((q : Int) % 256)] 5 (0, 0)))) (fun _ iv _ => m - (intOf iv).toNat)
  case atStart => exact ⟨0, m0, Nat.zero_le _, rfl, rfl, HZ3, H3, HR3⟩
  case round =>
    clear HZ3 H3 HR3 x3
    obtain ⟨i, mo, hi, rfl, rfl, HZ, H, HR⟩ := hrel
    rename World => y0
    by_cases hlt : i < m
    · have hlt1 : (i : Int) < (n : Int) := by omega
      have hlt3 : (i : Int) < 10 := by omega
      have hil : i < l.length := by rw [HL.out]; omega
      obtain ⟨hgw, o, rfl, hcell⟩ := HH.out (by rw [bcs_length]; omega)
      have e0 : y0.cell? ⟨g, o + i, none⟩ = some (.int .u8 (l[i].toNat : Int)) := (H.out.lm.below.cell (p := ⟨g, o + i, none⟩) hgw).trans (hcell i _ (bcs_get l i hil))
      have ha : l[i].toNat < 256 := l[i].toNat_lt
      generalize l[i].toNat = a at *
      obtain ⟨b, hb3, hba⟩ := and3b a ha
      clear hcell hgw hil
      go_wp2_with fail
      refine (press_on HMC.out H.out (b := b) (now := 1 + 10 * i) hb3 HZ.out.1 (by omega)).mono ?_
      rintro e y1 ⟨rfl, h, hv⟩
      have H1 := Lib.hid h
      have HR1 := Lib.hid ((hv.block L (by simp)).trans HR.out)
      have HZ1 : Hid ((pressMo mo b).f = zeroB ∧ (pressMo mo b).s.addr = 3) := Lib.hid ⟨(pressMo_f mo b).trans HZ.out.1, (pressMo_addr mo b).trans HZ.out.2⟩
      clear h hv H HR HZ e0
      go_wp2
      go_roundw
      case rel => exact ⟨i + 1, _, by omega, by go_num, by go_num, HZ1, H1, HR1⟩
      case measure => simp [intOf]; omega
    · have hkn : m = i := by omega
      subst hkn
      have hex : (¬ (m : Int) < (n : Int)) ∨ ((m : Int) < (n : Int) ∧ ¬ (m : Int) < 10) := by have := HLA.out; omega
      clear hi hlt
      have c0 := H.out.cells.1
      rcases hex with hl1 | ⟨hl1, hl2⟩
      all_goals
        as_aux_lemma =>
          go_wp2_with fail
          refine (HMC.out.resetL H.out.lm).mono ?_
          rintro e y1 ⟨rfl, h, hv⟩
          have H1 := Lib.hid (H.out.turn h hv)
          have HR1 := Lib.hid ((hv.block L (by simp)).trans HR.out)
          have HM : Hid (resetMo mo = newMo 3) := Lib.hid (by unfold resetMo; rw [HZ.out.2])
          rw [HM.out] at H1
          clear h hv H HR c0
          have c0 := H1.out.cells.1
          go_wp2_with fail
          refine (H1.out.show_on HMC.out).mono ?_
          rintro e y2 ⟨rfl, h, hb⟩
          have H2 := Lib.hid h
          have HR2 := Lib.hid ((hb.block L (Array.getElem?_eq_some_iff.1 HR1.out).1).trans HR1.out)
          clear h hb H1 HR1 c0
          have hb3 := new_below y2 (.cells (mdc (newMo 3)) 53)
          have H3 := Lib.hid (H2.out.more HMC.out hb3 (by simp))
          have HXY : Hid (X ≠ y2.heap.size) := Lib.hid (H2.out.ne (Nat.le_refl _))
          have HR3 := Lib.hid ((hb3.block L (Array.getElem?_eq_some_iff.1 HR2.out).1).trans HR2.out)
          have HD3 : Hid (Dp (y2.alloc (.cells (mdc (newMo 3)) 53)) y2.heap.size (newMo 3)) := heap_alloc_new y2 _
          rw [show mdc (newMo 3) = #[.bool false, .bool false, .int .u16 0, .int .u16 0, .int .u16 0] from rfl] at *
          have HDL : Hid (w.heap.size ≤ y2.heap.size) := Lib.hid H2.out.lm.below.size
          clear hb3 H2 HR2
          go_upto_region 14 with fail
          generalize y2.alloc (.cells #[.bool false, .bool false, .int .u16 0, .int .u16 0, .int .u16 0] 53) = y3 at *
          generalize y2.heap.size = Yd at *
          obtain ⟨d0, d1, d2, d3, d4⟩ := HD3.out.cells
          have c0 := H3.out.cells.1
          rw [show (newMo 3).lit = false from rfl] at d0
          rw [show (newMo 3).lat = false from rfl] at d1
          rw [show (((newMo 3).tok : Nat) : Int) = 0 from rfl] at d2
          rw [show (((newMo 3).qty : Nat) : Int) = 0 from rfl] at d3
          rw [show (((newMo 3).most : Nat) : Int) = 0 from rfl] at d4
          go_wp2_with fail
          refine (HMC.out.takeL (f := ⟨3, 3, 1, 0, 0, []⟩) (A := none) (c := 0) (g := 0) H3.out.lm (Holds.nil _ _ _) (.inl rfl) fits_poll (by decide) (by decide) (by decide)).mono ?_
          rintro e y5 ⟨A5, c5, rfl, -, h, hv⟩
          rw [take_poll0] at h ⊢
          simp only at h ⊢
          have H5 := Lib.hid (H3.out.turn h hv)
          have HR5 := Lib.hid ((hv.block L (by simp)).trans HR3.out)
          have HD5 := Lib.hid (HD3.out.vs hv (by simp))
          clear h hv H3 HR3 HD3 c0 d0 d1 d2 d3 d4
          have hb6 := new_below y5 (.cells (mfc ⟨3, 5, 0, 0, 0, []⟩ (.slice A5 0 c5)) 36)
          have hd6 := heap_alloc_new y5 (.cells (mfc ⟨3, 5, 0, 0, 0, []⟩ (.slice A5 0 c5)) 36)
          have H6 := Lib.hid (H5.out.step HMC.out hb6)
          have HR6 := Lib.hid ((hb6.block L (Array.getElem?_eq_some_iff.1 HR5.out).1).trans HR5.out)
          have HD6 := Lib.hid (HD5.out.step hb6)
          clear hb6 H5 HR5 HD5
          go_upto_region 17 with fail
          generalize y5.alloc (.cells (mfc ⟨3, 5, 0, 0, 0, []⟩ (.slice A5 0 c5)) 36) = y6 at *
          generalize y5.heap.size = Ya at *
          have a2 : y6.cell? ⟨Ya, 2, none⟩ = some (.int .u8 0) := by simp [World.cell?, hd6]
          have a5 : y6.cell? ⟨Ya, 5, none⟩ = some (.slice A5 0 c5) := by simp [World.cell?, hd6]
          have c0 := H6.out.cells.1
          clear hd6
          go_wp2_with fail
          refine (HMC.out.takeL (f := ⟨3, 1, 1, 0, 0, []⟩) (A := none) (c := 0) (g := 0) H6.out.lm (Holds.nil _ _ _) (.inl rfl) fits_open (by decide) (by decide) (by decide)).mono ?_
          rintro e y7 ⟨A7, c7, rfl, -, h, hv⟩
          rw [take_open] at h ⊢
          simp only at h ⊢
          have H7 := Lib.hid (H6.out.turn h hv)
          have HR7 := Lib.hid ((hv.block L (by simp)).trans HR6.out)
          have HD7 := Lib.hid (HD6.out.vs hv (by simp))
          clear h hv H6 HR6 HD6 c0 a2 a5
          have hb8 := new_below y7 (.cells (mfc ⟨3, 4, 1, 0, 0, []⟩ (.slice A7 0 c7)) 36)
          have H8 := Lib.hid (H7.out.step HMC.out hb8)
          have HR8 := Lib.hid ((hb8.block L (Array.getElem?_eq_some_iff.1 HR7.out).1).trans HR7.out)
          have HD8 := Lib.hid (HD7.out.step hb8)
          clear hb8 H7 HR7 HD7
          go_upto_region 20 with fail
          generalize y7.alloc (.cells (mfc ⟨3, 4, 1, 0, 0, []⟩ (.slice A7 0 c7)) 36) = y8 at *
          obtain ⟨p1, p2, p3⟩ := H8.out.lm.put (i := 1) (v := .int .u8 0) HMC.out (List.mem_cons_self ..) H8.out.le H8.out.at_
          obtain ⟨p4, p5, p6⟩ := p1.put (i := 2) (v := .int .u8 0) HMC.out (List.mem_cons_self ..) H8.out.le p2
          have hch := p3.trans p6
          have H9 : Hid (Ll Mp w [Yd, L] X D openMo 0 0 ((y8.setCell ⟨X, 1, none⟩ (.int .u8 0)).setCell ⟨X, 2, none⟩ (.int .u8 0))) := Lib.hid ⟨p4, by rw [p5]; simp, H8.out.le⟩
          have HR9 := Lib.hid ((hch.block L (Array.getElem?_eq_some_iff.1 HR8.out).1 (by simp; exact fun e => HX2.out e.symm)).trans HR8.out)
          have HD9 : Hid (Dp ((y8.setCell ⟨X, 1, none⟩ (.int .u8 0)).setCell ⟨X, 2, none⟩ (.int .u8 0)) Yd (newMo 3)) := Lib.hid ((hch.block Yd (Array.getElem?_eq_some_iff.1 HD8.out).1 (by simp; exact fun e => HXY.out e.symm)).trans HD8.out)
          have q1 := H8.out.cells.2.1
          have q2 := H8.out.cells.2.2
          have z1 := H8.out.fz 1
          have z2 := H8.out.fz 2
          clear p1 p2 p3 p4 p5 p6 hch H8 HR8 HD8
          go_upto_region 22 with fail
          clear q1 q2 z1 z2
          generalize (y8.setCell ⟨X, 1, none⟩ (.int .u8 0)).setCell ⟨X, 2, none⟩ (.int .u8 0) = y9 at *
          go_wp2_with fail
          refine (tells_on HMC.out H9.out (by simp; exact ⟨HXY.out, HX2.out⟩) (by omega) (by omega) (HLT.out _ HR9.out) (.inr (.inr (by simp))) rfl (by rw [txt5_len]; omega) (by omega) (by rw [txt5_len]; omega)).mono ?_
          rintro e y10 ⟨rfl, h, hv⟩
          rw [HTL.out] at h ⊢
          simp only at h ⊢
          have H10 := Lib.hid h
          have HD10 := Lib.hid (HD9.out.vs hv (by simp))
          have c0 := h.cells.1
          clear h hv H9 HR9 HD9
          go_wp2_with fail
          refine (H10.out.show_on HMC.out).mono ?_
          rintro e y11 ⟨rfl, h, hb⟩
          have H11 := Lib.hid h
          have HD11 := Lib.hid (HD10.out.step hb)
          clear h hb H10 HD10 c0
          go_upto_region 24 with (refine wpList_store_row rfl 53 _ _ rfl Yd (mdc (litMo t q)) rfl rfl 53 (mdc (newMo 3)) HD11.out disp_size rfl (by simp [Value.oneCell']) ?_)
          have hd12 : Dp (y11.setRow Yd (mdc (litMo t q))) Yd (litMo t q) := setRow_heap y11 Yd _ _ _ _ HD11.out
          have hbl : Below w.heap.size w (y11.setRow Yd (mdc (litMo t q))) := (H11.out.lm.off HMC.out (ch_setRow y11 Yd _) (by simp) (by have := HDL.out; omega)).below
          obtain ⟨d0, d1, d2, d3, d4⟩ := hd12.cells
          have HBL := Lib.hid hbl
          rw [show (litMo t q).lit = true from rfl] at d0
          rw [show (litMo t q).lat = false from rfl] at d1
          rw [show (litMo t q).tok = t from rfl] at d2
          rw [show (litMo t q).qty = q from rfl] at d3
          rw [show (litMo t q).most = q from rfl] at d4
          clear hd12 hbl H11 HD11
          generalize y11.setRow Yd (mdc (litMo t q)) = y12 at *
          go_wp2
          go_ret
          exact ⟨rfl, HBL.out⟩
end Go.Proofs.Ytdcnmbglbopgdaa
