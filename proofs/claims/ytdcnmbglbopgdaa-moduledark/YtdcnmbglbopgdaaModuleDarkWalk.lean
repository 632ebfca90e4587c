/-
  lamplightlaw11.ModuleDark, walked: true, under the conditions on module's calls.
-/
import Derived.Test.YtdcnmbglbopgdaaModS
namespace Go.Proofs.Ytdcnmbglbopgdaa
set_option linter.unusedVariables false
set_option linter.unusedSimpArgs false
open Go.RowKit

theorem s_disp {y : World} {Y : Nat} {a b : Bool} {t q m : Int} (h : y.heap[Y]? = some (.cells #[.bool a, .bool b, .int .u16 t, .int .u16 q, .int .u16 m] 53 (0, 0))) : y.cell? ⟨Y, 0, none⟩ = some (.bool a) ∧ y.cell? ⟨Y, 1, none⟩ = some (.bool b) ∧ y.cell? ⟨Y, 2, none⟩ = some (.int .u16 t) ∧ y.cell? ⟨Y, 3, none⟩ = some (.int .u16 q) ∧ y.cell? ⟨Y, 4, none⟩ = some (.int .u16 m) := by
  refine ⟨?_, ?_, ?_, ?_, ?_⟩ <;> simp [World.cell?, h]
set_option maxRecDepth 20000 in
set_option maxHeartbeats 6400000 in
theorem moduledark_walk {Mp : World → List Nat → Nat → Mo → Prop} (MC : ModCond Mp) {g n c t q : Nat} {A : Option Addr} {l : List UInt8} {w : World} (h : Holds w g A (bcs l)) (hn : l.length = n) (hc : n ≤ c) (hcm : c ≤ 9223372036854775807) (ht : t < 65536) (hq : q < 65536) :
    Calls Try.prog 7 #[.slice A n c, .int .u16 (t : Int), .int .u16 (q : Int)] w fun e w' => e = .returned (.bool true) ∧ Below w.heap.size w w' := by
  obtain ⟨m, hm1, hm2, hlast⟩ : ∃ m, m ≤ n ∧ m ≤ 20 ∧ (m = n ∨ m = 20) := ⟨min n 20, by omega, by omega, by omega⟩
  have HMC := Lib.hid MC
  have HH := Lib.hid h
  have HL := Lib.hid hn
  have HLA := Lib.hid hlast
  have hfl := field_lit
  clear MC h hn hlast
  go_enter Try.func7, Try.ntmps7
  go_wp2_with fail
  refine (shown_on HMC.out w).mono ?_
  rintro e x0 ⟨rfl, hb0⟩
  have HB0 := Lib.hid hb0
  clear hb0
  go_wp2_with fail
  refine (opened_on HMC.out x0).mono ?_
  rintro e x1 ⟨D, X, rfl, h1, -⟩
  have H1 := Lib.hid (h1.base HB0.out)
  have HA1 := Lib.hid lia_open
  have HS1 := Lib.hid sh_open
  clear h1
  go_wp2
  go_loopw [9, 10] (fun nv iv wr => ∃ (i : Nat) (li : Li), i ≤ m ∧ nv = .int .i64 ((1 + 10 * i : Nat) : Int) ∧ iv = .int .i64 i ∧ Hid (LiA li []) ∧ Hid (Sh li.m false false 0 0 0) ∧ Hid (Ll Mp w [] X D li.m li.seq li.ack wr)) (fun _ iv _ => m - (intOf iv).toNat)
  case atStart => exact ⟨0, ⟨openMo, 0, 0⟩, Nat.zero_le _, rfl, rfl, HA1, HS1, H1⟩
  case round =>
    clear HA1 HS1 H1 x1
    obtain ⟨i, li, hi, rfl, rfl, HA, HS, H⟩ := hrel
    rename World => y0
    by_cases hlt : i < m
    · have hlt1 : (i : Int) < (n : Int) := by omega
      have hlt3 : (i : Int) < 20 := by omega
      have hil : i < l.length := by rw [HL.out]; omega
      obtain ⟨hgw, o, rfl, hcell⟩ := HH.out (by rw [bcs_length]; omega)
      have e0 : y0.cell? ⟨g, o + i, none⟩ = some (.int .u8 (l[i].toNat : Int)) := (H.out.lm.below.cell (p := ⟨g, o + i, none⟩) hgw).trans (hcell i _ (bcs_get l i hil))
      have ha : l[i].toNat < 256 := l[i].toNat_lt
      generalize l[i].toNat = a at *
      obtain ⟨b, hb3, hba⟩ := and3b a ha
      clear hcell hgw hil
      go_wp2_with fail
      refine (press_on HMC.out H.out (b := b) (now := 1 + 10 * i) hb3 HA.out.mi.f (by omega)).mono ?_
      rintro e y1 ⟨rfl, h, -⟩
      rw [pressMo_dark HS.out.lit] at h
      have H1 := Lib.hid h
      have c0 := h.cells.1
      clear h H e0
      go_wp2_with fail
      refine (H1.out.show_on HMC.out).mono ?_
      rintro e y2 ⟨rfl, h, -⟩
      rw [HS.out.mdc]
      have H2 := Lib.hid h
      clear h H1 c0
      go_wp2_with fail
      refine (poll_on HMC.out H2.out (by simp) HA.out.seq HA.out.ack).mono ?_
      rintro e y3 ⟨rfl, h, -⟩
      obtain ⟨p1, p2, p3⟩ := li_poll (p := []) (.inl HA.out) HS.out
      have HA3 := Lib.hid p2
      have HS3 := Lib.hid p3
      have H3 := Lib.hid h
      have HP3 : Hid ((tellsLi ⟨li.m, li.seq, li.ack⟩ []).2 = []) := Lib.hid p1
      rw [HP3.out]
      clear h H2 p1 p2 p3
      go_wp2
      go_roundw
      case rel => exact ⟨i + 1, (tellsLi li []).1, by omega, by go_num, by go_num, HA3, HS3, H3⟩
      case measure => simp [intOf]; omega
    · have hkn : m = i := by omega
      subst hkn
      have hex : (¬ (m : Int) < (n : Int)) ∨ ((m : Int) < (n : Int) ∧ ¬ (m : Int) < 20) := by have := HLA.out; omega
      clear hi hlt
      rcases hex with hl1 | ⟨hl1, hl2⟩
      · have hb2 := new_below y0 (.cells #[.int .u8 1, .int .u8 ((t : Int) / 256), .int .u8 ((t : Int) % 256), .int .u8 ((q : Int) / 256), .int .u8 ((q : Int) % 256)] 5)
        have hd2 := heap_alloc_new y0 (.cells #[.int .u8 1, .int .u8 ((t : Int) / 256), .int .u8 ((t : Int) % 256), .int .u8 ((q : Int) / 256), .int .u8 ((q : Int) % 256)] 5)
        have H2 := Lib.hid (H.out.more HMC.out hb2 (by simp))
        have HX2 : Hid (X ≠ y0.heap.size) := Lib.hid (H.out.ne (Nat.le_refl _))
        have HR2 := Lib.hid hd2
        clear hb2 hd2 H
        go_upto_region 12 with fail
        have HM2 := Lib.hid hm2
        have HM1 := Lib.hid hm1
        have HTQ := Lib.hid (And.intro ht hq)
        clear hl1
        try clear hl2
        have HNC := Lib.hid hc
        clear hm1 hm2 hc hcm
        go_wp2_with fail
        generalize y0.alloc (.cells #[.int .u8 1, .int .u8 ((t : Int) / 256), .int .u8 ((t : Int) % 256), .int .u8 ((q : Int) / 256), .int .u8 ((q : Int) % 256)] 5) = y2 at *
        generalize y0.heap.size = L at *
        refine (tells_on HMC.out H2.out (by simpa using HX2.out) HA.out.seq HA.out.ack (b := txt5 1 t q) (n := 5) (by rw [txt5_cells ht hq]; exact Holds.of_row HR2.out) (.inr (.inr (by simp))) rfl (by omega) (by omega) (by omega)).mono ?_
        rintro e y3 ⟨rfl, h, -⟩
        obtain ⟨p1, p2, p3⟩ := HA.out.lightS (t := t) (q := q) (by unfold Mo.same; rw [HS.out.lit]; rfl) ht hq
        have HA3 := Lib.hid p2
        have HS3 := Lib.hid p3
        have H3 : Hid (Ll Mp w [] X D (tellsLi li (txt5 1 t q)).1.m (tellsLi li (txt5 1 t q)).1.seq (tellsLi li (txt5 1 t q)).1.ack y3) := Lib.hid (h.less (by simp))
        clear h H2 HR2 p1 p2 p3 HA HS
        generalize (tellsLi li (txt5 1 t q)).1 = l3 at *
        go_wp2_with fail
        refine (press_on HMC.out H3.out (b := 0) (now := 1 + 10 * m) (by omega) HA3.out.mi.f (by have := HM2.out; omega)).mono ?_
        rintro e y4 ⟨rfl, h, -⟩
        obtain ⟨p1, p2⟩ := HA3.out.offer (b := 0) HS3.out (.inl rfl)
        have HA4 := Lib.hid p1
        have HS4 := Lib.hid p2
        have H4 : Hid (Ll Mp w [] X D (pressMo l3.m 0) l3.seq l3.ack y4) := Lib.hid h
        have c0 := h.cells.1
        clear h p1 p2 H3 HS3
        go_wp2_with fail
        refine (H4.out.show_on HMC.out).mono ?_
        rintro e y5 ⟨rfl, h, -⟩
        rw [HS4.out.mdc]
        have H5 := Lib.hid h
        clear h H4 c0
        have hb6 := new_below y5 (.cells #[.bool true, .bool true, .int .u16 (t : Int), .int .u16 (q : Int), .int .u16 (q : Int)] 53)
        have H6 := Lib.hid (H5.out.more HMC.out hb6 (by simp))
        have HX6 : Hid (X ≠ y5.heap.size) := Lib.hid (H5.out.ne (Nat.le_refl _))
        have HD6 := Lib.hid (heap_alloc_new y5 (.cells #[.bool true, .bool true, .int .u16 (t : Int), .int .u16 (q : Int), .int .u16 (q : Int)] 53))
        clear hb6 H5
        go_upto_region 15 with fail
        generalize y5.alloc (.cells #[.bool true, .bool true, .int .u16 (t : Int), .int .u16 (q : Int), .int .u16 (q : Int)] 53) = y6 at *
        generalize y5.heap.size = Yd at *
        have d0 : y6.cell? ⟨Yd, 0, none⟩ = some (.bool true) := by simp [World.cell?, HD6.out]
        have d1 : y6.cell? ⟨Yd, 1, none⟩ = some (.bool true) := by simp [World.cell?, HD6.out]
        have d3 : y6.cell? ⟨Yd, 3, none⟩ = some (.int .u16 (q : Int)) := by simp [World.cell?, HD6.out]
        go_wp2_with fail
        refine (poll_on HMC.out H6.out (by simpa using HX6.out) HA4.out.seq HA4.out.ack).mono ?_
        rintro e y7 ⟨rfl, h, hv⟩
        obtain ⟨p1, p2, _, p4⟩ := HA4.out.poll
        have HB7 := Lib.hid (p4 (by rw [txt5_len]; omega))
        have HS7 : Hid (Sh (tellsLi ⟨pressMo l3.m 0, l3.seq, l3.ack⟩ []).1.m true true t q q) := Lib.hid (by rw [p2]; exact HS4.out)
        have H7 := Lib.hid h
        have HD7 := Lib.hid ((hv.block Yd (by simp)).trans HD6.out)
        have HP7 := Lib.hid p1
        rw [HP7.out]
        have hne : ¬ ((⟨(txt5 (if (0 : Nat) = 0 then 1 else 2) t q).toArray⟩ : ByteArray) = ⟨#[]⟩) := by
          intro e
          injection e with e
          have := congrArg Array.size e
          simp [txt5] at this
        generalize (⟨(txt5 (if (0 : Nat) = 0 then 1 else 2) t q).toArray⟩ : ByteArray) = sv at *
        clear h hv p1 p2 p4 H6 HD6 HA4 HS4 d0 d1 d3
        go_upto_if 86 with fail
        have HC7 : Hid (∃ p, LiA (tellsLi ⟨pressMo l3.m 0, l3.seq, l3.ack⟩ []).1 [] ∨ LiB (tellsLi ⟨pressMo l3.m 0, l3.seq, l3.ack⟩ []).1 p) := Lib.hid ⟨_, .inr HB7.out⟩
        clear HB7 HP7
        generalize (tellsLi ⟨pressMo l3.m 0, l3.seq, l3.ack⟩ []).1 = l7 at *
        have HX6' := HX6
        go_wp2
        go_loopw [9, 12] (fun nv iv wr => ∃ (j : Nat) (li : Li), j ≤ m ∧ nv = .int .i64 ((11 + 10 * m + 10 * j : Nat) : Int) ∧ iv = .int .i64 j ∧ Hid (∃ p, LiA li [] ∨ LiB li p) ∧ Hid (Sh li.m true true t q q) ∧ Hid (Ll Mp w [Yd] X D li.m li.seq li.ack wr) ∧ Hid (wr.heap[Yd]? = some (.cells #[.bool true, .bool true, .int .u16 (t : Int), .int .u16 (q : Int), .int .u16 (q : Int)] 53 (0, 0)))) (fun _ iv _ => m - (intOf iv).toNat)
        case atStart => exact ⟨0, l7, Nat.zero_le _, by go_num, rfl, HC7, HS7, H7, HD7⟩
        case round =>
          clear HC7 HS7 H7 HD7 y7
          obtain ⟨j, li, hj, rfl, rfl, HC, HS, H, HD⟩ := hrel
          rename World => z0
          by_cases hlt : j < m
          · have hlt1 : (j : Int) < (n : Int) := by have := HM1.out; omega
            have hlt3 : (j : Int) < 20 := by have := HM2.out; omega
            have hil : j < l.length := by rw [HL.out]; have := HM1.out; omega
            obtain ⟨hgw, o, rfl, hcell⟩ := HH.out (by rw [bcs_length]; omega)
            have e0 : z0.cell? ⟨g, o + j, none⟩ = some (.int .u8 (l[j].toNat : Int)) := (H.out.lm.below.cell (p := ⟨g, o + j, none⟩) hgw).trans (hcell j _ (bcs_get l j hil))
            have ha : l[j].toNat < 256 := l[j].toNat_lt
            have hnc : n ≤ c := HNC.out
            generalize l[j].toNat = a at *
            obtain ⟨b, hb3, hba⟩ := and3b a ha
            obtain ⟨pp, hpp⟩ := HC.out
            have HB := Lib.hid (li_bits hpp)
            have HPO := Lib.hid (li_poll hpp HS.out)
            clear hcell hgw hil hpp
            go_wp2_with fail
            refine (press_on HMC.out H.out (b := b) (now := 11 + 10 * m + 10 * j) hb3 HB.out.2.2 (by have := HM2.out; omega)).mono ?_
            rintro e z1 ⟨rfl, h, hv⟩
            rw [pressMo_lat HS.out.lat] at h
            have H1 := Lib.hid h
            have HD1 := Lib.hid ((hv.block Yd (by simp)).trans HD.out)
            clear h hv H e0 HD
            go_upto_region 21 with fail
            have hd0 := drew_below z1
            have H2 := Lib.hid (H1.out.step HMC.out hd0)
            have HD2 := Lib.hid ((hd0.block Yd (Array.getElem?_eq_some_iff.1 HD1.out).1).trans HD1.out)
            clear hd0 H1 HD1
            refine region_plan [(true, 0), (true, 1), (true, 2), (true, 3), (true, 5), (false, 4), (true, 6), (true, 7), (true, 8), (false, 9), (true, 10), (true, 11)]
              (fun z => z.cell? ⟨X, 0, none⟩ = some (.pointer (some ⟨D, 0, none⟩)) ∧ z.cell? ⟨Yd, 0, none⟩ = some (.bool true) ∧ z.cell? ⟨Yd, 1, none⟩ = some (.bool true) ∧ z.cell? ⟨Yd, 2, none⟩ = some (.int .u16 (t : Int)) ∧ z.cell? ⟨Yd, 3, none⟩ = some (.int .u16 (q : Int)) ∧ z.cell? ⟨Yd, 4, none⟩ = some (.int .u16 (q : Int)))
              (by kernel_rfl) (by kernel_rfl) (by kernel_rfl) rfl ⟨H2.out.cells.1, s_disp HD2.out⟩ ?_
            generalize z1.drew = z2 at *
            iterate 5 (first | (refine Plan.take (v := ?_) rfl (by rfl) ?_ ?_; rotate_left 1; (focus (intro x hx; go_simp <;> (first | with_reducible rfl | rw [if_pos (by omega)]))); simp only [Act.put, List.setIfInBounds_toArray, List.set_cons_zero, List.set_cons_succ]) | (refine Plan.skip rfl (by rfl) ?_; simp only [Act.put, List.setIfInBounds_toArray, List.set_cons_zero, List.set_cons_succ]))
            refine Plan.loud rfl (fun K hK => ?_)
            go_simp
            refine (H2.out.show_on HMC.out).mono ?_
            rintro e z3 ⟨rfl, h, hb⟩
            rw [HS.out.mdc]
            have H3 := Lib.hid h
            have HD3 := Lib.hid ((hb.block Yd (Array.getElem?_eq_some_iff.1 HD2.out).1).trans HD2.out)
            refine hK.out _ _ _ (fun x hx => hx) ⟨H3.out.cells.1, s_disp HD3.out⟩ ?_
            clear hK K h hb H2 HD2
            iterate 3 (first | (refine Plan.take (v := ?_) rfl (by rfl) ?_ ?_; rotate_left 1; (focus (intro x hx; go_simp <;> (first | with_reducible rfl | rw [if_pos (by omega)]))); simp only [Act.put, List.setIfInBounds_toArray, List.set_cons_zero, List.set_cons_succ]) | (refine Plan.skip rfl (by rfl) ?_; simp only [Act.put, List.setIfInBounds_toArray, List.set_cons_zero, List.set_cons_succ]))
            refine Plan.loud rfl (fun K hK => ?_)
            go_simp
            refine (poll_on HMC.out H3.out (by simpa using HX6'.out) HB.out.1 HB.out.2.1).mono ?_
            rintro e z4 ⟨rfl, h, hv⟩
            have H4 := Lib.hid h
            have HD4 := Lib.hid ((hv.block Yd (by simp)).trans HD3.out)
            have HP4 : Hid ((tellsLi ⟨li.m, li.seq, li.ack⟩ []).2 = []) := Lib.hid HPO.out.1
            rw [HP4.out]
            refine hK.out _ _ _ (fun x hx => hx) ⟨H4.out.cells.1, s_disp HD4.out⟩ ?_
            clear hK K h hv H3 HD3
            iterate 2 (first | (refine Plan.take (v := ?_) rfl (by rfl) ?_ ?_; rotate_left 1; (focus (intro x hx; go_simp <;> (first | with_reducible rfl | rw [if_pos (by omega)]))); simp only [Act.put, List.setIfInBounds_toArray, List.set_cons_zero, List.set_cons_succ]) | (refine Plan.skip rfl (by rfl) ?_; simp only [Act.put, List.setIfInBounds_toArray, List.set_cons_zero, List.set_cons_succ]))
            refine Plan.done ?_
            have HC5 : Hid (∃ p, LiA (tellsLi li []).1 [] ∨ LiB (tellsLi li []).1 p) := Lib.hid ⟨[], .inl HPO.out.2.1⟩
            have HS5 := Lib.hid HPO.out.2.2
            go_wp2
            refine ⟨?_, ?_⟩
            rotate_left 1
            · simp [intOf]; omega
            repeat' apply Exists.intro
            all_goals first
              | (refine ⟨?_, rfl⟩; exact ⟨j + 1, (tellsLi li []).1, by omega, by go_num, by go_num, HC5, HS5, H4, HD4⟩)
              | skip
          · have hkn : m = j := by omega
            subst hkn
            have hex : (¬ (m : Int) < (n : Int)) ∨ ((m : Int) < (n : Int) ∧ ¬ (m : Int) < 20) := by have := HLA.out; have := HM1.out; omega
            clear hj hlt
            rcases hex with hl1 | ⟨hl1, hl2⟩
            all_goals
              go_wp2
              go_ret
              exact ⟨rfl, H.out.lm.below⟩
      · have hb2 := new_below y0 (.cells #[.int .u8 1, .int .u8 ((t : Int) / 256), .int .u8 ((t : Int) % 256), .int .u8 ((q : Int) / 256), .int .u8 ((q : Int) % 256)] 5)
        have hd2 := heap_alloc_new y0 (.cells #[.int .u8 1, .int .u8 ((t : Int) / 256), .int .u8 ((t : Int) % 256), .int .u8 ((q : Int) / 256), .int .u8 ((q : Int) % 256)] 5)
        have H2 := Lib.hid (H.out.more HMC.out hb2 (by simp))
        have HX2 : Hid (X ≠ y0.heap.size) := Lib.hid (H.out.ne (Nat.le_refl _))
        have HR2 := Lib.hid hd2
        clear hb2 hd2 H
        go_upto_region 12 with fail
        have HM2 := Lib.hid hm2
        have HM1 := Lib.hid hm1
        have HTQ := Lib.hid (And.intro ht hq)
        clear hl1
        try clear hl2
        have HNC := Lib.hid hc
        clear hm1 hm2 hc hcm
        go_wp2_with fail
        generalize y0.alloc (.cells #[.int .u8 1, .int .u8 ((t : Int) / 256), .int .u8 ((t : Int) % 256), .int .u8 ((q : Int) / 256), .int .u8 ((q : Int) % 256)] 5) = y2 at *
        generalize y0.heap.size = L at *
        refine (tells_on HMC.out H2.out (by simpa using HX2.out) HA.out.seq HA.out.ack (b := txt5 1 t q) (n := 5) (by rw [txt5_cells ht hq]; exact Holds.of_row HR2.out) (.inr (.inr (by simp))) rfl (by omega) (by omega) (by omega)).mono ?_
        rintro e y3 ⟨rfl, h, -⟩
        obtain ⟨p1, p2, p3⟩ := HA.out.lightS (t := t) (q := q) (by unfold Mo.same; rw [HS.out.lit]; rfl) ht hq
        have HA3 := Lib.hid p2
        have HS3 := Lib.hid p3
        have H3 : Hid (Ll Mp w [] X D (tellsLi li (txt5 1 t q)).1.m (tellsLi li (txt5 1 t q)).1.seq (tellsLi li (txt5 1 t q)).1.ack y3) := Lib.hid (h.less (by simp))
        clear h H2 HR2 p1 p2 p3 HA HS
        generalize (tellsLi li (txt5 1 t q)).1 = l3 at *
        go_wp2_with fail
        refine (press_on HMC.out H3.out (b := 0) (now := 1 + 10 * m) (by omega) HA3.out.mi.f (by have := HM2.out; omega)).mono ?_
        rintro e y4 ⟨rfl, h, -⟩
        obtain ⟨p1, p2⟩ := HA3.out.offer (b := 0) HS3.out (.inl rfl)
        have HA4 := Lib.hid p1
        have HS4 := Lib.hid p2
        have H4 : Hid (Ll Mp w [] X D (pressMo l3.m 0) l3.seq l3.ack y4) := Lib.hid h
        have c0 := h.cells.1
        clear h p1 p2 H3 HS3
        go_wp2_with fail
        refine (H4.out.show_on HMC.out).mono ?_
        rintro e y5 ⟨rfl, h, -⟩
        rw [HS4.out.mdc]
        have H5 := Lib.hid h
        clear h H4 c0
        have hb6 := new_below y5 (.cells #[.bool true, .bool true, .int .u16 (t : Int), .int .u16 (q : Int), .int .u16 (q : Int)] 53)
        have H6 := Lib.hid (H5.out.more HMC.out hb6 (by simp))
        have HX6 : Hid (X ≠ y5.heap.size) := Lib.hid (H5.out.ne (Nat.le_refl _))
        have HD6 := Lib.hid (heap_alloc_new y5 (.cells #[.bool true, .bool true, .int .u16 (t : Int), .int .u16 (q : Int), .int .u16 (q : Int)] 53))
        clear hb6 H5
        go_upto_region 15 with fail
        generalize y5.alloc (.cells #[.bool true, .bool true, .int .u16 (t : Int), .int .u16 (q : Int), .int .u16 (q : Int)] 53) = y6 at *
        generalize y5.heap.size = Yd at *
        have d0 : y6.cell? ⟨Yd, 0, none⟩ = some (.bool true) := by simp [World.cell?, HD6.out]
        have d1 : y6.cell? ⟨Yd, 1, none⟩ = some (.bool true) := by simp [World.cell?, HD6.out]
        have d3 : y6.cell? ⟨Yd, 3, none⟩ = some (.int .u16 (q : Int)) := by simp [World.cell?, HD6.out]
        go_wp2_with fail
        refine (poll_on HMC.out H6.out (by simpa using HX6.out) HA4.out.seq HA4.out.ack).mono ?_
        rintro e y7 ⟨rfl, h, hv⟩
        obtain ⟨p1, p2, _, p4⟩ := HA4.out.poll
        have HB7 := Lib.hid (p4 (by rw [txt5_len]; omega))
        have HS7 : Hid (Sh (tellsLi ⟨pressMo l3.m 0, l3.seq, l3.ack⟩ []).1.m true true t q q) := Lib.hid (by rw [p2]; exact HS4.out)
        have H7 := Lib.hid h
        have HD7 := Lib.hid ((hv.block Yd (by simp)).trans HD6.out)
        have HP7 := Lib.hid p1
        rw [HP7.out]
        have hne : ¬ ((⟨(txt5 (if (0 : Nat) = 0 then 1 else 2) t q).toArray⟩ : ByteArray) = ⟨#[]⟩) := by
          intro e
          injection e with e
          have := congrArg Array.size e
          simp [txt5] at this
        generalize (⟨(txt5 (if (0 : Nat) = 0 then 1 else 2) t q).toArray⟩ : ByteArray) = sv at *
        clear h hv p1 p2 p4 H6 HD6 HA4 HS4 d0 d1 d3
        go_upto_if 86 with fail
        have HC7 : Hid (∃ p, LiA (tellsLi ⟨pressMo l3.m 0, l3.seq, l3.ack⟩ []).1 [] ∨ LiB (tellsLi ⟨pressMo l3.m 0, l3.seq, l3.ack⟩ []).1 p) := Lib.hid ⟨_, .inr HB7.out⟩
        clear HB7 HP7
        generalize (tellsLi ⟨pressMo l3.m 0, l3.seq, l3.ack⟩ []).1 = l7 at *
        have HX6' := HX6
        go_wp2
        go_loopw [9, 12] (fun nv iv wr => ∃ (j : Nat) (li : Li), j ≤ m ∧ nv = .int .i64 ((11 + 10 * m + 10 * j : Nat) : Int) ∧ iv = .int .i64 j ∧ Hid (∃ p, LiA li [] ∨ LiB li p) ∧ Hid (Sh li.m true true t q q) ∧ Hid (Ll Mp w [Yd] X D li.m li.seq li.ack wr) ∧ Hid (wr.heap[Yd]? = some (.cells #[.bool true, .bool true, .int .u16 (t : Int), .int .u16 (q : Int), .int .u16 (q : Int)] 53 (0, 0)))) (fun _ iv _ => m - (intOf iv).toNat)
        case atStart => exact ⟨0, l7, Nat.zero_le _, by go_num, rfl, HC7, HS7, H7, HD7⟩
        case round =>
          clear HC7 HS7 H7 HD7 y7
          obtain ⟨j, li, hj, rfl, rfl, HC, HS, H, HD⟩ := hrel
          rename World => z0
          by_cases hlt : j < m
          · have hlt1 : (j : Int) < (n : Int) := by have := HM1.out; omega
            have hlt3 : (j : Int) < 20 := by have := HM2.out; omega
            have hil : j < l.length := by rw [HL.out]; have := HM1.out; omega
            obtain ⟨hgw, o, rfl, hcell⟩ := HH.out (by rw [bcs_length]; omega)
            have e0 : z0.cell? ⟨g, o + j, none⟩ = some (.int .u8 (l[j].toNat : Int)) := (H.out.lm.below.cell (p := ⟨g, o + j, none⟩) hgw).trans (hcell j _ (bcs_get l j hil))
            have ha : l[j].toNat < 256 := l[j].toNat_lt
            have hnc : n ≤ c := HNC.out
            generalize l[j].toNat = a at *
            obtain ⟨b, hb3, hba⟩ := and3b a ha
            obtain ⟨pp, hpp⟩ := HC.out
            have HB := Lib.hid (li_bits hpp)
            have HPO := Lib.hid (li_poll hpp HS.out)
            clear hcell hgw hil hpp
            go_wp2_with fail
            refine (press_on HMC.out H.out (b := b) (now := 11 + 10 * m + 10 * j) hb3 HB.out.2.2 (by have := HM2.out; omega)).mono ?_
            rintro e z1 ⟨rfl, h, hv⟩
            rw [pressMo_lat HS.out.lat] at h
            have H1 := Lib.hid h
            have HD1 := Lib.hid ((hv.block Yd (by simp)).trans HD.out)
            clear h hv H e0 HD
            go_upto_region 21 with fail
            have hd0 := drew_below z1
            have H2 := Lib.hid (H1.out.step HMC.out hd0)
            have HD2 := Lib.hid ((hd0.block Yd (Array.getElem?_eq_some_iff.1 HD1.out).1).trans HD1.out)
            clear hd0 H1 HD1
            refine region_plan [(true, 0), (true, 1), (true, 2), (true, 3), (true, 5), (false, 4), (true, 6), (true, 7), (true, 8), (false, 9), (true, 10), (true, 11)]
              (fun z => z.cell? ⟨X, 0, none⟩ = some (.pointer (some ⟨D, 0, none⟩)) ∧ z.cell? ⟨Yd, 0, none⟩ = some (.bool true) ∧ z.cell? ⟨Yd, 1, none⟩ = some (.bool true) ∧ z.cell? ⟨Yd, 2, none⟩ = some (.int .u16 (t : Int)) ∧ z.cell? ⟨Yd, 3, none⟩ = some (.int .u16 (q : Int)) ∧ z.cell? ⟨Yd, 4, none⟩ = some (.int .u16 (q : Int)))
              (by kernel_rfl) (by kernel_rfl) (by kernel_rfl) rfl ⟨H2.out.cells.1, s_disp HD2.out⟩ ?_
            generalize z1.drew = z2 at *
            iterate 5 (first | (refine Plan.take (v := ?_) rfl (by rfl) ?_ ?_; rotate_left 1; (focus (intro x hx; go_simp <;> (first | with_reducible rfl | rw [if_pos (by omega)]))); simp only [Act.put, List.setIfInBounds_toArray, List.set_cons_zero, List.set_cons_succ]) | (refine Plan.skip rfl (by rfl) ?_; simp only [Act.put, List.setIfInBounds_toArray, List.set_cons_zero, List.set_cons_succ]))
            refine Plan.loud rfl (fun K hK => ?_)
            go_simp
            refine (H2.out.show_on HMC.out).mono ?_
            rintro e z3 ⟨rfl, h, hb⟩
            rw [HS.out.mdc]
            have H3 := Lib.hid h
            have HD3 := Lib.hid ((hb.block Yd (Array.getElem?_eq_some_iff.1 HD2.out).1).trans HD2.out)
            refine hK.out _ _ _ (fun x hx => hx) ⟨H3.out.cells.1, s_disp HD3.out⟩ ?_
            clear hK K h hb H2 HD2
            iterate 3 (first | (refine Plan.take (v := ?_) rfl (by rfl) ?_ ?_; rotate_left 1; (focus (intro x hx; go_simp <;> (first | with_reducible rfl | rw [if_pos (by omega)]))); simp only [Act.put, List.setIfInBounds_toArray, List.set_cons_zero, List.set_cons_succ]) | (refine Plan.skip rfl (by rfl) ?_; simp only [Act.put, List.setIfInBounds_toArray, List.set_cons_zero, List.set_cons_succ]))
            refine Plan.loud rfl (fun K hK => ?_)
            go_simp
            refine (poll_on HMC.out H3.out (by simpa using HX6'.out) HB.out.1 HB.out.2.1).mono ?_
            rintro e z4 ⟨rfl, h, hv⟩
            have H4 := Lib.hid h
            have HD4 := Lib.hid ((hv.block Yd (by simp)).trans HD3.out)
            have HP4 : Hid ((tellsLi ⟨li.m, li.seq, li.ack⟩ []).2 = []) := Lib.hid HPO.out.1
            rw [HP4.out]
            refine hK.out _ _ _ (fun x hx => hx) ⟨H4.out.cells.1, s_disp HD4.out⟩ ?_
            clear hK K h hv H3 HD3
            iterate 2 (first | (refine Plan.take (v := ?_) rfl (by rfl) ?_ ?_; rotate_left 1; (focus (intro x hx; go_simp <;> (first | with_reducible rfl | rw [if_pos (by omega)]))); simp only [Act.put, List.setIfInBounds_toArray, List.set_cons_zero, List.set_cons_succ]) | (refine Plan.skip rfl (by rfl) ?_; simp only [Act.put, List.setIfInBounds_toArray, List.set_cons_zero, List.set_cons_succ]))
            refine Plan.done ?_
            have HC5 : Hid (∃ p, LiA (tellsLi li []).1 [] ∨ LiB (tellsLi li []).1 p) := Lib.hid ⟨[], .inl HPO.out.2.1⟩
            have HS5 := Lib.hid HPO.out.2.2
            go_wp2
            refine ⟨?_, ?_⟩
            rotate_left 1
            · simp [intOf]; omega
            repeat' apply Exists.intro
            all_goals first
              | (refine ⟨?_, rfl⟩; exact ⟨j + 1, (tellsLi li []).1, by omega, by go_num, by go_num, HC5, HS5, H4, HD4⟩)
              | skip
          · have hkn : m = j := by omega
            subst hkn
            have hex : (¬ (m : Int) < (n : Int)) ∨ ((m : Int) < (n : Int) ∧ ¬ (m : Int) < 20) := by have := HLA.out; have := HM1.out; omega
            clear hj hlt
            rcases hex with hl1 | ⟨hl1, hl2⟩
            all_goals
              go_wp2
              go_ret
              exact ⟨rfl, H.out.lm.below⟩
end Go.Proofs.Ytdcnmbglbopgdaa
