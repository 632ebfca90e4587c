/-
  lamplightlaw11.ModuleSame, walked: true, under the conditions on module's calls.
-/
import Derived.Test.YtdcnmbglbopgdaaModS
namespace Go.Proofs.Ytdcnmbglbopgdaa
set_option linter.unusedVariables false
set_option linter.unusedSimpArgs false
open Go.RowKit

theorem and16m (n : Int) : ∃ a : Nat, a < 65536 ∧ bits .and .i64 n 65535 = (a : Int) := by
  have hm : (BitVec.ofInt 64 65535).toNat = 2 ^ 16 - 1 := by decide
  have key : (BitVec.ofInt 64 n &&& BitVec.ofInt 64 65535).toNat = (n % ((2 ^ 64 : Nat) : Int)).toNat % 2 ^ 16 := by
    rw [BitVec.toNat_and, BitVec.toNat_ofInt, hm, Nat.and_two_pow_sub_one_eq_mod]
  refine ⟨(n % ((2 ^ 64 : Nat) : Int)).toNat % 2 ^ 16, by omega, ?_⟩
  show IntKind.i64.wrap ((BitVec.ofInt 64 n &&& BitVec.ofInt 64 65535).toNat : Nat) = _
  rw [key, IntKind.wrap_i64]
  omega
/-- Minus is pressed. -/
theorem LiA.minus {l : Li} {t q most : Nat} (h : LiA l []) (hs : Sh l.m true false t q most) : LiA ⟨pressMo l.m 2, l.seq, l.ack⟩ [] ∧ Sh (pressMo l.m 2) true false t (q - 1) most := by
  have hp : pressMo l.m 2 = { l.m with qty := l.m.qty - 1 } := by
    unfold pressMo
    rw [if_neg (by rw [hs.lit, hs.lat]; simp), if_neg (by omega), if_pos rfl]
  rw [hp]
  have hok := h.mi.ok
  have h1 := hok.qty
  refine ⟨⟨⟨h.mi.s, h.mi.f, ⟨hok.s, hok.f, hok.tok, by show l.m.qty - 1 ≤ l.m.most; omega, hok.most⟩⟩, h.seq, h.ack⟩, ⟨hs.lit, hs.lat, hs.tok, by show l.m.qty - 1 = q - 1; rw [hs.qty], hs.most⟩⟩
/-- A command that changes nothing of the display. -/
theorem LiA.kept {l : Li} {b : List UInt8} {lit lat : Bool} {t q most : Nat} (h : LiA l []) (hb : b.length ≠ 0) (hs : Sh l.m lit lat t q most) (hc : ({ l.m with s := ⟨3, 1, l.ack, 1 - l.seq, []⟩ } : Mo).cmd b = { l.m with s := ⟨3, 1, l.ack, 1 - l.seq, []⟩ }) :
    LiA (tellsLi l b).1 [] ∧ Sh (tellsLi l b).1.m lit lat t q most := by
  obtain ⟨_, h2, h3⟩ := h.data hb
  refine ⟨h3, ?_⟩
  rw [h2, hc]
  exact hs.other
/-- The same light again. -/
theorem LiA.again {l : Li} {t q most o : Nat} (h : LiA l []) (hs : Sh l.m true false t q most) (ht : t < 65536) (ho : o < 65536) : LiA (tellsLi l (txt5 1 t o)).1 [] ∧ Sh (tellsLi l (txt5 1 t o)).1.m true false t q most := by
  refine h.kept (by rw [txt5_len]; omega) hs ?_
  unfold Mo.cmd
  rw [parse_txt (.inl rfl) ht ho]
  have h1 : ({ l.m with s := ⟨3, 1, l.ack, 1 - l.seq, []⟩ } : Mo).same t = true := by show (l.m.lit && decide (l.m.tok = t)) = true; rw [hs.lit, hs.tok]; simp
  have h2 : ({ l.m with s := ⟨3, 1, l.ack, 1 - l.seq, []⟩ } : Mo).lat = false := hs.lat
  rw [if_neg (by simp), if_pos rfl, if_pos ⟨h1, .inl h2⟩]
/-- A Clear. -/
theorem LiA.clearS {l : Li} {t q most b : Nat} (h : LiA l []) (hs : Sh l.m true false t q most) (hb : b < 65536) : LiA (tellsLi l (txt5 2 b 0)).1 [] ∧ (t = b → Sh (tellsLi l (txt5 2 b 0)).1.m false false 0 0 0) ∧ (t ≠ b → Sh (tellsLi l (txt5 2 b 0)).1.m true false t q most) := by
  obtain ⟨_, h2, h3⟩ := h.data (b := txt5 2 b 0) (by rw [txt5_len]; omega)
  refine ⟨h3, fun htb => ?_, fun htb => ?_⟩
  · rw [h2]
    unfold Mo.cmd
    rw [parse_txt (.inr rfl) hb (by omega)]
    have h1 : ({ l.m with s := ⟨3, 1, l.ack, 1 - l.seq, []⟩ } : Mo).same b = true := by show (l.m.lit && decide (l.m.tok = b)) = true; rw [hs.lit, hs.tok]; simp [htb]
    rw [if_neg (by simp), if_neg (by simp), if_pos h1]
    exact ⟨rfl, rfl, rfl, rfl, rfl⟩
  · rw [h2]
    unfold Mo.cmd
    rw [parse_txt (.inr rfl) hb (by omega)]
    have h1 : ({ l.m with s := ⟨3, 1, l.ack, 1 - l.seq, []⟩ } : Mo).same b = false := by show (l.m.lit && decide (l.m.tok = b)) = false; rw [hs.lit, hs.tok]; simp [htb]
    rw [if_neg (by simp), if_neg (by simp), if_neg (by rw [h1]; decide)]
    exact hs.other
theorem same_no {l : Li} {t q most b : Nat} {lit lat : Bool} (hs : Sh l.m lit lat t q most) (hb : lit = false ∨ t ≠ b) : l.m.same b = false := by
  unfold Mo.same
  rw [hs.lit, hs.tok]
  rcases hb with hb | hb
  · rw [hb]; rfl
  · simp [hb]
theorem disp_at {y : World} {Y : Nat} {a b : Bool} {t q m : Int} (h : y.heap[Y]? = some (.cells #[.bool a, .bool b, .int .u16 t, .int .u16 q, .int .u16 m] 53 (0, 0))) : y.cell? ⟨Y, 0, none⟩ = some (.bool a) ∧ y.cell? ⟨Y, 1, none⟩ = some (.bool b) ∧ y.cell? ⟨Y, 2, none⟩ = some (.int .u16 t) ∧ y.cell? ⟨Y, 3, none⟩ = some (.int .u16 q) ∧ y.cell? ⟨Y, 4, none⟩ = some (.int .u16 m) := by
  refine ⟨?_, ?_, ?_, ?_, ?_⟩ <;> simp [World.cell?, h]
set_option maxRecDepth 20000 in
set_option maxHeartbeats 6400000 in
theorem modulesame_walk {Mp : World → List Nat → Nat → Mo → Prop} (MC : ModCond Mp) {ta tb qt ot : Nat} {mi : Int} {w : World} (ha : ta < 65536) (hb : tb < 65536) (hq : qt < 65536) (ho : ot < 65536) :
    Calls Try.prog 6 #[.int .u16 (ta : Int), .int .u16 (tb : Int), .int .u16 (qt : Int), .int .u16 (ot : Int), .int .i64 mi] w fun e w' => e = .returned (.bool true) ∧ Below w.heap.size w w' := by
  obtain ⟨mn, hmn, hand⟩ := and16m mi
  obtain ⟨k, hk⟩ : ∃ k, mn % 11 = k := ⟨_, rfl⟩
  have hrem : (mn : Int).tmod 11 = (k : Int) := by rw [← hk]; rfl
  have hk10 : k ≤ 10 := by omega
  have HMC := Lib.hid MC
  clear MC hk
  go_enter Try.func6, Try.ntmps6
  go_wp2_with fail
  refine (shown_on HMC.out w).mono ?_
  rintro e x0 ⟨rfl, hb0⟩
  have HB0 := Lib.hid hb0
  clear hb0
  go_wp2_with fail
  refine (opened_on HMC.out x0).mono ?_
  rintro e x1 ⟨D, X, rfl, h1, -⟩
  have H1 := Lib.hid (h1.base HB0.out)
  clear h1
  go_wp2_with fail
  refine (HMC.out.cbytes (k := 1) (by omega) ha hq).mono ?_
  rintro e x2 ⟨A2, c2, rfl, hoo, hbb⟩
  have HO := Lib.hid hoo
  have HB := Lib.hid hbb
  clear hoo hbb
  go_wp2_with fail
  refine (say_on HMC.out H1.out (by simp) (by omega) (by omega) HB.out HO.out (Nat.le_refl _) rfl (by omega) (by omega)).mono ?_
  rintro e x3 ⟨rfl, h, -⟩
  obtain ⟨_, p2, p3⟩ := lia_open.lightS (t := ta) (q := qt) rfl ha hq
  have HA3 := Lib.hid p2
  have HS3 := Lib.hid p3
  have H3 := Lib.hid h
  clear h p2 p3 H1 HO HB
  generalize (tellsLi ⟨openMo, 0, 0⟩ (txt5 1 ta qt)).1 = l3 at *
  go_wp2
  go_loopw [13, 14] (fun nv iv wr => ∃ (i : Nat) (li : Li), i ≤ k ∧ nv = .int .i64 ((1 + 10 * i : Nat) : Int) ∧ iv = .int .i64 i ∧ Hid (LiA li []) ∧ Hid (Sh li.m true false ta (qt - i) qt) ∧ Hid (Ll Mp w [] X D li.m li.seq li.ack wr)) (fun _ iv _ => k - (intOf iv).toNat)
  case atStart => exact ⟨0, l3, Nat.zero_le _, rfl, rfl, HA3, HS3, H3⟩
  case round =>
    clear HA3 HS3 H3 x3
    obtain ⟨i, li, hi, rfl, rfl, HA, HS, H⟩ := hrel
    rename World => y0
    by_cases hlt : i < k
    · have hlt1 : (i : Int) < (k : Int) := by omega
      go_wp2_with fail
      refine (press_on HMC.out H.out (b := 2) (now := 1 + 10 * i) (by omega) HA.out.mi.f (by omega)).mono ?_
      rintro e y1 ⟨rfl, h, -⟩
      obtain ⟨p1, p2⟩ := HA.out.minus HS.out
      have HA1 := Lib.hid p1
      have HS1 : Hid (Sh (pressMo li.m 2) true false ta (qt - (i + 1)) qt) := Lib.hid (by rw [show qt - (i + 1) = qt - i - 1 by omega]; exact p2)
      have H1 : Hid (Ll Mp w [] X D (pressMo li.m 2) li.seq li.ack y1) := Lib.hid h
      clear h p1 p2 H HA HS
      go_wp2
      go_roundw
      case rel => exact ⟨i + 1, ⟨pressMo li.m 2, li.seq, li.ack⟩, by omega, by go_num, by go_num, HA1, HS1, H1⟩
      case measure => simp [intOf]; omega
    · have hkn : k = i := by omega
      subst hkn
      clear hi hlt
      have c0 := H.out.cells.1
      go_wp2_with fail
      refine (H.out.show_on HMC.out).mono ?_
      rintro e y1 ⟨rfl, h, -⟩
      rw [HS.out.mdc]
      have H1 := Lib.hid h
      clear h H c0
      have hb2 := new_below y1 (.cells #[.bool true, .bool false, .int .u16 (ta : Int), .int .u16 ((qt - k : Nat) : Int), .int .u16 (qt : Int)] 53)
      have H2 := Lib.hid (H1.out.more HMC.out hb2 (by simp))
      have HX2 : Hid (X ≠ y1.heap.size) := Lib.hid (H1.out.ne (Nat.le_refl _))
      have HD2 := Lib.hid (heap_alloc_new y1 (.cells #[.bool true, .bool false, .int .u16 (ta : Int), .int .u16 ((qt - k : Nat) : Int), .int .u16 (qt : Int)] 53))
      clear hb2 H1
      obtain ⟨qk, hqk⟩ : ∃ qk, qt - k = qk := ⟨_, rfl⟩
      rw [hqk] at H2 HD2 HS ⊢
      have HQK := Lib.hid hqk
      clear hqk
      go_upto_region 13 with fail
      generalize y1.alloc (.cells #[.bool true, .bool false, .int .u16 (ta : Int), .int .u16 (qk : Int), .int .u16 (qt : Int)] 53) = y2 at *
      generalize y1.heap.size = Y1 at *
      go_wp2_with fail
      refine (HMC.out.cbytes (k := 1) (by omega) ha ho).mono ?_
      rintro e y3 ⟨A3, c3, rfl, hoo, hbb⟩
      have HO := Lib.hid hoo
      have HB := Lib.hid hbb
      clear hoo hbb
      go_wp2_with fail
      refine (say_on HMC.out H2.out (by simpa using HX2.out) HA.out.seq HA.out.ack HB.out HO.out (Nat.le_refl _) rfl (by omega) (by omega)).mono ?_
      rintro e y4 ⟨rfl, h, hv⟩
      obtain ⟨p1, p2⟩ := HA.out.again HS.out ha ho
      have HA4 := Lib.hid p1
      have HS4 := Lib.hid p2
      have H4 : Hid (Ll Mp w [Y1] X D (tellsLi li (txt5 1 ta ot)).1.m (tellsLi li (txt5 1 ta ot)).1.seq (tellsLi li (txt5 1 ta ot)).1.ack y4) := Lib.hid h
      have HD4 := Lib.hid ((hv.block Y1 (by simp)).trans HD2.out)
      clear h hv p1 p2 H2 HD2 HA HS HO HB
      generalize (tellsLi li (txt5 1 ta ot)).1 = l4 at *
      have c0 := H4.out.cells.1
      go_wp2_with fail
      refine (H4.out.show_on HMC.out).mono ?_
      rintro e y5 ⟨rfl, h, hb⟩
      rw [HS4.out.mdc]
      have H5 := Lib.hid h
      have HD5 := Lib.hid ((hb.block Y1 (Array.getElem?_eq_some_iff.1 HD4.out).1).trans HD4.out)
      clear h hb H4 c0 HD4
      have hb6 := new_below y5 (.cells #[.bool true, .bool false, .int .u16 (ta : Int), .int .u16 (qk : Int), .int .u16 (qt : Int)] 53)
      have H6 := Lib.hid (H5.out.more HMC.out hb6 (by simp))
      have HX6 : Hid (X ≠ y5.heap.size) := Lib.hid (H5.out.ne (Nat.le_refl _))
      have HD6 := Lib.hid ((hb6.block Y1 (Array.getElem?_eq_some_iff.1 HD5.out).1).trans HD5.out)
      have HE6 := Lib.hid (heap_alloc_new y5 (.cells #[.bool true, .bool false, .int .u16 (ta : Int), .int .u16 (qk : Int), .int .u16 (qt : Int)] 53))
      clear hb6 H5 HD5
      go_upto_region 15 with fail
      generalize y5.alloc (.cells #[.bool true, .bool false, .int .u16 (ta : Int), .int .u16 (qk : Int), .int .u16 (qt : Int)] 53) = y6 at *
      generalize y5.heap.size = Y2 at *
      obtain ⟨d0, d1, d2, d3, d4⟩ := disp_at HD6.out
      obtain ⟨f0, f1, f2, f3, f4⟩ := disp_at HE6.out
      have hm1 : max ((qt : Int) - (k : Int)) 0 = (qk : Int) := by have := HQK.out; omega
      have hm2 : (if (0 : Int) < (qt : Int) - (k : Int) then (qt : Int) - (k : Int) else 0) = (qk : Int) := by have := HQK.out; split <;> omega
      have hm3 : (if (qt : Int) - (k : Int) < 0 then 0 else (qt : Int) - (k : Int)) = (qk : Int) := by have := HQK.out; split <;> omega
      go_wp2_with fail
      clear hm1 hm2 hm3 d0 d1 d2 d3 d4 f0 f1 f2 f3 f4
      refine (HMC.out.cbytes (k := 2) (q := 0) (by omega) hb (by omega)).mono ?_
      rintro e y7 ⟨A7, c7, rfl, hoo, hbb⟩
      have HO := Lib.hid hoo
      have HB := Lib.hid hbb
      clear hoo hbb
      go_wp2_with fail
      refine (say_on HMC.out H6.out (by simp; exact ⟨HX6.out, HX2.out⟩) HA4.out.seq HA4.out.ack HB.out HO.out (Nat.le_refl _) rfl (by omega) (by omega)).mono ?_
      rintro e y8 ⟨rfl, h, hv⟩
      obtain ⟨p1, p2, p3⟩ := HA4.out.clearS HS4.out hb
      have HA8 := Lib.hid p1
      have HSY := Lib.hid p2
      have HSN := Lib.hid p3
      have H8 : Hid (Ll Mp w [Y2, Y1] X D (tellsLi l4 (txt5 2 tb 0)).1.m (tellsLi l4 (txt5 2 tb 0)).1.seq (tellsLi l4 (txt5 2 tb 0)).1.ack y8) := Lib.hid h
      have HD8 := Lib.hid ((hv.block Y1 (by simp)).trans HD6.out)
      have c0 := h.cells.1
      clear h hv p1 p2 p3 H6 HD6 HE6 HA4 HS4 HO HB
      generalize (tellsLi l4 (txt5 2 tb 0)).1 = l8 at *
      by_cases hab : ta = tb
      · have HS8 := Lib.hid (HSY.out hab)
        clear HSY HSN
        subst hab
        go_wp2_with fail
        refine (H8.out.show_on HMC.out).mono ?_
        rintro e y9 ⟨rfl, h, -⟩
        rw [HS8.out.mdc]
        have H9 := Lib.hid h
        clear h H8
        go_wp2
        go_ret
        exact ⟨rfl, H9.out.lm.below⟩
      · have HS8 := Lib.hid (HSN.out hab)
        have HNS := Lib.hid (same_no (b := tb) HS8.out (.inr hab))
        have hab' : ((ta : Int) == (tb : Int)) = false := by simp; omega
        clear HSY HSN hab
        go_wp2_with fail
        refine (H8.out.show_on HMC.out).mono ?_
        rintro e y9 ⟨rfl, h, hbb⟩
        rw [HS8.out.mdc]
        have H9 := Lib.hid h
        have HD9 := Lib.hid ((hbb.block Y1 (Array.getElem?_eq_some_iff.1 HD8.out).1).trans HD8.out)
        clear h hbb H8 HD8 c0
        have hb10 := new_below y9 (.cells #[.bool true, .bool false, .int .u16 (ta : Int), .int .u16 (qk : Int), .int .u16 (qt : Int)] 53)
        have H10 := Lib.hid (H9.out.more HMC.out hb10 (by simp))
        have HX10 : Hid (X ≠ y9.heap.size) := Lib.hid (H9.out.ne (Nat.le_refl _))
        have HD10 := Lib.hid ((hb10.block Y1 (Array.getElem?_eq_some_iff.1 HD9.out).1).trans HD9.out)
        have HE10 := Lib.hid (heap_alloc_new y9 (.cells #[.bool true, .bool false, .int .u16 (ta : Int), .int .u16 (qk : Int), .int .u16 (qt : Int)] 53))
        clear hb10 H9 HD9
        go_upto_region 21 with fail
        generalize y9.alloc (.cells #[.bool true, .bool false, .int .u16 (ta : Int), .int .u16 (qk : Int), .int .u16 (qt : Int)] 53) = y10 at *
        generalize y9.heap.size = Y3 at *
        go_wp2_with fail
        refine (HMC.out.cbytes (k := 1) (by omega) hb ho).mono ?_
        rintro e y11 ⟨A11, c11, rfl, hoo, hbb⟩
        have HO := Lib.hid hoo
        have HB := Lib.hid hbb
        clear hoo hbb
        go_wp2_with fail
        refine (say_on HMC.out H10.out (by simp; exact ⟨HX10.out, HX6.out, HX2.out⟩) HA8.out.seq HA8.out.ack HB.out HO.out (Nat.le_refl _) rfl (by omega) (by omega)).mono ?_
        rintro e y12 ⟨rfl, h, hv⟩
        obtain ⟨_, p2, p3⟩ := HA8.out.lightS (t := tb) (q := ot) HNS.out hb ho
        have HS12 := Lib.hid p3
        have H12 : Hid (Ll Mp w [Y3, Y2, Y1] X D (tellsLi l8 (txt5 1 tb ot)).1.m (tellsLi l8 (txt5 1 tb ot)).1.seq (tellsLi l8 (txt5 1 tb ot)).1.ack y12) := Lib.hid h
        have HD12 := Lib.hid ((hv.block Y1 (by simp)).trans HD10.out)
        have HE12 := Lib.hid ((hv.block Y3 (by simp)).trans HE10.out)
        clear h hv p2 p3 H10 HD10 HE10 HA8 HS8 HO HB
        generalize (tellsLi l8 (txt5 1 tb ot)).1 = l12 at *
        have c0 := H12.out.cells.1
        obtain ⟨d0, d1, d2, d3, d4⟩ := disp_at HD12.out
        obtain ⟨f0, f1, f2, f3, f4⟩ := disp_at HE12.out
        go_wp2_with fail
        refine (H12.out.show_on HMC.out).mono ?_
        rintro e y13 ⟨rfl, h, -⟩
        rw [HS12.out.mdc]
        have H13 := Lib.hid h
        clear h H12 HD12 HE12 d0 d1 d2 d3 d4 f0 f1 f2 f3 f4 c0
        go_wp2
        go_ret
        exact ⟨rfl, H13.out.lm.below⟩
end Go.Proofs.Ytdcnmbglbopgdaa
