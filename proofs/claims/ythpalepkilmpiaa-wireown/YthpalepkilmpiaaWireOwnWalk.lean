/-
  lamplightlaw06.WireOwn, walked: true, whatever came in.
-/
import Derived.Test.YthpalepkilmpiaaWireV
namespace Go.Proofs.Ythpalepkilmpiaa
set_option linter.unusedVariables false
set_option linter.unusedSimpArgs false
open Go.RowKit

theorem own_u {z : World} {B m : Nat} {v : Value} {l : List UInt8} (h : z.ownsRow B 5 1 v m (bcs l)) (hl : l.length = m) : OwnU z B v m := ⟨l, hl, h⟩
theorem grown_below {w x y : World} {B n c size : Nat} {A : Option Addr} {e : TypeId} {xs : List Value} (hg : x.grownBy y (Value.slice A n c).ownBlock) (ho : x.ownsRow B e size (.slice A n c) n xs) (hB : B ≤ x.heap.size) : Below B x y := (Below.refl _ _).grown hg hB (fun g h => (ho.lt g h).1)

theorem putM_nine (f : Fl) (l : List UInt8) : putM 9 [] f l = (f.rows l, 0) := by
  have := f.of_len l
  unfold putM
  rw [if_neg (by simp; omega)]
  rfl
theorem rows_map (f : Fl) (l : List UInt8) : (f.rows l).map (·.l) = f.of l := by
  rw [Fl.rows, List.map_map]
  conv => rhs; rw [← List.map_id (f.of l)]
  rfl
theorem rows_pot (f : Fl) (l : List UInt8) : pot (f.rows l) ≤ 17 := by
  unfold pot Fl.rows
  rw [List.map_map]
  have h16 := f.held_le
  by_cases h3 : f.k = 3
  · have : f.of l = [l] := by
      unfold Fl.of
      rw [h3]
      rfl
    rw [this]
    simp
    omega
  · have h0 : f.held = 0 := by unfold Fl.held; rw [if_neg h3]
    have h2 := f.of_len l
    rw [h0]
    have key : ∀ ps : List (List UInt8), (ps.map ((fun r : Rw => r.h + 1) ∘ fun b => (⟨b, 0⟩ : Rw))).sum = ps.length := by
      intro ps
      induction ps with
      | nil => rfl
      | cons p ps ih =>
        rw [List.map_cons, List.sum_cons, ih, List.length_cons]
        show 0 + 1 + _ = _
        omega
    rw [key]
    omega

/-- Ahead of the writing: what is in the rows is known. -/
structure Wc (w : World) (D : Nat) (room : Int) (qs : List Rw) (Ab : Option Addr) (n cb : Nat) (l : List UInt8) (fk fn : Int) (y : UInt8) (Af : Option Addr) (cf : Nat) (fb : List UInt8) (z : World) : Prop where
  lw : Lw w D room qs z
  ob : z.ownsRow w.heap.size 5 1 (.slice Ab n cb) n (bcs l)
  bD : ∀ g, (Value.slice Ab n cb).ownBlock = some g → g < D
  of_ : z.ownsRow w.heap.size 5 1 (.slice Af fb.length cf) fb.length (bcs fb)
  fD : ∀ g, (Value.slice Af fb.length cf).ownBlock = some g → g < D
  box : z.heap[w.heap.size]? = some (.cells #[.int .i64 fk, .int .i64 fn, .int .u8 (y.toNat : Int), .slice Af fb.length cf] 30 (0, 0))
theorem Wc.step {w z z' : World} {D n cb cf : Nat} {room fk fn : Int} {qs : List Rw} {Ab Af : Option Addr} {l fb : List UInt8} {y : UInt8} (h : Wc w D room qs Ab n cb l fk fn y Af cf fb z) (hb : Below z.heap.size z z') : Wc w D room qs Ab n cb l fk fn y Af cf fb z' :=
  ⟨h.lw.step hb, own_ft (B := 0) (T := []) h.ob (Ft.of_below hb) (by simp), h.bD, own_ft (B := 0) (T := []) h.of_ (Ft.of_below hb) (by simp), h.fD, (hb.block _ (Array.getElem?_eq_some_iff.1 h.box).1).trans h.box⟩
theorem Wc.turn {w z z' : World} {D n cb cf : Nat} {room fk fn : Int} {qs qs' : List Rw} {Ab Af : Option Addr} {l fb : List UInt8} {y : UInt8} (h : Wc w D room qs Ab n cb l fk fn y Af cf fb z) (hl : Lw w D room qs' z') (hf : Ft D [57, 61] z z') : Wc w D room qs' Ab n cb l fk fn y Af cf fb z' :=
  ⟨hl, own_ft h.ob hf (by decide), h.bD, own_ft h.of_ hf (by decide), h.fD, hf.keep h.box (by decide)⟩
theorem Wc.cells {w z : World} {D n cb cf : Nat} {room fk fn : Int} {qs : List Rw} {Ab Af : Option Addr} {l fb : List UInt8} {y : UInt8} (h : Wc w D room qs Ab n cb l fk fn y Af cf fb z) : z.cell? ⟨w.heap.size, 0, none⟩ = some (.int .i64 fk) ∧ z.cell? ⟨w.heap.size, 1, none⟩ = some (.int .i64 fn) ∧ z.cell? ⟨w.heap.size, 2, none⟩ = some (.int .u8 (y.toNat : Int)) ∧ z.cell? ⟨w.heap.size, 3, none⟩ = some (.slice Af fb.length cf) := by
  have hb := h.box
  exact ⟨by simp [World.cell?, hb], by simp [World.cell?, hb], by simp [World.cell?, hb], by simp [World.cell?, hb]⟩

set_option maxRecDepth 100000 in
set_option maxHeartbeats 12800000 in
theorem wireown_walk (g : Nat) (A : Option Addr) (l0 : List UInt8) (n0 c : Nat) (f : Fl) (AB : Option Addr) (gB bc : Nat) (w : World) (hh : Holds w g A (bcs l0)) (hn : l0.length = n0) (hc : n0 ≤ c) (hm : c ≤ 9223372036854775807) (hB : Holds w gB AB (bcs f.b)) (hbc : f.b.length ≤ bc) (hbm : bc ≤ maxLen) :
    Calls Try.prog 6 #[.slice A n0 c, .agg #[.int .i64 f.k, .int .i64 f.n, .int .u8 (f.y.toNat : Int), .slice AB f.b.length bc]] w fun e w' => e = .returned (.bool true) ∧ Below w.heap.size w w' := by
  obtain ⟨i0, hi, hz0, hz1, hz2⟩ := info_parts info_byte
  obtain ⟨i1, hi1, hy0, hy1, hy2⟩ := info_parts info_bytes
  cases f with
  | mk fk fn y fb0 =>
  simp only at *
  obtain ⟨n, hnn⟩ : ∃ n, min n0 200 = n := ⟨_, rfl⟩
  obtain ⟨l, hl⟩ : ∃ l, l0.take 200 = l := ⟨_, rfl⟩
  obtain ⟨fb, hfb⟩ : ∃ fb, fb0.take 200 = fb := ⟨_, rfl⟩
  have HL : Hid (l.length = n) := by show _ = _; rw [← hl, List.length_take]; omega
  have HNF : Hid (min fb0.length 200 = fb.length) := by show _ = _; rw [← hfb, List.length_take]; omega
  have HH : Hid (Holds w g A (bcs l)) := by show Holds _ _ _ _; rw [← hl, bcs_take]; exact hh.take _
  have HHF : Hid (Holds w gB AB (bcs fb)) := by show Holds _ _ _ _; rw [← hfb, bcs_take]; exact hB.take _
  have hn200 : n ≤ 200 := by omega
  have hnf200 : fb.length ≤ 200 := by rw [← HNF.out]; omega
  have HC : Hid (n0 ≤ c) := hc
  have HCM : Hid (c ≤ maxLen) := by show _ ≤ _; unfold maxLen; omega
  have HBC := Lib.hid hbc
  have HBM := Lib.hid hbm
  have HNN := Lib.hid hnn
  have HBl : Hid ((bcs l).length = n * 1) := by show _ = _; rw [bcs_length, HL.out, Nat.mul_one]
  have HBf : Hid ((bcs fb).length = fb.length * 1) := by show _ = _; rw [bcs_length, Nat.mul_one]
  clear hh hn hl hfb hB hbc hbm hc hm hnn
  generalize fb0.length = bl at *
  have HX0 := Lib.hid (heap_alloc_new w (.cells #[.int .i64 fk, .int .i64 fn, .int .u8 (y.toNat : Int), .slice AB bl bc] 30))
  have HB0 := Lib.hid (new_below w (.cells #[.int .i64 fk, .int .i64 fn, .int .u8 (y.toNat : Int), .slice AB bl bc] 30))
  have HS0 : Hid (w.heap.size < (w.alloc (.cells #[.int .i64 fk, .int .i64 fn, .int .u8 (y.toNat : Int), .slice AB bl bc] 30)).heap.size) := by show _ < _; simp
  go_enter Try.func6, Try.ntmps6
  go_wp2_with fail
  refine (shown_on _).mono ?_
  rintro e x0 ⟨rfl, hb0⟩
  have HB1 : Hid (Below w.heap.size w x0) := HB0.out.trans (hb0.mono HB0.out.size)
  have HX1 : Hid (x0.heap[w.heap.size]? = some (.cells #[.int .i64 fk, .int .i64 fn, .int .u8 (y.toNat : Int), .slice AB bl bc] 30 (0, 0))) := (hb0.block _ HS0.out).trans HX0.out
  have HF1 : Hid (w.heap.size < x0.heap.size) := Nat.lt_of_lt_of_le HS0.out hb0.size
  clear hb0 HX0 HB0 HS0
  have HBe := Lib.hid (new_below x0 (.cells #[] 5))
  have HOe : Hid ((x0.alloc (.cells #[] 5)).ownsRow x0.heap.size 5 1 (.slice (some ⟨x0.heap.size, 0, none⟩) 0 0) 0 []) := World.ownsRow_made x0 #[] 0 (Nat.le_refl _) (Nat.zero_le _) rfl
  go_wp2_with fail
  refine (few_on HC.out HCM.out).mono ?_
  rintro e x1 ⟨rfl, rfl⟩
  rw [HNN.out]
  have HHe : Hid (Holds (x0.alloc (.cells #[] 5)) g A (bcs l)) := HH.out.keep (F := []) (Ch.of_below (HB1.out.trans (HBe.out.mono HB1.out.size))) (by simp)
  go_upto_region 3 with (first
    | (at_builtin; refine wpList_append_wide rfl (.tmp 16) (.tmp 18) 28 rfl x0.heap.size 5 i0 (.int .u8 0) 1 1 Try.underlying28 hi hz0 hz1 hz2 rfl (by decide) (.slice (some ⟨x0.heap.size, 0, none⟩) 0 0) 0 [] rfl HOe.out g A n c (bcs l) rfl HBl.out HHe.out (bcs_one l) (by unfold maxLen; omega) (by omega) HBe.out.size ?_; intro Ab cb x2 hown2 hgr2))
  simp only [Nat.zero_add, List.nil_append] at hown2
  have HO2 := Lib.hid hown2
  have HB2 : Hid (Below x0.heap.size x0 x2) := HBe.out.trans (grown_below (w := w) hgr2 HOe.out HBe.out.size)
  clear hown2 hgr2 HBe HOe HHe
  have HX2 : Hid (x2.heap[w.heap.size]? = some (.cells #[.int .i64 fk, .int .i64 fn, .int .u8 (y.toNat : Int), .slice AB bl bc] 30 (0, 0))) := (HB2.out.block _ HF1.out).trans HX1.out
  have HW2 : Hid (Below w.heap.size w x2) := HB1.out.trans (HB2.out.mono HB1.out.size)
  have HF2 : Hid (w.heap.size < x2.heap.size) := Nat.lt_of_lt_of_le HF1.out HB2.out.size
  have HBb : Hid (w.heap.size ≤ x0.heap.size) := Nat.le_of_lt HF1.out
  replace HO2 := Lib.hid (own_mono HO2.out HBb.out)
  have HOL : Hid (∀ g, (Value.slice Ab n cb).ownBlock = some g → g < x2.heap.size) := fun g hg => (HO2.out.lt g hg).2
  clear HB1 HX1 HF1 HB2 HBb
  have HBe := Lib.hid (new_below x2 (.cells #[] 5))
  have HOe : Hid ((x2.alloc (.cells #[] 5)).ownsRow x2.heap.size 5 1 (.slice (some ⟨x2.heap.size, 0, none⟩) 0 0) 0 []) := World.ownsRow_made x2 #[] 0 (Nat.le_refl _) (Nat.zero_le _) rfl
  have hf3 : (x2.alloc (.cells #[] 5)).cell? ⟨w.heap.size, 3, none⟩ = some (.slice AB bl bc) := by
    have hb := (HBe.out.block _ HF2.out).trans HX2.out
    simp [World.cell?, hb]
  go_wp2_with fail
  refine (few_on HBC.out HBM.out).mono ?_
  rintro e x3 ⟨rfl, rfl⟩
  rw [HNF.out]
  clear hf3
  have HHe : Hid (Holds (x2.alloc (.cells #[] 5)) gB AB (bcs fb)) := HHF.out.keep (F := []) (Ch.of_below (HW2.out.trans (HBe.out.mono HW2.out.size))) (by simp)
  have hsome : ∀ x3 : World, Below x2.heap.size x2 x3 → x3.cell? ⟨w.heap.size, 3, none⟩ = some (.slice AB bl bc) ∧ x3.frozen? ⟨w.heap.size, 3, none⟩ = false := fun x3 hb => by
    have hb := (hb.block _ HF2.out).trans HX2.out
    exact ⟨by simp [World.cell?, hb], by simp [World.frozen?, hb]⟩
  have HSo := Lib.hid hsome
  clear hsome
  go_upto_region 4 with (first
    | (at_builtin; refine wpList_append_wide rfl (.tmp 20) (.tmp 23) 28 rfl x2.heap.size 5 i0 (.int .u8 0) 1 1 Try.underlying28 hi hz0 hz1 hz2 rfl (by decide) (.slice (some ⟨x2.heap.size, 0, none⟩) 0 0) 0 [] rfl HOe.out gB AB fb.length bc (bcs fb) rfl HBf.out HHe.out (bcs_one fb) (by unfold maxLen; omega) (by omega) HBe.out.size ?_; intro Af cf x3 hown3 hgr3; simp only [Nat.zero_add, List.nil_append] at hown3; have HO3 := Lib.hid hown3; have HB3 : Hid (Below x2.heap.size x2 x3) := HBe.out.trans (grown_below (w := w) hgr3 HOe.out HBe.out.size); obtain ⟨g3, g4⟩ := HSo.out _ HB3.out; clear hown3 hgr3))
  have HX4 : Hid ((x3.setCell ⟨w.heap.size, 3, none⟩ (.slice Af fb.length cf)).heap[w.heap.size]? = some (.cells #[.int .i64 fk, .int .i64 fn, .int .u8 (y.toNat : Int), .slice Af fb.length cf] 30 (0, 0))) := by
    show _ = _
    rw [heap_setCell_same _ _ _ _ _ _ ((HB3.out.block _ HF2.out).trans HX2.out)]
    rfl
  have hft4 : Ft w.heap.size [30] x3 (x3.setCell ⟨w.heap.size, 3, none⟩ (.slice Af fb.length cf)) := Ft.of_ch ((Ch.refl [w.heap.size] x3).setCell (by simp) _) (fun z hz _ => by simp at hz; subst hz; exact ⟨Nat.le_refl _, _, _, _, (HB3.out.block _ HF2.out).trans HX2.out, by simp⟩)
  have HW3 : Hid (Below w.heap.size w x3) := HW2.out.trans (HB3.out.mono HW2.out.size)
  have HW4 : Hid (Below w.heap.size w (x3.setCell ⟨w.heap.size, 3, none⟩ (.slice Af fb.length cf))) := HW3.out.trans (hft4.below HW3.out.size)
  have HOb4 := Lib.hid (own_ft (own_ft (B := 0) (T := []) HO2.out (Ft.of_below HB3.out) (by simp)) hft4 (by decide))
  have HOf4 := Lib.hid (own_mono (own_ft HO3.out hft4 (by decide)) HW2.out.size)
  clear g3 g4 hft4 HX2 HF2 HO2 HO3 HW2 HW3 HB3 HBe HOe HHe HSo HOL
  generalize x3.setCell ⟨w.heap.size, 3, none⟩ (.slice Af fb.length cf) = x4 at *
  go_wp2_with fail
  refine (new_lw (w := w) (by decide) HW4.out).mono ?_
  rintro e x5 ⟨rfl, h5, hb5⟩
  rw [show max (9 : Int) 1 = 9 from rfl] at h5
  have H5 : Hid (Wc w x4.heap.size 9 [] Ab n cb l fk fn y Af cf fb x5) := ⟨h5, own_ft (B := 0) (T := []) HOb4.out (Ft.of_below hb5) (by simp), fun g hg => (HOb4.out.lt g hg).2, own_ft (B := 0) (T := []) HOf4.out (Ft.of_below hb5) (by simp), fun g hg => (HOf4.out.lt g hg).2, (hb5.block _ (Array.getElem?_eq_some_iff.1 HX4.out).1).trans HX4.out⟩
  clear h5 hb5 HOb4 HOf4 HX4 HW4
  generalize x4.heap.size = D at *
  go_upto_region 7 with fail
  replace H5 := Lib.hid (H5.out.step (drew_below x5))
  obtain ⟨q0, q1, q2, q3⟩ := H5.out.cells
  have HCV : Hid (∀ z, Wc w D 9 [] Ab n cb l fk fn y Af cf fb z → z.cell? ⟨w.heap.size, 0, none⟩ = some (.int .i64 fk) ∧ z.cell? ⟨w.heap.size, 1, none⟩ = some (.int .i64 fn) ∧ z.cell? ⟨w.heap.size, 2, none⟩ = some (.int .u8 (y.toNat : Int)) ∧ z.cell? ⟨w.heap.size, 3, none⟩ = some (.slice Af fb.length cf) ∧ (convert 28 9 (.slice Ab n cb)).run Try.prog z = .ok (.string ⟨l.toArray⟩) z) := fun z hz => ⟨hz.cells.1, hz.cells.2.1, hz.cells.2.2.1, hz.cells.2.2.2, convert_own (own_zero hz.ob) HL.out⟩
  refine region_plan [(true, 0), (true, 2), (true, 3), (false, 1), (false, 4), (true, 5)]
    (fun z => z.cell? ⟨w.heap.size, 0, none⟩ = some (.int .i64 fk) ∧ z.cell? ⟨w.heap.size, 1, none⟩ = some (.int .i64 fn) ∧ z.cell? ⟨w.heap.size, 2, none⟩ = some (.int .u8 (y.toNat : Int)) ∧ z.cell? ⟨w.heap.size, 3, none⟩ = some (.slice Af fb.length cf) ∧ (convert 28 9 (.slice Ab n cb)).run Try.prog z = .ok (.string ⟨l.toArray⟩) z) (by kernel_rfl) (by kernel_rfl) (by kernel_rfl) rfl (HCV.out _ H5.out) ?_
  clear q0 q1 q2 q3
  generalize x5.drew = y0 at *
  iterate 3 (refine Plan.take (v := ?_) rfl (by rfl) ?_ ?_; rotate_left 1; (focus (intro x hx; go_simp <;> (first | with_reducible rfl | rw [if_pos (by omega)]))); simp only [Act.put, List.setIfInBounds_toArray, List.set_cons_zero, List.set_cons_succ])
  refine Plan.loud rfl (fun K hK => ?_)
  go_simp
  obtain ⟨gf, hgf⟩ := own_ex_holds H5.out.of_ rfl
  refine (ref_on (f := ⟨fk, fn, y, fb⟩) hgf).mono ?_
  rintro e y1 ⟨rfl, hb1⟩
  have H6 := Lib.hid (H5.out.step hb1)
  have HS6 : Hid (w.heap.size ≤ y1.heap.size) := H6.out.lw.below.size
  clear hb1 H5 hgf
  refine hK.out _ _ _ (fun x hx => hx) (HCV.out _ H6.out) ?_
  clear hK K
  refine Plan.loud rfl (fun K hK => ?_)
  go_simp
  refine (refof_on (f := ⟨fk, fn, y, fb⟩) (by rw [HL.out]; omega)).mono ?_
  rintro e y2 ⟨Vw, cw, rfl, hownw, hb2⟩
  have H7 := Lib.hid (H6.out.step hb2)
  have HWn := Lib.hid (own_mono hownw HS6.out)
  clear hb2 H6 hownw HS6
  refine hK.out _ _ _ (fun x hx => hx) (HCV.out _ H7.out) ?_
  clear hK K
  iterate 1 (refine Plan.take (v := ?_) rfl (by rfl) ?_ ?_; rotate_left 1; (focus (intro x hx; go_simp <;> (first | with_reducible rfl | rw [if_pos (by omega)]))); simp only [Act.put, List.setIfInBounds_toArray, List.set_cons_zero, List.set_cons_succ])
  refine Plan.done ?_
  obtain ⟨q0, q1, q2, q3⟩ := H7.out.cells
  obtain ⟨gb, hgb⟩ := own_ex_holds H7.out.ob HL.out
  obtain ⟨gf2, hgf2⟩ := own_ex_holds H7.out.of_ rfl
  have hcb := own_cap (own_zero H7.out.ob)
  have hcbm := own_max (own_zero H7.out.ob)
  have hcf := own_cap (own_zero H7.out.of_)
  have hcfm := own_max (own_zero H7.out.of_)
  have HG1 := Lib.hid hgb
  have HG2 := Lib.hid hgf2
  have HK1 := Lib.hid hcb
  have HK2 := Lib.hid hcbm
  have HK3 := Lib.hid hcf
  have HK4 := Lib.hid hcfm
  clear hgb hgf2 hcb hcbm hcf hcfm HCV
  go_wp2_with fail
  refine (put_lw (f := ⟨fk, fn, y, fb⟩) H7.out.lw (by simp) HG1.out HL.out (by omega) HK1.out HK2.out HG2.out HK3.out HK4.out).mono ?_
  rintro e y3 ⟨rfl, hl3, hf3⟩
  rw [putM_nine] at hl3 ⊢
  have H8 := Lib.hid (H7.out.turn hl3 hf3)
  replace HWn := Lib.hid (own_ft HWn.out hf3 (by decide))
  clear hl3 hf3 H7 HG1 HG2 q0 q1 q2 q3
  obtain ⟨q0, q1, q2, q3⟩ := H8.out.cells
  obtain ⟨gb, hgb⟩ := own_ex_holds H8.out.ob HL.out
  obtain ⟨gf2, hgf2⟩ := own_ex_holds H8.out.of_ rfl
  have HG1 := Lib.hid hgb
  have HG2 := Lib.hid hgf2
  clear hgb hgf2
  simp only
  go_wp2_with fail
  refine (of_on (f := ⟨fk, fn, y, fb⟩) HG1.out HL.out (by omega) HK1.out HK2.out HG2.out HK3.out HK4.out).mono ?_
  rintro e y4 ⟨Vx, vsx, cx, rfl, hrx, hb4⟩
  have HRM := Lib.hid (rows_map ⟨fk, fn, y, fb⟩ l)
  have HRP := Lib.hid (rows_pot ⟨fk, fn, y, fb⟩ l)
  have HL2 := Lib.hid ((Fl.mk fk fn y fb).of_len l)
  have HQ0 := Lib.hid hrx.rq
  have H9 : Hid (Wo w D w.heap.size 9 ((Fl.mk fk fn y fb).rows l) Vw ((Fl.mk fk fn y fb).of l).length cw ((Fl.mk fk fn y fb).of l) Ab n cb fk fn y Af fb.length cf y3) := ⟨H8.out.lw, HWn.out, own_u H8.out.ob HL.out, H8.out.bD, own_u H8.out.of_ rfl, H8.out.fD, H8.out.box⟩
  have HB9 := Lib.hid hb4
  clear hrx hb4 H8 HWn HG1 HG2 HK1 HK2 HK3 HK4 q0 q1 q2 q3 HH HHF HC HCM HBC HBM HBl HBf
  generalize (Fl.mk fk fn y fb).rows l = qs at *
  generalize hps : (Fl.mk fk fn y fb).of l = ps at *
  clear hps
  generalize hm : ps.length = m at *
  have HM := Lib.hid hm
  clear hm
  generalize fb.length = nf at *
  go_wp2
  have hm2 : m ≤ 2 := by have := HL2.out; have := HM.out; omega
  go_loopw [9] (fun i wr => ∃ j : Nat, j ≤ m ∧ i = .int .i64 j ∧ Hid (Rq wr y3.heap.size Vx m cx vsx) ∧ Hid (Below y3.heap.size y3 wr)) (fun i _ => m - (intOf i).toNat)
  case atStart => exact ⟨0, Nat.zero_le _, rfl, HQ0, HB9⟩
  case round =>
    clear HQ0 HB9
    obtain ⟨j, hj, rfl, HQ, HB⟩ := hrel
    by_cases hltj : j < m
    · have i1 : (j : Int) < (m : Int) := by omega
      obtain ⟨gx, Ar, mr, cr, rfl, hvj, hcj, hou⟩ := HQ.out.at j hltj
      have HVJ := Lib.hid hvj
      have hmr : mr ≤ 9223372036854775807 := by
        obtain ⟨lr, h1, h2⟩ := hou
        have h3 := own_cap (own_zero h2)
        have h4 := own_max (own_zero h2)
        unfold maxLen at h4
        omega
      clear hvj hcj hou
      go_wp2
      go_loopw [10] (fun i wr => ∃ q : Nat, q ≤ mr ∧ i = .int .i64 q ∧ Hid (Rq wr y3.heap.size (some ⟨gx, 0, none⟩) m cx vsx) ∧ Hid (Below y3.heap.size y3 wr)) (fun i _ => mr - (intOf i).toNat)
      case atStart => exact ⟨0, Nat.zero_le _, rfl, HQ, HB⟩
      case round =>
        clear HQ HB
        obtain ⟨q, hq, rfl, HQ, HB⟩ := hrel
        obtain ⟨gx', Ar', mr', cr', hgx, hvj, hcj, hou⟩ := HQ.out.at j hltj
        injection hgx with hgx
        injection hgx with hgx
        subst hgx
        rw [HVJ.out] at hvj
        injection hvj with hvj
        injection hvj with h1 h2 h3
        subst h1 h2 h3
        by_cases hltq : q < mr
        · have i2 : (q : Int) < (mr : Int) := by omega
          obtain ⟨gr, br, rfl, hBr, hbi, hc1, hc2⟩ := hou.at q hltq
          have HQ1 := Lib.hid (HQ.out.set gr q 7 hbi)
          have HB1 : Hid (Below y3.heap.size y3 (wr.setCell ⟨gr, q, none⟩ (.int .u8 ((7 : UInt8).toNat : Int)))) := HB.out.trans (((Ch.refl [gr] wr).setCell (p := ⟨gr, q, none⟩) (by simp) _).belowAt (by simp; exact hBr) HB.out.size)
          rw [show ((7 : UInt8).toNat : Int) = 7 from rfl] at HQ1 HB1
          clear hou hbi
          go_wp2
          go_simp
          first
            | exact ⟨⟨q + 1, by omega, by omega⟩, by simp [intOf]; omega⟩
            | exact ⟨⟨q + 1, by omega, by omega, HQ1, HB1⟩, by simp [intOf]; omega⟩
        · have hqm : q = mr := by omega
          subst hqm
          clear hou
          go_wp2
          go_simp
          first
            | exact ⟨⟨j + 1, by omega, by omega⟩, by simp [intOf]; omega⟩
            | exact ⟨⟨j + 1, by omega, by omega, HQ, HB⟩, by simp [intOf]; omega⟩
    · have hjm : j = m := by omega
      subst hjm
      have H10 := Lib.hid (H9.out.step HB.out)
      clear H9 HB HQ
      go_wp2
      go_loopw [11] (fun i wr => ∃ q : Nat, q ≤ n ∧ i = .int .i64 q ∧ Hid (Wo w D w.heap.size 9 qs Vw j cw ps Ab n cb fk fn y Af nf cf wr)) (fun i _ => n - (intOf i).toNat)
      case atStart => exact ⟨0, Nat.zero_le _, rfl, H10⟩
      case round =>
        clear H10
        obtain ⟨q, hq, rfl, HO⟩ := hrel
        by_cases hltq : q < n
        · have i2 : (q : Int) < (n : Int) := by omega
          obtain ⟨gr, br, rfl, hBr, hbi, hc1, hc2⟩ := HO.out.b.at q hltq
          have HO1 := Lib.hid (HO.out.set gr q 9 hBr (HO.out.bD gr rfl) hbi)
          rw [show ((9 : UInt8).toNat : Int) = 9 from rfl] at HO1
          clear hbi
          go_wp2
          go_simp
          first
            | exact ⟨⟨q + 1, by omega, by omega⟩, by simp [intOf]; omega⟩
            | exact ⟨⟨q + 1, by omega, by omega, HO1⟩, by simp [intOf]; omega⟩
        · have hqn : q = n := by omega
          subst hqn
          go_wp2
          go_loopw [12] (fun i wr => ∃ q2 : Nat, q2 ≤ nf ∧ i = .int .i64 q2 ∧ Hid (Wo w D w.heap.size 9 qs Vw j cw ps Ab q cb fk fn y Af nf cf wr)) (fun i _ => nf - (intOf i).toNat)
          case atStart => exact ⟨0, Nat.zero_le _, rfl, HO⟩
          case round =>
            clear HO
            obtain ⟨q2, hq2, rfl, HO⟩ := hrel
            have hbx := HO.out.box
            have hf3 : wr.cell? ⟨w.heap.size, 3, none⟩ = some (.slice Af nf cf) := by simp [World.cell?, hbx]
            clear hbx
            by_cases hltq2 : q2 < nf
            · have i2 : (q2 : Int) < (nf : Int) := by omega
              obtain ⟨gr, br, rfl, hBr, hbi, hc1, hc2⟩ := HO.out.fb.at q2 hltq2
              have HO1 := Lib.hid (HO.out.set gr q2 9 hBr (HO.out.fD gr rfl) hbi)
              rw [show ((9 : UInt8).toNat : Int) = 9 from rfl] at HO1
              clear hbi
              go_wp2
              go_simp
              first
                | exact ⟨⟨q2 + 1, by omega, by omega⟩, by simp [intOf]; omega⟩
                | exact ⟨⟨q2 + 1, by omega, by omega, HO1⟩, by simp [intOf]; omega⟩
            · have hq2n : q2 = nf := by omega
              subst hq2n
              have HLw := Lib.hid HO.out.lw
              have HWn := Lib.hid HO.out.want
              go_wp2
              clear HO hf3
              go_loopw [13, 14] (fun v i wr => ∃ (k n5 c5 : Nat) (A5 : Option Addr) (vs5 : List Value) (ps5 : List (List UInt8)) (qs5 : List Rw), k ≤ 20 ∧ i = .int .i64 k ∧ v = .slice A5 n5 c5 ∧ Hid (ps5 ++ qs5.map (·.l) = ps) ∧ Hid (qs5 ≠ [] → pot qs5 + k ≤ 17) ∧ Hid (Lw w D 9 qs5 wr) ∧ Hid (wr.ownsRow w.heap.size 9 1 (.slice Vw j cw) j (scs ps)) ∧ Hid (Rp wr w.heap.size A5 n5 c5 vs5 ps5)) (fun _ i _ => 20 - (intOf i).toNat)
              case atStart => exact ⟨0, 0, 0, none, [], [], qs, Nat.zero_le _, rfl, rfl, HRM, (fun _ => HRP.out), HLw, HWn, Lib.hid (Rp.nil _ _)⟩
              case round =>
                clear HLw HWn HRM HRP
                obtain ⟨k, n5, c5, A5, vs5, ps5, qs5, hk, rfl, rfl, HC5, HP5, HLw, HWn, HR5⟩ := hrel
                have HLen : Hid (n5 + qs5.length = j) := by
                  have h1 := congrArg List.length HC5.out
                  rw [List.length_append, List.length_map, HM.out, HR5.out.len] at h1
                  exact h1
                by_cases hltk : k < 20
                · have i2 : (k : Int) < 20 := by omega
                  have HTL := Lib.hid (takeM_len qs5)
                  go_wp2_with fail
                  refine (take_lw HLw.out (by have := HLen.out; omega)).mono ?_
                  rintro e z1 ⟨Vt, nt, ct, vst, rfl, hrt, hl1, hf1⟩
                  have HL1 := Lib.hid hl1
                  have HW1 := Lib.hid (own_ft HWn.out hf1 (by decide))
                  have HR1 := Lib.hid (HR5.out.ft hf1 (by decide) (by decide))
                  have HT1 := Lib.hid (hrt.mono HLw.out.le)
                  have hnt : n5 + nt ≤ 2 := by have h1 := hrt.len; have h2 := HTL.out; have h3 := HLen.out; omega
                  have HC6 : Hid ((ps5 ++ (takeM qs5).1) ++ (takeM qs5).2.map (·.l) = ps) := by show _ = _; rw [List.append_assoc, takeM_cat]; exact HC5.out
                  have HP6 : Hid ((takeM qs5).2 ≠ [] → pot (takeM qs5).2 + (k + 1) ≤ 17) := by
                    intro hne
                    have hq0 : qs5 ≠ [] := by
                      rintro rfl
                      exact hne rfl
                    have h1 := pot_take qs5 hq0
                    have h2 := HP5.out hq0
                    omega
                  obtain ⟨gt, hgt⟩ := (Que.of_own HT1.out.outer).holds
                  have HGT := Lib.hid hgt
                  have HVL : Hid (vst.length = nt * 1) := HT1.out.outer.1
                  have HSZ : Hid (w.heap.size ≤ z1.heap.size) := hl1.below.size
                  clear hrt hl1 hf1 hgt HLw HWn HR5 HTL
                  generalize (takeM qs5).1 = ps6 at *
                  generalize (takeM qs5).2 = qs6 at *
                  go_wp2_with (first
                    | (at_builtin; refine wpList_append_wide rfl (.tmp 87) (.tmp 89) 35 rfl w.heap.size 28 i1 (.slice none 0 0) 1 24 Try.underlying35 hi1 hy0 hy1 hy2 rfl (by decide) (.slice A5 n5 c5) n5 vs5 rfl HR1.out.outer gt Vt nt ct vst rfl HVL.out HGT.out HT1.out.rows.one (by unfold maxLen; omega) (by omega) HSZ.out ?_; intro A7 c7 z2 hown7 hgr7))
                  obtain ⟨hR7, hF7⟩ := HR1.out.more (w := w) HT1.out HSZ.out hown7 hgr7
                  have HR7 := Lib.hid hR7
                  have HL7 := Lib.hid (HL1.out.ft hF7 (Nat.le_refl _) (by decide) (by decide) (by decide))
                  have HW7 := Lib.hid (own_ft HW1.out hF7 (by decide))
                  clear hown7 hgr7 hR7 hF7 HL1 HW1 HR1 HT1
                  go_simp
                  exact ⟨⟨k + 1, by omega, by omega, n5 + nt, c7, A7, ⟨rfl, rfl, rfl⟩, vs5 ++ vst, ps5 ++ ps6, qs6, HC6, HP6, HL7, HR7⟩, by simp [intOf]; omega⟩
                · have hk20 : k = 20 := by omega
                  subst hk20
                  have hq0 : qs5 = [] := by
                    apply Classical.byContradiction
                    intro hne
                    have h2 := HP5.out hne
                    omega
                  subst hq0
                  have hpe : ps5 = ps := by have h := HC5.out; rw [List.map_nil, List.append_nil] at h; exact h
                  subst hpe
                  have hnj : n5 = j := by have h := HLen.out; simpa using h
                  subst hnj
                  obtain ⟨gs, hgs⟩ := (Que.of_own HWn.out).holds
                  have HGS := Lib.hid hgs
                  clear hgs
                  go_wp2_with fail
                  refine (texts_on HR5.out HGS.out (by omega)).mono ?_
                  rintro e z9 ⟨rfl, hb9⟩
                  go_wp2
                  go_ret
                  exact ⟨rfl, HLw.out.below.trans (hb9.mono HLw.out.below.size)⟩

end Go.Proofs.Ythpalepkilmpiaa
