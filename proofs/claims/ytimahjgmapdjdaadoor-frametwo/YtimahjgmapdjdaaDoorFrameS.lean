/-
  lamplightlaw04.shown answers true, and turns nothing that was there.
-/
import Derived.Test.YtimahjgmapdjdaaDoorFrameG
import Derived.Laws.DeepStrings4
namespace Go.Proofs.YtimahjgmapdjdaaDoor
set_option linter.unusedVariables false
set_option linter.unusedSimpArgs false
open Go.RowKit

abbrev shF : Fr := ⟨1, 2, 126, 1, 1, [125, 5]⟩
abbrev shL : List UInt8 := [126, 1, 2, 125, 94, 3, 2, 125, 93, 5, 203, 221, 126]
theorem sh_enc : shF.enc = shL := by decide +kernel
theorem sh_len : shF.enc.length = 13 := by rw [sh_enc]; rfl
theorem sh_mid : shF.mid = [1, 2, 125, 94, 3, 2, 125, 93, 5, 203, 221] := by decide +kernel
theorem sh_right : shF.right = true := by decide
theorem sh_fits : shF.Fits := ⟨by decide, by decide, by decide, by decide, by decide⟩
theorem sh_dec : decF [1, 2, 125, 94, 3, 2, 125, 93, 5, 203, 221] = shF := by rw [← sh_mid]; exact decF_mid shF sh_fits sh_right
theorem sh_decE : decE [1, 2, 125, 94, 3, 2, 125, 93, 5, 203, 221] = 0 := by rw [← sh_mid]; exact decE_mid shF sh_fits sh_right
theorem sh_flag : decE [1, 2, 125, 94, 3, 2, 125, 93, 5, 203, 221, 126] = 3 := by
  have := decE_flag shF
  rw [sh_mid] at this
  exact this

/-- What stays known in shown: the table; the encoded bytes, in Xb; the frame, behind the first new block. -/
structure Sh (w : World) (Xb : Nat) (a : Int) (x : World) : Prop where
  tab : Tab x
  below : Below w.heap.size w x
  row : Row x Xb shL
  leX : w.heap.size + 2 ≤ Xb
  lit : Row x w.heap.size [125, 5]
  box : x.heap[w.heap.size + 1]? = some (.cells #[.int .u8 a, .int .u8 2, .int .u8 126, .int .u8 1, .int .u8 1, .slice (some ⟨w.heap.size, 0, none⟩) 2 2] 24 (0, 0))
theorem Sh.step {w x y : World} {Xb : Nat} {a : Int} (h : Sh w Xb a x) (hb : Below x.heap.size x y) : Sh w Xb a y :=
  ⟨h.tab.keep (Ch.of_below hb) (by simp), h.below.trans (hb.mono h.below.size), h.row.keep (Ch.of_below hb) (by simp), h.leX, h.lit.keep (Ch.of_below hb) (by simp), (hb.block _ (Array.getElem?_eq_some_iff.1 h.box).1).trans h.box⟩
theorem Sh.alloc {w x : World} {Xb : Nat} {a : Int} (h : Sh w Xb a x) (o : Obj) : Sh w Xb a (x.alloc o) := h.step (new_below _ _)

set_option maxHeartbeats 4000000 in
set_option maxRecDepth 100000 in
theorem shown_any (w : World) (ht : Tab w) : Calls Tryd.prog 9 #[] w fun e w' => e = .returned (.bool true) ∧ Below w.heap.size w w' := by
  have HTB := Lib.hid ht
  clear ht
  go_enter Tryd.func9, Tryd.ntmps9
  go_wp2_with fail
  have HA := Lib.hid (heap_alloc2_old w (.cells #[.int .u8 125, .int .u8 5] 5) (.cells #[.int .u8 1, .int .u8 2, .int .u8 126, .int .u8 1, .int .u8 1, .slice (some ⟨w.heap.size, 0, none⟩) 2 2] 24))
  have HF := Lib.hid (heap_alloc2_new w (.cells #[.int .u8 125, .int .u8 5] 5) (.cells #[.int .u8 1, .int .u8 2, .int .u8 126, .int .u8 1, .int .u8 1, .slice (some ⟨w.heap.size, 0, none⟩) 2 2] 24))
  have hb0 := new_below2 w (.cells #[.int .u8 125, .int .u8 5] 5) (.cells #[.int .u8 1, .int .u8 2, .int .u8 126, .int .u8 1, .int .u8 1, .slice (some ⟨w.heap.size, 0, none⟩) 2 2] 24)
  have hz0 : ((w.alloc (.cells #[.int .u8 125, .int .u8 5] 5)).alloc (.cells #[.int .u8 1, .int .u8 2, .int .u8 126, .int .u8 1, .int .u8 1, .slice (some ⟨w.heap.size, 0, none⟩) 2 2] 24)).heap.size = w.heap.size + 2 := by simp
  generalize ((w.alloc (.cells #[.int .u8 125, .int .u8 5] 5)).alloc (.cells #[.int .u8 1, .int .u8 2, .int .u8 126, .int .u8 1, .int .u8 1, .slice (some ⟨w.heap.size, 0, none⟩) 2 2] 24)) = x0 at *
  have HL0 : Hid (Row x0 w.heap.size [125, 5]) := HA.out
  refine (encode_yes (a := 1) (k := 2) (s := 126) (q := 1) (c := 1) (L := [125, 5]) (HTB.out.keep (Ch.of_below hb0) (by simp)) HL0.out.holds rfl rfl (by decide)).mono ?_
  rintro e x1 ⟨Xb, m, hX, hm, rfl, hrow, hb⟩
  rw [sh_len] at hm
  subst hm
  rw [sh_enc] at hrow
  have H1 : Hid (Sh w Xb 1 x1) := ⟨(HTB.out.keep (Ch.of_below hb0) (by simp)).keep (Ch.of_below hb) (by simp), hb0.trans (hb.mono (by omega)), hrow, by omega, HL0.out.keep (Ch.of_below hb) (by simp), (hb.block _ (by omega)).trans HF.out⟩
  clear hb0 hb hX hrow hz0 HA HF HL0 HTB
  go_wp2_with fail
  have HD1 : Hid (Holds x1 Xb (some ⟨Xb, 1, none⟩) (bcs [1, 2, 125, 94, 3, 2, 125, 93, 5, 203, 221])) := (H1.out.row.drop 1 (by decide)).take 11
  refine (decode_on H1.out.tab HD1.out rfl (by decide) (by decide)).mono ?_
  rintro e x2 ⟨f, er, A2, m2, c2, g2, hf, her, hm2, rfl, hh2, hg2, hb⟩
  rw [sh_dec] at hf
  rw [sh_decE] at her
  subst hf her hm2
  have H2 := Lib.hid (H1.out.step hb)
  have HH2 := Lib.hid hh2
  have HG2 : Hid (0 < 2 → w.heap.size + 1 < g2) := fun hp => Nat.lt_of_lt_of_le (Array.getElem?_eq_some_iff.1 H1.out.box).1 (hg2 hp)
  clear hb hh2 hg2 H1 HD1
  go_wp2_with fail
  have HY := Lib.hid (heap_alloc_new x2 (.cells #[.int .u8 1, .int .u8 2, .int .u8 126, .int .u8 1, .int .u8 1, .slice A2 2 c2] 24))
  have hY : w.heap.size + 1 < x2.heap.size := (Array.getElem?_eq_some_iff.1 H2.out.box).1
  have H3 := Lib.hid (H2.out.alloc (.cells #[.int .u8 1, .int .u8 2, .int .u8 126, .int .u8 1, .int .u8 1, .slice A2 2 c2] 24))
  replace HH2 := Lib.hid (HH2.out.keep ((Ch.refl [] x2).alloc (.cells #[.int .u8 1, .int .u8 2, .int .u8 126, .int .u8 1, .int .u8 1, .slice A2 2 c2] 24)) (by simp))
  have hYz : x2.heap.size < (x2.alloc (.cells #[.int .u8 1, .int .u8 2, .int .u8 126, .int .u8 1, .int .u8 1, .slice A2 2 c2] 24)).heap.size := by simp
  clear H2
  generalize (x2.alloc (.cells #[.int .u8 1, .int .u8 2, .int .u8 126, .int .u8 1, .int .u8 1, .slice A2 2 c2] 24)) = x3 at *
  generalize x2.heap.size = Y at *
  refine (decode_on H3.out.tab (H3.out.row.drop 1 (by decide)) rfl (by decide) (by decide)).mono ?_
  rintro e x4 ⟨f, er, A4, m4, c4, g4, -, her, -, rfl, -, -, hb⟩
  rw [show decE (List.drop 1 shL) = 3 from sh_flag] at her
  subst her
  have H4 := Lib.hid (H3.out.step hb)
  replace HH2 := Lib.hid (HH2.out.keep (Ch.of_below hb) (by simp))
  replace HY := Lib.hid ((hb.block _ hYz).trans HY.out)
  clear hb H3 hYz
  go_wp2_with fail
  refine (decode_on (g := 0) (l := []) (H4.out.alloc _).tab (Holds.nil _ _ _) rfl (by decide) (by decide)).mono ?_
  rintro e x5 ⟨f5, er, A5, m5, c5, g5, -, her, -, rfl, -, -, hb⟩
  rw [decE_nil] at her
  subst her
  have H5 := Lib.hid ((H4.out.alloc _).step hb)
  replace hb := (new_below _ _).trans (hb.mono (by simp))
  replace HH2 := Lib.hid (HH2.out.keep (Ch.of_below hb) (by simp))
  replace HY := Lib.hid ((hb.block _ (Array.getElem?_eq_some_iff.1 HY.out).1).trans HY.out)
  clear hb H4
  go_upto_region 8 with fail
  have H6 := Lib.hid (H5.out.alloc (.cells #[.int .u8 (f5.a : Int), .int .u8 (f5.k : Int), .int .u8 (f5.s : Int), .int .u8 (f5.q : Int), .int .u8 (f5.c : Int), .slice A5 m5 c5] 24))
  replace HH2 := Lib.hid (HH2.out.keep ((Ch.refl [] x5).alloc (.cells #[.int .u8 (f5.a : Int), .int .u8 (f5.k : Int), .int .u8 (f5.s : Int), .int .u8 (f5.q : Int), .int .u8 (f5.c : Int), .slice A5 m5 c5] 24)) (by simp))
  replace HY := Lib.hid ((Below.heap_alloc x5 (.cells #[.int .u8 (f5.a : Int), .int .u8 (f5.k : Int), .int .u8 (f5.s : Int), .int .u8 (f5.q : Int), .int .u8 (f5.c : Int), .slice A5 m5 c5] 24) Y (Array.getElem?_eq_some_iff.1 HY.out).1).trans HY.out)
  clear H5
  generalize (x5.alloc (.cells #[.int .u8 (f5.a : Int), .int .u8 (f5.k : Int), .int .u8 (f5.s : Int), .int .u8 (f5.q : Int), .int .u8 (f5.c : Int), .slice A5 m5 c5] 24)) = x6 at *
  obtain ⟨b0, b1, b2, b3, b4, b5, e0, e1, e2, e3, e4, e5⟩ := row6_facts H6.out.box
  go_wp2_with fail
  have HB7 : Hid ((x6.setCell ⟨w.heap.size + 1, 0, none⟩ (.int .u8 32)).heap[Y]? = some (.cells #[.int .u8 1, .int .u8 2, .int .u8 126, .int .u8 1, .int .u8 1, .slice A2 2 c2] 24 (0, 0))) := (Below.heap_setCell x6 ⟨w.heap.size + 1, 0, none⟩ _ Y (by show Y ≠ w.heap.size + 1; omega)).trans HY.out
  have hch : Ch [w.heap.size + 1] x6 (x6.setCell ⟨w.heap.size + 1, 0, none⟩ (.int .u8 32)) := (Ch.refl _ x6).setCell (by simp) _
  have HR7 : Hid (Row (x6.setCell ⟨w.heap.size + 1, 0, none⟩ (.int .u8 32)) Xb shL) := H6.out.row.keep hch (by have := H6.out.leX; simp; omega)
  have HW7 : Hid (Below w.heap.size w (x6.setCell ⟨w.heap.size + 1, 0, none⟩ (.int .u8 32))) := H6.out.below.trans (hch.belowAt (by simp) H6.out.below.size)
  replace HH2 : Hid (Holds (x6.setCell ⟨w.heap.size + 1, 0, none⟩ (.int .u8 32)) g2 A2 (bcs [125, 5])) := HH2.out.keep hch (fun hp => by
    have := HG2.out (by decide)
    simp
    omega)
  clear hch H6 HY
  generalize (x6.setCell ⟨w.heap.size + 1, 0, none⟩ (.int .u8 32)) = x7 at *
  refine (encode_no (g := 0) (a := 32) (k := 2) (s := 126) (q := 1) (c := 1) (by decide)).mono ?_
  rintro e x8 ⟨rfl, hb⟩
  replace HB7 := Lib.hid ((hb.block _ (Array.getElem?_eq_some_iff.1 HB7.out).1).trans HB7.out)
  replace HR7 := Lib.hid (HR7.out.keep (Ch.of_below hb) (by simp))
  replace HH2 := Lib.hid (HH2.out.keep (Ch.of_below hb) (by simp))
  replace HW7 := Lib.hid (HW7.out.trans (hb.mono HW7.out.size))
  clear hb b0 b1 b2 b3 b4 b5 e0 e1 e2 e3 e4 e5
  obtain ⟨b0, b1, b2, b3, b4, b5, e0, e1, e2, e3, e4, e5⟩ := row6_facts HB7.out
  have hca := convert_holds (c := 13) (n := 11) (l := [126, 1, 2, 125, 94, 3, 2, 125, 93, 5, 203]) (HR7.out.holds.take 11) rfl
  have hcb := convert_holds (c := 3) (n := 1) (l := [203]) ((HR7.out.drop 10 (by decide)).take 1) rfl
  have hcc := convert_holds (c := c2) (n := 2) HH2.out rfl
  have hcell := (HR7.out.cell 12 (by decide)).trans rfl
  have HS : Hid ((convert 22 9 (.slice (some ⟨Xb, 0, none⟩) 11 13)).run Tryd.prog x8.drew = .ok (.string ⟨[126, 1, 2, 125, 94, 3, 2, 125, 93, 5, 203].toArray⟩) x8.drew ∧ (convert 22 9 (.slice (some ⟨Xb, 10, none⟩) 1 3)).run Tryd.prog x8.drew = .ok (.string ⟨[203].toArray⟩) x8.drew ∧ (convert 22 9 (.slice A2 2 c2)).run Tryd.prog x8.drew = .ok (.string ⟨[125, 5].toArray⟩) x8.drew ∧
      x8.drew.cell? ⟨Xb, 12, none⟩ = some (.int .u8 126) ∧ x8.drew.cell? ⟨Y, 2, none⟩ = some (.int .u8 126) ∧ x8.drew.cell? ⟨Y, 3, none⟩ = some (.int .u8 1) ∧ x8.drew.cell? ⟨Y, 4, none⟩ = some (.int .u8 1) ∧ x8.drew.cell? ⟨Y, 5, none⟩ = some (.slice A2 2 c2)) :=
    ⟨convert_holds (c := 13) (n := 11) (l := [126, 1, 2, 125, 94, 3, 2, 125, 93, 5, 203]) ((HR7.out.keep (Ch.refl [] x8).drew (by simp)).holds.take 11) rfl, convert_holds (c := 3) (n := 1) (l := [203]) (((HR7.out.keep (Ch.refl [] x8).drew (by simp)).drop 10 (by decide)).take 1) rfl, convert_holds (c := c2) (n := 2) (HH2.out.keep (Ch.refl [] x8).drew (by simp)) rfl, hcell, b2, b3, b4, b5⟩
  go_upto_region 10 with fail
  clear hca hcb hcc hcell b0 b1 b2 b3 b4 b5 e0 e1 e2 e3 e4 e5
  refine region_plan [(true, 0), (true, 1), (true, 2), (true, 3), (true, 4), (true, 5), (true, 6), (true, 7), (true, 8), (true, 9), (true, 10), (true, 11), (true, 12), (true, 13), (true, 14), (true, 15), (true, 16), (true, 17), (true, 18), (true, 19), (true, 20), (true, 21), (true, 22), (true, 23), (true, 24), (true, 25), (true, 26), (true, 27), (true, 28), (true, 29), (true, 30), (true, 31), (true, 32), (true, 33), (true, 34), (true, 35), (true, 36), (true, 37), (true, 38), (true, 39), (true, 40), (true, 41), (true, 42), (true, 43), (true, 44), (true, 45), (true, 46), (true, 47), (true, 48), (true, 49), (true, 50), (true, 51), (true, 52), (true, 53), (true, 54), (true, 55), (true, 56)]
    (fun x => (convert 22 9 (.slice (some ⟨Xb, 0, none⟩) 11 13)).run Tryd.prog x = .ok (.string ⟨[126, 1, 2, 125, 94, 3, 2, 125, 93, 5, 203].toArray⟩) x ∧ (convert 22 9 (.slice (some ⟨Xb, 10, none⟩) 1 3)).run Tryd.prog x = .ok (.string ⟨[203].toArray⟩) x ∧ (convert 22 9 (.slice A2 2 c2)).run Tryd.prog x = .ok (.string ⟨[125, 5].toArray⟩) x ∧
      x.cell? ⟨Xb, 12, none⟩ = some (.int .u8 126) ∧ x.cell? ⟨Y, 2, none⟩ = some (.int .u8 126) ∧ x.cell? ⟨Y, 3, none⟩ = some (.int .u8 1) ∧ x.cell? ⟨Y, 4, none⟩ = some (.int .u8 1) ∧ x.cell? ⟨Y, 5, none⟩ = some (.slice A2 2 c2))
    (by kernel_rfl) (by kernel_rfl) (by kernel_rfl) rfl HS.out ?_
  iterate 7 (first | (refine Plan.take (v := ?_) rfl (by rfl) ?_ ?_; rotate_left 1; (focus (intro x hx; go_simp <;> (first | with_reducible rfl | rw [if_pos (by omega)]))); simp only [Act.put, List.setIfInBounds_toArray, List.set_cons_zero, List.set_cons_succ]) | (refine Plan.skip rfl (by rfl) ?_; simp only [Act.put, List.setIfInBounds_toArray, List.set_cons_zero, List.set_cons_succ]))
  rw [show (ByteArray.mk #[126, 1, 2, 125, 94, 3, 2, 125, 93, 5] ++ ByteArray.mk #[203]) = ByteArray.mk #[126, 1, 2, 125, 94, 3, 2, 125, 93, 5, 203] from cat_two [126, 1, 2, 125, 94, 3, 2, 125, 93, 5] [203]]
  iterate 6 (first | (refine Plan.take (v := ?_) rfl (by rfl) ?_ ?_; rotate_left 1; (focus (intro x hx; go_simp <;> (first | with_reducible rfl | rw [if_pos (by omega)]))); simp only [Act.put, List.setIfInBounds_toArray, List.set_cons_zero, List.set_cons_succ]) | (refine Plan.skip rfl (by rfl) ?_; simp only [Act.put, List.setIfInBounds_toArray, List.set_cons_zero, List.set_cons_succ]))
  rw [show IntKind.i64.wrap 12 = 12 by decide]
  iterate 44 (first | (refine Plan.take (v := ?_) rfl (by rfl) ?_ ?_; rotate_left 1; (focus (intro x hx; go_simp <;> (first | with_reducible rfl | rw [if_pos (by omega)]))); simp only [Act.put, List.setIfInBounds_toArray, List.set_cons_zero, List.set_cons_succ]) | (refine Plan.skip rfl (by rfl) ?_; simp only [Act.put, List.setIfInBounds_toArray, List.set_cons_zero, List.set_cons_succ]))
  refine Plan.done ?_
  go_wp2
  go_ret
  exact ⟨rfl, HW7.out.trans (((Ch.refl [] x8).drew.below (by simp)).mono HW7.out.size)⟩

end Go.Proofs.YtimahjgmapdjdaaDoor
