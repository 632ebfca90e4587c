/-
  lamplightlaw01.OctetsLater answers true, and turns nothing that was there: the walk.
-/
import Derived.Test.YtlaoheflblkgaaaParts
namespace Go.Proofs.Ytlaoheflblkgaaa
set_option linter.unusedVariables false
set_option linter.unusedSimpArgs false
open Go.RowKit

set_option maxHeartbeats 2000000 in
set_option maxRecDepth 100000 in
theorem later_walk (P : Option Addr) (n c : Nat) (ps : List (List UInt8)) (x : Nat) (w : World) (h : InParts w P ps) (hn : ps.length = n) (hnm : n ≤ 9223372036854775807) (hx : x < 4294967296) :
    Calls Try.prog 10 #[.slice P n c, .int .u32 (x : Int)] w fun e w' => e = .returned (.bool true) ∧ Below w.heap.size w w' := by
  have HP := Lib.hid h
  have HN := Lib.hid hn
  clear h hn
  go_enter Try.func10, Try.ntmps10
  go_wp2_with fail
  refine (shown_any w).mono ?_
  rintro e w1 ⟨rfl, hb1⟩
  have HP1 : Hid (InParts w1 P ps) := HP.out.below hb1
  go_wp2_with fail
  refine (parts_any P n c ps w1 HP1.out HN.out hnm).mono ?_
  rintro e w2 ⟨V, cv, vs, he, ho2, hb2'⟩
  have hfl := cutp_flat ps
  have hcl := cutp_len ps
  generalize hcs : cutp ps = cs at *
  have HF := Lib.hid (rfl : cs.flatten = cs.flatten)
  obtain ⟨F, hF⟩ : ∃ F, F = cs.flatten := ⟨_, rfl⟩
  rw [← hF] at he hfl
  subst he
  have HFF := Lib.hid hF
  have hb2 : Below w.heap.size w w2 := hb1.trans (hb2'.mono hb1.size)
  have HO2 := Lib.hid ho2
  have HB2 := Lib.hid hb2
  clear hF hcs ho2 hb2 hb2' HF HP1 hb1
  go_wp2_with fail
  have hW0 := Wtr.new w2
  have hB0 : Below w.heap.size w (w2.alloc (.cells #[.slice none 0 0] 55)) := HB2.out.alloc HB2.out.size _
  have hok0 := HO2.out.ok.keep ((Ch.refl [] w2).alloc (.cells #[.slice none 0 0] 55)) (by simp)
  have hWw : w.heap.size ≤ w2.heap.size := HB2.out.size
  refine (wbytes_any w2.heap.size w2.heap.size V cv cs [] _ _ hW0 hok0 (by omega) (by omega) (by omega) (by rw [← HFF.out]; simp; omega)).mono ?_
  rintro e w3 ⟨rfl, g3, hg3, hw3, hc3⟩
  rw [← HFF.out, List.nil_append] at hw3
  have hb3 : Below w.heap.size w w3 := hB0.trans (hc3.belowAt (by simp; omega) hB0.size)
  have hg3w : w.heap.size ≤ g3 := by simp at hg3; omega
  generalize w2.heap.size = W at *
  obtain ⟨f, hf⟩ : ∃ f, F.length = f := ⟨_, rfl⟩
  have HFL := Lib.hid hf
  have hf250 : f ≤ 250 := by omega
  clear hf hfl hW0 hB0 hok0 hc3 HO2 HB2
  go_wp2_with fail
  refine (wdone_any W g3 F w3 hw3 (by rw [HFL.out]; omega)).mono ?_
  rintro e w4 ⟨G, hG, rfl, hrow4, hb4'⟩
  rw [HFL.out]
  have hb4 : Below w.heap.size w w4 := hb3.trans (hb4'.mono hb3.size)
  have hw4 := hw3.keep (Ch.of_below hb4') (by simp) (by simp)
  have hwl3 := hw3.lt
  clear hb4' hb3 hw3
  go_wp2_with fail
  refine (wu32_any W g3 F (x : Int) w4 hw4 (by rw [HFL.out]; omega) (by omega) (by omega)).mono ?_
  rintro e w5 ⟨rfl, g5, hg5, hw5, hc5⟩
  rw [Int.toNat_natCast] at hw5
  have hb5 : Below w.heap.size w w5 := hb4.trans (hc5.belowAt (by simp; omega) hb4.size)
  have hrow5 := hrow4.keep hc5 (by simp; omega)
  have hg5w : w.heap.size ≤ g5 := by have := hb4.size; omega
  have hgG5 : g5 ≠ G := by have := hrow4.lt; omega
  have hGl := hrow4.lt
  have hWG : W ≠ G := by omega
  clear hc5 hb4 hw4 hrow4
  go_wp2_with fail
  rw [and255 x hx]
  refine (wu8_any W g5 _ ((x % 256 : Nat) : Int) w5 hw5 (by rw [List.length_append, HFL.out]; simp [be32]; omega) (by omega) (by omega)).mono ?_
  rintro e w6 ⟨rfl, g6, hg6, hw6, hc6⟩
  rw [Int.toNat_natCast] at hw6
  have hb6 : Below w.heap.size w w6 := hb5.trans (hc6.belowAt (by simp; omega) hb5.size)
  have hrow6 := hrow5.keep hc6 (by simp; omega)
  obtain ⟨D, hD⟩ : ∃ D, D = F ++ be32 x ++ be8 (x % 256) := ⟨_, rfl⟩
  rw [← hD] at hw6
  have hDl : D.length = f + 5 := by rw [hD, List.length_append, List.length_append, HFL.out]; rfl
  have hDf : D.take f = F := by rw [hD, List.append_assoc, List.take_left' HFL.out]
  have hD3 : D[f + 3]? = some (UInt8.ofNat x) := by
    rw [hD, List.append_assoc, List.getElem?_append_right (by rw [HFL.out]; omega), HFL.out, show f + 3 - f = 3 by omega]; rfl
  have hD4 : D[f + 4]? = some (UInt8.ofNat (x % 256)) := by
    rw [hD, List.append_assoc, List.getElem?_append_right (by rw [HFL.out]; omega), HFL.out, show f + 4 - f = 4 by omega]; rfl
  have HDL := Lib.hid hDl
  have HDF := Lib.hid hDf
  have HD3 := Lib.hid hD3
  have HD4 := Lib.hid hD4
  clear hc6 hb5 hw5 hrow5 hD hDl hDf hD3 hD4
  go_wp2_with fail
  refine (wdone_any W g6 D w6 hw6 (by rw [HDL.out]; omega)).mono ?_
  rintro e w7 ⟨H, hH, rfl, hrow7, hb7'⟩
  rw [HDL.out]
  have hb7 : Below w.heap.size w w7 := hb6.trans (hb7'.mono hb6.size)
  have hrowG := hrow6.keep (Ch.of_below hb7') (by simp)
  have hdr := (Ch.refl [] w7).drew
  have hca := convert_len (hrowG.keep hdr (by simp)) HFL.out
  have hcb : (convert 22 9 (.slice (some ⟨H, 0, none⟩) f (f + 5))).run Try.prog w7.drew = .ok (.string ⟨F.toArray⟩) w7.drew := by
    refine convert_holds (g := H) ?_ HFL.out
    rw [← HDF.out, show bcs (D.take f) = (bcs D).take f by simp [bcs]]
    exact ((hrow7.keep hdr (by simp)).holds).take f
  have hc3 : w7.drew.cell? ⟨H, f + 3, none⟩ = some (.int .u8 ((x % 256 : Nat) : Int)) := by
    have h3 := hrow7.cell (f + 3) (by rw [HDL.out]; omega)
    have e3 : D[f + 3]'(by rw [HDL.out]; omega) = UInt8.ofNat x := by
      have := HD3.out
      rw [List.getElem?_eq_getElem (by rw [HDL.out]; omega)] at this
      exact Option.some.inj this
    rw [e3] at h3
    exact h3.trans (by simp)
  have hc4 : w7.drew.cell? ⟨H, f + 4, none⟩ = some (.int .u8 ((x % 256 : Nat) : Int)) := by
    have h3 := hrow7.cell (f + 4) (by rw [HDL.out]; omega)
    have e3 : D[f + 4]'(by rw [HDL.out]; omega) = UInt8.ofNat (x % 256) := by
      have := HD4.out
      rw [List.getElem?_eq_getElem (by rw [HDL.out]; omega)] at this
      exact Option.some.inj this
    rw [e3] at h3
    exact h3.trans (by simp)
  have hb8 := hb7.drew
  clear hb7' hb6 hw6 hrow6 hrow7 hrowG hdr hb7
  generalize x % 256 = y at *
  go_wp2
  refine region_plan [(true, 0), (true, 1), (true, 2), (true, 3), (true, 4), (true, 5), (true, 6), (true, 7), (true, 8), (true, 9), (true, 10), (true, 11), (true, 12), (true, 13), (true, 14), (true, 15), (true, 16), (true, 17), (true, 18), (true, 19), (true, 20), (true, 21), (true, 22), (true, 23), (true, 24), (true, 25), (true, 26), (true, 27), (true, 28), (true, 29), (true, 30), (true, 31), (true, 32), (true, 33), (true, 34), (true, 35), (true, 36), (true, 37), (true, 38), (true, 39)]
    (fun x => (convert 22 9 (.slice (some ⟨G, 0, none⟩) f f)).run Try.prog x = .ok (.string ⟨F.toArray⟩) x ∧ (convert 22 9 (.slice (some ⟨H, 0, none⟩) f (f + 5))).run Try.prog x = .ok (.string ⟨F.toArray⟩) x ∧ x.cell? ⟨H, f + 3, none⟩ = some (.int .u8 (y : Int)) ∧ x.cell? ⟨H, f + 4, none⟩ = some (.int .u8 (y : Int)))
    (by kernel_rfl) (by kernel_rfl) (by kernel_rfl) rfl ⟨hca, hcb, hc3, hc4⟩ ?_
  clear hca hcb hc3 hc4
  have r5 : IntKind.i64.wrap ((f : Int) + 5) = (f : Int) + 5 := IntWalk.i64_in _ ⟨by omega, by omega⟩
  have r4 : IntKind.i64.wrap ((f : Int) + 5 - 1) = (f : Int) + 4 := by rw [IntWalk.i64_in _ ⟨by omega, by omega⟩]; omega
  have r3 : IntKind.i64.wrap ((f : Int) + 5 - 2) = (f : Int) + 3 := by rw [IntWalk.i64_in _ ⟨by omega, by omega⟩]; omega
  have t4 : ((f : Int) + 4).toNat = f + 4 := by omega
  have t3 : ((f : Int) + 3).toNat = f + 3 := by omega
  have z4 : (0 : Int) ≤ (f : Int) + 4 := by omega
  have z3 : (0 : Int) ≤ (f : Int) + 3 := by omega
  have b4 : (f : Int) + 4 < (f : Int) + 5 := by omega
  have b3 : (f : Int) + 3 < (f : Int) + 5 := by omega
  have f0 : (0 : Int) ≤ (f : Int) := by omega
  have f5 : (f : Int) ≤ (f : Int) + 5 := by omega
  iterate 40 (refine Plan.take (v := ?_) rfl (by rfl) ?_ ?_; rotate_left 1; (focus (intro x hx; go_simp <;> with_reducible rfl)); simp only [Act.put, List.setIfInBounds_toArray, List.set_cons_zero, List.set_cons_succ])
  refine Plan.done ?_
  clear r5 r4 r3 t4 t3 z4 z3 b4 b3 f0 f5
  go_wp2
  go_ret
  exact ⟨rfl, hb8⟩

end Go.Proofs.Ytlaoheflblkgaaa
