/-
  lamplightlaw01.OctetsCuts answers true, and turns nothing that was there: the walk.
-/
import Derived.Test.YtlaoheflblkgaaaShown
import Derived.Test.YtlaoheflblkgaaaNums
import Derived.Test.YtlaoheflblkgaaaEager
namespace Go.Proofs.Ytlaoheflblkgaaa
set_option linter.unusedVariables false
set_option linter.unusedSimpArgs false
open Go.RowKit

set_option maxHeartbeats 2000000 in
set_option maxRecDepth 100000 in
theorem cuts_walk (g : Nat) (A : Option Addr) (l0 : List UInt8) (len cap : Nat) (x : Int) (w : World) (h : Holds w g A (bcs l0)) (hlen : l0.length = len) (hcap : len ≤ cap) (hmx : cap ≤ 9223372036854775807) :
    Calls Try.prog 9 #[.slice A len cap, .int .i64 x] w fun e w' => e = .returned (.bool true) ∧ Below w.heap.size w w' := by
  obtain ⟨m, hm3, hml, hmin⟩ := min_of len 300 300 rfl
  obtain ⟨a, ham, hat, hat'⟩ := place_of x m
  have HH := Lib.hid h
  have HL := Lib.hid hlen
  clear h hlen
  go_enter Try.func9, Try.ntmps9
  go_wp2_with fail
  refine (shown_any w).mono ?_
  rintro e w1 ⟨rfl, hb1⟩
  obtain ⟨l, hl⟩ : ∃ l, l = l0.take m := ⟨_, rfl⟩
  have hll : l.length = m := by rw [hl, List.length_take, HL.out]; omega
  have h1 : Holds w1 g A (bcs l) := by
    rw [hl, show bcs (l0.take m) = (bcs l0).take m by simp [bcs]]
    exact (HH.out.take m).keep (Ch.of_below hb1) (by simp)
  have HLL := Lib.hid hll
  have HH1 := Lib.hid h1
  clear hl hll h1 HH HL
  go_wp2_with fail
  refine (read_len g A m cap l w1 HH1.out HLL.out (by omega)).mono ?_
  rintro e w2 ⟨R, gr, hR, hgr, rfl, hr2, hb2'⟩
  have hw1z : w.heap.size ≤ w1.heap.size := hb1.size
  have hb2 : Below w.heap.size w w2 := hb1.trans (hb2'.mono hb1.size)
  have HH2 := Lib.hid (HH1.out.keep (Ch.of_below hb2') (by simp))
  have hR2 := hr2.lt
  obtain ⟨B, hB⟩ : ∃ B, (if cap = a then A else A.map (·.add a)) = B := ⟨_, rfl⟩
  obtain ⟨d, hd⟩ : ∃ d, d = l.drop a := ⟨_, rfl⟩
  have HDD := Lib.hid hd
  have HGl : Hid (0 < l.length → g < w1.heap.size) := fun hp => (HH1.out (by rw [bcs_length]; exact hp)).1
  have HD : Hid (Holds w2 g B (bcs d)) := by
    have := HH2.out.drop a cap (by rw [bcs_length, HLL.out]; exact ham) (by rw [bcs_length, HLL.out]; omega)
    rw [hB, show (bcs l).drop a = bcs (l.drop a) by simp [bcs], ← hd] at this
    exact this
  have HDL : Hid (d.length = m - a) := by show _ = _; rw [hd, List.length_drop, HLL.out]
  clear hd
  go_wp2_with fail
  refine (read_len g B (m - a) (cap - a) d w2 HD.out HDL.out (by omega)).mono ?_
  rintro e w3 ⟨S, gs, hS, hgs, rfl, hs3, hb3'⟩
  have hb3 : Below w.heap.size w w3 := hb2.trans (hb3'.mono hb2.size)
  have hr3 := hr2.keep (Ch.of_below hb3') (by simp) (by simp)
  have HH3 := Lib.hid (HH2.out.keep (Ch.of_below hb3') (by simp))
  have HD3 := Lib.hid (HD.out.keep (Ch.of_below hb3') (by simp))
  have hz23 := hb3'.size
  have hSl := hs3.lt
  have hgsl := hs3.glt
  have hgrl := hr2.glt
  clear HD HH2 HH1 hb3' hb2' hr2 hb1 hb2
  go_wp2_with fail
  refine (bytes_ok R gr l a w3 hr3 (by rw [HLL.out]; exact ham)).mono ?_
  rintro e w4 ⟨X, hX, rfl, hx4, hr4, hc4⟩
  rw [← HDD.out] at hr4
  have hz12 : w1.heap.size ≤ R := hR
  have hne : S ≠ R ∧ gs ≠ R := ⟨by omega, by omega⟩
  have HNE := Lib.hid hne
  have hs4 := hs3.keep hc4 (by simp; omega) (by simp; omega)
  have HH4 := Lib.hid (HH3.out.keep hc4 (fun hp => by have := HGl.out (by rw [bcs_length] at hp; exact hp); simp; omega))
  have HD4 := Lib.hid (HD3.out.keep hc4 (fun hp => by have := HGl.out (by rw [bcs_length, HDL.out] at hp; rw [HLL.out]; omega); simp; omega))
  have hb4 : Below w.heap.size w w4 := hb3.trans (hc4.belowAt (by simp; have := hb3.size; omega) hb3.size)
  have hz34 := hc4.size
  clear hc4 hne HH3 HD3 hr3 hs3 hb3
  go_wp2_with fail
  refine (left_any R gr d w4 hr4).mono ?_
  rintro e w5 ⟨rfl, rfl⟩
  rw [HDL.out]
  go_wp2_with fail
  refine (left_any R gr d w4 hr4).mono ?_
  rintro e w5 ⟨rfl, rfl⟩
  rw [HDL.out]
  go_wp2_with fail
  refine (left_any S gs d w4 hs4).mono ?_
  rintro e w5 ⟨rfl, rfl⟩
  rw [HDL.out]
  go_wp2_with fail
  refine (u16_any R gr d w4 hr4).mono ?_
  rintro e w5 ⟨rfl, hr5, hc5⟩
  generalize hN : n16 d = N at *
  generalize hE : e16 d = E at *
  have HN := Lib.hid hN
  have HE := Lib.hid hE
  clear hN hE
  have hx5 := hx4.keep hc5 (by simp; omega)
  have hs5 := hs4.keep hc5 (by simp; omega) (by simp; omega)
  have HH5 := Lib.hid (HH4.out.keep hc5 (fun hp => by have := HGl.out (by rw [bcs_length] at hp; exact hp); simp; omega))
  have HD5 := Lib.hid (HD4.out.keep hc5 (fun hp => by have := HGl.out (by rw [bcs_length, HDL.out] at hp; rw [HLL.out]; omega); simp; omega))
  have hb5 : Below w.heap.size w w5 := hb4.trans (hc5.belowAt (by simp; omega) hb4.size)
  have hz45 := hc5.size
  clear hc5 hx4 hs4 hr4 HH4 HD4 hb4
  go_wp2_with fail
  refine (u16_any S gs d w5 hs5).mono ?_
  rintro e w6 ⟨rfl, hs6, hc6⟩
  rw [HN.out, HE.out]
  have hr6 := hr5.keep hc6 (by simp; omega) (by simp; omega)
  have hx6 := hx5.keep hc6 (by simp; omega)
  have hSg : Hid (0 < l.length → g < S) := fun hp => by have := HGl.out hp; omega
  have HH6 := Lib.hid (HH5.out.keep hc6 (fun hp => by have := hSg.out (by rw [bcs_length] at hp; exact hp); simp; omega))
  have HD6 := Lib.hid (HD5.out.keep hc6 (fun hp => by have := hSg.out (by rw [bcs_length, HDL.out] at hp; rw [HLL.out]; omega); simp; omega))
  have hb6 : Below w.heap.size w w6 := hb5.trans (hc6.belowAt (by simp; omega) hb5.size)
  have hz56 := hc6.size
  clear hc6 hx5 hs5 hr5 HH5 HD5 hb5
  generalize r16 d = q at *
  go_wp2_with fail
  refine (rest_any R gr q w6 hr6).mono ?_
  rintro e w7 ⟨Y, hY, rfl, hy7, hr7, hc7⟩
  have hs7 := hs6.keep hc7 (by simp; omega) (by simp; omega)
  have hx7 := hx6.keep hc7 (by simp; omega)
  have HH7 := Lib.hid (HH6.out.keep hc7 (fun hp => by have := HGl.out (by rw [bcs_length] at hp; exact hp); simp; omega))
  have HD7 := Lib.hid (HD6.out.keep hc7 (fun hp => by have := HGl.out (by rw [bcs_length, HDL.out] at hp; rw [HLL.out]; omega); simp; omega))
  have hb7 : Below w.heap.size w w7 := hb6.trans (hc7.belowAt (by simp; omega) hb6.size)
  have hz67 := hc7.size
  clear hc7 hx6 hs6 hr6 HH6 HD6 hb6
  go_wp2_with fail
  refine (rest_any S gs q w7 hs7).mono ?_
  rintro e w8 ⟨Z, hZ, rfl, hz8, hs8, hc8⟩
  have hr8 := hr7.keep hc8 (by simp; omega) (by simp; omega)
  have hx8 := hx7.keep hc8 (by simp; omega)
  have hy8 := hy7.keep hc8 (by simp; omega)
  have HH8 := Lib.hid (HH7.out.keep hc8 (fun hp => by have := hSg.out (by rw [bcs_length] at hp; exact hp); simp; omega))
  have HD8 := Lib.hid (HD7.out.keep hc8 (fun hp => by have := hSg.out (by rw [bcs_length, HDL.out] at hp; rw [HLL.out]; omega); simp; omega))
  have hb8 : Below w.heap.size w w8 := hb7.trans (hc8.belowAt (by simp; omega) hb7.size)
  clear hc8 hx7 hs7 hr7 HH7 HD7 hb7 hy7 hs8
  have hcd8 := (Ch.refl [] w8).drew
  have hcy := convert_row (hy8.keep hcd8 (by simp))
  have hcz := convert_row (hz8.keep hcd8 (by simp))
  have hcx := convert_len (hx8.keep hcd8 (by simp)) (n := a) (by rw [List.length_take, HLL.out]; omega)
  have hcd := convert_holds (c := cap - a) (HD8.out.keep hcd8 (by simp)) HDL.out
  have hcl := convert_holds (c := cap) (HH8.out.keep hcd8 (by simp)) HLL.out
  have hr9 := hr8.keep hcd8 (by simp) (by simp)
  have hb9 : Below w.heap.size w w8.drew := hb8.drew
  have hcat : l.take a ++ d = l := by rw [HDD.out, List.take_append_drop]
  have HCAT := Lib.hid hcat
  clear hcd8 hy8 hz8 hx8 HD8 HH8 hr8 hb8 hcat
  have hpl : (l.take a).length = a := by rw [List.length_take, HLL.out]; omega
  generalize l.take a = p at *
  have hsum : ¬ 9223372036854775807 < p.length + d.length := by rw [hpl, HDL.out]; omega
  have hjoin : (ByteArray.mk p.toArray) ++ (ByteArray.mk d.toArray) = ByteArray.mk l.toArray := by
    rw [← HCAT.out]
    apply ByteArray.ext
    simp
  clear hpl
  go_wp2
  refine region_plan [(true, 0), (true, 1), (true, 2), (true, 3), (true, 4), (true, 5), (true, 6), (true, 7), (true, 8), (true, 9), (true, 10), (true, 11), (true, 12), (true, 13), (true, 14), (true, 15), (true, 16), (true, 17), (true, 18), (true, 19), (true, 20), (true, 21), (true, 22), (true, 23), (true, 24), (true, 25), (true, 26), (true, 27), (true, 28), (true, 29), (true, 30), (true, 31), (false, 32), (true, 33), (true, 34), (true, 35), (true, 36), (false, 37), (true, 38), (true, 39), (true, 40)]
    (fun x => (convert 22 9 (.slice (some ⟨Y, 0, none⟩) q.length q.length)).run Try.prog x = .ok (.string ⟨q.toArray⟩) x ∧ (convert 22 9 (.slice (some ⟨Z, 0, none⟩) q.length q.length)).run Try.prog x = .ok (.string ⟨q.toArray⟩) x ∧
      (convert 22 9 (.slice (some ⟨X, 0, none⟩) a a)).run Try.prog x = .ok (.string ⟨p.toArray⟩) x ∧ (convert 22 9 (.slice B (m - a) (cap - a))).run Try.prog x = .ok (.string ⟨d.toArray⟩) x ∧ (convert 22 9 (.slice A m cap)).run Try.prog x = .ok (.string ⟨l.toArray⟩) x)
    (by kernel_rfl) (by kernel_rfl) (by kernel_rfl) rfl ⟨hcy, hcz, hcx, hcd, hcl⟩ ?_
  have HSS := Lib.hid (And.intro hcy (And.intro hcz (And.intro hcx (And.intro hcd hcl))))
  clear hcy hcz hcx hcd hcl
  iterate 32 (refine Plan.take (v := ?_) rfl (by rfl) ?_ ?_; rotate_left 1; (focus (intro x hx; go_simp <;> with_reducible rfl)); simp only [Act.put, List.setIfInBounds_toArray, List.set_cons_zero, List.set_cons_succ])
  refine Plan.loud rfl (fun K hK => ?_)
  go_simp
  refine (done_any R gr [] _ hr9).mono ?_
  rintro e w10 ⟨rfl, rfl⟩
  refine hK.out _ _ _ (fun x hx => hx) HSS.out ?_
  clear hK K
  iterate 4 (refine Plan.take (v := ?_) rfl (by rfl) ?_ ?_; rotate_left 1; (focus (intro x hx; go_simp <;> with_reducible rfl)); simp only [Act.put, List.setIfInBounds_toArray, List.set_cons_zero, List.set_cons_succ])
  refine Plan.loud rfl (fun K hK => ?_)
  go_simp
  refine (left_any R gr [] _ hr9).mono ?_
  rintro e w10 ⟨rfl, rfl⟩
  refine hK.out _ _ _ (fun x hx => hx) HSS.out ?_
  clear hK K
  iterate 3 (refine Plan.take (v := ?_) rfl (by rfl) ?_ ?_; rotate_left 1; (focus (intro x hx; go_simp <;> with_reducible rfl)); simp only [Act.put, List.setIfInBounds_toArray, List.set_cons_zero, List.set_cons_succ])
  refine Plan.done ?_
  go_wp2
  go_ret
  exact ⟨rfl, hb9⟩

end Go.Proofs.Ytlaoheflblkgaaa
