/-
  lamplightlaw03.StuffParts answers true, and turns nothing that was there, if the two calls keep their contracts: the walk.
-/
import Derived.Test.YtplccbficpjlnaaStuffShown
import Derived.Test.YtplccbficpjlnaaEager
namespace Go.Proofs.Ytplccbficpjlnaa
set_option linter.unusedVariables false
set_option linter.unusedSimpArgs false
open Go.RowKit

set_option maxHeartbeats 4000000 in
set_option maxRecDepth 100000 in
theorem parts_walk (hS : StuffOn) (hU : UnstuffOn) (g : Nat) (A : Option Addr) (l0 : List UInt8) (len cap : Nat) (g' : Nat) (A' : Option Addr) (l1 : List UInt8) (len' cap' : Nat) (w : World) (h : Holds w g A (bcs l0)) (hlen : l0.length = len) (hcap : len ≤ cap) (hmx : cap ≤ 9223372036854775807)
    (h' : Holds w g' A' (bcs l1)) (hlen' : l1.length = len') (hcap' : len' ≤ cap') (hmx' : cap' ≤ 9223372036854775807) :
    Calls Try.prog 5 #[.slice A len cap, .slice A' len' cap'] w fun e w' => e = .returned (.bool true) ∧ Below w.heap.size w w' := by
  obtain ⟨m, hm3, hml, hmin⟩ := min_of len 1000 1000 rfl
  obtain ⟨m', hm3', hml', hmin'⟩ := min_of len' 1000 1000 rfl
  obtain ⟨i0, hi, hz0, hz1, hz2⟩ := info_parts info_byte
  have HS := Lib.hid hS
  have HU := Lib.hid hU
  have HH := Lib.hid h
  have HL := Lib.hid hlen
  have HH' := Lib.hid h'
  have HL' := Lib.hid hlen'
  clear h hlen hS hU h' hlen'
  go_enter Try.func5, Try.ntmps5
  go_wp2_with fail
  refine (shown_any HS.out HU.out w).mono ?_
  rintro e x1 ⟨rfl, hb1⟩
  have K1 := Lib.hid (Kp.begin HH.out hb1 m)
  have Q1 := Lib.hid (Kp.begin HH'.out hb1 m')
  have HLL : Hid ((l0.take m).length = m) := by show _ = _; rw [List.length_take, HL.out]; omega
  have HLL' : Hid ((l1.take m').length = m') := by show _ = _; rw [List.length_take, HL'.out]; omega
  generalize l0.take m = la at *
  generalize l1.take m' = lb at *
  clear HH HL HH' HL' hb1
  have hmc : m ≤ cap := by omega
  have hmc' : m' ≤ cap' := by omega
  have K2 := Lib.hid (K1.out.alloc (.cells #[] 5))
  have Q2 := Lib.hid (Q1.out.alloc (.cells #[] 5))
  have HE2 : Hid ((x1.alloc (.cells #[] 5)).ownsRow 0 5 1 (.slice (some ⟨x1.heap.size, 0, none⟩) 0 0) 0 []) := World.ownsRow_made x1 #[] 0 (Nat.zero_le _) (Nat.zero_le _) rfl
  have HZ2 : Hid (x1.heap.size ≤ (x1.alloc (.cells #[] 5)).heap.size) := by show _ ≤ _; simp
  go_upto_region 5 with (first
    | (at_builtin; refine wpList_append_holds rfl (.tmp 25) (.tmp 26) 22 rfl 5 i0 (.int .u8 0) 1 Try.underlying22 hi hz0 hz1 hz2 rfl (.slice (some ⟨x1.heap.size, 0, none⟩) 0 0) 0 [] rfl HE2.out g A m cap (bcs la) rfl (by rw [bcs_length]; exact HLL.out) K2.out.holds (bcs_one _) (by unfold maxLen; omega) (by omega) ?_; intro A3 c3 x3 hown3 hgrow3 hat3; simp only [Nat.zero_add, List.nil_append] at hown3 hat3 ⊢; have Q3 : Hid (Holds x3 g' A' (bcs lb)) := (Q1.out.holds.keep (Ch.of_below ((((Ch.refl [] x1).alloc _).below (by simp)).grown hgrow3 HZ2.out (by intro g hg; simp [Value.ownBlock] at hg; omega))) (by simp)))
    | (at_builtin; refine wpList_append_holds rfl (.tmp 27) (.tmp 28) 22 rfl 5 i0 (.int .u8 0) 1 Try.underlying22 hi hz0 hz1 hz2 rfl (.slice A3 m c3) m (bcs la) rfl hown3 g' A' m' cap' (bcs lb) rfl (by rw [bcs_length]; exact HLL'.out) Q3.out (bcs_one _) (by unfold maxLen; omega) (by omega) ?_; intro A4 c4 x4 hown4 hgrow4 hat4))
  obtain ⟨ho3, hb3⟩ := (Own1.empty x1).grown HZ2.out hgrow3 hown3 HLL.out hat3
  have hb3' : Below x1.heap.size x1 x3 := (((Ch.refl [] x1).alloc _).below (by simp)).trans hb3
  obtain ⟨ho4, hb4⟩ := ho3.grown hb3'.size hgrow4 (by rw [bcs_append]; exact hown4) (l' := la ++ lb) (by rw [List.length_append, HLL.out, HLL'.out]) hat4
  have hb4' : Below x1.heap.size x1 x4 := hb3'.trans hb4
  have K4 := Lib.hid (K1.out.step hb4').drew
  have Q4 := Lib.hid (Q1.out.step hb4').drew
  have HB4 : Hid (Own1 x4.drew x1.heap.size A4 (m + m') c4 (la ++ lb)) := ho4.step (((Ch.refl [] x4).drew).below (by simp))
  clear K1 Q1 K2 Q2 HE2 HZ2 hown3 hgrow3 hat3 Q3 hown4 hgrow4 hat4 ho3 hb3 hb3' ho4 hb4 hb4'
  refine region_plan [(true, 0), (true, 3), (false, 1), (true, 2), (false, 4), (true, 5), (true, 6), (true, 7)] (fun _ => True) (by kernel_rfl) (by kernel_rfl) (by kernel_rfl) rfl trivial ?_
  generalize World.drew _ = y0 at *
  iterate 2 (refine Plan.take (v := ?_) rfl (by rfl) ?_ ?_; rotate_left 1; (focus (intro x hx; go_simp <;> (first | with_reducible rfl | rw [if_pos (by omega)]))); simp only [Act.put, List.setIfInBounds_toArray, List.set_cons_zero, List.set_cons_succ])
  refine Plan.loud rfl (fun K hK => ?_)
  go_simp
  refine (HS.out g A m cap la y0 K4.out.holds HLL.out hmc (by omega)).mono ?_
  rintro e y1 ⟨A5, n5, c5, rfl, ho5, hb5⟩
  have K5 := Lib.hid (K4.out.step hb5)
  have Q5 := Lib.hid (Q4.out.step hb5)
  have HB5 := Lib.hid (HB4.out.step hb5)
  have HO5 := Lib.hid ho5
  refine hK.out (fun x => (convert 22 9 (.slice A5 n5 c5)).run Try.prog x = .ok (.string ⟨(stf la).toArray⟩) x) _ _ (fun _ _ => trivial) ho5.cv ?_
  clear hK K K4 Q4 HB4 ho5 hb5
  iterate 1 (refine Plan.take (v := ?_) rfl (by rfl) ?_ ?_; rotate_left 1; (focus (intro x hx; go_simp <;> (first | with_reducible rfl | rw [if_pos (by omega)]))); simp only [Act.put, List.setIfInBounds_toArray, List.set_cons_zero, List.set_cons_succ])
  refine Plan.loud rfl (fun K hK => ?_)
  go_simp
  refine (HS.out g' A' m' cap' lb y1 Q5.out.holds HLL'.out hmc' (by omega)).mono ?_
  rintro e y2 ⟨A6, n6, c6, rfl, ho6, hb6⟩
  have K6 := Lib.hid (K5.out.step hb6)
  have Q6 := Lib.hid (Q5.out.step hb6)
  have HB6 := Lib.hid (HB5.out.step hb6)
  replace HO5 := Lib.hid (HO5.out.step hb6)
  refine hK.out (fun x => (convert 22 9 (.slice A5 n5 c5)).run Try.prog x = .ok (.string ⟨(stf la).toArray⟩) x ∧ (convert 22 9 (.slice A6 n6 c6)).run Try.prog x = .ok (.string ⟨(stf lb).toArray⟩) x) _ _ (fun _ hx => hx.1) ⟨HO5.out.cv, ho6.cv⟩ ?_
  have hjn := cat_two (stf la) (stf lb)
  rw [← stf_append] at hjn
  have hla := stf_length_le la
  have hlb := stf_length_le lb
  rw [HLL.out] at hla
  rw [HLL'.out] at hlb
  have hsum : ¬ 9223372036854775807 < (stf la).length + (stf lb).length := by omega
  have HAB := Lib.hid (stf_append la lb)
  clear hK K K5 Q5 HB5 ho6 hb6 HO5
  generalize stf la = sa at *
  generalize stf lb = sb at *
  iterate 3 (refine Plan.take (v := ?_) rfl (by rfl) ?_ ?_; rotate_left 1; (focus (intro x hx; go_simp <;> (first | with_reducible rfl | rw [if_pos (by omega)]))); simp only [Act.put, List.setIfInBounds_toArray, List.set_cons_zero, List.set_cons_succ])
  refine Plan.done ?_
  obtain ⟨gb, hgb, _⟩ := HB6.out.holds
  have HGB := Lib.hid hgb
  have hlab : (la ++ lb).length = m + m' := by rw [List.length_append, HLL.out, HLL'.out]
  have HLAB := Lib.hid hlab
  have hc4 : m + m' ≤ c4 := HB6.out.cap
  clear hgb hlab hjn hsum hla hlb
  go_wp2_with fail
  refine (HS.out gb A4 (m + m') c4 (la ++ lb) y2 HGB.out HLAB.out hc4 (by omega)).mono ?_
  rintro e y3 ⟨A7, n7, c7, rfl, ho7, hb7⟩
  have K7 := Lib.hid (K6.out.step hb7)
  have Q7 := Lib.hid (Q6.out.step hb7)
  replace HGB := Lib.hid (HGB.out.keep (Ch.of_below hb7) (by simp))
  have hcv7 := ho7.cv
  clear K6 Q6 HB6 ho7 hb7
  go_wp2_with fail
  refine (HU.out g A m cap la y3 K7.out.holds HLL.out hmc (by omega)).mono ?_
  rintro e y4 ⟨A8, n8, c8, rfl, ho8, hb8⟩
  have K8 := Lib.hid (K7.out.step hb8)
  have Q8 := Lib.hid (Q7.out.step hb8)
  replace HGB := Lib.hid (HGB.out.keep (Ch.of_below hb8) (by simp))
  have HP8 := Lib.hid ho8
  clear K7 Q7 ho8 hb8 hcv7
  go_wp2_with fail
  refine (HU.out g' A' m' cap' lb y4 Q8.out.holds HLL'.out hmc' (by omega)).mono ?_
  rintro e y5 ⟨A9, n9, c9, rfl, ho9, hb9⟩
  have K9 := Lib.hid (K8.out.step hb9)
  replace HGB := Lib.hid (HGB.out.keep (Ch.of_below hb9) (by simp))
  have HP9 := Lib.hid (HP8.out.step hb9)
  have HQ9 := Lib.hid ho9
  clear K8 Q8 ho9 hb9 HP8
  go_wp2_with fail
  refine (HU.out gb A4 (m + m') c4 (la ++ lb) y5 HGB.out HLAB.out hc4 (by omega)).mono ?_
  rintro e y6 ⟨A10, n10, c10, rfl, ho10, hb10⟩
  have K10 := Lib.hid (K9.out.step hb10)
  have HP10 := Lib.hid (HP9.out.step hb10)
  have HQ10 := Lib.hid (HQ9.out.step hb10)
  have HR10 := Lib.hid ho10
  clear K9 ho10 hb10 HP9 HQ9 HGB
  cases hua : unst la with
  | ok p =>
    have hab := unst_append_ok la lb p hua
    rw [uErr_ok hua]
    rw [uOut_ok hua] at HP10
    cases hub : unst lb with
    | ok q =>
      rw [hub, cat] at hab
      rw [uErr_ok hub, uErr_ok hab]
      rw [uOut_ok hub] at HQ10
      rw [uOut_ok hab] at HR10
      have h1 := HP10.out.cv
      have h2 := HQ10.out.cv
      have h3 := HR10.out.cv
      have hjn := cat_two p q
      have hpl := unst_length la p hua
      have hql := unst_length lb q hub
      rw [HLL.out] at hpl
      rw [HLL'.out] at hql
      have hsum : ¬ 9223372036854775807 < p.length + q.length := by omega
      generalize p ++ q = pq at *
      clear hua hub hab
      go_wp2
      go_ret
      exact ⟨rfl, K10.out.below⟩
    | error er =>
      rw [hub, cat] at hab
      rw [uErr_error hub, uErr_error hab]
      have hne : ((er : Int) != 0) = true := by
        rcases unst_error _ lb er (Nat.le_refl _) hub with rfl | rfl <;> rfl
      clear hua hub hab
      go_wp2
      go_ret
      exact ⟨rfl, K10.out.below⟩
  | error er =>
    rw [uErr_error hua]
    rcases unst_error _ la er (Nat.le_refl _) hua with rfl | rfl
    · clear hua
      go_wp2
      go_ret
      exact ⟨rfl, K10.out.below⟩
    · have hab := unst_append_form _ la lb (Nat.le_refl _) hua
      rw [uErr_error hab]
      clear hua hab
      go_wp2
      go_ret
      exact ⟨rfl, K10.out.below⟩

end Go.Proofs.Ytplccbficpjlnaa
