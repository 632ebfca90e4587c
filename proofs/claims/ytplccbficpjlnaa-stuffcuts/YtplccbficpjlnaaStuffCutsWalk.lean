/-
  lamplightlaw03.StuffCuts answers true, and turns nothing that was there, if the two calls keep their contracts: the walk.
-/
import Derived.Test.YtplccbficpjlnaaStuffShown
import Derived.Test.YtplccbficpjlnaaEager
namespace Go.Proofs.Ytplccbficpjlnaa
set_option linter.unusedVariables false
set_option linter.unusedSimpArgs false
open Go.RowKit

set_option maxHeartbeats 4000000 in
set_option maxRecDepth 100000 in
theorem cuts_walk (hS : StuffOn) (hU : UnstuffOn) (g : Nat) (A : Option Addr) (l0 : List UInt8) (len cap : Nat) (x : Int) (w : World) (h : Holds w g A (bcs l0)) (hlen : l0.length = len) (hcap : len ≤ cap) (hmx : cap ≤ 9223372036854775807) :
    Calls Try.prog 6 #[.slice A len cap, .int .i64 x] w fun e w' => e = .returned (.bool true) ∧ Below w.heap.size w w' := by
  obtain ⟨m, hm3, hml, hmin⟩ := min_of len 1000 1000 rfl
  have HS := Lib.hid hS
  have HU := Lib.hid hU
  have HH := Lib.hid h
  have HL := Lib.hid hlen
  clear h hlen hS hU
  go_enter Try.func6, Try.ntmps6
  go_wp2_with fail
  refine (shown_any HS.out HU.out w).mono ?_
  rintro e x1 ⟨rfl, hb1⟩
  have K1 := Lib.hid (Kp.begin HH.out hb1 m)
  have HLL : Hid ((l0.take m).length = m) := by show _ = _; rw [List.length_take, HL.out]; omega
  generalize l0.take m = l at *
  clear HH HL hb1
  have hmc : m ≤ cap := by omega
  go_wp2_with fail
  refine (HS.out g A m cap l x1 K1.out.holds HLL.out hmc (by omega)).mono ?_
  rintro e x2 ⟨A2, n2, c2, rfl, ho2, hb2⟩
  have K2 := Lib.hid (K1.out.step hb2)
  have HO2 := Lib.hid ho2
  have hle := stf_length_le l
  rw [HO2.out.len, HLL.out] at hle
  obtain ⟨g2, hg2, _⟩ := ho2.holds
  have HG2 := Lib.hid hg2
  have hc2 : n2 ≤ c2 := HO2.out.cap
  clear K1 hb2 ho2 hg2
  obtain ⟨a, han, hat, hat'⟩ := place_of x n2
  have hac : a ≤ c2 := by omega
  have HT2 : Hid (Holds x2 g2 A2 (bcs ((stf l).take a))) := by show Holds _ _ _ _; rw [bcs_take]; exact HG2.out.take a
  have HTL : Hid (((stf l).take a).length = a) := by show _ = _; rw [List.length_take, HO2.out.len]; omega
  go_wp2_with fail
  refine (HU.out g2 A2 a c2 _ x2 HT2.out HTL.out hac (by omega)).mono ?_
  rintro e x3 ⟨A3, n3, c3, rfl, ho3, hb3⟩
  have K3 := Lib.hid (K2.out.step hb3)
  replace HO2 := Lib.hid (HO2.out.step hb3)
  have HO3 := Lib.hid ho3
  clear K2 hb3 ho3 HT2 HG2
  have hkl : a ≤ (stf l).length := by rw [HO2.out.len]; exact han
  have key : ∀ (hu : ∃ j, j ≤ l.length ∧ unst ((stf l).take a) = .ok (l.take j)), ∃ j, j ≤ m ∧ n3 = j ∧ uErr ((stf l).take a) = 0 ∧ uOut ((stf l).take a) = l.take j ∧ (l.take j).length = j := by
    rintro ⟨j, hj, hu⟩
    refine ⟨j, by rw [← HLL.out]; exact hj, ?_, uErr_ok hu, uOut_ok hu, by rw [List.length_take]; omega⟩
    rw [← HO3.out.len, uOut_ok hu, List.length_take]; omega
  have HKEY := Lib.hid key
  clear key
  by_cases ha0 : a = 0
  · subst ha0
    obtain ⟨j, hjm, rfl, he, ho, hjl⟩ := HKEY.out (cut_ok l 0 hkl (.inl rfl))
    rw [he]
    rw [ho] at HO3
    have hcv3 := HO3.out.cv
    have hcvb : ∀ y : World, Holds y g A (bcs l) → (convert 22 9 (.slice A n3 cap)).run Try.prog y = .ok (.string ⟨(l.take n3).toArray⟩) y := fun y hy => convert_holds (c := cap) (by rw [bcs_take]; exact hy.take n3) hjl
    have hcb := hcvb x3.drew K3.out.drew.holds
    have hc3 : (convert 22 9 (.slice A3 n3 c3)).run Try.prog x3.drew = .ok (.string ⟨(l.take n3).toArray⟩) x3.drew := (HO3.out.step (((Ch.refl [] x3).drew).below (by simp))).cv
    have hjc : n3 ≤ cap := by omega
    have K4 := Lib.hid K3.out.drew
    clear hcvb hcv3 he ho HO3
    generalize l.take n3 = lj at *
    go_wp2_with fail
    refine region_plan [(true, 0), (true, 1), (true, 2), (true, 3), (true, 4), (true, 5), (true, 6), (true, 7), (true, 8), (true, 9), (true, 10), (true, 11), (true, 12), (true, 13), (true, 14), (true, 15), (true, 16), (true, 17), (true, 18), (true, 19), (true, 20), (true, 21), (true, 22)]
      (fun y => (convert 22 9 (.slice A3 n3 c3)).run Try.prog y = .ok (.string ⟨lj.toArray⟩) y ∧ (convert 22 9 (.slice A n3 cap)).run Try.prog y = .ok (.string ⟨lj.toArray⟩) y) (by kernel_rfl) (by kernel_rfl) (by kernel_rfl) rfl ⟨hc3, hcb⟩ ?_
    iterate 23 (refine Plan.take (v := ?_) rfl (by rfl) ?_ ?_; rotate_left 1; (focus (intro x hx; go_simp <;> (first | with_reducible rfl | rw [if_pos (by omega)]))); simp only [Act.put, List.setIfInBounds_toArray, List.set_cons_zero, List.set_cons_succ])
    refine Plan.done ?_
    go_wp2
    go_ret
    exact ⟨rfl, K4.out.below⟩
  · obtain ⟨q, rfl⟩ : ∃ q, a = q + 1 := ⟨a - 1, by omega⟩
    have hql : q < (stf l).length := by omega
    obtain ⟨gx, rfl, _, _, hcell, _, _⟩ := HO2.out.at q hql
    have hq1 : ((q + 1 : Nat) : Int) - 1 = (q : Int) := by omega
    have hqn : (q : Int) < (n2 : Int) := by omega
    have hq0 : (0 : Int) < (q : Int) + 1 := by omega
    by_cases hb : (stf l)[q] = 125
    · have hu := cut_short l (q + 1) hkl (by omega) (by rw [Nat.add_sub_cancel, List.getElem?_eq_getElem hql, hb])
      rw [hb] at hcell
      have hbn : (125 : UInt8).toNat = 125 := rfl
      rw [uErr_error hu]
      rw [uOut_error hu] at HO3
      have hn3 : n3 = 0 := by rw [← HO3.out.len]; rfl
      subst hn3
      clear hu hb HO2
      go_wp2
      go_ret
      exact ⟨rfl, K3.out.below⟩
    · have hne : (((stf l)[q].toNat : Int) == 125) = false := u8_ne (n := 125) (by omega) hb
      obtain ⟨j, hjm, rfl, he, ho, hjl⟩ := HKEY.out (cut_ok l (q + 1) hkl (.inr (by rw [Nat.add_sub_cancel, List.getElem?_eq_getElem hql]; intro h; exact hb (Option.some.inj h))))
      rw [he]
      rw [ho] at HO3
      have hcvb : ∀ y : World, Holds y g A (bcs l) → (convert 22 9 (.slice A n3 cap)).run Try.prog y = .ok (.string ⟨(l.take n3).toArray⟩) y := fun y hy => convert_holds (c := cap) (by rw [bcs_take]; exact hy.take n3) hjl
      have hcb := hcvb x3.drew K3.out.drew.holds
      have hc3 : (convert 22 9 (.slice A3 n3 c3)).run Try.prog x3.drew = .ok (.string ⟨(l.take n3).toArray⟩) x3.drew := (HO3.out.step (((Ch.refl [] x3).drew).below (by simp))).cv
      have hjc : n3 ≤ cap := by omega
      have K4 := Lib.hid K3.out.drew
      generalize (stf l)[q].toNat = bq at *
      clear hcvb he ho HO3 hb
      generalize l.take n3 = lj at *
      go_wp2_with fail
      refine region_plan [(true, 0), (true, 1), (true, 2), (true, 3), (true, 4), (true, 5), (true, 6), (true, 7), (true, 8), (true, 9), (true, 10), (true, 11), (true, 12), (true, 13), (true, 14), (true, 15), (true, 16), (true, 17), (true, 18), (true, 19), (true, 20), (true, 21), (true, 22)]
        (fun y => (convert 22 9 (.slice A3 n3 c3)).run Try.prog y = .ok (.string ⟨lj.toArray⟩) y ∧ (convert 22 9 (.slice A n3 cap)).run Try.prog y = .ok (.string ⟨lj.toArray⟩) y) (by kernel_rfl) (by kernel_rfl) (by kernel_rfl) rfl ⟨hc3, hcb⟩ ?_
      iterate 23 (refine Plan.take (v := ?_) rfl (by rfl) ?_ ?_; rotate_left 1; (focus (intro x hx; go_simp <;> (first | with_reducible rfl | rw [if_pos (by omega)]))); simp only [Act.put, List.setIfInBounds_toArray, List.set_cons_zero, List.set_cons_succ])
      refine Plan.done ?_
      go_wp2
      go_ret
      exact ⟨rfl, K4.out.below⟩

end Go.Proofs.Ytplccbficpjlnaa
