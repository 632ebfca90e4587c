/-
  lamplightlaw03.StuffBack answers true, and turns nothing that was there, if the two calls keep their contracts: the walk.
-/
import Derived.Test.YtplccbficpjlnaaStuffShown
import Derived.Test.YtplccbficpjlnaaEager
namespace Go.Proofs.Ytplccbficpjlnaa
set_option linter.unusedVariables false
set_option linter.unusedSimpArgs false
open Go.RowKit

set_option maxHeartbeats 2000000 in
set_option maxRecDepth 100000 in
theorem back_walk (hS : StuffOn) (hU : UnstuffOn) (g : Nat) (A : Option Addr) (l0 : List UInt8) (len cap : Nat) (w : World) (h : Holds w g A (bcs l0)) (hlen : l0.length = len) (hcap : len ≤ cap) (hmx : cap ≤ 9223372036854775807) :
    Calls Try.prog 4 #[.slice A len cap] w fun e w' => e = .returned (.bool true) ∧ Below w.heap.size w w' := by
  obtain ⟨m, hm3, hml, hmin⟩ := min_of len 3000 3000 rfl
  have HS := Lib.hid hS
  have HU := Lib.hid hU
  have HH := Lib.hid h
  have HL := Lib.hid hlen
  clear h hlen hS hU
  go_enter Try.func4, Try.ntmps4
  go_wp2_with fail
  refine (shown_any HS.out HU.out w).mono ?_
  rintro e x1 ⟨rfl, hb1⟩
  have K1 := Lib.hid (Kp.begin HH.out hb1 m)
  have HLL : Hid ((l0.take m).length = m) := by show _ = _; rw [List.length_take, HL.out]; omega
  generalize l0.take m = l at *
  clear HH HL hb1
  have hmc : m ≤ cap := by omega
  go_wp2_with fail
  refine (HS.out g A m cap l x1 K1.out.holds HLL.out hmc (by omega)).mono ?_
  rintro e x2 ⟨A2, n2, c2, rfl, ho2, hb2⟩
  have K2 := Lib.hid (K1.out.step hb2)
  have HO2 := Lib.hid ho2
  have hge := stf_length_ge l
  have hle := stf_length_le l
  rw [HO2.out.len, HLL.out] at hge hle
  have HNF := Lib.hid (stf_no_flag l)
  obtain ⟨g2, hg2, _⟩ := ho2.holds
  have HG2 := Lib.hid hg2
  clear K1 hb2 ho2 hg2
  go_wp2_with fail
  refine (HU.out g2 A2 n2 c2 (stf l) x2 HG2.out HO2.out.len HO2.out.cap (by omega)).mono ?_
  rintro e x3 ⟨A3, n3, c3, rfl, ho3, hb3⟩
  rw [uErr_ok (unst_stf l)]
  rw [uOut_ok (unst_stf l)] at ho3
  have K3 := Lib.hid (K2.out.step hb3)
  replace HO2 := Lib.hid (HO2.out.step hb3)
  have hc3 := ho3.cv
  have hcb := convert_holds (c := cap) K3.out.holds HLL.out
  have hlt1 : ¬ n2 < m := by omega
  have hlt2 : ¬ 2 * m < n2 := by omega
  clear K2 hb3 ho3 HG2
  go_wp2
  go_loop [7] (fun i => ∃ k : Nat, k ≤ n2 ∧ i = .int .i64 k) (fun i => n2 - (intOf i).toNat)
  case atStart => exact ⟨0, by omega, rfl⟩
  case round =>
    obtain ⟨k, hk, rfl⟩ := hrel
    by_cases hkn : k < n2
    · have hkl : k < (stf l).length := by rw [HO2.out.len]; exact hkn
      obtain ⟨gx, rfl, _, _, hcell, _, _⟩ := HO2.out.at k hkl
      have hne : (((stf l)[k].toNat : Int) == 126) = false := u8_ne (n := 126) (by omega) (HNF.out _ (List.getElem_mem hkl))
      generalize (stf l)[k].toNat = bk at *
      have hkn' : (k : Int) < (n2 : Int) := by omega
      go_wp2
      go_round
      case rel => exact ⟨k + 1, by omega, by go_num⟩
      case measure => simp [intOf]; omega
    · have hkk : k = n2 := by omega
      subst hkk
      go_wp2_with fail
      refine (HU.out g A m cap l x3 K3.out.holds HLL.out hmc (by omega)).mono ?_
      rintro e x4 ⟨A4, n4, c4, rfl, ho4, hb4⟩
      have K4 := Lib.hid (K3.out.step hb4)
      have HO4 := Lib.hid ho4
      clear K3 hb4 ho4 hc3 hcb HO2
      cases hu : unst l with
      | error er =>
        rw [uErr_error hu]
        rw [uOut_error hu] at HO4
        have hn4 : n4 = 0 := by rw [← HO4.out.len]; rfl
        subst hn4
        have hne : ((er : Int) != 0) = true := by
          rcases unst_error _ l er (Nat.le_refl _) hu with rfl | rfl <;> rfl
        go_wp2
        go_ret
        exact ⟨rfl, K4.out.below⟩
      | ok z =>
        rw [uErr_ok hu]
        rw [uOut_ok hu] at HO4
        have hzl : z.length ≤ l.length := unst_length l z hu
        have hzb := stf_of_unst l z hu
        obtain ⟨g4, hg4, _⟩ := HO4.out.holds
        have HG4 := Lib.hid hg4
        have hz4 := HO4.out.len
        have hlm := HLL.out
        have K5 := Lib.hid K4.out.drew
        have HB := Lib.hid (fun (x : World) (hx : Holds x g A (bcs l)) => convert_holds (c := cap) hx HLL.out)
        have HZB := Lib.hid hzb
        clear hg4 hzb hlm
        go_wp2_with fail
        refine region_plan [(true, 0), (true, 1), (true, 2), (true, 5), (true, 6), (false, 3), (true, 4), (true, 7), (true, 8), (true, 9)]
          (fun x => (convert 22 9 (.slice A m cap)).run Try.prog x = .ok (.string ⟨l.toArray⟩) x) (by kernel_rfl) (by kernel_rfl) (by kernel_rfl) rfl (HB.out _ K5.out.holds) ?_
        iterate 5 (refine Plan.take (v := ?_) rfl (by rfl) ?_ ?_; rotate_left 1; (focus (intro x hx; go_simp <;> (first | with_reducible rfl | rw [if_pos (by omega)]))); simp only [Act.put, List.setIfInBounds_toArray, List.set_cons_zero, List.set_cons_succ])
        refine Plan.loud rfl (fun K hK => ?_)
        go_simp
        refine (HS.out g4 A4 n4 c4 z _ (HG4.out.keep (Ch.refl [] _).drew (by simp)) hz4 HO4.out.cap (by have := HLL.out; omega)).mono ?_
        rintro e x6 ⟨A6, n6, c6, rfl, ho6, hb6⟩
        have K6 := Lib.hid (K5.out.step hb6)
        have hcv6 := ho6.cv
        rw [HZB.out] at hcv6
        refine hK.out (fun x => (convert 22 9 (.slice A m cap)).run Try.prog x = .ok (.string ⟨l.toArray⟩) x ∧ (convert 22 9 (.slice A6 n6 c6)).run Try.prog x = .ok (.string ⟨l.toArray⟩) x) _ _ (fun x hx => hx.1) ⟨HB.out _ K6.out.holds, hcv6⟩ ?_
        clear hK K hcv6 ho6 hb6 K5 K4
        iterate 4 (refine Plan.take (v := ?_) rfl (by rfl) ?_ ?_; rotate_left 1; (focus (intro x hx; go_simp <;> (first | with_reducible rfl | rw [if_pos (by omega)]))); simp only [Act.put, List.setIfInBounds_toArray, List.set_cons_zero, List.set_cons_succ])
        refine Plan.done ?_
        go_wp2
        go_ret
        exact ⟨rfl, K6.out.below⟩

end Go.Proofs.Ytplccbficpjlnaa
