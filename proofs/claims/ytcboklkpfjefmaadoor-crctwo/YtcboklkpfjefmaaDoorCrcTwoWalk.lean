/-
  lamplightlaw02.CrcTwo answers true, and turns nothing that was there: the walk.
-/
import Derived.Test.YtcboklkpfjefmaaDoorCrcTurn
import Derived.StillTailTactics
namespace Go.Proofs.YtcboklkpfjefmaaDoor
set_option linter.unusedVariables false
set_option linter.unusedSimpArgs false
open Go.RowKit

set_option maxHeartbeats 2000000 in
set_option maxRecDepth 100000 in
theorem two_walk (g : Nat) (A : Option Addr) (l0 : List UInt8) (len cap : Nat) (x y : Int) (w : World) (ht : Tab w) (h : Holds w g A (bcs l0)) (hlen : l0.length = len) (hcap : len ≤ cap) (hmx : cap ≤ 9223372036854775807) :
    Calls Tryd.prog 8 #[.slice A len cap, .int .i64 x, .int .i64 y] w fun e w' => e = .returned (.bool true) ∧ Below w.heap.size w w' := by
  obtain ⟨m, hm3, hml, hmin⟩ := min_of len 200 200 rfl
  obtain ⟨i, hi, hit, hit'⟩ := place_at x (8 * (m + 2)) (by omega)
  obtain ⟨k, hk, hkt, hkt'⟩ := place_at y (8 * (m + 2)) (by omega)
  rw [show ((8 * (m + 2) : Nat) : Int) = 8 * ((m : Int) + 2) from rfl] at hit hit' hkt hkt'
  have hp := ht.1
  have HH := Lib.hid h
  have HL := Lib.hid hlen
  have HTB := Lib.hid ht
  clear h hlen ht
  go_enter Tryd.func8, Tryd.ntmps8
  go_wp2_with fail
  refine (shown_any w HTB.out).mono ?_
  rintro e x1 ⟨rfl, hb1⟩
  have H1 := Lib.hid (St.begin HTB.out HH.out hb1 m)
  have HLL : Hid ((l0.take m).length = m) := by show _ = _; rw [List.length_take, HL.out]; omega
  generalize l0.take m = l at *
  clear HH HL HTB hb1
  have hmc : m ≤ cap := by omega
  go_wp2_with fail
  refine (append_on H1.out.tab H1.out.holds HLL.out (by omega)).mono ?_
  rintro e x2 ⟨X, hX, rfl, hrow, hb2⟩
  have H2 : Hid (Sx w X (sld l) x2) := ⟨(H1.out.step hb2).tab, hrow, (H1.out.step hb2).below, Nat.le_trans H1.out.le hX, hp⟩
  have HXL : Hid ((sld l).length = m + 2) := by show _ = _; rw [sld_length, HLL.out]
  have HV : Hid (validB (sld l) = true) := valid_sld l
  generalize sld l = xs at *
  clear H1 hb2 hrow hX
  go_upto_region 8 with (fail)
  obtain ⟨q, r, s, c, hi8, f1, f2, f3, f4, f5, f6, f7, f8, f9, b, hb, hset⟩ := turn_facts xs i (by rw [HXL.out]; exact hi) (by rw [HXL.out]; omega)
  have hc := H2.out.drew.cell q hi8
  have hf := H2.out.drew.frozen q
  have HS : Hid (xs.set q b = turnB xs i) := hset
  have HB : Hid (b.toNat = c) := hb
  replace H2 := Lib.hid H2.out.drew
  generalize xs[q].toNat = b0 at *
  have hqm : (q : Int) < (m : Int) + 2 := by have := HXL.out; omega
  clear hset hb
  go_still_tail 13, (by kernel_rfl)
  change wpList _ _ _ _ _ x2.drew
  generalize x2.drew = x3 at *
  go_upto_region 9 with (fail)
  have H3 := Lib.hid (H2.out.set q b (c : Int) (by rw [HB.out]))
  rw [HS.out] at H3
  generalize x3.setCell ⟨X, q, none⟩ (.int .u8 (c : Int)) = x4 at *
  have HV1 : Hid (validB (turnB xs i) = false) := one_told xs i (by rw [HXL.out]; exact hi) HV.out
  obtain ⟨z, hz, hik⟩ : ∃ z : Bool, validB (turnB (turnB xs i) k) = z ∧ ((i : Int) == (k : Int)) = z := by
    refine ⟨decide (i = k), two_told xs i k (by rw [HXL.out]; exact hi) (by rw [HXL.out]; exact hk) (by rw [HXL.out]; omega) HV.out, ?_⟩
    rw [Bool.eq_iff_iff, beq_iff_eq, decide_eq_true_iff]
    omega
  have HV2 : Hid (validB (turnB (turnB xs i) k) = z) := hz
  have HXL2 : Hid ((turnB xs i).length = m + 2) := by show _ = _; rw [turnB_length, HXL.out]
  generalize turnB xs i = ys at *
  clear H2 HS HB HV hz hc hf f1 f2 f3 f4 f5 f6 f7 f8 f9 hqm hi8
  go_wp2_with fail
  refine (valid_on H3.out.tab H3.out.row.holds HXL2.out (Nat.le_refl _) (by omega) false HV1.out).mono ?_
  rintro e x5 ⟨rfl, hb5⟩
  have H4 := Lib.hid (H3.out.step hb5)
  clear H3 hb5 HV1
  go_upto_region 11 with (fail)
  obtain ⟨q', r', s', c', hk8, f1, f2, f3, f4, f5, f6, f7, f8, f9, b', hb', hset'⟩ := turn_facts ys k (by rw [HXL2.out]; exact hk) (by rw [HXL2.out]; omega)
  have hc := H4.out.drew.cell q' hk8
  have hf := H4.out.drew.frozen q'
  have HS : Hid (ys.set q' b' = turnB ys k) := hset'
  have HB : Hid (b'.toNat = c') := hb'
  replace H4 := Lib.hid H4.out.drew
  generalize ys[q'].toNat = b1 at *
  have hqm : (q' : Int) < (m : Int) + 2 := by have := HXL2.out; omega
  clear hset' hb'
  go_still_tail 13, (by kernel_rfl)
  change wpList _ _ _ _ _ x5.drew
  generalize x5.drew = x6 at *
  go_upto_region 12 with (fail)
  have H5 := Lib.hid (H4.out.set q' b' (c' : Int) (by rw [HB.out]))
  rw [HS.out] at H5
  generalize x6.setCell ⟨X, q', none⟩ (.int .u8 (c' : Int)) = x7 at *
  clear H4 HS HB hc hf f1 f2 f3 f4 f5 f6 f7 f8 f9 hqm hk8
  go_wp2_with fail
  refine (valid_on H5.out.tab H5.out.row.holds (by rw [turnB_length, HXL2.out]) (Nat.le_refl _) (by omega) z HV2.out).mono ?_
  rintro e x8 ⟨rfl, hb8⟩
  have H6 := Lib.hid (H5.out.step hb8)
  clear H5 hb8 HV2
  go_wp2
  go_ret
  refine ⟨?_, H6.out.below⟩
  simp

end Go.Proofs.YtcboklkpfjefmaaDoor
