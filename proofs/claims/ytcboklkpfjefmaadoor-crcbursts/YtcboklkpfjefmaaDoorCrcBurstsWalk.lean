/-
  lamplightlaw02.CrcBursts answers true, and turns nothing that was there: the walk.
-/
import Derived.Test.YtcboklkpfjefmaaDoorCrcTurn
import Derived.StillTailTactics
namespace Go.Proofs.YtcboklkpfjefmaaDoor
set_option linter.unusedVariables false
set_option linter.unusedSimpArgs false
open Go.RowKit

/-- The sixteen bits of a number, the lowest first. -/
def bits16 (y : Nat) : List Bool := (List.range 16).map fun j => y / 2 ^ j % 2 == 1
theorem bits16_length (y : Nat) : (bits16 y).length = 16 := by simp [bits16]
theorem bits16_get (y j : Nat) (h : j < (bits16 y).length) : (bits16 y)[j] = (y / 2 ^ j % 2 == 1) := by simp [bits16]
theorem bits16_some (y : Nat) (hy : y < 65536) (h0 : y ≠ 0) : ∃ b ∈ bits16 y, b = true := by
  apply Classical.byContradiction
  intro hn
  apply h0
  apply Nat.eq_of_testBit_eq
  intro j
  rw [Nat.zero_testBit, Nat.testBit_eq_decide_div_mod_eq]
  by_cases hj : j < 16
  · have : ¬ (y / 2 ^ j % 2 = 1) := by
      intro h1
      refine hn ⟨true, ?_, rfl⟩
      simp only [bits16, List.mem_map, List.mem_range]
      exact ⟨j, hj, by rw [h1]; rfl⟩
    simp [this]
  · have : y / 2 ^ j = 0 := Nat.div_eq_of_lt (Nat.lt_of_lt_of_le hy (Nat.pow_le_pow_right (n := 2) (i := 16) (by omega) (by omega)))
    simp [this]

set_option maxHeartbeats 2000000 in
set_option maxRecDepth 100000 in
theorem bursts_walk (g : Nat) (A : Option Addr) (l0 : List UInt8) (len cap : Nat) (x : Int) (y : Nat) (w : World) (ht : Tab w) (h : Holds w g A (bcs l0)) (hlen : l0.length = len) (hcap : len ≤ cap) (hmx : cap ≤ 9223372036854775807) (hy : y < 65536) :
    Calls Tryd.prog 5 #[.slice A len cap, .int .i64 x, .int .u16 (y : Int)] w fun e w' => e = .returned (.bool true) ∧ Below w.heap.size w w' := by
  obtain ⟨m, hm3, hml, hmin⟩ := min_of len 100 100 rfl
  obtain ⟨p, hpp, hpt, hpt'⟩ := place_at x (8 * (m + 2) - 15) (by omega)
  rw [show ((8 * (m + 2) - 15 : Nat) : Int) = 8 * ((m : Int) + 2) - 15 by omega] at hpt hpt'
  have hp := ht.1
  have HH := Lib.hid h
  have HL := Lib.hid hlen
  have HTB := Lib.hid ht
  clear h hlen ht
  go_enter Tryd.func5, Tryd.ntmps5
  go_wp2_with fail
  refine (shown_any w HTB.out).mono ?_
  rintro e x1 ⟨rfl, hb1⟩
  have H1 := Lib.hid (St.begin HTB.out HH.out hb1 m)
  have HLL : Hid ((l0.take m).length = m) := by show _ = _; rw [List.length_take, HL.out]; omega
  generalize l0.take m = l at *
  clear HH HL HTB hb1
  have hmc : m ≤ cap := by omega
  go_wp2_with fail
  refine (append_on H1.out.tab H1.out.holds HLL.out (by omega)).mono ?_
  rintro e x2 ⟨X, hX, rfl, hrow, hb2⟩
  have H2 : Hid (Sx w X (sld l) x2) := ⟨(H1.out.step hb2).tab, hrow, (H1.out.step hb2).below, Nat.le_trans H1.out.le hX, hp⟩
  have HXL : Hid ((sld l).length = m + 2) := by show _ = _; rw [sld_length, HLL.out]
  have HV : Hid (validB (sld l) = true) := valid_sld l
  generalize sld l = xs at *
  clear H1 hb2 hrow hX
  go_wp2_with fail
  refine (valid_on H2.out.tab H2.out.row.holds HXL.out (Nat.le_refl _) (by omega) true HV.out).mono ?_
  rintro e x3 ⟨rfl, hb3⟩
  have H3 := Lib.hid (H2.out.step hb3)
  clear H2 hb3
  by_cases hy0 : y = 0
  · subst hy0
    go_wp2
    go_ret
    exact ⟨rfl, H3.out.below⟩
  have hyb : ((y : Int) == 0) = false := by rw [beq_eq_false_iff_ne]; omega
  go_wp2
  have HPL : Hid (p + (bits16 y).length ≤ 8 * xs.length) := by show _ ≤ _; rw [bits16_length, HXL.out]; omega
  go_loopw [10] (fun i wr => ∃ j : Nat, j ≤ 16 ∧ i = .int .i64 j ∧ ∃ ys : List UInt8, Hid (Sx w X ys wr) ∧ Hid (ys.length = xs.length) ∧ Hid (bitsOn ys = List.zipWith (· ^^ ·) (bitsOn xs) (Err p (8 * xs.length - p - (bits16 y).length) (bits16 y) j))) (fun i _ => 16 - (intOf i).toNat)
  case atStart => exact ⟨0, by omega, rfl, xs, H3, rfl, burst_none xs p (bits16 y) HPL.out⟩
  case round =>
    obtain ⟨j, hj, rfl, ys, HY, HYL, HE⟩ := hrel
    by_cases hlt : j < 16
    · have HST := Lib.hid (burst_step xs ys p (bits16 y) j (by rw [bits16_length]; exact hlt) HYL.out HPL.out HE.out)
      rw [bits16_get] at HST
      obtain ⟨d, hd⟩ : ∃ d, y / 2 ^ j = d := ⟨_, rfl⟩
      have hd' : (y : Int) / 2 ^ j = (d : Int) := by rw [← hd]; simp
      have hdl : d < 65536 := by rw [← hd]; exact Nat.lt_of_le_of_lt (Nat.div_le_self _ _) hy
      have hbit : bits .and .u16 (d : Int) 1 = ((d % 2 : Nat) : Int) := by
        have := u16_and_nat d 1 hdl (by omega)
        rw [nat_mask1] at this
        exact this
      rw [hd] at HST
      clear hd
      by_cases hb : d % 2 = 1
      · rw [hb] at hbit HST
        have e1 : (((1 : Nat) == 1) = true) := rfl
        rw [if_pos e1] at HST
        go_upto_region 14 with (fail)
        obtain ⟨q, r, s, c, hi8, f1, f2, f3, f4, f5, f6, f7, f8, f9, b, hb, hset⟩ := turn_facts ys (p + j) (by rw [HYL.out, HXL.out]; omega) (by rw [HYL.out, HXL.out]; omega)
        rw [show ((p + j : Nat) : Int) = (p : Int) + (j : Int) from rfl] at f1 f2 f3 f4
        have hc := HY.out.drew.cell q hi8
        have hf := HY.out.drew.frozen q
        have HS : Hid (ys.set q b = turnB ys (p + j)) := hset
        have HB : Hid (b.toNat = c) := hb
        have HYL2 : Hid ((turnB ys (p + j)).length = xs.length) := (turnB_length _ _).trans HYL.out
        have H4 := Lib.hid HY.out.drew
        generalize ys[q].toNat = b0 at *
        have hqm : (q : Int) < (m : Int) + 2 := by have := HXL.out; have := HYL.out; omega
        clear hset hb HY HE
        go_still_tail 13, (by kernel_rfl)
        change wpList _ _ _ _ _ (World.drew _)
        generalize World.drew _ = x4 at *
        go_wp2
        go_roundw
        case rel =>
          have H5 := Lib.hid (H4.out.set q b (c : Int) (by rw [HB.out]))
          rw [HS.out] at H5
          exact ⟨j + 1, by omega, by go_num, turnB ys (p + j), H5, HYL2, HST⟩
        case measure => simp [intOf]; omega
      · have hb0 : d % 2 = 0 := by omega
        rw [hb0] at hbit HST
        have e1 : ¬ (((0 : Nat) == 1) = true) := by decide
        rw [if_neg e1] at HST
        go_wp2
        go_roundw
        case rel => exact ⟨j + 1, by omega, by go_num, ys, HY, HYL, HST⟩
        case measure => simp [intOf]; omega
    · have hjj : j = 16 := by omega
      subst hjj
      have HE2 : Hid (bitsOn ys = List.zipWith (· ^^ ·) (bitsOn xs) (Err p (8 * xs.length - p - (bits16 y).length) (bits16 y) (bits16 y).length)) := by
        have := HE.out
        rw [show (bits16 y).length = 16 from bits16_length y] at this ⊢
        exact this
      have HVY : Hid (validB ys = false) := bursts_told xs ys p (bits16 y) (by rw [bits16_length]; omega) HYL.out HPL.out HV.out HE2.out (bits16_some y hy hy0)
      go_wp2_with fail
      refine (valid_on HY.out.tab HY.out.row.holds (HYL.out.trans HXL.out) (Nat.le_refl _) (by omega) false HVY.out).mono ?_
      rintro e x5 ⟨rfl, hb5⟩
      have H5 := Lib.hid (HY.out.step hb5)
      go_wp2
      go_ret
      exact ⟨rfl, H5.out.below⟩

end Go.Proofs.YtcboklkpfjefmaaDoor
