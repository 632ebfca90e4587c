/-
  lamplightlaw04.FrameBursts: whatever it is asked, true; nothing that was there is turned.
-/
import Derived.Test.YtimahjgmapdjdaaDoorFrameCutsWalk
import Derived.Test.YtimahjgmapdjdaaDoorFCrcTurn
import Derived.StillTailTactics
namespace Go.Proofs.YtimahjgmapdjdaaDoor
set_option linter.unusedVariables false
set_option linter.unusedSimpArgs false
open Go.RowKit

/-- The sixteen bits of a number, the lowest first. -/
def bits16 (y : Nat) : List Bool := (List.range 16).map fun j => y / 2 ^ j % 2 == 1
theorem bits16_length (y : Nat) : (bits16 y).length = 16 := by simp [bits16]
theorem bits16_get (y j : Nat) (h : j < (bits16 y).length) : (bits16 y)[j] = (y / 2 ^ j % 2 == 1) := by simp [bits16]
theorem bits16_some (y : Nat) (hy : y < 65536) (h0 : y ≠ 0) : ∃ b ∈ bits16 y, b = true := by
  apply Classical.byContradiction
  intro hn
  apply h0
  apply Nat.eq_of_testBit_eq
  intro j
  rw [Nat.zero_testBit, Nat.testBit_eq_decide_div_mod_eq]
  by_cases hj : j < 16
  · have : ¬ (y / 2 ^ j % 2 = 1) := by
      intro h1
      refine hn ⟨true, ?_, rfl⟩
      simp only [bits16, List.mem_map, List.mem_range]
      exact ⟨j, hj, by rw [h1]; rfl⟩
    simp [this]
  · have : y / 2 ^ j = 0 := Nat.div_eq_of_lt (Nat.lt_of_lt_of_le hy (Nat.pow_le_pow_right (n := 2) (i := 16) (by omega) (by omega)))
    simp [this]

/-- The table, and nothing that was there turned. -/
structure Sq (w : World) (x : World) : Prop where
  tab : Tab x
  below : Below w.heap.size w x
  pos : 0 < w.heap.size
theorem Sq.step {w x y : World} (h : Sq w x) (hb : Below x.heap.size x y) : Sq w y := ⟨h.tab.keep (Ch.of_below hb) (by simp), h.below.trans (hb.mono h.below.size), h.pos⟩
theorem Sq.alloc {w x : World} (h : Sq w x) (o : Obj) : Sq w (x.alloc o) := h.step (new_below _ _)
theorem drew_below (x : World) : Below x.heap.size x x.drew := (Ch.refl [] x).drew.below (by simp)
theorem Sq.drew {w x : World} (h : Sq w x) : Sq w x.drew := h.step (drew_below x)
theorem Sq.set {w x : World} {G j : Nat} (h : Sq w x) (hG : w.heap.size ≤ G) (v : Value) : Sq w (x.setCell ⟨G, j, none⟩ v) := by
  have h0 := h.pos
  have hc : Ch [G] x (x.setCell ⟨G, j, none⟩ v) := (Ch.refl [G] x).setCell (by simp) v
  exact ⟨h.tab.keep hc (by simp; omega), h.below.trans (hc.belowAt (by simp; omega) h.below.size), h0⟩
theorem Own1.mono {w : World} {B B' : Nat} {A : Option Addr} {n c : Nat} {l : List UInt8} (h : Own1 w B A n c l) (hB : B' ≤ B) : Own1 w B' A n c l := ⟨h.own, fun g hg => Nat.le_trans hB (h.from_ g hg), h.len⟩

set_option maxHeartbeats 4000000 in
set_option maxRecDepth 100000 in
theorem framebursts_walk (g a k s q c n cap : Nat) (A : Option Addr) (l : List UInt8) (i : Int) (y : Nat) (w : World) (ht : Tab w) (h : Holds w g A (bcs l)) (hn : l.length = n) (hc : n ≤ cap) (hb : a < 256 ∧ k < 256 ∧ s < 256 ∧ q < 256 ∧ c < 256) (hy : y < 65536) :
    Calls Tryd.prog 3 #[.agg #[.int .u8 a, .int .u8 k, .int .u8 s, .int .u8 q, .int .u8 c, .slice A n cap], .int .i64 i, .int .u16 (y : Int)] w fun e w' => e = .returned (.bool true) ∧ Below w.heap.size w w' := by
  have H0 := Lib.hid (Sl.start #[.int .u8 a, .int .u8 k, .int .u8 s, .int .u8 q, .int .u8 c, .slice A n cap] ht h)
  have HN := Lib.hid hn
  have hs := hb.2.2.1
  have HPOS := Lib.hid ht.1
  clear h ht hn hb
  go_enter Tryd.func3, Tryd.ntmps3
  go_wp2_with fail
  refine (shown_any _ H0.out.tab).mono ?_
  rintro e x1 ⟨rfl, hb⟩
  have H1 := Lib.hid (H0.out.step hb)
  clear hb H0
  obtain ⟨b0, b1, b2, b3, b4, b5, _⟩ := row6_facts H1.out.box
  go_wp2_with fail
  refine (few_on H1.out.holds HN.out hc).mono ?_
  rintro e x2 ⟨A2, m, c2, rfl, ho, hb⟩
  have H2 := Lib.hid (H1.out.step hb)
  obtain ⟨g2, hg2, _⟩ := ho.holds
  have HO := Lib.hid hg2
  have HM := Lib.hid ho.len
  clear hb H1 ho hg2 b0 b1 b2 b3 b4 b5
  generalize l.take 50 = L at *
  cases hr : rightB a k q c m
  · have HR := Lib.hid hr
    clear hr
    go_wp2_with fail
    refine (encode_no (g := 0) HR.out).mono ?_
    rintro e x3 ⟨rfl, hb⟩
    have H3 := Lib.hid (H2.out.step hb)
    clear hb H2
    go_wp2
    go_ret
    exact ⟨rfl, H3.out.below⟩
  · have HR := Lib.hid hr
    clear hr
    go_wp2_with fail
    refine (encode_yes H2.out.tab HO.out HM.out HR.out hs).mono ?_
    rintro e x3 ⟨X, M, hX, hM, rfl, hrow, hb⟩
    have H3 : Hid (Sr w X (Fr.mk a k s q c L).enc x3) := ⟨(H2.out.step hb).tab, hrow, (H2.out.step hb).below⟩
    clear hb H2 hrow hX HO
    generalize hF : Fr.mk a k s q c L = F at *
    rw [enc_length] at hM
    have h7 : 7 ≤ F.mid.length := by have := mid_ge F; omega
    have h24 : F.b.length ≤ 24 := by
      have h2 := (rightB_iff.1 HR.out).2.2.2.2
      have h3 : F.b.length = m := by rw [← hF]; exact HM.out
      omega
    have h31 : F.mid.length ≤ 1000 := by have h1 := mid_le F; omega
    generalize hK : F.mid.length = μ at *
    have HK := Lib.hid hK
    clear hF HR HM hK
    subst hM
    go_wp2_with fail
    refine (unstuff_on _ _ _ _ _ _ (enc_mid_holds H3.out.row) (by rw [HK.out]) (by omega) (by omega)).mono ?_
    rintro e x4 ⟨A4, n4, c4, rfl, ho, hb⟩
    rw [uErr_ok (mid_unst F)]
    rw [uOut_ok (mid_unst F)] at ho
    have HO := Lib.hid (ho.mono H3.out.below.size)
    have H4 : Hid (Sq w x4) := ⟨(H3.out.step hb).tab, (H3.out.step hb).below, HPOS.out⟩
    have HXL : Hid (F.inner.length = n4) := ho.len
    have hn4 : 7 ≤ n4 ∧ n4 ≤ 100 := by
      have h1 := inner_length F
      have h2 := HXL.out
      omega
    have HV : Hid (validB F.inner = true) := inner_valid F
    have hcap4 := ho.cap
    clear ho hb H3 HK
    generalize F.inner = xs at *
    obtain ⟨g4, hg4, -⟩ := HO.out.holds
    have HG4 := Lib.hid hg4
    clear hg4
    go_wp2_with fail
    refine (valid_on H4.out.tab HG4.out HXL.out hcap4 (by omega) true HV.out).mono ?_
    rintro e x5 ⟨rfl, hb⟩
    have H5 := Lib.hid (H4.out.step hb)
    have HO5 := Lib.hid (HO.out.step hb)
    have HG5 := Lib.hid (HG4.out.keep (Ch.of_below hb) (by simp))
    clear hb H4 HO HG4
    by_cases hy0 : y = 0
    · subst hy0
      go_wp2_with fail
      refine (valid_on H5.out.tab HG5.out HXL.out hcap4 (by omega) true HV.out).mono ?_
      rintro e x6 ⟨rfl, hb⟩
      have H6 := Lib.hid (H5.out.step hb)
      go_wp2
      go_ret
      exact ⟨rfl, H6.out.below⟩
    have hyb : ((y : Int) == 0) = false := by rw [beq_eq_false_iff_ne]; omega
    obtain ⟨p, hpp, hpt, hpt'⟩ := place_at i (8 * n4 - 15) (by omega)
    rw [show ((8 * n4 - 15 : Nat) : Int) = 8 * (n4 : Int) - 15 by omega] at hpt hpt'
    go_wp2
    have HPL : Hid (p + (bits16 y).length ≤ 8 * xs.length) := by show _ ≤ _; rw [bits16_length, HXL.out]; omega
    go_loopw [13] (fun i wr => ∃ j : Nat, j ≤ 16 ∧ i = .int .i64 j ∧ ∃ ys : List UInt8, Hid (Own1 wr w.heap.size A4 n4 c4 ys) ∧ Hid (Sq w wr) ∧ Hid (ys.length = xs.length) ∧ Hid (bitsOn ys = List.zipWith (· ^^ ·) (bitsOn xs) (Err p (8 * xs.length - p - (bits16 y).length) (bits16 y) j))) (fun i _ => 16 - (intOf i).toNat)
    case atStart => exact ⟨0, by omega, rfl, xs, HO5, H5, rfl, burst_none xs p (bits16 y) HPL.out⟩
    case round =>
      obtain ⟨j, hj, rfl, ys, HY, HQ, HYL, HE⟩ := hrel
      by_cases hlt : j < 16
      · have HST := Lib.hid (burst_step xs ys p (bits16 y) j (by rw [bits16_length]; exact hlt) HYL.out HPL.out HE.out)
        rw [bits16_get] at HST
        obtain ⟨d, hd⟩ : ∃ d, y / 2 ^ j = d := ⟨_, rfl⟩
        have hd' : (y : Int) / 2 ^ j = (d : Int) := by rw [← hd]; simp
        have hdl : d < 65536 := by rw [← hd]; exact Nat.lt_of_le_of_lt (Nat.div_le_self _ _) hy
        have hbit : bits .and .u16 (d : Int) 1 = ((d % 2 : Nat) : Int) := by
          have := u16_and_nat d 1 hdl (by omega)
          rw [nat_mask1] at this
          exact this
        rw [hd] at HST
        clear hd
        by_cases hb : d % 2 = 1
        · rw [hb] at hbit HST
          have e1 : (((1 : Nat) == 1) = true) := rfl
          rw [if_pos e1] at HST
          go_upto_region 17 with (fail)
          obtain ⟨q', r, s', c', hi8, f1, f2, f3, f4, f5, f6, f7, f8, f9, b, hb, hset⟩ := turn_facts ys (p + j) (by rw [HYL.out, HXL.out]; omega) (by rw [HYL.out, HXL.out]; omega)
          rw [show ((p + j : Nat) : Int) = (p : Int) + (j : Int) from rfl] at f1 f2 f3 f4
          have HYD := Lib.hid (HY.out.step (drew_below _))
          have HQD := Lib.hid HQ.out.drew
          obtain ⟨G, hA, hBG, hGl, hcl, hfz, hst⟩ := HYD.out.at q' hi8
          subst hA
          have HS : Hid (ys.set q' b = turnB ys (p + j)) := hset
          have HB : Hid (b.toNat = c') := hb
          have HYL2 : Hid ((turnB ys (p + j)).length = xs.length) := (turnB_length _ _).trans HYL.out
          have HSET := Lib.hid (hst b)
          rw [HB.out, HS.out] at HSET
          have HQS := Lib.hid (HQD.out.set (j := q') hBG (.int .u8 (c' : Int)))
          have hqm : (q' : Int) < (n4 : Int) := by have := HXL.out; have := HYL.out; omega
          generalize ys[q'].toNat = b0 at *
          clear hset hb HY HE HQ hst HYD HQD
          go_still_tail 13, (by kernel_rfl)
          change wpList _ _ _ _ _ (World.drew _)
          generalize World.drew _ = x8 at *
          go_wp2
          go_roundw
          case rel => exact ⟨j + 1, by omega, by go_num, turnB ys (p + j), HSET, HQS, HYL2, HST⟩
          case measure => simp [intOf]; omega
        · have hb0 : d % 2 = 0 := by omega
          rw [hb0] at hbit HST
          have e1 : ¬ (((0 : Nat) == 1) = true) := by decide
          rw [if_neg e1] at HST
          go_wp2
          go_roundw
          case rel => exact ⟨j + 1, by omega, by go_num, ys, HY, HQ, HYL, HST⟩
          case measure => simp [intOf]; omega
      · have hjj : j = 16 := by omega
        subst hjj
        have HE2 : Hid (bitsOn ys = List.zipWith (· ^^ ·) (bitsOn xs) (Err p (8 * xs.length - p - (bits16 y).length) (bits16 y) (bits16 y).length)) := by
          have := HE.out
          rw [show (bits16 y).length = 16 from bits16_length y] at this ⊢
          exact this
        have HVY : Hid (validB ys = false) := bursts_told xs ys p (bits16 y) (by rw [bits16_length]; omega) HYL.out HPL.out HV.out HE2.out (bits16_some y hy hy0)
        obtain ⟨g6, hg6, -⟩ := HY.out.holds
        have HG6 := Lib.hid hg6
        clear hg6
        go_wp2_with fail
        refine (stuff_on _ _ _ _ _ _ HG6.out (HYL.out.trans HXL.out) hcap4 (by omega)).mono ?_
        rintro e x6 ⟨A6, n6, c6, rfl, ho, hb⟩
        have H6 := Lib.hid (HQ.out.step hb)
        obtain ⟨g7, hg7, -⟩ := ho.holds
        have HG7 := Lib.hid hg7
        have HL7 := Lib.hid ho.len
        have hc6 := ho.cap
        have hn6 : n6 ≤ 1000 := by
          have h1 := stf_length_le ys
          have h2 := HYL.out.trans HXL.out
          have h3 := ho.len
          omega
        clear hb ho hg7 HG6
        go_wp2_with fail
        refine (decode_on H6.out.tab HG7.out HL7.out hc6 (by omega)).mono ?_
        rintro e x7 ⟨f7, er, A7, m7, c7, g8, -, her, -, rfl, -, -, hb⟩
        rw [decE_ok (unst_stf ys), tellE, if_neg (by rw [HYL.out, HXL.out]; omega), if_pos HVY.out] at her
        subst her
        have H7 := Lib.hid ((H6.out.step hb).alloc (.cells #[.int .u8 (f7.a : Int), .int .u8 (f7.k : Int), .int .u8 (f7.s : Int), .int .u8 (f7.q : Int), .int .u8 (f7.c : Int), .slice A7 m7 c7] 24))
        clear hb
        go_wp2
        go_ret
        exact ⟨rfl, H7.out.below⟩

end Go.Proofs.YtimahjgmapdjdaaDoor
