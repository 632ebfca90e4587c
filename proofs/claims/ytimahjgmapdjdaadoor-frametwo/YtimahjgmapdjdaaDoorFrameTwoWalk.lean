/-
  lamplightlaw04.FrameTwo: whatever it is asked, true; nothing that was there is turned.
-/
import Derived.Test.YtimahjgmapdjdaaDoorFrameTwoMem
import Derived.Test.YtimahjgmapdjdaaDoorFTrees
namespace Go.Proofs.YtimahjgmapdjdaaDoor
set_option linter.unusedVariables false
set_option linter.unusedSimpArgs false
open Go.RowKit

set_option maxHeartbeats 8000000 in
set_option maxRecDepth 100000 in
theorem frametwo_walk (g a k s q c n cap : Nat) (A : Option Addr) (l : List UInt8) (g' a' k' s' q' c' n' cap' : Nat) (A' : Option Addr) (l' : List UInt8) (w : World) (ht : Tab w)
    (h : Holds w g A (bcs l)) (hn : l.length = n) (hc : n ≤ cap) (hb : a < 256 ∧ k < 256 ∧ s < 256 ∧ q < 256 ∧ c < 256)
    (h' : Holds w g' A' (bcs l')) (hn' : l'.length = n') (hc' : n' ≤ cap') (hb' : a' < 256 ∧ k' < 256 ∧ s' < 256 ∧ q' < 256 ∧ c' < 256) :
    Calls Tryd.prog 8 #[.agg #[.int .u8 a, .int .u8 k, .int .u8 s, .int .u8 q, .int .u8 c, .slice A n cap], .agg #[.int .u8 a', .int .u8 k', .int .u8 s', .int .u8 q', .int .u8 c', .slice A' n' cap']] w fun e w' => e = .returned (.bool true) ∧ Below w.heap.size w w' := by
  have hs := hb.2.2.1
  have hs' := hb'.2.2.1
  have HFT := Lib.hid hb
  have HFT' := Lib.hid hb'
  have H0 : Hid (T2 w #[.int .u8 a, .int .u8 k, .int .u8 s, .int .u8 q, .int .u8 c, .slice A n cap] #[.int .u8 a', .int .u8 k', .int .u8 s', .int .u8 q', .int .u8 c', .slice A' n' cap'] g A l g' A' l' ((w.alloc (.cells #[.int .u8 a, .int .u8 k, .int .u8 s, .int .u8 q, .int .u8 c, .slice A n cap] 24)).alloc (.cells #[.int .u8 a', .int .u8 k', .int .u8 s', .int .u8 q', .int .u8 c', .slice A' n' cap'] 24))) := T2.start ht h h'
  have HN := Lib.hid hn
  have HN' := Lib.hid hn'
  clear h ht hn hb h' hn' hb'
  obtain ⟨i0, hi, hz0, hz1, hz2⟩ := info_parts info_byte
  go_enter Tryd.func8, Tryd.ntmps8
  go_wp2_with fail
  refine (shown_any _ H0.out.tab).mono ?_
  rintro e x1 ⟨rfl, hb⟩
  have H1 := Lib.hid (H0.out.step hb)
  clear hb H0
  obtain ⟨b0, b1, b2, b3, b4, b5, -⟩ := row6_facts H1.out.box0
  go_wp2_with fail
  refine (few_on H1.out.h0 HN.out hc).mono ?_
  rintro e x2 ⟨A2, m, c2, rfl, ho, hb⟩
  have H2 := Lib.hid (H1.out.step hb)
  obtain ⟨g2, hg2, hge⟩ := ho.holds
  have HO := Lib.hid hg2
  have HM := Lib.hid ho.len
  have HG : Hid (0 < (l.take 50).length → w.heap.size + 1 < g2) := fun hp => Nat.lt_of_lt_of_le H1.out.lt (hge (by rw [← ho.len]; exact hp))
  clear hb H1 ho hg2 b0 b1 b2 b3 b4 b5 hge
  generalize l.take 50 = L at *
  obtain ⟨b0, b1, b2, b3, b4, b5, e0, e1, e2, e3, e4, e5⟩ := row6_facts H2.out.box0
  go_upto_region 3 with fail
  have H3 : Hid (T2 w #[.int .u8 a, .int .u8 k, .int .u8 s, .int .u8 q, .int .u8 c, .slice A2 m c2] #[.int .u8 a', .int .u8 k', .int .u8 s', .int .u8 q', .int .u8 c', .slice A' n' cap'] g2 A2 L g' A' l' (put6 x2 w.heap.size (.int .u8 a) (.int .u8 k) (.int .u8 s) (.int .u8 q) (.int .u8 c) (.slice A2 m c2))) := H2.out.set0 HO.out HG.out
  clear H2 HO b0 b1 b2 b3 b4 b5 e0 e1 e2 e3 e4 e5
  unfold put6 at H3
  generalize ((((((x2.setCell ⟨w.heap.size, 0, none⟩ (.int .u8 a)).setCell ⟨w.heap.size, 1, none⟩ (.int .u8 k)).setCell ⟨w.heap.size, 2, none⟩ (.int .u8 s)).setCell ⟨w.heap.size, 3, none⟩ (.int .u8 q)).setCell ⟨w.heap.size, 4, none⟩ (.int .u8 c)).setCell ⟨w.heap.size, 5, none⟩ (.slice A2 m c2)) = x3 at *
  obtain ⟨b0, b1, b2, b3, b4, b5, -⟩ := row6_facts H3.out.box1
  go_wp2_with fail
  refine (few_on H3.out.h1 HN'.out hc').mono ?_
  rintro e x4 ⟨A4, m', c4, rfl, ho, hb⟩
  have H4 := Lib.hid (H3.out.step hb)
  obtain ⟨g4, hg4, hge⟩ := ho.holds
  have HO := Lib.hid hg4
  have HM' := Lib.hid ho.len
  have HG' : Hid (0 < (l'.take 50).length → w.heap.size + 1 < g4) := fun hp => Nat.lt_of_lt_of_le H3.out.lt (hge (by rw [← ho.len]; exact hp))
  clear hb H3 ho hg4 b0 b1 b2 b3 b4 b5 hge
  generalize l'.take 50 = L' at *
  obtain ⟨b0, b1, b2, b3, b4, b5, e0, e1, e2, e3, e4, e5⟩ := row6_facts H4.out.box1
  go_upto_region 4 with fail
  have H5 : Hid (T2 w #[.int .u8 a, .int .u8 k, .int .u8 s, .int .u8 q, .int .u8 c, .slice A2 m c2] #[.int .u8 a', .int .u8 k', .int .u8 s', .int .u8 q', .int .u8 c', .slice A4 m' c4] g2 A2 L g4 A4 L' (put6 x4 (w.heap.size + 1) (.int .u8 a') (.int .u8 k') (.int .u8 s') (.int .u8 q') (.int .u8 c') (.slice A4 m' c4))) := H4.out.set1 HO.out HG'.out
  clear H4 HO b0 b1 b2 b3 b4 b5 e0 e1 e2 e3 e4 e5
  unfold put6 at H5
  generalize ((((((x4.setCell ⟨w.heap.size + 1, 0, none⟩ (.int .u8 a')).setCell ⟨w.heap.size + 1, 1, none⟩ (.int .u8 k')).setCell ⟨w.heap.size + 1, 2, none⟩ (.int .u8 s')).setCell ⟨w.heap.size + 1, 3, none⟩ (.int .u8 q')).setCell ⟨w.heap.size + 1, 4, none⟩ (.int .u8 c')).setCell ⟨w.heap.size + 1, 5, none⟩ (.slice A4 m' c4)) = x5 at *
  obtain ⟨b0, b1, b2, b3, b4, b5, -⟩ := row6_facts H5.out.box0
  cases hr : rightB a k q c m
  · have HR := Lib.hid hr
    clear hr
    go_wp2_with fail
    refine (encode_no (g := 0) HR.out).mono ?_
    rintro e x6 ⟨rfl, hb⟩
    have H6 := Lib.hid (H5.out.step hb)
    clear hb H5 b0 b1 b2 b3 b4 b5
    obtain ⟨b0, b1, b2, b3, b4, b5, -⟩ := row6_facts H6.out.box1
    cases hr' : rightB a' k' q' c' m'
    · have HR' := Lib.hid hr'
      clear hr'
      go_wp2_with fail
      refine (encode_no (g := 0) HR'.out).mono ?_
      rintro e x7 ⟨rfl, hb⟩
      have H7 := Lib.hid (H6.out.step hb)
      clear hb b0 b1 b2 b3 b4 b5
      go_wp2
      go_ret
      exact ⟨rfl, H7.out.below⟩
    · have HR' := Lib.hid hr'
      clear hr'
      go_wp2_with fail
      refine (encode_yes H6.out.tab H6.out.h1 HM'.out HR'.out hs').mono ?_
      rintro e x7 ⟨X', M', -, -, rfl, -, hb⟩
      have H7 := Lib.hid (H6.out.step hb)
      clear hb b0 b1 b2 b3 b4 b5
      go_wp2
      go_ret
      exact ⟨rfl, H7.out.below⟩
  have HR := Lib.hid hr
  clear hr
  go_wp2_with fail
  refine (encode_yes H5.out.tab H5.out.h0 HM.out HR.out hs).mono ?_
  rintro e x6 ⟨X, M, hX, hM, rfl, hrow, hb⟩
  have H6 := Lib.hid (H5.out.step hb)
  have HX := Lib.hid hrow
  have HM1 := Lib.hid hM
  clear hb H5 b0 b1 b2 b3 b4 b5 hrow hX hM
  obtain ⟨b0, b1, b2, b3, b4, b5, -⟩ := row6_facts H6.out.box1
  cases hr' : rightB a' k' q' c' m'
  · have HR' := Lib.hid hr'
    clear hr'
    go_wp2_with fail
    refine (encode_no (g := 0) HR'.out).mono ?_
    rintro e x7 ⟨rfl, hb⟩
    have H7 := Lib.hid (H6.out.step hb)
    clear hb b0 b1 b2 b3 b4 b5
    go_wp2
    go_ret
    exact ⟨rfl, H7.out.below⟩
  have HR' := Lib.hid hr'
  clear hr'
  go_wp2_with fail
  refine (encode_yes H6.out.tab H6.out.h1 HM'.out HR'.out hs').mono ?_
  rintro e x7 ⟨X', M', hX', hM', rfl, hrow, hb⟩
  have H7 := Lib.hid (H6.out.step hb)
  replace HX := Lib.hid (HX.out.keep (Ch.of_below hb) (by simp))
  have HX' := Lib.hid hrow
  clear hb H6 b0 b1 b2 b3 b4 b5 hrow hX'
  have hM := HM1.out
  clear HM1
  have HF : Hid ((Fr.mk a k s q c L).Fits ∧ (Fr.mk a k s q c L).right = true) := ⟨⟨HFT.out.1, HFT.out.2.1, HFT.out.2.2.1, HFT.out.2.2.2.1, HFT.out.2.2.2.2⟩, by unfold Fr.right; rw [HM.out]; exact HR.out⟩
  have HF' : Hid ((Fr.mk a' k' s' q' c' L').Fits ∧ (Fr.mk a' k' s' q' c' L').right = true) := ⟨⟨HFT'.out.1, HFT'.out.2.1, HFT'.out.2.2.1, HFT'.out.2.2.2.1, HFT'.out.2.2.2.2⟩, by unfold Fr.right; rw [HM'.out]; exact HR'.out⟩
  have HB : Hid ((Fr.mk a k s q c L).b = L) := rfl
  have HB' : Hid ((Fr.mk a' k' s' q' c' L').b = L') := rfl
  have h24 : m ≤ 24 := (rightB_iff.1 HR.out).2.2.2.2
  have h24' : m' ≤ 24 := (rightB_iff.1 HR'.out).2.2.2.2
  rw [enc_length] at hM hM'
  have hμ : (Fr.mk a k s q c L).mid.length ≤ 100 := by
    have h1 := mid_le (Fr.mk a k s q c L)
    have h3 : (Fr.mk a k s q c L).b.length = m := HM.out
    omega
  have hμ' : (Fr.mk a' k' s' q' c' L').mid.length ≤ 100 := by
    have h1 := mid_le (Fr.mk a' k' s' q' c' L')
    have h3 : (Fr.mk a' k' s' q' c' L').b.length = m' := HM'.out
    omega
  clear HR HR' HFT HFT' h24 h24'
  generalize hFF : Fr.mk a k s q c L = F at *
  generalize hFF' : Fr.mk a' k' s' q' c' L' = F' at *
  have HFE := Lib.hid hFF
  have HFE' := Lib.hid hFF'
  clear hFF hFF'
  generalize hK : F.mid.length = μ at *
  generalize hK' : F'.mid.length = μ' at *
  have HK := Lib.hid hK
  have HK' := Lib.hid hK'
  clear hK hK'
  subst hM hM'
  have HEL : Hid ((bcs F.enc).length = μ + 2) := by show _ = _; rw [bcs_length, enc_length, HK.out]
  have HEL' : Hid ((bcs F'.enc).length = μ' + 2) := by show _ = _; rw [bcs_length, enc_length, HK'.out]
  go_upto_region 8 with fail
  have HO := Lib.hid (Own1.empty x7)
  have HXA : Hid (Row (x7.alloc (.cells #[] 5)) X' F'.enc) := HX'.out.keep ((Ch.refl [] x7).alloc (.cells #[] 5)) (by simp)
  have HXl : Hid (X' < x7.heap.size) := HX'.out.lt
  have HSZ : Hid (x7.heap.size ≤ (x7.alloc (.cells #[] 5)).heap.size) := by show _ ≤ _; simp
  go_wp2_with (first
    | (at_builtin; refine wpList_append_holds rfl (.tmp 41) (.tmp 42) 22 rfl 5 i0 (.int .u8 0) 1 Tryd.underlying22 hi hz0 hz1 hz2 rfl (.slice (some ⟨x7.heap.size, 0, none⟩) 0 0) 0 (bcs []) rfl HO.out.own X (some ⟨X, 0, none⟩) (μ + 2) (μ + 2) (bcs F.enc) rfl HEL.out (HX.out.keep ((Ch.refl [] x7).alloc (.cells #[] 5)) (by simp)).holds (bcs_one _) (by unfold maxLen; omega) (by omega) ?_; intro A8 c8 x8 hown8 hgr8 hat8; rw [← bcs_append, List.nil_append] at hown8; simp only [Nat.zero_add] at hown8 hat8; have HG8 := Lib.hid (HO.out.grown HSZ.out hgr8 hown8 (by rw [← bcs_length, HEL.out]) hat8); have HXB : Hid (Row x8 X' F'.enc) := (HG8.out.2.block X' HXl.out).trans HXA.out; clear hown8 hgr8 hat8)
    | (at_builtin; refine wpList_append_holds rfl (.tmp 43) (.tmp 44) 22 rfl 5 i0 (.int .u8 0) 1 Tryd.underlying22 hi hz0 hz1 hz2 rfl (.slice A8 (μ + 2) c8) (μ + 2) (bcs F.enc) rfl HG8.out.1.own X' (some ⟨X', 0, none⟩) (μ' + 2) (μ' + 2) (bcs F'.enc) rfl HEL'.out HXB.out.holds (bcs_one _) (by unfold maxLen; omega) (by omega) ?_; intro A9 c9 x9 hown9 hgr9 hat9; rw [← bcs_append] at hown9; have HG9 := Lib.hid (HG8.out.1.grown (Nat.le_trans HSZ.out HG8.out.2.size) hgr9 hown9 (by rw [List.length_append, enc_length, enc_length, HK.out, HK'.out]) hat9); clear hown9 hgr9 hat9))
  have hbx : Below x7.heap.size x7 x9 := (new_below x7 (.cells #[] 5)).trans (HG8.out.2.trans HG9.out.2)
  have H9 := Lib.hid (H7.out.step hbx)
  have HAL := Lib.hid HG9.out.1
  clear hbx HG8 HG9 HO HXA HXB HXl HSZ HX HX' H7 HEL HEL'
  have HPT : Hid (posF 0 (F.enc ++ F'.enc) = [0, μ + 1, μ + 2, μ + μ' + 3]) := by
    have := posF_two F F'
    rw [HK.out, HK'.out] at this
    exact this
  have HFST : Hid (((F.enc ++ F'.enc).drop 1).take μ = F.mid) := by
    have := two_first F F'
    rw [HK.out] at this
    exact this
  have HLST : Hid (((F.enc ++ F'.enc).drop (μ + 3)).take μ' = F'.mid) := by
    have := two_last F F'
    rw [HK.out, HK'.out] at this
    exact this
  have hNle : μ + 2 + (μ' + 2) ≤ 1000 := by omega
  have hN1 : μ + μ' + 3 + 1 = μ + 2 + (μ' + 2) := by omega
  generalize hNN : μ + 2 + (μ' + 2) = N at *
  clear hNN
  generalize F.enc ++ F'.enc = al at *
  obtain ⟨Ga, hA, -, hGa, -⟩ := HAL.out.at 0 (by rw [HAL.out.len]; omega)
  subst hA
  have HHA : Hid (Holds x9 Ga (some ⟨Ga, 0, none⟩) (bcs al)) := own_holds HAL.out.own (by intro h hh; simp [Value.ownBlock] at hh; exact hh.symm)
  have HALL := Lib.hid HAL.out.len
  have hcN := HAL.out.cap
  clear HAL
  obtain ⟨i1, hi', hy0, hy1, hy2⟩ := info_parts info_int
  go_loopw [11, 12] (fun v i wr => ∃ (j nf cf : Nat) (V : Option Addr) (fl : List Nat), j ≤ N ∧ i = .int .i64 j ∧ v = .slice V nf cf ∧ Hid (fl = posF 0 (al.take j)) ∧ Hid (OwnI x9.heap.size x9 V nf cf fl wr)) (fun _ i _ => N - (intOf i).toNat)
  case atStart => exact ⟨0, 0, 0, none, [], by omega, rfl, rfl, by show _ = _; simp [posF], OwnI.empty x9⟩
  case round =>
    obtain ⟨j, nf, cf, V, fl, hj, rfl, rfl, HFL, HOI⟩ := hrel
    by_cases hlt : j < N
    · have hjl : j < al.length := by rw [HALL.out]; exact hlt
      have HNX := Lib.hid (posF_next al j hjl)
      obtain ⟨_, o, hoo, hcells⟩ := HHA.out (by rw [bcs_length]; omega)
      obtain rfl : o = 0 := by injection hoo with h1; injection h1 with _ h2; exact h2.symm
      have hcl := (HOI.out.below.cell (p := ⟨Ga, 0 + j, none⟩) hGa).trans (hcells j _ (bcs_get al j hjl))
      rw [Nat.zero_add] at hcl
      obtain ⟨b, hbj⟩ : ∃ b, al[j] = b := ⟨_, rfl⟩
      rw [hbj] at hcl HNX
      have hlt' : (j : Int) < (N : Int) := by omega
      have hnf : nf ≤ 1000 := by
        have h1 := posF_len (al.take j) 0
        rw [← HFL.out, HOI.out.len, List.length_take] at h1
        omega
      clear hbj hcells hoo
      by_cases h126 : b = 126
      · subst h126
        rw [if_pos rfl] at HNX
        rw [show ((126 : UInt8).toNat : Int) = 126 from rfl] at hcl
        go_wp2_with (at_builtin; refine wpList_append_holds rfl (.tmp 57) (.tmp 59) 41 rfl 3 i1 (.int .i64 0) 8 Tryd.underlying41 hi' hy0 hy1 hy2 rfl (.slice V nf cf) nf (ics fl) rfl (HOI.out.own.alloc _) _ _ 1 1 (ics [j]) rfl rfl (Holds.of_row (heap_alloc_new _ _)) (ics_one _) (by unfold maxLen; omega) (by omega) ?_; intro V5 c5 x5' hown5 hgr5 hat5; have HM5 := Lib.hid (HOI.out.grown _ hown5 hgr5 hat5); clear hown5 hgr5 hat5)
        go_roundw
        case rel => exact ⟨j + 1, nf + 1, c5, V5, fl ++ [j], by omega, by go_num, rfl, by show _ = _; rw [HNX.out, HFL.out], HM5⟩
        case measure => simp [intOf]; omega
      · have hne : ((b.toNat : Int) == 126) = false := u8_ne (n := 126) (by omega) h126
        rw [if_neg h126, List.append_nil] at HNX
        go_wp2
        go_roundw
        case rel => exact ⟨j + 1, nf, cf, V, fl, by omega, by go_num, rfl, by show _ = _; rw [HNX.out, HFL.out], HOI⟩
        case measure => simp [intOf]; omega
    · have hjN : j = N := by omega
      subst hjN
      rw [List.take_of_length_le (by rw [HALL.out]; exact Nat.le_refl _), HPT.out] at HFL
      have hfl := HFL.out
      subst hfl
      obtain rfl : nf = 4 := HOI.out.len.symm
      obtain ⟨p1, hp1⟩ : ∃ p, p = μ + 1 := ⟨_, rfl⟩
      obtain ⟨p2, hp2⟩ : ∃ p, p = μ + 2 := ⟨_, rfl⟩
      obtain ⟨p3, hp3⟩ : ∃ p, p = μ + μ' + 3 := ⟨_, rfl⟩
      rw [← hp1, ← hp2, ← hp3] at HOI
      obtain ⟨Gf, rfl, hGf, hcf, k0, k1, k2, k3⟩ := HOI.out.cells
      have HU : Hid (U2 w #[.int .u8 a, .int .u8 k, .int .u8 s, .int .u8 q, .int .u8 c, .slice A2 m c2] #[.int .u8 a', .int .u8 k', .int .u8 s', .int .u8 q', .int .u8 c', .slice A4 m' c4] g2 A2 L g4 A4 L' Ga Gf al p1 p2 p3 wr.drew) := ⟨(H9.out.step HOI.out.below).step (drew_below2 wr), (HHA.out.keep (Ch.of_below HOI.out.below) (by simp)).keep (Ch.of_below (drew_below2 wr)) (by simp), ⟨k1, k2, k3⟩, hGf⟩
      clear HFL HOI HPT H9 HHA
      have HP1 := Lib.hid hp1
      have HP2 := Lib.hid hp2
      have HP3 := Lib.hid hp3
      have HJ := Lib.hid hN1
      have hw1 : IntKind.i64.wrap ((p1 : Int) + 1) = (p2 : Int) := by rw [IntKind.wrap_i64]; omega
      have hw2 : IntKind.i64.wrap ((j : Int) - 1) = (p3 : Int) := by rw [IntKind.wrap_i64]; omega
      have hw3 : IntKind.i64.wrap ((p2 : Int) + 1) = (p2 : Int) + 1 := by rw [IntKind.wrap_i64]; omega
      have o1 : 1 ≤ p1 := by omega
      have o2 : p1 ≤ c9 := by omega
      have o3 : p2 + 1 ≤ p3 := by omega
      have o4 : p3 ≤ c9 := by omega
      have o5 : p2 ≤ c9 := by omega
      have o6 : p3 < c9 := by omega
      clear hp1 hp2 hp3 hN1
      go_upto_region 15 with fail
      refine region_plan [(true, 0), (true, 1), (true, 2), (true, 3), (true, 4), (true, 5), (true, 6), (true, 7), (true, 8), (true, 9), (true, 10), (true, 11), (true, 12), (true, 13), (true, 14), (true, 15), (true, 16), (true, 17), (true, 18), (true, 19), (true, 20), (true, 21), (true, 22), (true, 23), (true, 24), (true, 25), (true, 26), (true, 27)]
        (fun x => x.cell? ⟨Gf, 0, none⟩ = some (.int .i64 0) ∧ x.cell? ⟨Gf, 1, none⟩ = some (.int .i64 (p1 : Int)) ∧ x.cell? ⟨Gf, 2, none⟩ = some (.int .i64 (p2 : Int)) ∧ x.cell? ⟨Gf, 3, none⟩ = some (.int .i64 (p3 : Int)))
        (by kernel_rfl) (by kernel_rfl) (by kernel_rfl) rfl ⟨k0, k1, k2, k3⟩ ?_
      iterate 28 (first | (refine Plan.take (v := ?_) rfl (by rfl) ?_ ?_; rotate_left 1; (focus (intro x hx; go_simp <;> (first | with_reducible rfl | rw [if_pos (by omega)]))); simp only [Act.put, List.setIfInBounds_toArray, List.set_cons_zero, List.set_cons_succ]) | (refine Plan.skip rfl (by rfl) ?_; simp only [Act.put, List.setIfInBounds_toArray, List.set_cons_zero, List.set_cons_succ]))
      refine Plan.done ?_
      clear k0 k1 k2 k3
      generalize wr.drew = x10 at *
      obtain ⟨k1, k2, k3⟩ := HU.out.fl
      go_wp2_with fail
      refine (decode_on (l := F.mid) HU.out.t.tab (by rw [← HFST.out]; exact HU.out.part 1 μ (by have := HALL.out; have := HJ.out; omega)) (by rw [HK.out]; have := HP1.out; omega) (by omega) (by have := HP1.out; omega)).mono ?_
      rintro e x11 ⟨f, er, A5, m5, c5, g5, hf, her, hm5, rfl, hh5, -, hb⟩
      rw [decE_mid _ HF.out.1 HF.out.2] at her
      rw [decF_mid _ HF.out.1 HF.out.2, ← HFE.out] at hf
      subst her hf
      obtain rfl : m = m5 := (hm5.trans HM.out).symm
      have HU1 := Lib.hid ((HU.out.step hb).step (new_below x11 (.cells #[.int .u8 (a : Int), .int .u8 (k : Int), .int .u8 (s : Int), .int .u8 (q : Int), .int .u8 (c : Int), .slice A5 m c5] 24)))
      have HZ : Hid (Tf x11.heap.size g5 A5 L #[.int .u8 (a : Int), .int .u8 (k : Int), .int .u8 (s : Int), .int .u8 (q : Int), .int .u8 (c : Int), .slice A5 m c5] (x11.alloc (.cells #[.int .u8 (a : Int), .int .u8 (k : Int), .int .u8 (s : Int), .int .u8 (q : Int), .int .u8 (c : Int), .slice A5 m c5] 24))) := Tf.start hh5
      clear hb hh5 HU k1 k2 k3 hm5
      go_upto_region 18 with fail
      generalize (x11.alloc (.cells #[.int .u8 (a : Int), .int .u8 (k : Int), .int .u8 (s : Int), .int .u8 (q : Int), .int .u8 (c : Int), .slice A5 m c5] 24)) = x12 at *
      generalize x11.heap.size = Z1 at *
      replace HU1 := Lib.hid (HU1.out.step (drew_below2 x12))
      replace HZ := Lib.hid (HZ.out.step (drew_below2 x12))
      have hne1 : ¬ c9 = p2 + 1 := by omega
      refine region_tree (.take 0 (.take 1 (.take 2 (.take 3 (.take 4 (.take 5 (.take 6 (.take 7 (.take 8 (.two 9 (.take 10 (.take 11 (.take 12 (.one 13 (.one 14 (.take 15 .done)))))) 13 (.one 9 (.take 10 (.take 11 (.take 12 (.one 14 (.take 15 .done))))))))))))))))
        (fun x => x.cell? ⟨Gf, 1, none⟩ = some (.int .i64 (p1 : Int)) ∧ x.cell? ⟨Gf, 2, none⟩ = some (.int .i64 (p2 : Int)) ∧ x.cell? ⟨Gf, 3, none⟩ = some (.int .i64 (p3 : Int)))
        (by kernel_rfl) (by kernel_rfl) (by kernel_rfl) (by kernel_rfl) HU1.out.fl ?_
      iterate 9 (refine Tree.take (v := ?_) rfl (by rfl) ?_ ?_; rotate_left 1; (focus (intro x hx; go_simp <;> (first | with_reducible rfl | rw [if_pos (by omega)]))); simp only [Act.put, List.setIfInBounds_toArray, List.set_cons_zero, List.set_cons_succ])
      generalize x12.drew = x13 at *
      refine Tree.two rfl rfl (fun K hK => ?_) (fun K hK => ?_)
      · go_simp
        rw [show p2 + 1 = μ + 3 by have := HP2.out; omega]
        refine (decode_on (l := F'.mid) HU1.out.t.tab (by rw [← HLST.out]; exact HU1.out.part (μ + 3) μ' (by have := HALL.out; have := HJ.out; omega)) (by rw [HK'.out]; have := HP2.out; have := HP3.out; omega) (by omega) (by have := HP2.out; have := HP3.out; omega)).mono ?_
        rintro e x14 ⟨f, er, A6, m6, c6, g6, hf, her, hm6, rfl, hh6, hg6, hb⟩
        rw [decE_mid _ HF'.out.1 HF'.out.2] at her
        rw [decF_mid _ HF'.out.1 HF'.out.2, ← HFE'.out] at hf
        subst her hf
        obtain rfl : m' = m6 := (hm6.trans HM'.out).symm
        clear hm6
        have HU2 := Lib.hid (HU1.out.step hb)
        replace HZ := Lib.hid (HZ.out.step hb)
        have HH6 := Lib.hid hh6
        clear hb hh6 hg6 HU1
        refine hK.out _ _ _ (fun x hx => hx) HU2.out.fl ?_
        clear hK K
        iterate 3 (refine Tree.take (v := ?_) rfl (by rfl) ?_ ?_; rotate_left 1; (focus (intro x hx; go_simp <;> (first | with_reducible rfl | rw [if_pos (by omega)]))); simp only [Act.put, List.setIfInBounds_toArray, List.set_cons_zero, List.set_cons_succ])
        refine Tree.one rfl (fun K hK => ?_)
        go_simp
        refine hK.out _ _ _ (fun x hx => hx) (HU2.out.step (new_below x14 (.cells noFrame 24))).fl ?_
        clear hK K
        refine Tree.one rfl (fun K hK => ?_)
        go_simp
        have HU3 := Lib.hid (HU2.out.step (new_below x14 (.cells #[.int .u8 (a' : Int), .int .u8 (k' : Int), .int .u8 (s' : Int), .int .u8 (q' : Int), .int .u8 (c' : Int), .slice A6 m' c6] 24)))
        replace HZ := Lib.hid (HZ.out.step (new_below x14 (.cells #[.int .u8 (a' : Int), .int .u8 (k' : Int), .int .u8 (s' : Int), .int .u8 (q' : Int), .int .u8 (c' : Int), .slice A6 m' c6] 24)))
        have HZ2 : Hid (Tf x14.heap.size g6 A6 L' #[.int .u8 (a' : Int), .int .u8 (k' : Int), .int .u8 (s' : Int), .int .u8 (q' : Int), .int .u8 (c' : Int), .slice A6 m' c6] (x14.alloc (.cells #[.int .u8 (a' : Int), .int .u8 (k' : Int), .int .u8 (s' : Int), .int .u8 (q' : Int), .int .u8 (c' : Int), .slice A6 m' c6] 24))) := Tf.start HH6.out
        refine hK.out _ _ _ (fun x hx => hx) HU3.out.fl ?_
        clear hK K HU2 HH6
        (refine Tree.take (v := ?_) rfl (by rfl) ?_ ?_; rotate_left 1; (focus (intro x hx; go_simp <;> (first | with_reducible rfl | rw [if_pos (by omega)]))); simp only [Act.put, List.setIfInBounds_toArray, List.set_cons_zero, List.set_cons_succ])
        refine Tree.done ?_
        generalize (x14.alloc (.cells #[.int .u8 (a' : Int), .int .u8 (k' : Int), .int .u8 (s' : Int), .int .u8 (q' : Int), .int .u8 (c' : Int), .slice A6 m' c6] 24)) = x15 at *
        generalize x14.heap.size = Z2 at *
        have hne2 : ¬ c9 = p2 := by omega
        go_upto_region 19 with fail
        replace HU3 := Lib.hid (HU3.out.step (drew_below2 x15))
        replace HZ := Lib.hid (HZ.out.step (drew_below2 x15))
        replace HZ2 := Lib.hid (HZ2.out.step (drew_below2 x15))
        refine region_tree (.take 0 (.take 1 (.take 2 (.take 3 (.take 4 (.take 5 (.take 6 (.take 7 (.take 8 (.two 9 (.take 10 (.take 11 (.take 12 (.one 13 (.one 14 (.take 15 .done)))))) 13 (.one 9 (.take 10 (.take 11 (.take 12 (.one 14 (.take 15 .done))))))))))))))))
          (fun x => x.cell? ⟨Gf, 1, none⟩ = some (.int .i64 (p1 : Int)) ∧ x.cell? ⟨Gf, 2, none⟩ = some (.int .i64 (p2 : Int)) ∧ x.cell? ⟨Gf, 3, none⟩ = some (.int .i64 (p3 : Int)))
          (by kernel_rfl) (by kernel_rfl) (by kernel_rfl) (by kernel_rfl) HU3.out.fl ?_
        iterate 9 (refine Tree.take (v := ?_) rfl (by rfl) ?_ ?_; rotate_left 1; (focus (intro x hx; go_simp <;> (first | with_reducible rfl | rw [if_pos (by omega)]))); simp only [Act.put, List.setIfInBounds_toArray, List.set_cons_zero, List.set_cons_succ])
        generalize x15.drew = x16 at *
        refine Tree.two rfl rfl (fun K hK => ?_) (fun K hK => ?_)
        · go_simp
          refine (decode_on (g := 0) (l := []) HU3.out.t.tab (Holds.nil _ _ _) rfl (Nat.zero_le _) (Nat.zero_le _)).mono ?_
          rintro e x17 ⟨f7, er, A7, m7, c7, g7, -, her, hm7, rfl, hh7, hg7, hb⟩
          rw [decE_nil] at her
          subst her
          have HU4 := Lib.hid (HU3.out.step hb)
          replace HZ := Lib.hid (HZ.out.step hb)
          replace HZ2 := Lib.hid (HZ2.out.step hb)
          clear hb hh7 hg7 hm7 HU3
          refine hK.out _ _ _ (fun x hx => hx) HU4.out.fl ?_
          clear hK K
          iterate 3 (refine Tree.take (v := ?_) rfl (by rfl) ?_ ?_; rotate_left 1; (focus (intro x hx; go_simp <;> (first | with_reducible rfl | rw [if_pos (by omega)]))); simp only [Act.put, List.setIfInBounds_toArray, List.set_cons_zero, List.set_cons_succ])
          refine Tree.one rfl (fun K hK => ?_)
          go_simp
          refine hK.out _ _ _ (fun x hx => hx) (HU4.out.step (new_below x17 (.cells noFrame 24))).fl ?_
          clear hK K
          refine Tree.one rfl (fun K hK => ?_)
          go_simp
          replace HU4 := Lib.hid (HU4.out.step (new_below x17 (.cells #[.int .u8 (f7.a : Int), .int .u8 (f7.k : Int), .int .u8 (f7.s : Int), .int .u8 (f7.q : Int), .int .u8 (f7.c : Int), .slice A7 m7 c7] 24)))
          replace HZ := Lib.hid (HZ.out.step (new_below x17 (.cells #[.int .u8 (f7.a : Int), .int .u8 (f7.k : Int), .int .u8 (f7.s : Int), .int .u8 (f7.q : Int), .int .u8 (f7.c : Int), .slice A7 m7 c7] 24)))
          replace HZ2 := Lib.hid (HZ2.out.step (new_below x17 (.cells #[.int .u8 (f7.a : Int), .int .u8 (f7.k : Int), .int .u8 (f7.s : Int), .int .u8 (f7.q : Int), .int .u8 (f7.c : Int), .slice A7 m7 c7] 24)))
          refine hK.out _ _ _ (fun x hx => hx) HU4.out.fl ?_
          clear hK K
          (refine Tree.take (v := ?_) rfl (by rfl) ?_ ?_; rotate_left 1; (focus (intro x hx; go_simp <;> (first | with_reducible rfl | rw [if_pos (by omega)]))); simp only [Act.put, List.setIfInBounds_toArray, List.set_cons_zero, List.set_cons_succ])
          refine Tree.done ?_
          generalize (x17.alloc (.cells #[.int .u8 (f7.a : Int), .int .u8 (f7.k : Int), .int .u8 (f7.s : Int), .int .u8 (f7.q : Int), .int .u8 (f7.c : Int), .slice A7 m7 c7] 24)) = x18 at *
          go_upto_region 20 with fail
          replace HU4 := Lib.hid (HU4.out.step (drew_below2 x18))
          replace HZ := Lib.hid (HZ.out.step (drew_below2 x18))
          replace HZ2 := Lib.hid (HZ2.out.step (drew_below2 x18))
          refine region_plan [(true, 0), (true, 1), (true, 2), (true, 3), (true, 4), (true, 5), (true, 6), (true, 7), (true, 8), (true, 9), (true, 10), (true, 11), (true, 12), (true, 13), (true, 14), (true, 16), (false, 15), (false, 17), (true, 18), (true, 19), (true, 20), (true, 21), (true, 23), (false, 22), (false, 24), (true, 25), (true, 26), (true, 27)]
            (fun x => (x.cell? ⟨Z1, 0, none⟩ = some (.int .u8 (a : Int)) ∧ x.cell? ⟨Z1, 1, none⟩ = some (.int .u8 (k : Int)) ∧ x.cell? ⟨Z1, 2, none⟩ = some (.int .u8 (s : Int)) ∧ x.cell? ⟨Z1, 3, none⟩ = some (.int .u8 (q : Int)) ∧ x.cell? ⟨Z1, 4, none⟩ = some (.int .u8 (c : Int)) ∧ x.cell? ⟨Z1, 5, none⟩ = some (.slice A5 m c5)) ∧ (x.cell? ⟨w.heap.size, 0, none⟩ = some (.int .u8 (a : Int)) ∧ x.cell? ⟨w.heap.size, 1, none⟩ = some (.int .u8 (k : Int)) ∧ x.cell? ⟨w.heap.size, 2, none⟩ = some (.int .u8 (s : Int)) ∧ x.cell? ⟨w.heap.size, 3, none⟩ = some (.int .u8 (q : Int)) ∧ x.cell? ⟨w.heap.size, 4, none⟩ = some (.int .u8 (c : Int)) ∧ x.cell? ⟨w.heap.size, 5, none⟩ = some (.slice A2 m c2)) ∧ (x.cell? ⟨Z2, 0, none⟩ = some (.int .u8 (a' : Int)) ∧ x.cell? ⟨Z2, 1, none⟩ = some (.int .u8 (k' : Int)) ∧ x.cell? ⟨Z2, 2, none⟩ = some (.int .u8 (s' : Int)) ∧ x.cell? ⟨Z2, 3, none⟩ = some (.int .u8 (q' : Int)) ∧ x.cell? ⟨Z2, 4, none⟩ = some (.int .u8 (c' : Int)) ∧ x.cell? ⟨Z2, 5, none⟩ = some (.slice A6 m' c6)) ∧ (x.cell? ⟨w.heap.size + 1, 0, none⟩ = some (.int .u8 (a' : Int)) ∧ x.cell? ⟨w.heap.size + 1, 1, none⟩ = some (.int .u8 (k' : Int)) ∧ x.cell? ⟨w.heap.size + 1, 2, none⟩ = some (.int .u8 (s' : Int)) ∧ x.cell? ⟨w.heap.size + 1, 3, none⟩ = some (.int .u8 (q' : Int)) ∧ x.cell? ⟨w.heap.size + 1, 4, none⟩ = some (.int .u8 (c' : Int)) ∧ x.cell? ⟨w.heap.size + 1, 5, none⟩ = some (.slice A4 m' c4)))
            (by kernel_rfl) (by kernel_rfl) (by kernel_rfl) rfl ⟨row6_cells HZ.out.row, row6_cells HU4.out.t.box0, row6_cells HZ2.out.row, row6_cells HU4.out.t.box1⟩ ?_
          iterate 16 (first | (refine Plan.take (v := ?_) rfl (by rfl) ?_ ?_; rotate_left 1; (focus (intro x hx; go_simp <;> (first | with_reducible rfl | rw [if_pos (by omega)]))); simp only [Act.put, List.setIfInBounds_toArray, List.set_cons_zero, List.set_cons_succ]) | (refine Plan.skip rfl (by rfl) ?_; simp only [Act.put, List.setIfInBounds_toArray, List.set_cons_zero, List.set_cons_succ]))
          generalize x18.drew = y0 at *
          refine Plan.loud rfl (fun K hK => ?_)
          go_simp
          refine (of_on HZ.out.holds HM.out).mono ?_
          rintro e y1 ⟨rfl, hb⟩
          replace HU4 := Lib.hid (HU4.out.step hb)
          replace HZ := Lib.hid (HZ.out.step hb)
          replace HZ2 := Lib.hid (HZ2.out.step hb)
          refine hK.out _ _ _ (fun x hx => hx) ⟨row6_cells HZ.out.row, row6_cells HU4.out.t.box0, row6_cells HZ2.out.row, row6_cells HU4.out.t.box1⟩ ?_
          clear hK K hb
          refine Plan.loud rfl (fun K hK => ?_)
          go_simp
          refine (of_on HU4.out.t.h0 HM.out).mono ?_
          rintro e y2 ⟨rfl, hb⟩
          replace HU4 := Lib.hid (HU4.out.step hb)
          replace HZ := Lib.hid (HZ.out.step hb)
          replace HZ2 := Lib.hid (HZ2.out.step hb)
          refine hK.out _ _ _ (fun x hx => hx) ⟨row6_cells HZ.out.row, row6_cells HU4.out.t.box0, row6_cells HZ2.out.row, row6_cells HU4.out.t.box1⟩ ?_
          clear hK K hb
          iterate 5 (first | (refine Plan.take (v := ?_) rfl (by rfl) ?_ ?_; rotate_left 1; (focus (intro x hx; go_simp <;> (first | with_reducible rfl | rw [if_pos (by omega)]))); simp only [Act.put, List.setIfInBounds_toArray, List.set_cons_zero, List.set_cons_succ]) | (refine Plan.skip rfl (by rfl) ?_; simp only [Act.put, List.setIfInBounds_toArray, List.set_cons_zero, List.set_cons_succ]))
          refine Plan.loud rfl (fun K hK => ?_)
          go_simp
          refine (of_on HZ2.out.holds HM'.out).mono ?_
          rintro e y3 ⟨rfl, hb⟩
          replace HU4 := Lib.hid (HU4.out.step hb)
          replace HZ := Lib.hid (HZ.out.step hb)
          replace HZ2 := Lib.hid (HZ2.out.step hb)
          refine hK.out _ _ _ (fun x hx => hx) ⟨row6_cells HZ.out.row, row6_cells HU4.out.t.box0, row6_cells HZ2.out.row, row6_cells HU4.out.t.box1⟩ ?_
          clear hK K hb
          refine Plan.loud rfl (fun K hK => ?_)
          go_simp
          refine (of_on HU4.out.t.h1 HM'.out).mono ?_
          rintro e y4 ⟨rfl, hb⟩
          replace HU4 := Lib.hid (HU4.out.step hb)
          replace HZ := Lib.hid (HZ.out.step hb)
          replace HZ2 := Lib.hid (HZ2.out.step hb)
          refine hK.out _ _ _ (fun x hx => hx) ⟨row6_cells HZ.out.row, row6_cells HU4.out.t.box0, row6_cells HZ2.out.row, row6_cells HU4.out.t.box1⟩ ?_
          clear hK K hb
          iterate 3 (first | (refine Plan.take (v := ?_) rfl (by rfl) ?_ ?_; rotate_left 1; (focus (intro x hx; go_simp <;> (first | with_reducible rfl | rw [if_pos (by omega)]))); simp only [Act.put, List.setIfInBounds_toArray, List.set_cons_zero, List.set_cons_succ]) | (refine Plan.skip rfl (by rfl) ?_; simp only [Act.put, List.setIfInBounds_toArray, List.set_cons_zero, List.set_cons_succ]))
          refine Plan.done ?_
          go_wp2
          go_ret
          exact ⟨rfl, HU4.out.t.below⟩
        · go_simp
          have HUn := Lib.hid (HU3.out.step (new_below x16 (.cells noFrame 24)))
          refine hK.out _ _ _ (fun x hx => hx) HUn.out.fl ?_
          clear hK K
          refine Tree.one rfl (fun K hK => ?_)
          go_simp
          refine (decode_on (g := 0) (l := []) HUn.out.t.tab (Holds.nil _ _ _) rfl (Nat.zero_le _) (Nat.zero_le _)).mono ?_
          rintro e x17 ⟨f7, er, A7, m7, c7, g7, -, her, hm7, rfl, hh7, hg7, hb⟩
          rw [decE_nil] at her
          subst her
          obtain ⟨-, hbb, hrow⟩ := Tf.late (L := f7.b) (v0 := .int .u8 (f7.a : Int)) (v1 := .int .u8 (f7.k : Int)) (v2 := .int .u8 (f7.s : Int)) (v3 := .int .u8 (f7.q : Int)) (v4 := .int .u8 (f7.c : Int)) (v5 := .slice A7 m7 c7) hb hh7 (fun hp => hg7 (by rw [hm7]; exact hp))
          have HU4 := Lib.hid (HU3.out.step hbb)
          replace HZ := Lib.hid (HZ.out.step hbb)
          replace HZ2 := Lib.hid (HZ2.out.step hbb)
          have HUm := Lib.hid (HUn.out.step hb)
          refine hK.out _ _ _ (fun x hx => hx) HUm.out.fl ?_
          clear hK K hb hh7 hg7 hm7 hbb HU3 HUn
          iterate 3 (refine Tree.take (v := ?_) rfl (by rfl) ?_ ?_; rotate_left 1; (focus (intro x hx; go_simp <;> (first | with_reducible rfl | rw [if_pos (by omega)]))); simp only [Act.put, List.setIfInBounds_toArray, List.set_cons_zero, List.set_cons_succ])
          obtain ⟨r0, r1, r2, r3, r4, r5, t0, t1, t2, t3, t4, t5⟩ := row6_facts hrow
          refine Tree.one rfl (fun K hK => ?_)
          go_simp
          refine hK.out _ _ _ (fun x hx => hx) HU4.out.fl ?_
          clear hK K HUm hrow r0 r1 r2 r3 r4 r5 t0 t1 t2 t3 t4 t5
          (refine Tree.take (v := ?_) rfl (by rfl) ?_ ?_; rotate_left 1; (focus (intro x hx; go_simp <;> (first | with_reducible rfl | rw [if_pos (by omega)]))); simp only [Act.put, List.setIfInBounds_toArray, List.set_cons_zero, List.set_cons_succ])
          refine Tree.done ?_
          unfold put6 at HU4 HZ HZ2
          generalize ((((((x17.setCell ⟨x16.heap.size, 0, none⟩ (.int .u8 (f7.a : Int))).setCell ⟨x16.heap.size, 1, none⟩ (.int .u8 (f7.k : Int))).setCell ⟨x16.heap.size, 2, none⟩ (.int .u8 (f7.s : Int))).setCell ⟨x16.heap.size, 3, none⟩ (.int .u8 (f7.q : Int))).setCell ⟨x16.heap.size, 4, none⟩ (.int .u8 (f7.c : Int))).setCell ⟨x16.heap.size, 5, none⟩ (.slice A7 m7 c7)) = x18 at *
          go_upto_region 20 with fail
          replace HU4 := Lib.hid (HU4.out.step (drew_below2 x18))
          replace HZ := Lib.hid (HZ.out.step (drew_below2 x18))
          replace HZ2 := Lib.hid (HZ2.out.step (drew_below2 x18))
          refine region_plan [(true, 0), (true, 1), (true, 2), (true, 3), (true, 4), (true, 5), (true, 6), (true, 7), (true, 8), (true, 9), (true, 10), (true, 11), (true, 12), (true, 13), (true, 14), (true, 16), (false, 15), (false, 17), (true, 18), (true, 19), (true, 20), (true, 21), (true, 23), (false, 22), (false, 24), (true, 25), (true, 26), (true, 27)]
            (fun x => (x.cell? ⟨Z1, 0, none⟩ = some (.int .u8 (a : Int)) ∧ x.cell? ⟨Z1, 1, none⟩ = some (.int .u8 (k : Int)) ∧ x.cell? ⟨Z1, 2, none⟩ = some (.int .u8 (s : Int)) ∧ x.cell? ⟨Z1, 3, none⟩ = some (.int .u8 (q : Int)) ∧ x.cell? ⟨Z1, 4, none⟩ = some (.int .u8 (c : Int)) ∧ x.cell? ⟨Z1, 5, none⟩ = some (.slice A5 m c5)) ∧ (x.cell? ⟨w.heap.size, 0, none⟩ = some (.int .u8 (a : Int)) ∧ x.cell? ⟨w.heap.size, 1, none⟩ = some (.int .u8 (k : Int)) ∧ x.cell? ⟨w.heap.size, 2, none⟩ = some (.int .u8 (s : Int)) ∧ x.cell? ⟨w.heap.size, 3, none⟩ = some (.int .u8 (q : Int)) ∧ x.cell? ⟨w.heap.size, 4, none⟩ = some (.int .u8 (c : Int)) ∧ x.cell? ⟨w.heap.size, 5, none⟩ = some (.slice A2 m c2)) ∧ (x.cell? ⟨Z2, 0, none⟩ = some (.int .u8 (a' : Int)) ∧ x.cell? ⟨Z2, 1, none⟩ = some (.int .u8 (k' : Int)) ∧ x.cell? ⟨Z2, 2, none⟩ = some (.int .u8 (s' : Int)) ∧ x.cell? ⟨Z2, 3, none⟩ = some (.int .u8 (q' : Int)) ∧ x.cell? ⟨Z2, 4, none⟩ = some (.int .u8 (c' : Int)) ∧ x.cell? ⟨Z2, 5, none⟩ = some (.slice A6 m' c6)) ∧ (x.cell? ⟨w.heap.size + 1, 0, none⟩ = some (.int .u8 (a' : Int)) ∧ x.cell? ⟨w.heap.size + 1, 1, none⟩ = some (.int .u8 (k' : Int)) ∧ x.cell? ⟨w.heap.size + 1, 2, none⟩ = some (.int .u8 (s' : Int)) ∧ x.cell? ⟨w.heap.size + 1, 3, none⟩ = some (.int .u8 (q' : Int)) ∧ x.cell? ⟨w.heap.size + 1, 4, none⟩ = some (.int .u8 (c' : Int)) ∧ x.cell? ⟨w.heap.size + 1, 5, none⟩ = some (.slice A4 m' c4)))
            (by kernel_rfl) (by kernel_rfl) (by kernel_rfl) rfl ⟨row6_cells HZ.out.row, row6_cells HU4.out.t.box0, row6_cells HZ2.out.row, row6_cells HU4.out.t.box1⟩ ?_
          iterate 16 (first | (refine Plan.take (v := ?_) rfl (by rfl) ?_ ?_; rotate_left 1; (focus (intro x hx; go_simp <;> (first | with_reducible rfl | rw [if_pos (by omega)]))); simp only [Act.put, List.setIfInBounds_toArray, List.set_cons_zero, List.set_cons_succ]) | (refine Plan.skip rfl (by rfl) ?_; simp only [Act.put, List.setIfInBounds_toArray, List.set_cons_zero, List.set_cons_succ]))
          generalize x18.drew = y0 at *
          refine Plan.loud rfl (fun K hK => ?_)
          go_simp
          refine (of_on HZ.out.holds HM.out).mono ?_
          rintro e y1 ⟨rfl, hb⟩
          replace HU4 := Lib.hid (HU4.out.step hb)
          replace HZ := Lib.hid (HZ.out.step hb)
          replace HZ2 := Lib.hid (HZ2.out.step hb)
          refine hK.out _ _ _ (fun x hx => hx) ⟨row6_cells HZ.out.row, row6_cells HU4.out.t.box0, row6_cells HZ2.out.row, row6_cells HU4.out.t.box1⟩ ?_
          clear hK K hb
          refine Plan.loud rfl (fun K hK => ?_)
          go_simp
          refine (of_on HU4.out.t.h0 HM.out).mono ?_
          rintro e y2 ⟨rfl, hb⟩
          replace HU4 := Lib.hid (HU4.out.step hb)
          replace HZ := Lib.hid (HZ.out.step hb)
          replace HZ2 := Lib.hid (HZ2.out.step hb)
          refine hK.out _ _ _ (fun x hx => hx) ⟨row6_cells HZ.out.row, row6_cells HU4.out.t.box0, row6_cells HZ2.out.row, row6_cells HU4.out.t.box1⟩ ?_
          clear hK K hb
          iterate 5 (first | (refine Plan.take (v := ?_) rfl (by rfl) ?_ ?_; rotate_left 1; (focus (intro x hx; go_simp <;> (first | with_reducible rfl | rw [if_pos (by omega)]))); simp only [Act.put, List.setIfInBounds_toArray, List.set_cons_zero, List.set_cons_succ]) | (refine Plan.skip rfl (by rfl) ?_; simp only [Act.put, List.setIfInBounds_toArray, List.set_cons_zero, List.set_cons_succ]))
          refine Plan.loud rfl (fun K hK => ?_)
          go_simp
          refine (of_on HZ2.out.holds HM'.out).mono ?_
          rintro e y3 ⟨rfl, hb⟩
          replace HU4 := Lib.hid (HU4.out.step hb)
          replace HZ := Lib.hid (HZ.out.step hb)
          replace HZ2 := Lib.hid (HZ2.out.step hb)
          refine hK.out _ _ _ (fun x hx => hx) ⟨row6_cells HZ.out.row, row6_cells HU4.out.t.box0, row6_cells HZ2.out.row, row6_cells HU4.out.t.box1⟩ ?_
          clear hK K hb
          refine Plan.loud rfl (fun K hK => ?_)
          go_simp
          refine (of_on HU4.out.t.h1 HM'.out).mono ?_
          rintro e y4 ⟨rfl, hb⟩
          replace HU4 := Lib.hid (HU4.out.step hb)
          replace HZ := Lib.hid (HZ.out.step hb)
          replace HZ2 := Lib.hid (HZ2.out.step hb)
          refine hK.out _ _ _ (fun x hx => hx) ⟨row6_cells HZ.out.row, row6_cells HU4.out.t.box0, row6_cells HZ2.out.row, row6_cells HU4.out.t.box1⟩ ?_
          clear hK K hb
          iterate 3 (first | (refine Plan.take (v := ?_) rfl (by rfl) ?_ ?_; rotate_left 1; (focus (intro x hx; go_simp <;> (first | with_reducible rfl | rw [if_pos (by omega)]))); simp only [Act.put, List.setIfInBounds_toArray, List.set_cons_zero, List.set_cons_succ]) | (refine Plan.skip rfl (by rfl) ?_; simp only [Act.put, List.setIfInBounds_toArray, List.set_cons_zero, List.set_cons_succ]))
          refine Plan.done ?_
          go_wp2
          go_ret
          exact ⟨rfl, HU4.out.t.below⟩
      · go_simp
        have HU2 := Lib.hid (HU1.out.step (new_below x13 (.cells noFrame 24)))
        refine hK.out _ _ _ (fun x hx => hx) HU2.out.fl ?_
        clear hK K
        refine Tree.one rfl (fun K hK => ?_)
        go_simp
        rw [show p2 + 1 = μ + 3 by have := HP2.out; omega]
        refine (decode_on (l := F'.mid) HU2.out.t.tab (by rw [← HLST.out]; exact HU2.out.part (μ + 3) μ' (by have := HALL.out; have := HJ.out; omega)) (by rw [HK'.out]; have := HP2.out; have := HP3.out; omega) (by omega) (by have := HP2.out; have := HP3.out; omega)).mono ?_
        rintro e x14 ⟨f, er, A6, m6, c6, g6, hf, her, hm6, rfl, hh6, hg6, hb⟩
        rw [decE_mid _ HF'.out.1 HF'.out.2] at her
        rw [decF_mid _ HF'.out.1 HF'.out.2, ← HFE'.out] at hf
        subst her hf
        obtain rfl : m' = m6 := (hm6.trans HM'.out).symm
        clear hm6
        obtain ⟨hz2, hbb, hrow⟩ := Tf.late (L := L') (v0 := .int .u8 (a' : Int)) (v1 := .int .u8 (k' : Int)) (v2 := .int .u8 (s' : Int)) (v3 := .int .u8 (q' : Int)) (v4 := .int .u8 (c' : Int)) (v5 := .slice A6 m' c6) hb hh6 (fun hp => hg6 (by rw [← HM'.out]; exact hp))
        have HU3 := Lib.hid (HU1.out.step hbb)
        replace HZ := Lib.hid (HZ.out.step hbb)
        have HZ2 := Lib.hid hz2
        have HUm := Lib.hid (HU2.out.step hb)
        refine hK.out _ _ _ (fun x hx => hx) HUm.out.fl ?_
        clear hK K hb hh6 hg6 hz2 hbb HU1 HU2
        iterate 3 (refine Tree.take (v := ?_) rfl (by rfl) ?_ ?_; rotate_left 1; (focus (intro x hx; go_simp <;> (first | with_reducible rfl | rw [if_pos (by omega)]))); simp only [Act.put, List.setIfInBounds_toArray, List.set_cons_zero, List.set_cons_succ])
        obtain ⟨r0, r1, r2, r3, r4, r5, t0, t1, t2, t3, t4, t5⟩ := row6_facts hrow
        refine Tree.one rfl (fun K hK => ?_)
        go_simp
        refine hK.out _ _ _ (fun x hx => hx) HU3.out.fl ?_
        clear hK K HUm hrow r0 r1 r2 r3 r4 r5 t0 t1 t2 t3 t4 t5
        (refine Tree.take (v := ?_) rfl (by rfl) ?_ ?_; rotate_left 1; (focus (intro x hx; go_simp <;> (first | with_reducible rfl | rw [if_pos (by omega)]))); simp only [Act.put, List.setIfInBounds_toArray, List.set_cons_zero, List.set_cons_succ])
        refine Tree.done ?_
        unfold put6 at HU3 HZ HZ2
        generalize ((((((x14.setCell ⟨x13.heap.size, 0, none⟩ (.int .u8 (a' : Int))).setCell ⟨x13.heap.size, 1, none⟩ (.int .u8 (k' : Int))).setCell ⟨x13.heap.size, 2, none⟩ (.int .u8 (s' : Int))).setCell ⟨x13.heap.size, 3, none⟩ (.int .u8 (q' : Int))).setCell ⟨x13.heap.size, 4, none⟩ (.int .u8 (c' : Int))).setCell ⟨x13.heap.size, 5, none⟩ (.slice A6 m' c6)) = x15 at *
        generalize x13.heap.size = Z2 at *
        have hne2 : ¬ c9 = p2 := by omega
        go_upto_region 19 with fail
        replace HU3 := Lib.hid (HU3.out.step (drew_below2 x15))
        replace HZ := Lib.hid (HZ.out.step (drew_below2 x15))
        replace HZ2 := Lib.hid (HZ2.out.step (drew_below2 x15))
        refine region_tree (.take 0 (.take 1 (.take 2 (.take 3 (.take 4 (.take 5 (.take 6 (.take 7 (.take 8 (.two 9 (.take 10 (.take 11 (.take 12 (.one 13 (.one 14 (.take 15 .done)))))) 13 (.one 9 (.take 10 (.take 11 (.take 12 (.one 14 (.take 15 .done))))))))))))))))
          (fun x => x.cell? ⟨Gf, 1, none⟩ = some (.int .i64 (p1 : Int)) ∧ x.cell? ⟨Gf, 2, none⟩ = some (.int .i64 (p2 : Int)) ∧ x.cell? ⟨Gf, 3, none⟩ = some (.int .i64 (p3 : Int)))
          (by kernel_rfl) (by kernel_rfl) (by kernel_rfl) (by kernel_rfl) HU3.out.fl ?_
        iterate 9 (refine Tree.take (v := ?_) rfl (by rfl) ?_ ?_; rotate_left 1; (focus (intro x hx; go_simp <;> (first | with_reducible rfl | rw [if_pos (by omega)]))); simp only [Act.put, List.setIfInBounds_toArray, List.set_cons_zero, List.set_cons_succ])
        generalize x15.drew = x16 at *
        refine Tree.two rfl rfl (fun K hK => ?_) (fun K hK => ?_)
        · go_simp
          refine (decode_on (g := 0) (l := []) HU3.out.t.tab (Holds.nil _ _ _) rfl (Nat.zero_le _) (Nat.zero_le _)).mono ?_
          rintro e x17 ⟨f7, er, A7, m7, c7, g7, -, her, hm7, rfl, hh7, hg7, hb⟩
          rw [decE_nil] at her
          subst her
          have HU4 := Lib.hid (HU3.out.step hb)
          replace HZ := Lib.hid (HZ.out.step hb)
          replace HZ2 := Lib.hid (HZ2.out.step hb)
          clear hb hh7 hg7 hm7 HU3
          refine hK.out _ _ _ (fun x hx => hx) HU4.out.fl ?_
          clear hK K
          iterate 3 (refine Tree.take (v := ?_) rfl (by rfl) ?_ ?_; rotate_left 1; (focus (intro x hx; go_simp <;> (first | with_reducible rfl | rw [if_pos (by omega)]))); simp only [Act.put, List.setIfInBounds_toArray, List.set_cons_zero, List.set_cons_succ])
          refine Tree.one rfl (fun K hK => ?_)
          go_simp
          refine hK.out _ _ _ (fun x hx => hx) (HU4.out.step (new_below x17 (.cells noFrame 24))).fl ?_
          clear hK K
          refine Tree.one rfl (fun K hK => ?_)
          go_simp
          replace HU4 := Lib.hid (HU4.out.step (new_below x17 (.cells #[.int .u8 (f7.a : Int), .int .u8 (f7.k : Int), .int .u8 (f7.s : Int), .int .u8 (f7.q : Int), .int .u8 (f7.c : Int), .slice A7 m7 c7] 24)))
          replace HZ := Lib.hid (HZ.out.step (new_below x17 (.cells #[.int .u8 (f7.a : Int), .int .u8 (f7.k : Int), .int .u8 (f7.s : Int), .int .u8 (f7.q : Int), .int .u8 (f7.c : Int), .slice A7 m7 c7] 24)))
          replace HZ2 := Lib.hid (HZ2.out.step (new_below x17 (.cells #[.int .u8 (f7.a : Int), .int .u8 (f7.k : Int), .int .u8 (f7.s : Int), .int .u8 (f7.q : Int), .int .u8 (f7.c : Int), .slice A7 m7 c7] 24)))
          refine hK.out _ _ _ (fun x hx => hx) HU4.out.fl ?_
          clear hK K
          (refine Tree.take (v := ?_) rfl (by rfl) ?_ ?_; rotate_left 1; (focus (intro x hx; go_simp <;> (first | with_reducible rfl | rw [if_pos (by omega)]))); simp only [Act.put, List.setIfInBounds_toArray, List.set_cons_zero, List.set_cons_succ])
          refine Tree.done ?_
          generalize (x17.alloc (.cells #[.int .u8 (f7.a : Int), .int .u8 (f7.k : Int), .int .u8 (f7.s : Int), .int .u8 (f7.q : Int), .int .u8 (f7.c : Int), .slice A7 m7 c7] 24)) = x18 at *
          go_upto_region 20 with fail
          replace HU4 := Lib.hid (HU4.out.step (drew_below2 x18))
          replace HZ := Lib.hid (HZ.out.step (drew_below2 x18))
          replace HZ2 := Lib.hid (HZ2.out.step (drew_below2 x18))
          refine region_plan [(true, 0), (true, 1), (true, 2), (true, 3), (true, 4), (true, 5), (true, 6), (true, 7), (true, 8), (true, 9), (true, 10), (true, 11), (true, 12), (true, 13), (true, 14), (true, 16), (false, 15), (false, 17), (true, 18), (true, 19), (true, 20), (true, 21), (true, 23), (false, 22), (false, 24), (true, 25), (true, 26), (true, 27)]
            (fun x => (x.cell? ⟨Z1, 0, none⟩ = some (.int .u8 (a : Int)) ∧ x.cell? ⟨Z1, 1, none⟩ = some (.int .u8 (k : Int)) ∧ x.cell? ⟨Z1, 2, none⟩ = some (.int .u8 (s : Int)) ∧ x.cell? ⟨Z1, 3, none⟩ = some (.int .u8 (q : Int)) ∧ x.cell? ⟨Z1, 4, none⟩ = some (.int .u8 (c : Int)) ∧ x.cell? ⟨Z1, 5, none⟩ = some (.slice A5 m c5)) ∧ (x.cell? ⟨w.heap.size, 0, none⟩ = some (.int .u8 (a : Int)) ∧ x.cell? ⟨w.heap.size, 1, none⟩ = some (.int .u8 (k : Int)) ∧ x.cell? ⟨w.heap.size, 2, none⟩ = some (.int .u8 (s : Int)) ∧ x.cell? ⟨w.heap.size, 3, none⟩ = some (.int .u8 (q : Int)) ∧ x.cell? ⟨w.heap.size, 4, none⟩ = some (.int .u8 (c : Int)) ∧ x.cell? ⟨w.heap.size, 5, none⟩ = some (.slice A2 m c2)) ∧ (x.cell? ⟨Z2, 0, none⟩ = some (.int .u8 (a' : Int)) ∧ x.cell? ⟨Z2, 1, none⟩ = some (.int .u8 (k' : Int)) ∧ x.cell? ⟨Z2, 2, none⟩ = some (.int .u8 (s' : Int)) ∧ x.cell? ⟨Z2, 3, none⟩ = some (.int .u8 (q' : Int)) ∧ x.cell? ⟨Z2, 4, none⟩ = some (.int .u8 (c' : Int)) ∧ x.cell? ⟨Z2, 5, none⟩ = some (.slice A6 m' c6)) ∧ (x.cell? ⟨w.heap.size + 1, 0, none⟩ = some (.int .u8 (a' : Int)) ∧ x.cell? ⟨w.heap.size + 1, 1, none⟩ = some (.int .u8 (k' : Int)) ∧ x.cell? ⟨w.heap.size + 1, 2, none⟩ = some (.int .u8 (s' : Int)) ∧ x.cell? ⟨w.heap.size + 1, 3, none⟩ = some (.int .u8 (q' : Int)) ∧ x.cell? ⟨w.heap.size + 1, 4, none⟩ = some (.int .u8 (c' : Int)) ∧ x.cell? ⟨w.heap.size + 1, 5, none⟩ = some (.slice A4 m' c4)))
            (by kernel_rfl) (by kernel_rfl) (by kernel_rfl) rfl ⟨row6_cells HZ.out.row, row6_cells HU4.out.t.box0, row6_cells HZ2.out.row, row6_cells HU4.out.t.box1⟩ ?_
          iterate 16 (first | (refine Plan.take (v := ?_) rfl (by rfl) ?_ ?_; rotate_left 1; (focus (intro x hx; go_simp <;> (first | with_reducible rfl | rw [if_pos (by omega)]))); simp only [Act.put, List.setIfInBounds_toArray, List.set_cons_zero, List.set_cons_succ]) | (refine Plan.skip rfl (by rfl) ?_; simp only [Act.put, List.setIfInBounds_toArray, List.set_cons_zero, List.set_cons_succ]))
          generalize x18.drew = y0 at *
          refine Plan.loud rfl (fun K hK => ?_)
          go_simp
          refine (of_on HZ.out.holds HM.out).mono ?_
          rintro e y1 ⟨rfl, hb⟩
          replace HU4 := Lib.hid (HU4.out.step hb)
          replace HZ := Lib.hid (HZ.out.step hb)
          replace HZ2 := Lib.hid (HZ2.out.step hb)
          refine hK.out _ _ _ (fun x hx => hx) ⟨row6_cells HZ.out.row, row6_cells HU4.out.t.box0, row6_cells HZ2.out.row, row6_cells HU4.out.t.box1⟩ ?_
          clear hK K hb
          refine Plan.loud rfl (fun K hK => ?_)
          go_simp
          refine (of_on HU4.out.t.h0 HM.out).mono ?_
          rintro e y2 ⟨rfl, hb⟩
          replace HU4 := Lib.hid (HU4.out.step hb)
          replace HZ := Lib.hid (HZ.out.step hb)
          replace HZ2 := Lib.hid (HZ2.out.step hb)
          refine hK.out _ _ _ (fun x hx => hx) ⟨row6_cells HZ.out.row, row6_cells HU4.out.t.box0, row6_cells HZ2.out.row, row6_cells HU4.out.t.box1⟩ ?_
          clear hK K hb
          iterate 5 (first | (refine Plan.take (v := ?_) rfl (by rfl) ?_ ?_; rotate_left 1; (focus (intro x hx; go_simp <;> (first | with_reducible rfl | rw [if_pos (by omega)]))); simp only [Act.put, List.setIfInBounds_toArray, List.set_cons_zero, List.set_cons_succ]) | (refine Plan.skip rfl (by rfl) ?_; simp only [Act.put, List.setIfInBounds_toArray, List.set_cons_zero, List.set_cons_succ]))
          refine Plan.loud rfl (fun K hK => ?_)
          go_simp
          refine (of_on HZ2.out.holds HM'.out).mono ?_
          rintro e y3 ⟨rfl, hb⟩
          replace HU4 := Lib.hid (HU4.out.step hb)
          replace HZ := Lib.hid (HZ.out.step hb)
          replace HZ2 := Lib.hid (HZ2.out.step hb)
          refine hK.out _ _ _ (fun x hx => hx) ⟨row6_cells HZ.out.row, row6_cells HU4.out.t.box0, row6_cells HZ2.out.row, row6_cells HU4.out.t.box1⟩ ?_
          clear hK K hb
          refine Plan.loud rfl (fun K hK => ?_)
          go_simp
          refine (of_on HU4.out.t.h1 HM'.out).mono ?_
          rintro e y4 ⟨rfl, hb⟩
          replace HU4 := Lib.hid (HU4.out.step hb)
          replace HZ := Lib.hid (HZ.out.step hb)
          replace HZ2 := Lib.hid (HZ2.out.step hb)
          refine hK.out _ _ _ (fun x hx => hx) ⟨row6_cells HZ.out.row, row6_cells HU4.out.t.box0, row6_cells HZ2.out.row, row6_cells HU4.out.t.box1⟩ ?_
          clear hK K hb
          iterate 3 (first | (refine Plan.take (v := ?_) rfl (by rfl) ?_ ?_; rotate_left 1; (focus (intro x hx; go_simp <;> (first | with_reducible rfl | rw [if_pos (by omega)]))); simp only [Act.put, List.setIfInBounds_toArray, List.set_cons_zero, List.set_cons_succ]) | (refine Plan.skip rfl (by rfl) ?_; simp only [Act.put, List.setIfInBounds_toArray, List.set_cons_zero, List.set_cons_succ]))
          refine Plan.done ?_
          go_wp2
          go_ret
          exact ⟨rfl, HU4.out.t.below⟩
        · go_simp
          have HUn := Lib.hid (HU3.out.step (new_below x16 (.cells noFrame 24)))
          refine hK.out _ _ _ (fun x hx => hx) HUn.out.fl ?_
          clear hK K
          refine Tree.one rfl (fun K hK => ?_)
          go_simp
          refine (decode_on (g := 0) (l := []) HUn.out.t.tab (Holds.nil _ _ _) rfl (Nat.zero_le _) (Nat.zero_le _)).mono ?_
          rintro e x17 ⟨f7, er, A7, m7, c7, g7, -, her, hm7, rfl, hh7, hg7, hb⟩
          rw [decE_nil] at her
          subst her
          obtain ⟨-, hbb, hrow⟩ := Tf.late (L := f7.b) (v0 := .int .u8 (f7.a : Int)) (v1 := .int .u8 (f7.k : Int)) (v2 := .int .u8 (f7.s : Int)) (v3 := .int .u8 (f7.q : Int)) (v4 := .int .u8 (f7.c : Int)) (v5 := .slice A7 m7 c7) hb hh7 (fun hp => hg7 (by rw [hm7]; exact hp))
          have HU4 := Lib.hid (HU3.out.step hbb)
          replace HZ := Lib.hid (HZ.out.step hbb)
          replace HZ2 := Lib.hid (HZ2.out.step hbb)
          have HUm := Lib.hid (HUn.out.step hb)
          refine hK.out _ _ _ (fun x hx => hx) HUm.out.fl ?_
          clear hK K hb hh7 hg7 hm7 hbb HU3 HUn
          iterate 3 (refine Tree.take (v := ?_) rfl (by rfl) ?_ ?_; rotate_left 1; (focus (intro x hx; go_simp <;> (first | with_reducible rfl | rw [if_pos (by omega)]))); simp only [Act.put, List.setIfInBounds_toArray, List.set_cons_zero, List.set_cons_succ])
          obtain ⟨r0, r1, r2, r3, r4, r5, t0, t1, t2, t3, t4, t5⟩ := row6_facts hrow
          refine Tree.one rfl (fun K hK => ?_)
          go_simp
          refine hK.out _ _ _ (fun x hx => hx) HU4.out.fl ?_
          clear hK K HUm hrow r0 r1 r2 r3 r4 r5 t0 t1 t2 t3 t4 t5
          (refine Tree.take (v := ?_) rfl (by rfl) ?_ ?_; rotate_left 1; (focus (intro x hx; go_simp <;> (first | with_reducible rfl | rw [if_pos (by omega)]))); simp only [Act.put, List.setIfInBounds_toArray, List.set_cons_zero, List.set_cons_succ])
          refine Tree.done ?_
          unfold put6 at HU4 HZ HZ2
          generalize ((((((x17.setCell ⟨x16.heap.size, 0, none⟩ (.int .u8 (f7.a : Int))).setCell ⟨x16.heap.size, 1, none⟩ (.int .u8 (f7.k : Int))).setCell ⟨x16.heap.size, 2, none⟩ (.int .u8 (f7.s : Int))).setCell ⟨x16.heap.size, 3, none⟩ (.int .u8 (f7.q : Int))).setCell ⟨x16.heap.size, 4, none⟩ (.int .u8 (f7.c : Int))).setCell ⟨x16.heap.size, 5, none⟩ (.slice A7 m7 c7)) = x18 at *
          go_upto_region 20 with fail
          replace HU4 := Lib.hid (HU4.out.step (drew_below2 x18))
          replace HZ := Lib.hid (HZ.out.step (drew_below2 x18))
          replace HZ2 := Lib.hid (HZ2.out.step (drew_below2 x18))
          refine region_plan [(true, 0), (true, 1), (true, 2), (true, 3), (true, 4), (true, 5), (true, 6), (true, 7), (true, 8), (true, 9), (true, 10), (true, 11), (true, 12), (true, 13), (true, 14), (true, 16), (false, 15), (false, 17), (true, 18), (true, 19), (true, 20), (true, 21), (true, 23), (false, 22), (false, 24), (true, 25), (true, 26), (true, 27)]
            (fun x => (x.cell? ⟨Z1, 0, none⟩ = some (.int .u8 (a : Int)) ∧ x.cell? ⟨Z1, 1, none⟩ = some (.int .u8 (k : Int)) ∧ x.cell? ⟨Z1, 2, none⟩ = some (.int .u8 (s : Int)) ∧ x.cell? ⟨Z1, 3, none⟩ = some (.int .u8 (q : Int)) ∧ x.cell? ⟨Z1, 4, none⟩ = some (.int .u8 (c : Int)) ∧ x.cell? ⟨Z1, 5, none⟩ = some (.slice A5 m c5)) ∧ (x.cell? ⟨w.heap.size, 0, none⟩ = some (.int .u8 (a : Int)) ∧ x.cell? ⟨w.heap.size, 1, none⟩ = some (.int .u8 (k : Int)) ∧ x.cell? ⟨w.heap.size, 2, none⟩ = some (.int .u8 (s : Int)) ∧ x.cell? ⟨w.heap.size, 3, none⟩ = some (.int .u8 (q : Int)) ∧ x.cell? ⟨w.heap.size, 4, none⟩ = some (.int .u8 (c : Int)) ∧ x.cell? ⟨w.heap.size, 5, none⟩ = some (.slice A2 m c2)) ∧ (x.cell? ⟨Z2, 0, none⟩ = some (.int .u8 (a' : Int)) ∧ x.cell? ⟨Z2, 1, none⟩ = some (.int .u8 (k' : Int)) ∧ x.cell? ⟨Z2, 2, none⟩ = some (.int .u8 (s' : Int)) ∧ x.cell? ⟨Z2, 3, none⟩ = some (.int .u8 (q' : Int)) ∧ x.cell? ⟨Z2, 4, none⟩ = some (.int .u8 (c' : Int)) ∧ x.cell? ⟨Z2, 5, none⟩ = some (.slice A6 m' c6)) ∧ (x.cell? ⟨w.heap.size + 1, 0, none⟩ = some (.int .u8 (a' : Int)) ∧ x.cell? ⟨w.heap.size + 1, 1, none⟩ = some (.int .u8 (k' : Int)) ∧ x.cell? ⟨w.heap.size + 1, 2, none⟩ = some (.int .u8 (s' : Int)) ∧ x.cell? ⟨w.heap.size + 1, 3, none⟩ = some (.int .u8 (q' : Int)) ∧ x.cell? ⟨w.heap.size + 1, 4, none⟩ = some (.int .u8 (c' : Int)) ∧ x.cell? ⟨w.heap.size + 1, 5, none⟩ = some (.slice A4 m' c4)))
            (by kernel_rfl) (by kernel_rfl) (by kernel_rfl) rfl ⟨row6_cells HZ.out.row, row6_cells HU4.out.t.box0, row6_cells HZ2.out.row, row6_cells HU4.out.t.box1⟩ ?_
          iterate 16 (first | (refine Plan.take (v := ?_) rfl (by rfl) ?_ ?_; rotate_left 1; (focus (intro x hx; go_simp <;> (first | with_reducible rfl | rw [if_pos (by omega)]))); simp only [Act.put, List.setIfInBounds_toArray, List.set_cons_zero, List.set_cons_succ]) | (refine Plan.skip rfl (by rfl) ?_; simp only [Act.put, List.setIfInBounds_toArray, List.set_cons_zero, List.set_cons_succ]))
          generalize x18.drew = y0 at *
          refine Plan.loud rfl (fun K hK => ?_)
          go_simp
          refine (of_on HZ.out.holds HM.out).mono ?_
          rintro e y1 ⟨rfl, hb⟩
          replace HU4 := Lib.hid (HU4.out.step hb)
          replace HZ := Lib.hid (HZ.out.step hb)
          replace HZ2 := Lib.hid (HZ2.out.step hb)
          refine hK.out _ _ _ (fun x hx => hx) ⟨row6_cells HZ.out.row, row6_cells HU4.out.t.box0, row6_cells HZ2.out.row, row6_cells HU4.out.t.box1⟩ ?_
          clear hK K hb
          refine Plan.loud rfl (fun K hK => ?_)
          go_simp
          refine (of_on HU4.out.t.h0 HM.out).mono ?_
          rintro e y2 ⟨rfl, hb⟩
          replace HU4 := Lib.hid (HU4.out.step hb)
          replace HZ := Lib.hid (HZ.out.step hb)
          replace HZ2 := Lib.hid (HZ2.out.step hb)
          refine hK.out _ _ _ (fun x hx => hx) ⟨row6_cells HZ.out.row, row6_cells HU4.out.t.box0, row6_cells HZ2.out.row, row6_cells HU4.out.t.box1⟩ ?_
          clear hK K hb
          iterate 5 (first | (refine Plan.take (v := ?_) rfl (by rfl) ?_ ?_; rotate_left 1; (focus (intro x hx; go_simp <;> (first | with_reducible rfl | rw [if_pos (by omega)]))); simp only [Act.put, List.setIfInBounds_toArray, List.set_cons_zero, List.set_cons_succ]) | (refine Plan.skip rfl (by rfl) ?_; simp only [Act.put, List.setIfInBounds_toArray, List.set_cons_zero, List.set_cons_succ]))
          refine Plan.loud rfl (fun K hK => ?_)
          go_simp
          refine (of_on HZ2.out.holds HM'.out).mono ?_
          rintro e y3 ⟨rfl, hb⟩
          replace HU4 := Lib.hid (HU4.out.step hb)
          replace HZ := Lib.hid (HZ.out.step hb)
          replace HZ2 := Lib.hid (HZ2.out.step hb)
          refine hK.out _ _ _ (fun x hx => hx) ⟨row6_cells HZ.out.row, row6_cells HU4.out.t.box0, row6_cells HZ2.out.row, row6_cells HU4.out.t.box1⟩ ?_
          clear hK K hb
          refine Plan.loud rfl (fun K hK => ?_)
          go_simp
          refine (of_on HU4.out.t.h1 HM'.out).mono ?_
          rintro e y4 ⟨rfl, hb⟩
          replace HU4 := Lib.hid (HU4.out.step hb)
          replace HZ := Lib.hid (HZ.out.step hb)
          replace HZ2 := Lib.hid (HZ2.out.step hb)
          refine hK.out _ _ _ (fun x hx => hx) ⟨row6_cells HZ.out.row, row6_cells HU4.out.t.box0, row6_cells HZ2.out.row, row6_cells HU4.out.t.box1⟩ ?_
          clear hK K hb
          iterate 3 (first | (refine Plan.take (v := ?_) rfl (by rfl) ?_ ?_; rotate_left 1; (focus (intro x hx; go_simp <;> (first | with_reducible rfl | rw [if_pos (by omega)]))); simp only [Act.put, List.setIfInBounds_toArray, List.set_cons_zero, List.set_cons_succ]) | (refine Plan.skip rfl (by rfl) ?_; simp only [Act.put, List.setIfInBounds_toArray, List.set_cons_zero, List.set_cons_succ]))
          refine Plan.done ?_
          go_wp2
          go_ret
          exact ⟨rfl, HU4.out.t.below⟩

end Go.Proofs.YtimahjgmapdjdaaDoor
