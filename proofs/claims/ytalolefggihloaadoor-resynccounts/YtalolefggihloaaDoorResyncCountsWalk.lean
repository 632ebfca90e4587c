/-
  lamplightlaw05.ResyncCounts: whatever it is asked, true; nothing that was there is turned.
-/
import Derived.Test.YtalolefggihloaaDoorResyncBoundsWalk
import Derived.Laws.Cover1
namespace Go.Proofs.YtalolefggihloaaDoor
set_option linter.unusedVariables false
set_option linter.unusedSimpArgs false
open Go.RowKit

theorem ct_snoc (c : Ct) (l : List UInt8) (b : UInt8) : c.run (l ++ [b]) = (c.run l).one b := by
  unfold Ct.run
  rw [List.foldl_append]
  rfl
theorem ct_take (c : Ct) (l : List UInt8) (k : Nat) (hk : k < l.length) : c.run (l.take (k + 1)) = (c.run (l.take k)).one l[k] := by
  rw [List.take_succ_eq_append_getElem hk, ct_snoc]
theorem ct_le (l : List UInt8) : ((Ct.mk 0 0 0).run l).pieces ≤ l.length ∧ ((Ct.mk 0 0 0).run l).long ≤ l.length ∧ ((Ct.mk 0 0 0).run l).n ≤ l.length := by
  have key : ∀ (l : List UInt8) (c : Ct), (c.run l).pieces ≤ c.pieces + l.length ∧ (c.run l).long ≤ c.long + l.length ∧ (c.run l).n ≤ c.n + l.length := by
    intro l
    induction l with
    | nil => intro c; exact ⟨Nat.le_refl _, Nat.le_refl _, Nat.le_refl _⟩
    | cons b l ih =>
      intro c
      have h := ih (c.one b)
      have h1 : (c.one b).pieces ≤ c.pieces + 1 ∧ (c.one b).long ≤ c.long + 1 ∧ (c.one b).n ≤ c.n + 1 := by
        unfold Ct.one
        split
        · refine ⟨?_, ?_, by simp⟩ <;> simp only [] <;> split <;> omega
        · exact ⟨by simp, by simp, by simp⟩
      have h2 : c.run (b :: l) = (c.one b).run l := rfl
      rw [h2, List.length_cons]
      omega
  have := key l ⟨0, 0, 0⟩
  simpa using this
def totK (f : Nat → Nat) (k : Nat) : Nat := (List.range k).foldl (fun n i => n + f i) 0
theorem totK_succ (f : Nat → Nat) (k : Nat) : totK f (k + 1) = totK f k + f k := by
  unfold totK
  rw [List.range_succ, List.foldl_append]
  rfl
theorem totK_zero (f : Nat → Nat) : totK f 0 = 0 := rfl
theorem totK_all (f : Nat → Nat) : totK f 12 = total f := rfl
theorem totK_le (f : Nat → Nat) (N : Nat) (h : ∀ i, f i ≤ N) (k : Nat) : totK f k ≤ k * N := by
  induction k with
  | zero => simp [totK]
  | succ k ih =>
    rw [totK_succ, Nat.add_mul, Nat.one_mul]
    have := h k
    omega

set_option maxHeartbeats 4000000 in
set_option maxRecDepth 100000 in
theorem resynccounts_walk (g : Nat) (A : Option Addr) (l0 : List UInt8) (len cap : Nat) (w : World) (ht : Tab w) (h : Holds w g A (bcs l0)) (hlen : l0.length = len) (hcap : len ≤ cap) (hmx : cap ≤ 9223372036854775807) :
    Calls Tryd.prog 7 #[.slice A len cap] w fun e w' => e = .returned (.bool true) ∧ Below w.heap.size w w' := by
  obtain ⟨i0, hi, hz0', hz1, hz2⟩ := info_parts info_byte
  obtain ⟨m, hm3, hml, hmin⟩ := min_of len 2000 2000 rfl
  have HTB := Lib.hid ht
  have HH := Lib.hid h
  have HL := Lib.hid hlen
  clear h hlen ht
  go_enter Tryd.func7, Tryd.ntmps7
  go_wp2_with fail
  refine (shown_any w HTB.out).mono ?_
  rintro e x1 ⟨rfl, hb1⟩
  have HT1 := Lib.hid (HTB.out.keep (Ch.of_below hb1) (by simp))
  have HW1 := Lib.hid hb1
  have HLL : Hid ((bcs (l0.take m)).length = m) := by show _ = _; rw [bcs_length, List.length_take, HL.out]; omega
  have HH1 : Hid (Holds x1 g A (bcs (l0.take m))) := by
    show Holds _ _ _ _
    rw [bcs_take]
    exact (HH.out.take m).keep (Ch.of_below hb1) (by simp)
  generalize l0.take m = l at *
  clear HH HL HTB hb1
  have hmc : m ≤ cap := by omega
  go_upto_region 2 with fail
  have HO0 := Lib.hid (Own1.empty x1)
  have HW2 := Lib.hid (new_below x1 (.cells #[] 5))
  have HH2 := Lib.hid (HH1.out.keep (Ch.of_below HW2.out) (by simp))
  have hsz2 : (x1.alloc (.cells #[] 5)).heap.size = x1.heap.size + 1 := by simp
  go_wp2_with (at_builtin; first
    | (refine wpList_append_holds rfl (.tmp 13) (.tmp 18) 32 rfl 5 i0 (.int .u8 0) 1 Tryd.underlying32 hi hz0' hz1 hz2 rfl (.slice (some ⟨x1.heap.size, 0, none⟩) 0 0) 0 (bcs []) rfl HO0.out.own g A m cap (bcs l) rfl HLL.out HH2.out (bcs_one _) (by unfold maxLen; omega) (by omega) ?_; intro A3 c3 x3 hown3 hgr3 hat3; rw [← bcs_append, List.nil_append, Nat.zero_add] at hown3; rw [Nat.zero_add] at hat3; have HG3 := Lib.hid (HO0.out.grown (by omega) hgr3 hown3 (by rw [← bcs_length, HLL.out]) hat3); clear hown3 hgr3 hat3; have HL4 := Lib.hid (heap_alloc_new x3 (.cells #[.int .u8 126] 5)))
    | (refine wpList_append_holds rfl (.tmp 19) (.tmp 20) 32 rfl 5 i0 (.int .u8 0) 1 Tryd.underlying32 hi hz0' hz1 hz2 rfl (.slice A3 m c3) m (bcs l) rfl (HG3.out.1.alloc (.cells #[.int .u8 126] 5)).own x3.heap.size (some ⟨x3.heap.size, 0, none⟩) 1 1 (bcs [126]) rfl rfl (Holds.of_row HL4.out) (bcs_one _) (by unfold maxLen; omega) (by omega) ?_; intro A5 c5 x5 hown5 hgr5 hat5; rw [← bcs_append] at hown5; have HG5 := Lib.hid ((HG3.out.1.alloc (.cells #[.int .u8 126] 5)).grown (Nat.le_trans (Nat.le_trans (by simp) HG3.out.2.size) (by simp)) hgr5 hown5 (by rw [List.length_append, ← bcs_length, HLL.out]; rfl) hat5); clear hown5 hgr5 hat5))
  have HW5 : Hid (Below x1.heap.size x1 x5) := ((HW2.out.trans HG3.out.2).trans ((new_below x3 (.cells #[.int .u8 126] 5)).mono (Nat.le_trans (by simp) HG3.out.2.size))).trans HG5.out.2
  have HT5 := Lib.hid (HT1.out.keep (Ch.of_below HW5.out) (by simp))
  have HWW : Hid (Below w.heap.size w x5) := HW1.out.trans (HW5.out.mono HW1.out.size)
  have HO5 := Lib.hid HG5.out.1
  have HLm : Hid ((l ++ [126]).length = m + 1) := HO5.out.len
  have HCT := Lib.hid (counts_told l)
  generalize l ++ [126] = L at *
  clear HO0 HW2 HH2 hsz2 HG3 HL4 HG5 HW5 HT1 HW1 HH1 HLL hi hz0' hz1 hz2 hmin
  go_loop [4, 5, 6, 7] (fun p q r i => ∃ k : Nat, k ≤ m + 1 ∧ i = .int .i64 k ∧ p = .int .i64 (((Ct.mk 0 0 0).run (L.take k)).pieces : Nat) ∧ q = .int .i64 (((Ct.mk 0 0 0).run (L.take k)).long : Nat) ∧ r = .int .i64 (((Ct.mk 0 0 0).run (L.take k)).n : Nat)) (fun _ _ _ i => m + 1 - (intOf i).toNat)
  case atStart => exact ⟨0, by omega, rfl, rfl, rfl, rfl⟩
  case round =>
    obtain ⟨k, hk, rfl, rfl, rfl, rfl⟩ := hrel
    by_cases hlt : k < m + 1
    · have hkl : k < L.length := by rw [HLm.out]; exact hlt
      obtain ⟨gx, rfl, _, hgxl, hc, _, _⟩ := HO5.out.at k hkl
      have HN := Lib.hid (ct_take ⟨0, 0, 0⟩ L k hkl)
      have hcl := ct_le (L.take k)
      rw [List.length_take] at hcl
      obtain ⟨ct, hct⟩ : ∃ ct, ct = (Ct.mk 0 0 0).run (L.take k) := ⟨_, rfl⟩
      rw [← hct] at HN hcl ⊢
      obtain ⟨p, q, r⟩ := ct
      simp only at hcl ⊢
      obtain ⟨b, hb⟩ : ∃ b, L[k]'hkl = b := ⟨_, rfl⟩
      rw [hb] at hc HN
      clear hb hct
      have hlt' : (k : Int) < (m : Int) + 1 := by omega
      by_cases hb : b = 126
      · subst hb
        rw [show ((126 : UInt8).toNat : Int) = 126 from rfl] at hc
        have HN2 : Hid ((Ct.mk 0 0 0).run (L.take (k + 1)) = ⟨p + (if 0 < r then 1 else 0), q + (if 62 < r then 1 else 0), 0⟩) := HN.out
        by_cases h0 : 0 < r
        · by_cases h62 : 62 < r
          · rw [if_pos h0, if_pos h62] at HN2
            have g0 : (0 : Int) < (r : Int) := by omega
            have g62 : (62 : Int) < (r : Int) := by omega
            go_wp2
            go_round
            case rel => exact ⟨k + 1, by omega, by go_num, by rw [HN2.out]; go_num, by rw [HN2.out]; go_num, by rw [HN2.out]; rfl⟩
            case measure => simp [intOf]; omega
          · rw [if_pos h0, if_neg h62] at HN2
            have g0 : (0 : Int) < (r : Int) := by omega
            have g62 : ¬ (62 : Int) < (r : Int) := by omega
            go_wp2
            go_round
            case rel => exact ⟨k + 1, by omega, by go_num, by rw [HN2.out]; go_num, by rw [HN2.out]; rfl, by rw [HN2.out]; rfl⟩
            case measure => simp [intOf]; omega
        · rw [if_neg h0, if_neg (by omega)] at HN2
          have g0 : ¬ (0 : Int) < (r : Int) := by omega
          have g62 : ¬ (62 : Int) < (r : Int) := by omega
          go_wp2
          go_round
          case rel => exact ⟨k + 1, by omega, by go_num, by rw [HN2.out]; rfl, by rw [HN2.out]; rfl, by rw [HN2.out]; rfl⟩
          case measure => simp [intOf]; omega
      · have hbn : ((b.toNat : Int) != 126) = true := by rw [bne_iff_ne]; intro hh; exact hb (by apply UInt8.toNat_inj.1; show b.toNat = 126; omega)
        have HN2 : Hid ((Ct.mk 0 0 0).run (L.take (k + 1)) = ⟨p, q, r + 1⟩) := by
          show _ = _
          rw [HN.out]
          unfold Ct.one
          rw [if_neg hb]
        go_wp2
        go_round
        case rel => exact ⟨k + 1, by omega, by go_num, by rw [HN2.out], by rw [HN2.out], by rw [HN2.out]; go_num⟩
        case measure => simp [intOf]; omega
    · have hkm : k = m + 1 := by omega
      subst hkm
      rw [show L.take (m + 1) = L from List.take_of_length_le (by rw [HLm.out]; exact Nat.le_refl _)]
      have hcl := ct_le L
      rw [HLm.out] at hcl
      generalize (Ct.mk 0 0 0).run L = ct at *
      obtain ⟨pp, qq, rr⟩ := ct
      simp only at hcl HCT ⊢
      obtain ⟨zs, hzs, hz, hzn, hz0⟩ := zero_ex
      have HZ := Lib.hid hzs
      clear hzs
      go_upto_region 17 with fail
      have H6 := Lib.hid (Sd.start HT5.out HWW.out HZ.out)
      obtain ⟨g5, hg5, hg5'⟩ := HO5.out.holds
      have HG5 := Lib.hid (hg5.keep ((Ch.refl [] x5).alloc (.cells zs 30)) (by simp))
      have HG5' : Hid (g5 < x5.heap.size) := (hg5 (by rw [bcs_length, HLm.out]; omega)).1
      clear hz hzn hz0 HZ HT5 HWW HO5 hg5 hg5'
      generalize x5.alloc (.cells zs 30) = x6 at *
      generalize x5.heap.size = D at *
      go_wp2_with fail
      refine (feed_on (l := L) H6.out.tab H6.out.dec HG5.out HLm.out (fun _ => by have := HG5'.out; omega) (by omega)).mono ?_
      rintro e x7 ⟨A7, m7, c7, ts7, rfl, ho7, hf7, hm7, hd7, ht7, hc7⟩
      have HM7 : Hid (m7 = (Dc.zero.feed L).2.length) := by
        show _ = _
        rw [← hf7, List.length_map, ho7.len]
      rw [← HM7.out] at HCT
      have H7 := Lib.hid (H6.out.turn ht7 hd7 hc7)
      rw [HLm.out, Nat.zero_add] at H7
      have hm7' : m7 ≤ m + 1 := by rw [← HLm.out]; exact hm7
      clear ho7 hf7 hm7 hd7 ht7 hc7 H6 HG5 HM7
      generalize (Dc.zero.feed L).1 = d at *
      have HMO := Lib.hid H7.out.dec.most
      go_wp2_with fail
      refine (errors_on H7.out.dec).mono ?_
      rintro e x8 ⟨rfl, hb8⟩
      rw [ecs_lit]
      have HW8 := Lib.hid (H7.out.step hb8).below
      clear hb8 H7
      go_upto_region 19 with fail
      have HE9 := Lib.hid (Er.start x8 d.errs)
      have HW9 : Hid (Below w.heap.size w (x8.alloc (.cells #[.int .i64 (d.errs 0 : Int), .int .i64 (d.errs 1 : Int), .int .i64 (d.errs 2 : Int), .int .i64 (d.errs 3 : Int), .int .i64 (d.errs 4 : Int), .int .i64 (d.errs 5 : Int), .int .i64 (d.errs 6 : Int), .int .i64 (d.errs 7 : Int), .int .i64 (d.errs 8 : Int), .int .i64 (d.errs 9 : Int), .int .i64 (d.errs 10 : Int), .int .i64 (d.errs 11 : Int)] 25))) := HW8.out.alloc HW8.out.size _
      clear HW8
      generalize x8.alloc (.cells #[.int .i64 (d.errs 0 : Int), .int .i64 (d.errs 1 : Int), .int .i64 (d.errs 2 : Int), .int .i64 (d.errs 3 : Int), .int .i64 (d.errs 4 : Int), .int .i64 (d.errs 5 : Int), .int .i64 (d.errs 6 : Int), .int .i64 (d.errs 7 : Int), .int .i64 (d.errs 8 : Int), .int .i64 (d.errs 9 : Int), .int .i64 (d.errs 10 : Int), .int .i64 (d.errs 11 : Int)] 25) = x9 at *
      generalize x8.heap.size = E at *
      go_wp2
      go_loop [9, 11] (fun s i => ∃ k : Nat, k ≤ 12 ∧ i = .int .i64 k ∧ s = .int .i64 ((m7 + totK d.errs k : Nat) : Int)) (fun _ i => 12 - (intOf i).toNat)
      case atStart => exact ⟨0, by omega, rfl, rfl⟩
      case round =>
        obtain ⟨k, hk, rfl, rfl⟩ := hrel
        by_cases hlt : k < 12
        · have hc := HE9.out.cell k hlt
          have hlt' : (k : Int) < 12 := by omega
          have h1 := totK_le d.errs (m + 1) HMO.out k
          have h2 := HMO.out k
          have h3 : k * (m + 1) ≤ 12 * (m + 1) := Nat.mul_le_mul_right _ hk
          have HTK := Lib.hid (totK_succ d.errs k)
          generalize totK d.errs k = tk at *
          generalize d.errs k = ek at *
          go_wp2
          go_round
          case rel => exact ⟨k + 1, by omega, by go_num, by rw [HTK.out]; go_num⟩
          case measure => simp [intOf]; omega
        · have hk12 : k = 12 := by omega
          subst hk12
          rw [totK_all, HCT.out.1]
          have c10 := HE9.out.cell 10 (by decide)
          have c0 := HE9.out.cell 0 (by decide)
          rw [HCT.out.2.1] at c10
          rw [HCT.out.2.2] at c0
          go_wp2
          go_ret
          exact ⟨rfl, HW9.out⟩

end Go.Proofs.YtalolefggihloaaDoor
