/-
  lamplightlaw08.SlaveKeeps, walked: true, whatever came in.
-/
import Derived.Test.YtabedmkhhlmbkaaSlaS
namespace Go.Proofs.Ytabedmkhhlmbkaa
set_option linter.unusedVariables false
set_option linter.unusedSimpArgs false
open Go.RowKit

theorem keep_offer (a : Nat) (B : List UInt8) (h1 : B.length ≠ 0) (h2 : B.length ≤ 24) : offerS (newS a) B = (⟨a, 0, 0, 0, B⟩, 0) := by
  unfold offerS newS
  rw [if_neg (by omega), if_neg (by simp)]
theorem keep_full (a s : Nat) (B : List UInt8) (h1 : B.length ≠ 0) : offerS ⟨a, s, 0, 0, B⟩ [121] = (⟨a, s, 0, 0, B⟩, 5) := by
  unfold offerS
  rw [if_neg (by simp), if_pos h1]
theorem keep_open (a s v : Nat) (B : List UInt8) : takeS ⟨a, s, 0, 0, B⟩ ⟨a, 1, v, 0, 0, []⟩ = (⟨a, v, 0, 0, B⟩, ⟨a, 4, v, 0, 0, []⟩, [], true) := by
  unfold takeS
  rw [if_neg (by simp), if_pos rfl]
theorem keep_poll (a s : Nat) (B : List UInt8) (h : s ≠ 0) : takeS ⟨a, s, 0, 0, B⟩ ⟨a, 3, s, 0, 0, []⟩ = (⟨a, s, 0, 0, B⟩, ⟨a, 5, s, 0, 0, B⟩, [], true) := by
  unfold takeS
  rw [if_neg (by simp), if_neg (by simp), if_neg (by simp [h])]
  have e : cmdS (gotS ⟨a, s, 0, 0, B⟩ 0) ⟨a, 3, s, 0, 0, []⟩ = (⟨a, s, 0, 0, B⟩, []) := by simp [cmdS, gotS]
  rw [e]
  rfl

set_option maxRecDepth 100000 in
set_option maxHeartbeats 12800000 in
theorem slavekeeps_walk (a g1 : Nat) (P1 : Option Addr) (lb : List UInt8) (n1 c1 g2 : Nat) (P : Option Addr) (l : List UInt8) (n0 c0 : Nat) (w : World) (ha : a < 256) (hp1 : Holds w g1 P1 (bcs lb)) (hn1 : lb.length = n1) (hc1 : n1 ≤ c1) (hm1 : c1 ≤ 9223372036854775807)
    (hp : Holds w g2 P (bcs l)) (hn : l.length = n0) (hc : n0 ≤ c0) (hm : c0 ≤ 9223372036854775807) :
    Calls Try.prog 8 #[.int .u8 (a : Int), .slice P1 n1 c1, .slice P n0 c0] w fun e w' => e = .returned (.bool true) ∧ Below w.heap.size w w' := by
  obtain ⟨i0, hi0, hz0, hz1, hz2⟩ := info_parts info_byte
  obtain ⟨n, hn0, hn30, hlast⟩ : ∃ n, n ≤ n0 ∧ n ≤ 30 ∧ (n = n0 ∨ n = 30) := ⟨min n0 30, by omega, by omega, by omega⟩
  obtain ⟨m, hm23, hmn, hmin⟩ := min_of n1 23 23 rfl
  have HL := Lib.hid hn
  have HP := Lib.hid hp
  have HL1 := Lib.hid hn1
  have HP1 := Lib.hid hp1
  have HA := Lib.hid ha
  have HLS := Lib.hid hlast
  clear hp hn ha hlast hp1 hn1
  go_enter Try.func8, Try.ntmps8
  go_wp2_with fail
  refine (shown_on w).mono ?_
  rintro e x0 ⟨rfl, hb0⟩
  have HB0 := Lib.hid hb0
  clear hb0
  go_wp2_with fail
  refine (sla_cond.new (w := w) HA.out HB0.out).mono ?_
  rintro e x1 ⟨rfl, h1, _⟩
  have H0 := Lib.hid h1
  clear h1 HB0
  generalize x0.heap.size = S at *
  have hbn := new_below x1 (.cells #[.int .u8 1] 5)
  have H1 := Lib.hid (H0.out.step hbn)
  have hown : (x1.alloc (.cells #[.int .u8 1] 5)).ownsRow x1.heap.size 5 1 (.slice (some ⟨x1.heap.size, 0, none⟩) 1 1) 1 [.int .u8 1] :=
    ⟨rfl, .inr ⟨x1.heap.size, 1, #[.int .u8 1], rfl, Nat.le_refl _, heap_alloc_new x1 _, Nat.le_refl _, by unfold maxLen; omega, rfl, rfl⟩⟩
  have HOW := Lib.hid hown
  have HBN := Lib.hid hbn
  have HHT : Hid (Holds (x1.alloc (.cells #[.int .u8 1] 5)) g1 P1 (bcs (lb.take m))) := by
    show Holds _ _ _ _
    rw [bcs_take]
    exact (HP1.out.keep (F := []) (Ch.of_below H1.out.below) (by simp)).take m
  have HTL : Hid ((bcs (lb.take m)).length = m * 1) := by show _ = _; rw [bcs_length, List.length_take, HL1.out]; omega
  clear hbn hown
  go_wp2_with (first
    | (at_builtin; refine wpList_append_wide rfl (.tmp 20) (.tmp 25) 28 rfl x1.heap.size 5 i0 (.int .u8 0) 1 1 Try.underlying28 hi0 hz0 hz1 hz2 rfl (by decide) (.slice (some ⟨x1.heap.size, 0, none⟩) 1 1) 1 [.int .u8 1] rfl HOW.out g1 P1 m c1 (bcs (lb.take m)) rfl HTL.out HHT.out (bcs_one _) (by unfold maxLen; omega) (by omega) (by simp) ?_; intro A2 c2 x2 hown2 hgr2))
  have hb2 : Below x1.heap.size x1 x2 := HBN.out.trans ((Below.refl _ _).grown hgr2 (by simp) (fun k hk => by simp [Value.ownBlock] at hk; omega))
  obtain ⟨B, hB⟩ : ∃ B, 1 :: lb.take m = B := ⟨_, rfl⟩
  have HBL : Hid (B.length = 1 + m) := by show _ = _; rw [← hB, List.length_cons, List.length_take, HL1.out]; omega
  have HO2 : Hid (x2.ownsRow 0 5 1 (.slice A2 (1 + m) c2) (1 + m) (bcs B)) := by
    have h := own_zero hown2
    rw [show ([.int .u8 1] ++ bcs (lb.take m) : List Value) = bcs B by rw [← hB]; rfl] at h
    exact h
  have H2 := Lib.hid (H0.out.step hb2)
  clear hown2 hgr2 hb2 H0 H1 HOW HBN HHT HTL hB
  obtain ⟨nB, hnB⟩ : ∃ nB, 1 + m = nB := ⟨_, rfl⟩
  rw [hnB] at HBL HO2
  have hnb24 : nB ≤ 24 := by omega
  have hnb1 : 1 ≤ nB := by omega
  rw [hnB]
  clear hnB
  have HHB : Hid (Hb x2 S A2 B) := Lib.hid (Hb.own HO2.out HBL.out)
  go_wp2_with fail
  refine (sla_cond.offer (l := B) H2.out HHB.out HBL.out).mono ?_
  rintro e x3 ⟨rfl, h3, hf3⟩
  rw [keep_offer a B (by rw [HBL.out]; omega) (by rw [HBL.out]; omega)] at h3 ⊢
  have H3 := Lib.hid h3
  have HO3 := Lib.hid (own_ft HO2.out hf3 (by decide))
  clear h3 hf3 H2 HO2 HHB
  go_wp2_with fail
  refine (take_at sla_cond (f := ⟨a, 1, 1, 0, 0, []⟩) H3.out (Hb.empty _ _ _) (Nat.zero_le _) (by show (1 : Nat) < 256; omega) (keep_open a 0 1 B)).mono ?_
  rintro e x4 ⟨A4, c4, B4, d4, rfl, o1, o2, h4, hf4⟩
  have H4 := Lib.hid h4
  have HO4 := Lib.hid (own_ft HO3.out hf4 (by decide))
  clear o1 o2 h4 hf4 H3 HO3
  go_wp2
  go_loopw [10, 9] (fun i sv wr => ∃ (k s : Nat), k ≤ n ∧ i = .int .i64 k ∧ sv = .int .u8 (s : Int) ∧ 1 ≤ s ∧ s < 256 ∧ Hid (Ls w S ⟨a, s, 0, 0, B⟩ wr) ∧ Hid (wr.ownsRow 0 5 1 (.slice A2 nB c2) nB (bcs B))) (fun i _ _ => n - (intOf i).toNat)
  case atStart => exact ⟨0, 1, Nat.zero_le _, rfl, rfl, by omega, by omega, H4, HO4⟩
  case round =>
    clear H4 HO4
    obtain ⟨i, s, hi, rfl, rfl, hs1, hs2, H, HO⟩ := hrel
    rename World => y0
    by_cases hlt : i < n
    · have hlt1 : (i : Int) < (n0 : Int) := by omega
      have hlt2 : (i : Int) < 30 := by omega
      have hil : i < l.length := by rw [HL.out]; omega
      obtain ⟨_, o, rfl, hcell⟩ := HP.out.keep (F := []) (Ch.of_below H.out.below) (by simp) (by rw [bcs_length]; omega)
      have ck := hcell i _ (bcs_get l i hil)
      obtain ⟨v, hv⟩ : ∃ v, (l[i]'hil).toNat = v := ⟨_, rfl⟩
      have hv256 : v < 256 := by rw [← hv]; exact (l[i]'hil).toNat_lt
      rw [hv] at ck
      clear hcell hv
      by_cases hv2 : 200 ≤ v
      · have hv3 : (200 : Int) ≤ (v : Int) := by omega
        go_wp2_with fail
        refine (take_at sla_cond (f := ⟨a, 1, v, 0, 0, []⟩) H.out (Hb.empty _ _ _) (Nat.zero_le _) hv256 (keep_open a s v B)).mono ?_
        rintro e y1 ⟨A5, c5, B5, d5, rfl, o1, o2, h5, hf5⟩
        simp only [List.length_nil] at o1 o2 ⊢
        have H5 := Lib.hid h5
        have HO5 := Lib.hid (own_ft HO.out hf5 (by decide))
        have hb6 := new_below y1 (.cells #[.int .u8 (a : Int), .int .u8 4, .int .u8 (v : Int), .int .u8 0, .int .u8 0, .slice A5 0 c5] 30)
        have HF6 : Hid (Fx (y1.alloc (.cells #[.int .u8 (a : Int), .int .u8 4, .int .u8 (v : Int), .int .u8 0, .int .u8 0, .slice A5 0 c5] 30)) y1.heap.size ⟨a, 4, v, 0, 0, []⟩ (.slice A5 0 c5)) := heap_alloc_new y1 _
        have H6 := Lib.hid (H5.out.step hb6)
        have HO6 := Lib.hid (own_ft (B := 0) (T := []) HO5.out (Ft.of_below hb6) (by simp))
        clear o1 o2 h5 hf5 H HO ck hb6 H5 HO5
        go_upto_region 14 with fail
        generalize y1.alloc (.cells #[.int .u8 (a : Int), .int .u8 4, .int .u8 (v : Int), .int .u8 0, .int .u8 0, .slice A5 0 c5] 30) = y2 at *
        generalize y1.heap.size = G at *
        have f1 := HF6.out.fc.c1
        have f2 := HF6.out.fc.c2
        clear HF6
        go_wp2
        go_roundw
        case rel => exact ⟨i + 1, v, by omega, by go_num, rfl, by omega, hv256, H6, HO6⟩
        case measure => simp [intOf]; omega
      · have hv3 : ¬ (200 : Int) ≤ (v : Int) := by omega
        go_wp2_with fail
        refine (take_at sla_cond (f := ⟨a, 3, s, 0, 0, []⟩) H.out (Hb.empty _ _ _) (Nat.zero_le _) hs2 (keep_poll a s B (by omega))).mono ?_
        rintro e y1 ⟨A5, c5, B5, d5, rfl, o1, o2, h5, hf5⟩
        simp only [List.length_nil] at o2 ⊢
        rw [HBL.out] at o1 ⊢
        have H5 := Lib.hid h5
        have HO5 := Lib.hid (own_ft HO.out hf5 (by decide))
        have hb6 := new_below y1 (.cells #[.int .u8 (a : Int), .int .u8 5, .int .u8 (s : Int), .int .u8 0, .int .u8 0, .slice A5 nB c5] 30)
        have HF6 : Hid (Fx (y1.alloc (.cells #[.int .u8 (a : Int), .int .u8 5, .int .u8 (s : Int), .int .u8 0, .int .u8 0, .slice A5 nB c5] 30)) y1.heap.size ⟨a, 5, s, 0, 0, B⟩ (.slice A5 nB c5)) := heap_alloc_new y1 _
        have H6 := Lib.hid (H5.out.step hb6)
        have HO6 := Lib.hid (own_ft (B := 0) (T := []) HO5.out (Ft.of_below hb6) (by simp))
        have HA6 := Lib.hid (own_ft (B := 0) (T := []) (own_zero o1) (Ft.of_below hb6) (by simp))
        clear o1 o2 h5 hf5 H HO ck hb6 H5 HO5
        go_upto_region 17 with fail
        generalize y1.alloc (.cells #[.int .u8 (a : Int), .int .u8 5, .int .u8 (s : Int), .int .u8 0, .int .u8 0, .slice A5 nB c5] 30) = y2 at *
        generalize y1.heap.size = G at *
        have f3 := HF6.out.fc.c3
        have f5 : y2.cell? ⟨G, 5, none⟩ = some (.slice A5 nB c5) := HF6.out.fc.c5
        have k1 := convert_own HA6.out (l := B) HBL.out
        have k2 := convert_own HO6.out (l := B) HBL.out
        have hcv := const_one y2 #[.int .u8 121] 1 1
        have HB0 := Lib.hid (new_below y2 (.cells #[.int .u8 121] 5 (1, 2)))
        have HH0 := Lib.hid (Hb.lit y2 S [121] (1, 2))
        have H7 := Lib.hid (H6.out.step HB0.out)
        have HO7 := Lib.hid (own_ft (B := 0) (T := []) HO6.out (Ft.of_below HB0.out) (by simp))
        clear HF6 HA6 HO6 H6
        go_wp2_with fail
        clear hcv k1 k2 f3 f5
        refine (sla_cond.offer (l := [121]) H7.out HH0.out rfl).mono ?_
        rintro e y3 ⟨rfl, h8, hf8⟩
        rw [keep_full a s B (by rw [HBL.out]; omega)] at h8 ⊢
        have H8 := Lib.hid h8
        have HO8 := Lib.hid (own_ft HO7.out hf8 (by decide))
        clear h8 hf8 H7 HO7 HB0 HH0
        go_wp2
        go_roundw
        case rel => exact ⟨i + 1, s, by omega, by go_num, rfl, hs1, hs2, H8, HO8⟩
        case measure => simp [intOf]; omega
    · have hkn : n = i := by omega
      subst hkn
      have hd : Hid (decide (B.length ≠ 0) = true) := by show _ = _; rw [HBL.out]; simp; omega
      have hex : (¬ (n : Int) < (n0 : Int)) ∨ ((n : Int) < (n0 : Int) ∧ ¬ (n : Int) < 30) := by have := HLS.out; omega
      rcases hex with hl1 | ⟨hl1, hl2⟩
      all_goals
        go_wp2_with fail
        refine (sla_cond.pending H.out).mono ?_
        rintro e z ⟨rfl, rfl⟩
        rw [hd.out]
        go_wp2
        go_ret
        exact ⟨rfl, H.out.below⟩

end Go.Proofs.Ytabedmkhhlmbkaa
