/-
  lamplightlaw10.ButtonOnce, walked: true, under the conditions on buttons' calls.
-/
import Derived.Test.YtgpgaeakioellaaButT
import Derived.Deep.DeepCutAuto
namespace Go.Proofs.Ytgpgaeakioellaa
set_option linter.unusedVariables false
set_option linter.unusedSimpArgs false
open Go.RowKit

set_option maxRecDepth 20000 in
set_option maxHeartbeats 6400000 in
theorem buttononce_walk {Bl : World → Nat → Bs → Prop} (BC : ButCond Bl) {wh : Int} {g n c g1 n1 c1 : Nat} {A A1 : Option Addr} {l l1 : List UInt8} {w : World} (h : Holds w g A (bcs l)) (hn : l.length = n) (hc : n ≤ c) (hcm : c ≤ 9223372036854775807)
    (h1 : Holds w g1 A1 (bcs l1)) (hn1 : l1.length = n1) (hc1 : n1 ≤ c1) (hcm1 : c1 ≤ 9223372036854775807) :
    Calls Try.prog 4 #[.int .i64 wh, .slice A n c, .slice A1 n1 c1] w fun e w' => e = .returned (.bool true) ∧ Below w.heap.size w w' := by
  obtain ⟨m, hm1, hm2, hm3, hlast⟩ : ∃ m, m ≤ n ∧ m ≤ n1 ∧ m ≤ 30 ∧ (m = n ∨ m = n1 ∨ m = 30) := ⟨min (min n n1) 30, by omega, by omega, by omega, by omega⟩
  obtain ⟨q, hq, hand⟩ := and3 wh
  have HBC := Lib.hid BC
  have HH := Lib.hid h
  have HH1 := Lib.hid h1
  have HL := Lib.hid hn
  have HL1 := Lib.hid hn1
  have HLA := Lib.hid hlast
  clear BC h h1 hn hn1 hlast
  go_enter Try.func4, Try.ntmps4
  go_wp2_with fail
  refine (shown_on HBC.out w).mono ?_
  rintro e x0 ⟨rfl, hb0⟩
  have H0 := Lib.hid (Lb.one q (Lb.zero HBC.out hb0))
  clear hb0
  go_wp2
  generalize x0.alloc (.cells bz 29) = x1 at *
  generalize x0.heap.size = D at *
  go_loopw [9, 10] (fun nv iv wr => ∃ (i nw : Nat), i ≤ m ∧ nw ≤ 13 * i ∧ nv = .int .i64 nw ∧ iv = .int .i64 i ∧ Hid (Lb Bl w D (oneB q bt0) wr)) (fun _ iv _ => m - (intOf iv).toNat)
  case atStart => exact ⟨0, 0, Nat.zero_le _, Nat.zero_le _, rfl, rfl, H0⟩
  case round =>
    clear H0 x1
    obtain ⟨i, nw, hi, hnw, rfl, rfl, H⟩ := hrel
    rename World => y0
    by_cases hlt : i < m
    · have hlt1 : (i : Int) < (n : Int) := by omega
      have hlt2 : (i : Int) < (n1 : Int) := by omega
      have hlt3 : (i : Int) < 30 := by omega
      have hil : i < l.length := by rw [HL.out]; omega
      have hil1 : i < l1.length := by rw [HL1.out]; omega
      obtain ⟨hgw, o, rfl, hcell⟩ := HH.out (by rw [bcs_length]; omega)
      obtain ⟨hgw1, o1, rfl, hcell1⟩ := HH1.out (by rw [bcs_length]; omega)
      have HG : Hid (g < w.heap.size) := Lib.hid hgw
      have HG1 : Hid (g1 < w.heap.size) := Lib.hid hgw1
      have HCL : Hid (w.cell? ⟨g, o + i, none⟩ = some (.int .u8 (l[i].toNat : Int))) := Lib.hid (hcell i _ (bcs_get l i hil))
      have HCL1 : Hid (w.cell? ⟨g1, o1 + i, none⟩ = some (.int .u8 (l1[i].toNat : Int))) := Lib.hid (hcell1 i _ (bcs_get l1 i hil1))
      generalize l[i].toNat = a at *
      generalize l1[i].toNat = a1 at *
      obtain ⟨ho, hho⟩ : ∃ ho, a % 9 = ho := ⟨_, rfl⟩
      obtain ⟨ga, hga⟩ : ∃ ga, a1 % 5 = ga := ⟨_, rfl⟩
      have hrem : (a : Int).tmod 9 = (ho : Int) := by rw [← hho]; rfl
      have hrem1 : (a1 : Int).tmod 5 = (ga : Int) := by rw [← hga]; rfl
      have hho8 : ho ≤ 8 := by omega
      have hga4 : ga ≤ 4 := by omega
      clear hcell hcell1 hgw hgw1 hil hil1 hho hga
      go_wp2_with fail
      refine (HBC.out.set1 hq H.out (d := true) (now := (nw : Int)) (by unfold BI; omega)).mono ?_
      rintro e y1 ⟨rfl, h1, -⟩
      rw [show bt0.set true (nw : Int) = ⟨true, (nw : Int), decide (3 < 0)⟩ from rfl] at h1
      have H1 := Lib.hid h1
      have e0 := (h1.below.cell (p := ⟨g, o + i, none⟩) HG.out).trans HCL.out
      clear h1 H
      go_wp2
      clear e0 y0
      go_loopw [12] (fun kv wr => ∃ (k : Nat), k ≤ ho + 1 ∧ kv = .int .i64 k ∧ Hid (Lb Bl w D (oneB q ⟨true, (nw : Int), decide (3 < k)⟩) wr)) (fun kv _ => ho + 1 - (intOf kv).toNat)
      case atStart => exact ⟨0, Nat.zero_le _, rfl, H1⟩
      case round =>
        clear H1 y1
        obtain ⟨k, hk, rfl, H⟩ := hrel
        rename World => y1
        by_cases hkh : k ≤ ho
        · have hkh1 : (k : Int) ≤ (ho : Int) := by omega
          have HTE := Lib.hid (held_tell (s := (nw : Int)) (m := (nw : Int) + (k : Int)) k rfl)
          have HDU := Lib.hid (held_due (s := (nw : Int)) (m := (nw : Int) + (k : Int)) k rfl)
          by_cases hk3 : k = 3
          · subst hk3
            have H2' := Lib.hid H.out
            clear HTE HDU H hk
            have HB3 : Hid ((⟨true, (nw : Int), false⟩ : Bt).due ((nw : Int) + 3) = true) := Lib.hid (held_due (s := (nw : Int)) 3 rfl)
            have HT3 : Hid ((⟨true, (nw : Int), false⟩ : Bt).tell ((nw : Int) + 3) = ⟨true, (nw : Int), true⟩) := Lib.hid (held_tell (s := (nw : Int)) 3 rfl)
            have H3' : Hid (Lb Bl w D (oneB q ⟨true, (nw : Int), false⟩) y1) := H2'
            clear H2'
            go_wp2_with fail
            refine (HBC.out.press1 hq H3'.out (now := (nw : Int) + 3) (l := [q]) (by unfold BI; omega) (by rw [HB3.out]; rfl)).mono ?_
            rintro e y2 ⟨A2, c2, rfl, hi2, h1, -⟩
            simp only [List.length_nil, List.length_cons] at hi2 ⊢
            rw [HT3.out] at h1
            have H2 : Hid (Lb Bl w D (oneB q ⟨true, (nw : Int), decide (3 < 3 + 1)⟩) y2) := Lib.hid h1
            obtain ⟨hg1, hg2⟩ := hi2.cap
            obtain ⟨gA, rfl, _, e1, _⟩ := hi2.at 0 (by omega)
            have e1' : y2.cell? ⟨gA, 0, none⟩ = some (.int .i64 (q : Int)) := e1
            clear h1 H3' HB3 HT3 hi2 e1
            go_wp2
            go_roundw
            case rel => exact ⟨4, by omega, by go_num, H2⟩
            case measure => simp [intOf]; omega
          · have hk3' : ((k : Int) == 3) = false := by simp; omega
            go_wp2_with fail
            refine (HBC.out.press1 hq H.out (now := (nw : Int) + (k : Int)) (l := []) (by unfold BI; omega) (by rw [HDU.out, decide_eq_false hk3]; rfl)).mono ?_
            rintro e y2 ⟨A2, c2, rfl, hi2, h1, -⟩
            simp only [List.length_nil, List.length_cons] at hi2 ⊢
            rw [HTE.out] at h1
            have H2 := Lib.hid h1
            clear h1 H HTE HDU hi2 hk3
            go_wp2
            go_roundw
            case rel => exact ⟨k + 1, by omega, by go_num, H2⟩
            case measure => simp [intOf]; omega
        · have hkn : k = ho + 1 := by omega
          have hle : ¬ (k : Int) ≤ (ho : Int) := by omega
          generalize (⟨true, (nw : Int), decide (3 < k)⟩ : Bt) = b at *
          clear hkn hkh
          go_wp2_with fail
          refine (HBC.out.set1 hq H.out (d := false) (now := (nw : Int) + (ho : Int)) (by unfold BI; omega)).mono ?_
          rintro e y2 ⟨rfl, h1, -⟩
          rw [show b.set false ((nw : Int) + (ho : Int)) = bt0 from rfl] at h1
          have H2 := Lib.hid h1
          clear h1 H
          go_wp2_with fail
          refine (HBC.out.press1 hq H2.out (now := (nw : Int) + (ho : Int)) (l := []) (by unfold BI; omega) rfl).mono ?_
          rintro e y3 ⟨A2, c2, rfl, hi2, h1, -⟩
          simp only [List.length_nil] at hi2 ⊢
          rw [tell0] at h1
          have H3 := Lib.hid h1
          have e0 := (h1.below.cell (p := ⟨g1, o1 + i, none⟩) HG1.out).trans HCL1.out
          clear h1 H2 hi2
          go_wp2_with fail
          refine (HBC.out.press1 hq H3.out (now := (nw : Int) + (ho : Int) + (ga : Int)) (l := []) (by unfold BI; omega) rfl).mono ?_
          rintro e y4 ⟨A2, c2, rfl, hi2, h1, -⟩
          simp only [List.length_nil] at hi2 ⊢
          rw [tell0] at h1
          have H4 := Lib.hid h1
          clear h1 H3 hi2 e0
          go_wp2_with fail
          refine (HBC.out.down1 hq H4.out).mono ?_
          rintro e y5 ⟨rfl, h1, -⟩
          rw [show bt0.d = false from rfl]
          have H5 := Lib.hid h1
          clear h1 H4
          go_wp2
          go_roundw
          case rel => exact ⟨i + 1, nw + ho + ga, by omega, by omega, by go_num, by go_num, H5⟩
          case measure => simp [intOf]; omega
    · have hkn : m = i := by omega
      subst hkn
      have hex : (¬ (m : Int) < (n : Int)) ∨ ((m : Int) < (n : Int) ∧ ¬ (m : Int) < (n1 : Int)) ∨ ((m : Int) < (n : Int) ∧ (m : Int) < (n1 : Int) ∧ ¬ (m : Int) < 30) := by have := HLA.out; omega
      rcases hex with hl1 | ⟨hl1, hl2⟩ | ⟨hl1, hl2, hl3⟩
      all_goals
        go_wp2
        go_ret
        exact ⟨rfl, H.out.below⟩
end Go.Proofs.Ytgpgaeakioellaa
