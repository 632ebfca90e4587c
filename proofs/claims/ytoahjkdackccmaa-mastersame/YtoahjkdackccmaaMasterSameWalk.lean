/-
  lamplightlaw07.MasterSame, walked: true, whatever came in.
-/
import Derived.Test.YtoahjkdackccmaaMasJ
import Derived.Deep.DeepCutAuto
namespace Go.Proofs.Ytoahjkdackccmaa
set_option linter.unusedVariables false
set_option linter.unusedSimpArgs false
open Go.RowKit

theorem nextM_a (m : Ma) : (nextM m).a = m.addr := by
  unfold nextM
  split
  · rfl
  · split <;> rfl

set_option maxRecDepth 100000 in
set_option maxHeartbeats 12800000 in
theorem mastersame_walk (a : Nat) (P : Option Addr) (n0 c0 : Nat) (ss : List St7) (w : World) (ha : a < 256) (hp : StepsAt w P ss) (hn : ss.length = n0) (hc : n0 ≤ c0) (hm : c0 ≤ 9223372036854775807) :
    Calls Try.prog 7 #[.int .u8 (a : Int), .slice P n0 c0] w fun e w' => e = .returned (.bool true) ∧ Below w.heap.size w w' := by
  obtain ⟨n, hn0, hn100, hlast⟩ : ∃ n, n ≤ n0 ∧ n ≤ 100 ∧ (n = n0 ∨ n = 100) := ⟨min n0 100, by omega, by omega, by omega⟩
  have HL := Lib.hid hn
  have HP := Lib.hid hp
  have HA := Lib.hid ha
  have HLS := Lib.hid hlast
  clear hp hn ha hlast
  go_enter Try.func7, Try.ntmps7
  go_wp2_with fail
  refine (shown_on w).mono ?_
  rintro e x0 ⟨rfl, hb0⟩
  have HB0 := Lib.hid hb0
  clear hb0
  go_wp2_with fail
  refine (new_lm (w := w) HA.out (by decide) HB0.out).mono ?_
  rintro e x1 ⟨rfl, h1, _⟩
  have H1 := Lib.hid h1
  clear h1 HB0
  generalize x0.heap.size = D at *
  go_wp2
  go_loopw [7] (fun i wr => ∃ (k : Nat) (m : Ma), k ≤ n ∧ i = .int .i64 k ∧ Hid (m.addr = a) ∧ Hid (Lm w D k m wr)) (fun i _ => n - (intOf i).toNat)
  case atStart => exact ⟨0, newM a 3, Nat.zero_le _, rfl, Lib.hid rfl, H1⟩
  case round =>
    clear H1
    obtain ⟨k, m, hk, rfl, HAD, H⟩ := hrel
    by_cases hlt : k < n
    · have hlt1 : (k : Int) < (n0 : Int) := by omega
      have hlt2 : (k : Int) < 100 := by omega
      have hkl : k < ss.length := by rw [HL.out]; omega
      obtain ⟨b, o, g, A, c, rfl, hsc, -, hhold, hbc, hcm⟩ := HP.out.at k hkl
      generalize (ss[k]'hkl) = s at *
      have HSC := Lib.hid (hsc.step H.out.below)
      have HHO : Hid (Holds w g A (bcs (s.f.b.take 40))) := by show Holds _ _ _ _; rw [bcs_take]; exact hhold.take 40
      have HBC := Lib.hid hbc
      have HCM := Lib.hid hcm
      obtain ⟨sk, hsk⟩ : ∃ sk, s.k = sk := ⟨_, rfl⟩
      have e0 := HSC.out.c0
      have e1 := HSC.out.c1
      have e2 := HSC.out.c2
      have e3 := HSC.out.c3
      have e4 := HSC.out.c4
      have e5 := HSC.out.c5
      have e6 := HSC.out.c6
      have e7 := HSC.out.c7
      rw [hsk] at e0
      have HSK := Lib.hid hsk
      clear hsc hhold hbc hcm hsk
      go_wp2_with fail
      have hst : stepc s (.slice A s.f.b.length c) = #[.int .i64 sk, .int .u8 (s.f.a : Int), .int .u8 (s.f.k : Int), .int .u8 (s.f.s : Int), .int .u8 (s.f.q : Int), .int .u8 (s.f.c : Int), .slice A s.f.b.length c, .bool s.own] := by rw [← HSK.out]
      rw [← hst]
      refine (frame_on (s := s) (a := a) H.out HBC.out HCM.out).mono ?_
      rintro e x3 ⟨rfl, h3, hb3⟩
      rw [hst]
      clear hst
      have HSC3 := Lib.hid (HSC.out.step hb3)
      have HFB := Lib.hid (frM_b s a m)
      have HFL := Lib.hid (frM_len s a m)
      generalize frM s a m = F at *
      have hb4 := new_below x3 (.cells #[.int .u8 (F.a : Int), .int .u8 (F.k : Int), .int .u8 (F.s : Int), .int .u8 (F.q : Int), .int .u8 (F.c : Int), .slice A F.b.length c] 30)
      have HFX : Hid (Fx (x3.alloc (.cells #[.int .u8 (F.a : Int), .int .u8 (F.k : Int), .int .u8 (F.s : Int), .int .u8 (F.q : Int), .int .u8 (F.c : Int), .slice A F.b.length c] 30)) x3.heap.size F (.slice A F.b.length c)) := heap_alloc_new x3 _
      have H4 := Lib.hid (h3.step hb4)
      have HC4 := Lib.hid (HSC3.out.step hb4)
      have e0 := HC4.out.c0
      rw [HSK.out] at e0
      clear e1 e2 e3 e4 e5 e6 e7 h3 hb3 hb4 HSC HSC3 HC4 H HSK
      go_upto_region 10 with fail
      generalize x3.alloc (.cells #[.int .u8 (F.a : Int), .int .u8 (F.k : Int), .int .u8 (F.s : Int), .int .u8 (F.q : Int), .int .u8 (F.c : Int), .slice A F.b.length c] 30) = x4 at *
      generalize x3.heap.size = G at *
      have HHB : Hid (Hb x4 D A F.b) := Lib.hid (Hb.of_arg (by rw [HFB.out]; exact HHO.out) H4.out.below H4.out.le)
      have r0 := HFX.out.fc.c0
      have r1 := HFX.out.fc.c1
      have r2 := HFX.out.fc.c2
      have r3 := HFX.out.fc.c3
      have r4 := HFX.out.fc.c4
      have r5 := HFX.out.fc.c5
      clear e0 HHO HFB HBC HCM HFX
      by_cases k0 : sk = 0 ∨ sk = 1
      · rcases k0 with rfl | rfl
        · go_wp2_with fail
          refine (send_lm H4.out HHB.out rfl).mono ?_
          rintro e x5 ⟨rfl, h5, _⟩
          have H5 : Hid (Lm w D (k + 1) (sendM m F.b).1 x5) := h5.more (Nat.le_succ _)
          have HA5 : Hid ((sendM m F.b).1.addr = a) := Lib.hid ((sendM_addr m F.b).trans HAD.out)
          generalize (sendM m F.b).1 = m' at *
          generalize (sendM m F.b).2 = er at *
          clear h5
          clear r0 r1 r2 r3 r4 r5 HHB H4
          go_wp2
          go_roundw
          case rel => exact ⟨k + 1, m', by omega, by go_num, HA5, H5⟩
          case measure => simp [intOf]; omega
        · go_wp2_with fail
          refine (send_lm H4.out HHB.out rfl).mono ?_
          rintro e x5 ⟨rfl, h5, _⟩
          have H5 : Hid (Lm w D (k + 1) (sendM m F.b).1 x5) := h5.more (Nat.le_succ _)
          have HA5 : Hid ((sendM m F.b).1.addr = a) := Lib.hid ((sendM_addr m F.b).trans HAD.out)
          generalize (sendM m F.b).1 = m' at *
          generalize (sendM m F.b).2 = er at *
          clear h5
          clear r0 r1 r2 r3 r4 r5 HHB H4
          go_wp2
          go_roundw
          case rel => exact ⟨k + 1, m', by omega, by go_num, HA5, H5⟩
          case measure => simp [intOf]; omega
      · by_cases k1 : sk = 2 ∨ sk = 3 ∨ sk = 4 ∨ sk = 5
        · rcases k1 with rfl | rfl | rfl | rfl
          · go_wp2_with fail
            refine (heard_lm (f := F) H4.out (by omega) HHB.out (by have := HFL.out; omega)).mono ?_
            rintro e x5 ⟨A5, c5, rfl, -, h5, _⟩
            have H5 : Hid (Lm w D (k + 1) (heardM m F).1 x5) := h5
            have HA5 : Hid ((heardM m F).1.addr = a) := Lib.hid ((heardM_addr m F).trans HAD.out)
            generalize (heardM m F).1 = m' at *
            generalize (heardM m F).2 = er at *
            clear h5
            clear r0 r1 r2 r3 r4 r5 HHB H4
            go_wp2
            go_roundw
            case rel => exact ⟨k + 1, m', by omega, by go_num, HA5, H5⟩
            case measure => simp [intOf]; omega
          · go_wp2_with fail
            refine (heard_lm (f := F) H4.out (by omega) HHB.out (by have := HFL.out; omega)).mono ?_
            rintro e x5 ⟨A5, c5, rfl, -, h5, _⟩
            have H5 : Hid (Lm w D (k + 1) (heardM m F).1 x5) := h5
            have HA5 : Hid ((heardM m F).1.addr = a) := Lib.hid ((heardM_addr m F).trans HAD.out)
            generalize (heardM m F).1 = m' at *
            generalize (heardM m F).2 = er at *
            clear h5
            clear r0 r1 r2 r3 r4 r5 HHB H4
            go_wp2
            go_roundw
            case rel => exact ⟨k + 1, m', by omega, by go_num, HA5, H5⟩
            case measure => simp [intOf]; omega
          · go_wp2_with fail
            refine (heard_lm (f := F) H4.out (by omega) HHB.out (by have := HFL.out; omega)).mono ?_
            rintro e x5 ⟨A5, c5, rfl, -, h5, _⟩
            have H5 : Hid (Lm w D (k + 1) (heardM m F).1 x5) := h5
            have HA5 : Hid ((heardM m F).1.addr = a) := Lib.hid ((heardM_addr m F).trans HAD.out)
            generalize (heardM m F).1 = m' at *
            generalize (heardM m F).2 = er at *
            clear h5
            clear r0 r1 r2 r3 r4 r5 HHB H4
            go_wp2
            go_roundw
            case rel => exact ⟨k + 1, m', by omega, by go_num, HA5, H5⟩
            case measure => simp [intOf]; omega
          · go_wp2_with fail
            refine (heard_lm (f := F) H4.out (by omega) HHB.out (by have := HFL.out; omega)).mono ?_
            rintro e x5 ⟨A5, c5, rfl, -, h5, _⟩
            have H5 : Hid (Lm w D (k + 1) (heardM m F).1 x5) := h5
            have HA5 : Hid ((heardM m F).1.addr = a) := Lib.hid ((heardM_addr m F).trans HAD.out)
            generalize (heardM m F).1 = m' at *
            generalize (heardM m F).2 = er at *
            clear h5
            clear r0 r1 r2 r3 r4 r5 HHB H4
            go_wp2
            go_roundw
            case rel => exact ⟨k + 1, m', by omega, by go_num, HA5, H5⟩
            case measure => simp [intOf]; omega
        · by_cases k2 : sk = 6
          · subst k2
            go_wp2_with fail
            refine (missed_lm H4.out (by omega)).mono ?_
            rintro e x5 ⟨rfl, h5, _⟩
            have H5 : Hid (Lm w D (k + 1) (missedM m).1 x5) := h5
            have HA5 : Hid ((missedM m).1.addr = a) := Lib.hid ((missedM_addr m).trans HAD.out)
            generalize (missedM m).1 = m' at *
            generalize (missedM m).2 = er at *
            clear h5
            clear r0 r1 r2 r3 r4 r5 HHB H4
            go_wp2
            go_roundw
            case rel => exact ⟨k + 1, m', by omega, by go_num, HA5, H5⟩
            case measure => simp [intOf]; omega
          · have q0 : (sk == 0) = false := by simp; omega
            have q1 : (sk == 1) = false := by simp; omega
            have q2 : (sk == 2) = false := by simp; omega
            have q3 : (sk == 3) = false := by simp; omega
            have q4 : (sk == 4) = false := by simp; omega
            have q5 : (sk == 5) = false := by simp; omega
            have q6 : (sk == 6) = false := by simp; omega
            have H5 : Hid (Lm w D (k + 1) m x4) := H4.out.more (Nat.le_succ _)
            clear k0 k1 k2
            clear r0 r1 r2 r3 r4 r5 HHB H4
            go_wp2
            go_roundw
            case rel => exact ⟨k + 1, m, by omega, by go_num, HAD, H5⟩
            case measure => simp [intOf]; omega
    · have hkn : n = k := by omega
      subst hkn
      have hl2 : (n : Int) < (n0 : Int) → ¬ (n : Int) < 100 := by have := HLS.out; omega
      have hex : (¬ (n : Int) < (n0 : Int)) ∨ ((n : Int) < (n0 : Int) ∧ ¬ (n : Int) < 100) := by have := HLS.out; omega
      clear hl2
      rcases hex with hl1 | ⟨hl1, hl2⟩
      all_goals
        go_wp2_with fail
        refine (next_lm H.out).mono ?_
        rintro e x3 ⟨A3, c3, rfl, ho3, h3, hb3⟩
        have HO3 := Lib.hid ho3
        have H3 := Lib.hid h3
        clear ho3 h3 hb3 H
        obtain ⟨R, hR⟩ : ∃ R, nextM m = R := ⟨_, rfl⟩
        rw [hR] at HO3 ⊢
        have HR := Lib.hid hR
        clear hR
        go_wp2_with fail
        refine (of_own HO3.out).mono ?_
        rintro e x4 ⟨rfl, hb4⟩
        have hb5 := new_below x4 (.cells (rcs R) 42)
        have HRX : Hid (Rx (x4.alloc (.cells (rcs R) 42)) x4.heap.size R) := heap_alloc_new x4 _
        have H5 := Lib.hid ((H3.out.step hb4).step hb5)
        clear hb4 hb5 H3 HO3
        go_upto_region 21 with fail
        generalize x4.alloc (.cells (rcs R) 42) = x5 at *
        generalize x4.heap.size = W at *
        obtain ⟨nb, hnb⟩ : ∃ nb, R.b.length = nb := ⟨_, rfl⟩
        have HNB := Lib.hid hnb
        have hnb24 : nb ≤ 24 := by rw [← hnb, ← HR.out]; exact (nextM_fits H5.out.ok).2
        rw [hnb]
        clear hnb
        go_wp2
        go_loopw [10] (fun i wr => ∃ j : Nat, j ≤ 10 ∧ i = .int .i64 j ∧ Hid (Lm w D n m wr) ∧ Hid (Rx wr W R)) (fun i _ => 10 - (intOf i).toNat)
        case atStart => exact ⟨0, Nat.zero_le _, rfl, H5, HRX⟩
        case round =>
          clear H5 HRX
          rename World => y0
          obtain ⟨j, hj, rfl, H, HRX⟩ := hrel
          by_cases hj10 : j < 10
          · have hj10' : (j : Int) < 10 := by omega
            go_wp2_with fail
            refine (next_lm H.out).mono ?_
            rintro e y1 ⟨A5, c5, rfl, ho5, h5, hb5⟩
            rw [HR.out] at ho5 ⊢
            rw [HNB.out] at ho5 ⊢
            have hb6 := new_below y1 (.cells #[.int .u8 (R.a : Int), .int .u8 (R.k : Int), .int .u8 (R.s : Int), .int .u8 (R.q : Int), .int .u8 (R.c : Int), .slice A5 nb c5] 30)
            have HFX : Hid (Fx (y1.alloc (.cells #[.int .u8 (R.a : Int), .int .u8 (R.k : Int), .int .u8 (R.s : Int), .int .u8 (R.q : Int), .int .u8 (R.c : Int), .slice A5 nb c5] 30)) y1.heap.size R (.slice A5 nb c5)) := heap_alloc_new y1 _
            have HO5 : Hid (Own1 y1 y0.heap.size A5 nb c5 R.b) := Lib.hid ⟨own_zero ho5, fun g hg => (ho5.lt g hg).1, HNB.out⟩
            have HB6 : Hid (Below y0.heap.size y0 (y1.alloc (.cells #[.int .u8 (R.a : Int), .int .u8 (R.k : Int), .int .u8 (R.s : Int), .int .u8 (R.q : Int), .int .u8 (R.c : Int), .slice A5 nb c5] 30))) := hb5.trans (hb6.mono hb5.size)
            have HO6 := Lib.hid (HO5.out.step hb6)
            clear ho5 h5 hb5 hb6 HO5
            go_upto_region 25 with fail
            generalize y1.alloc (.cells #[.int .u8 (R.a : Int), .int .u8 (R.k : Int), .int .u8 (R.s : Int), .int .u8 (R.q : Int), .int .u8 (R.c : Int), .slice A5 nb c5] 30) = y2 at *
            generalize y1.heap.size = G at *
            have HRX2 := Lib.hid (HRX.out.step HB6.out)
            have hd := drew_below y2
            have hrx := HRX2.out.step hd
            have HFX3 := Lib.hid (HFX.out.step hd)
            have HO7 := Lib.hid (HO6.out.step hd)
            have HB7 : Hid (Below y0.heap.size y0 y2.drew) := HB6.out.trans (hd.mono HB6.out.size)
            have hfc := HFX3.out.fc
            refine region_plan [(true, 0), (true, 2), (false, 1), (true, 3)]
              (fun y => (y.cell? ⟨G, 0, none⟩ = some (.int .u8 (R.a : Int)) ∧ y.cell? ⟨G, 1, none⟩ = some (.int .u8 (R.k : Int)) ∧ y.cell? ⟨G, 2, none⟩ = some (.int .u8 (R.s : Int)) ∧ y.cell? ⟨G, 3, none⟩ = some (.int .u8 (R.q : Int)) ∧ y.cell? ⟨G, 4, none⟩ = some (.int .u8 (R.c : Int)) ∧ y.cell? ⟨G, 5, none⟩ = some (.slice A5 nb c5)) ∧
                y.cell? ⟨W, 0, none⟩ = some (.int .u8 (R.a : Int)) ∧ y.cell? ⟨W, 1, none⟩ = some (.int .u8 (R.k : Int)) ∧ y.cell? ⟨W, 2, none⟩ = some (.int .u8 (R.s : Int)) ∧ y.cell? ⟨W, 3, none⟩ = some (.int .u8 (R.q : Int)) ∧ y.cell? ⟨W, 4, none⟩ = some (.int .u8 (R.c : Int)) ∧ y.cell? ⟨W, 5, none⟩ = some (.string ⟨R.b.toArray⟩)) (by kernel_rfl) (by kernel_rfl) (by kernel_rfl) rfl
              ⟨⟨hfc.c0, hfc.c1, hfc.c2, hfc.c3, hfc.c4, hfc.c5⟩, hrx.rc.c0, hrx.rc.c1, hrx.rc.c2, hrx.rc.c3, hrx.rc.c4, hrx.rc.c5⟩ ?_
            clear hfc hrx hd HFX HO6 HB6 HRX2
            generalize y2.drew = y3 at *
            iterate 2 (refine Plan.take (v := ?_) rfl (by rfl) ?_ ?_; rotate_left 1; (focus (intro x hx; go_simp <;> (first | with_reducible rfl | rw [if_pos (by omega)]))); simp only [Act.put, List.setIfInBounds_toArray, List.set_cons_zero, List.set_cons_succ])
            refine Plan.loud rfl (fun K hK => ?_)
            go_simp
            obtain ⟨gx, hgx, _⟩ := HO7.out.holds
            refine (of_on (f := R) hgx HNB.out).mono ?_
            rintro e y4 ⟨rfl, hb8⟩
            have HFX8 := Lib.hid (HFX3.out.step hb8)
            have HO8 := Lib.hid (HO7.out.step hb8)
            have HB8 : Hid (Below y0.heap.size y0 y4) := HB7.out.trans (hb8.mono HB7.out.size)
            have HRX8 := Lib.hid (HRX.out.step HB8.out)
            have hfc := HFX8.out.fc
            refine hK.out _ _ _ (fun x hx => hx) ⟨⟨hfc.c0, hfc.c1, hfc.c2, hfc.c3, hfc.c4, hfc.c5⟩, HRX8.out.rc.c0, HRX8.out.rc.c1, HRX8.out.rc.c2, HRX8.out.rc.c3, HRX8.out.rc.c4, HRX8.out.rc.c5⟩ ?_
            clear hK K hfc hb8 hgx HFX3 HO7 HB7
            iterate 1 (refine Plan.take (v := ?_) rfl (by rfl) ?_ ?_; rotate_left 1; (focus (intro x hx; go_simp <;> (first | with_reducible rfl | rw [if_pos (by omega)]))); simp only [Act.put, List.setIfInBounds_toArray, List.set_cons_zero, List.set_cons_succ])
            refine Plan.done ?_
            have HC5 := Lib.hid HO8.out.cap
            go_wp2
            go_loopw [12] (fun i z => ∃ (q : Nat) (l : List UInt8), q ≤ nb ∧ i = .int .i64 q ∧ Hid (Own1 z y0.heap.size A5 nb c5 l) ∧ Hid (Fx z G R (.slice A5 nb c5)) ∧ Hid (Below y0.heap.size y0 z)) (fun i _ => nb - (intOf i).toNat)
            case atStart => exact ⟨0, R.b, Nat.zero_le _, rfl, HO8, HFX8, HB8⟩
            case round =>
              clear HO8 HFX8 HB8 HRX8
              rename World => z
              obtain ⟨q, l, hq, rfl, HO, HFX, HB⟩ := hrel
              have e5 := HFX.out.fc.c5
              by_cases hqn : q < nb
              · have hqn' : (q : Int) < (nb : Int) := by omega
                obtain ⟨g, rfl, hg1, hg2, hgc, hgf, hset⟩ := HO.out.at q (by rw [HO.out.len]; exact hqn)
                have hc2 := HO.out.cap
                have HS := Lib.hid (hset 7)
                have HCH : Hid (Ch [g] z (z.setCell ⟨g, q, none⟩ (.int .u8 7))) := (Ch.refl [g] z).setCell (by simp) _
                have HBn : Hid (Below y0.heap.size y0 (z.setCell ⟨g, q, none⟩ (.int .u8 7))) := HB.out.trans (HCH.out.belowAt (by simp; exact hg1) HB.out.size)
                have HFn : Hid (Fx (z.setCell ⟨g, q, none⟩ (.int .u8 7)) G R (.slice (some ⟨g, 0, none⟩) nb c5)) := (HCH.out.block G HFX.out.lt (by simp; exact fun e => own_ne HFX.out HO.out.own rfl (by decide) e.symm)).trans HFX.out
                clear hset hg1 hg2
                go_wp2
                go_roundw
                case rel => exact ⟨q + 1, _, by omega, by go_num, HS, HFn, HBn⟩
                case measure => simp [intOf]; omega
              · have hqn' : ¬ (q : Int) < (nb : Int) := by omega
                go_wp2
                go_roundw
                case rel => exact ⟨j + 1, by omega, by go_num, Lib.hid (H.out.step HB.out), Lib.hid (HRX.out.step HB.out)⟩
                case measure => simp [intOf]; omega
          · have hj10' : ¬ (j : Int) < 10 := by omega
            go_upto_region 31 with fail
            have hd := drew_below y0
            have H7 := Lib.hid (H.out.step hd)
            have HRX7 := Lib.hid (HRX.out.step hd)
            clear hd
            have hRa : R.a = a := by rw [← HR.out, nextM_a, HAD.out]
            have hra : (R.a : Int) = (a : Int) := by rw [hRa]
            clear hRa
            refine region_plan [(true, 0), (true, 1), (true, 2), (true, 3), (true, 4), (true, 5), (true, 6), (true, 7), (true, 8), (true, 9), (true, 10), (true, 11), (false, 12), (true, 13), (true, 14), (true, 15), (true, 16), (true, 17), (true, 18), (true, 19), (true, 20), (false, 21), (true, 22), (true, 23), (true, 24), (false, 25), (true, 26), (true, 27), (true, 28), (true, 29), (true, 30)]
              (fun y => y.cell? ⟨W, 0, none⟩ = some (.int .u8 (R.a : Int)) ∧ y.cell? ⟨W, 1, none⟩ = some (.int .u8 (R.k : Int))) (by kernel_rfl) (by kernel_rfl) (by kernel_rfl) rfl ⟨HRX7.out.rc.c0, HRX7.out.rc.c1⟩ ?_
            generalize y0.drew = y7 at *
            by_cases hst : m.st = 1
            · have hst' : (m.st : Int) = 1 := by omega
              cases hq : m.q with
              | nil =>
                have hRk : (R.k : Int) = 3 := by
                  have : R.k = 3 := by rw [← HR.out]; unfold nextM; rw [if_neg (by omega), hq]
                  omega
                have hlen : (m.q.length : Int) = 0 := by rw [hq]; rfl
                clear hq hst
                iterate 12 (first | (refine Plan.take (v := ?_) rfl (by rfl) ?_ ?_; rotate_left 1; (focus (intro x hx; go_simp <;> (first | with_reducible rfl | rw [if_pos (by omega)]))); simp only [Act.put, List.setIfInBounds_toArray, List.set_cons_zero, List.set_cons_succ]) | (refine Plan.skip rfl (by rfl) ?_; simp only [Act.put, List.setIfInBounds_toArray, List.set_cons_zero, List.set_cons_succ]))
                refine Plan.loud rfl (fun K hK => ?_)
                go_simp
                refine (state_lm H7.out).mono ?_
                rintro e y ⟨rfl, rfl⟩
                refine hK.out _ _ _ (fun x hx => hx) ⟨HRX7.out.rc.c0, HRX7.out.rc.c1⟩ ?_
                clear hK K
                iterate 8 (first | (refine Plan.take (v := ?_) rfl (by rfl) ?_ ?_; rotate_left 1; (focus (intro x hx; go_simp <;> (first | with_reducible rfl | rw [if_pos (by omega)]))); simp only [Act.put, List.setIfInBounds_toArray, List.set_cons_zero, List.set_cons_succ]) | (refine Plan.skip rfl (by rfl) ?_; simp only [Act.put, List.setIfInBounds_toArray, List.set_cons_zero, List.set_cons_succ]))
                refine Plan.loud rfl (fun K hK => ?_)
                go_simp
                refine (state_lm H7.out).mono ?_
                rintro e y ⟨rfl, rfl⟩
                refine hK.out _ _ _ (fun x hx => hx) ⟨HRX7.out.rc.c0, HRX7.out.rc.c1⟩ ?_
                clear hK K
                iterate 3 (first | (refine Plan.take (v := ?_) rfl (by rfl) ?_ ?_; rotate_left 1; (focus (intro x hx; go_simp <;> (first | with_reducible rfl | rw [if_pos (by omega)]))); simp only [Act.put, List.setIfInBounds_toArray, List.set_cons_zero, List.set_cons_succ]) | (refine Plan.skip rfl (by rfl) ?_; simp only [Act.put, List.setIfInBounds_toArray, List.set_cons_zero, List.set_cons_succ]))
                refine Plan.loud rfl (fun K hK => ?_)
                go_simp
                refine (len_lm H7.out).mono ?_
                rintro e y ⟨rfl, rfl⟩
                refine hK.out _ _ _ (fun x hx => hx) ⟨HRX7.out.rc.c0, HRX7.out.rc.c1⟩ ?_
                clear hK K
                iterate 5 (first | (refine Plan.take (v := ?_) rfl (by rfl) ?_ ?_; rotate_left 1; (focus (intro x hx; go_simp <;> (first | with_reducible rfl | rw [if_pos (by omega)]))); simp only [Act.put, List.setIfInBounds_toArray, List.set_cons_zero, List.set_cons_succ]) | (refine Plan.skip rfl (by rfl) ?_; simp only [Act.put, List.setIfInBounds_toArray, List.set_cons_zero, List.set_cons_succ]))
                refine Plan.done ?_
                go_wp2
                go_ret
                exact ⟨rfl, H7.out.below⟩
              | cons b t =>
                have hRk : (R.k : Int) = 2 := by
                  have : R.k = 2 := by rw [← HR.out]; unfold nextM; rw [if_neg (by omega), hq]
                  omega
                have hlen : 0 < m.q.length := by rw [hq, List.length_cons]; omega
                clear hq hst
                iterate 12 (first | (refine Plan.take (v := ?_) rfl (by rfl) ?_ ?_; rotate_left 1; (focus (intro x hx; go_simp <;> (first | with_reducible rfl | rw [if_pos (by omega)]))); simp only [Act.put, List.setIfInBounds_toArray, List.set_cons_zero, List.set_cons_succ]) | (refine Plan.skip rfl (by rfl) ?_; simp only [Act.put, List.setIfInBounds_toArray, List.set_cons_zero, List.set_cons_succ]))
                refine Plan.loud rfl (fun K hK => ?_)
                go_simp
                refine (state_lm H7.out).mono ?_
                rintro e y ⟨rfl, rfl⟩
                refine hK.out _ _ _ (fun x hx => hx) ⟨HRX7.out.rc.c0, HRX7.out.rc.c1⟩ ?_
                clear hK K
                iterate 8 (first | (refine Plan.take (v := ?_) rfl (by rfl) ?_ ?_; rotate_left 1; (focus (intro x hx; go_simp <;> (first | with_reducible rfl | rw [if_pos (by omega)]))); simp only [Act.put, List.setIfInBounds_toArray, List.set_cons_zero, List.set_cons_succ]) | (refine Plan.skip rfl (by rfl) ?_; simp only [Act.put, List.setIfInBounds_toArray, List.set_cons_zero, List.set_cons_succ]))
                refine Plan.loud rfl (fun K hK => ?_)
                go_simp
                refine (state_lm H7.out).mono ?_
                rintro e y ⟨rfl, rfl⟩
                refine hK.out _ _ _ (fun x hx => hx) ⟨HRX7.out.rc.c0, HRX7.out.rc.c1⟩ ?_
                clear hK K
                iterate 3 (first | (refine Plan.take (v := ?_) rfl (by rfl) ?_ ?_; rotate_left 1; (focus (intro x hx; go_simp <;> (first | with_reducible rfl | rw [if_pos (by omega)]))); simp only [Act.put, List.setIfInBounds_toArray, List.set_cons_zero, List.set_cons_succ]) | (refine Plan.skip rfl (by rfl) ?_; simp only [Act.put, List.setIfInBounds_toArray, List.set_cons_zero, List.set_cons_succ]))
                refine Plan.loud rfl (fun K hK => ?_)
                go_simp
                refine (len_lm H7.out).mono ?_
                rintro e y ⟨rfl, rfl⟩
                refine hK.out _ _ _ (fun x hx => hx) ⟨HRX7.out.rc.c0, HRX7.out.rc.c1⟩ ?_
                clear hK K
                iterate 5 (first | (refine Plan.take (v := ?_) rfl (by rfl) ?_ ?_; rotate_left 1; (focus (intro x hx; go_simp <;> (first | with_reducible rfl | rw [if_pos (by omega)]))); simp only [Act.put, List.setIfInBounds_toArray, List.set_cons_zero, List.set_cons_succ]) | (refine Plan.skip rfl (by rfl) ?_; simp only [Act.put, List.setIfInBounds_toArray, List.set_cons_zero, List.set_cons_succ]))
                refine Plan.done ?_
                go_wp2
                go_ret
                exact ⟨rfl, H7.out.below⟩
            · have hst' : ((m.st : Int) == 1) = false := by simp; omega
              have hst2 : ((m.st : Int) != 1) = true := by simp; omega
              have hRk : (R.k : Int) = 1 := by
                have : R.k = 1 := by rw [← HR.out]; unfold nextM; rw [if_pos hst]
                omega
              clear hst
              iterate 12 (first | (refine Plan.take (v := ?_) rfl (by rfl) ?_ ?_; rotate_left 1; (focus (intro x hx; go_simp <;> (first | with_reducible rfl | rw [if_pos (by omega)]))); simp only [Act.put, List.setIfInBounds_toArray, List.set_cons_zero, List.set_cons_succ]) | (refine Plan.skip rfl (by rfl) ?_; simp only [Act.put, List.setIfInBounds_toArray, List.set_cons_zero, List.set_cons_succ]))
              refine Plan.loud rfl (fun K hK => ?_)
              go_simp
              refine (state_lm H7.out).mono ?_
              rintro e y ⟨rfl, rfl⟩
              refine hK.out _ _ _ (fun x hx => hx) ⟨HRX7.out.rc.c0, HRX7.out.rc.c1⟩ ?_
              clear hK K
              iterate 8 (first | (refine Plan.take (v := ?_) rfl (by rfl) ?_ ?_; rotate_left 1; (focus (intro x hx; go_simp <;> (first | with_reducible rfl | rw [if_pos (by omega)]))); simp only [Act.put, List.setIfInBounds_toArray, List.set_cons_zero, List.set_cons_succ]) | (refine Plan.skip rfl (by rfl) ?_; simp only [Act.put, List.setIfInBounds_toArray, List.set_cons_zero, List.set_cons_succ]))
              refine Plan.loud rfl (fun K hK => ?_)
              go_simp
              refine (state_lm H7.out).mono ?_
              rintro e y ⟨rfl, rfl⟩
              refine hK.out _ _ _ (fun x hx => hx) ⟨HRX7.out.rc.c0, HRX7.out.rc.c1⟩ ?_
              clear hK K
              iterate 3 (first | (refine Plan.take (v := ?_) rfl (by rfl) ?_ ?_; rotate_left 1; (focus (intro x hx; go_simp <;> (first | with_reducible rfl | rw [if_pos (by omega)]))); simp only [Act.put, List.setIfInBounds_toArray, List.set_cons_zero, List.set_cons_succ]) | (refine Plan.skip rfl (by rfl) ?_; simp only [Act.put, List.setIfInBounds_toArray, List.set_cons_zero, List.set_cons_succ]))
              refine Plan.loud rfl (fun K hK => ?_)
              go_simp
              refine hK.out _ _ _ (fun x hx => hx) ⟨HRX7.out.rc.c0, HRX7.out.rc.c1⟩ ?_
              clear hK K
              iterate 5 (first | (refine Plan.take (v := ?_) rfl (by rfl) ?_ ?_; rotate_left 1; (focus (intro x hx; go_simp <;> (first | with_reducible rfl | rw [if_pos (by omega)]))); simp only [Act.put, List.setIfInBounds_toArray, List.set_cons_zero, List.set_cons_succ]) | (refine Plan.skip rfl (by rfl) ?_; simp only [Act.put, List.setIfInBounds_toArray, List.set_cons_zero, List.set_cons_succ]))
              refine Plan.done ?_
              go_wp2
              go_ret
              exact ⟨rfl, H7.out.below⟩

end Go.Proofs.Ytoahjkdackccmaa
