/-
  lamplightlaw09.PollAgain, walked: true, under the conditions on poll's calls.
-/
import Derived.Test.YtkghbdikbbeoaaaPolT
import Derived.Deep.DeepCutAuto
namespace Go.Proofs.Ytkghbdikbbeoaaa
set_option linter.unusedVariables false
set_option linter.unusedSimpArgs false
open Go.RowKit

set_option maxRecDepth 20000 in
set_option maxHeartbeats 12800000 in
theorem pollagain_walk {Pl : World → Nat → Nat → Nat → Po → Prop} (PC : PolCond Pl) {g n c fr : Nat} {A : Option Addr} {l : List UInt8} {wh : Int} {w : World} (h : Holds w g A (bcs l)) (hn : l.length = n) (hc : n ≤ c) (hcm : c ≤ 9223372036854775807) (hfr : fr < 65536) :
    Calls Try.prog 5 #[.slice A n c, .int .i64 wh, .int .u16 (fr : Int)] w fun e w' => e = .returned (.bool true) ∧ Below w.heap.size w w' := by
  obtain ⟨p, hp40, hpn, hpe, hmin⟩ := min40 n
  have hpc : p ≤ c := by omega
  have HPC := Lib.hid PC
  have HH : Hid (Holds w g A (bcs (l.take p))) := by show Holds _ _ _ _; rw [bcs_take]; exact h.take p
  have HLP : Hid ((l.take p).length = p) := by show _ = _; rw [List.length_take]; omega
  clear PC h hn hpe
  generalize l.take p = lp at *
  go_enter Try.func5, Try.ntmps5
  go_wp2_with fail
  refine (shown_on HPC.out w).mono ?_
  rintro e x0 ⟨rfl, hb0⟩
  have HB0 := Lib.hid hb0
  clear hb0
  go_wp2_with fail
  refine (HPC.out.newL (w := w) HB0.out (HH.out.keep (F := []) (Ch.of_below HB0.out) (by simp)) HLP.out hp40 hpc hcm).mono ?_
  rintro e x1 ⟨D, rfl, h1, hb1⟩
  have H1 := Lib.hid h1
  clear h1 hb1 HB0
  generalize x0.heap.size = L at *
  generalize x1.heap.size = U at *
  have HAV : Hid (∀ e ∈ (newP lp).l, e.d = false) := Lib.hid (newP_alive lp)
  generalize newP lp = s0 at *
  clear HH HLP hp40 hpn hmin hpc hc hcm
  go_wp2_with fail
  refine (HPC.out.addrsL H1.out).mono ?_
  rintro e x2 ⟨Ax, cx, rfl, ho, h2, _⟩
  have H2 := Lib.hid h2
  have HUB : Hid (U ≤ x1.heap.size) := Lib.hid H1.out.us
  have HAL : Hid (Al9 x2 x1.heap.size s0.l.length Ax cx s0.bytes) := Lib.hid ⟨ho, bytes_len s0⟩
  have HOK := Lib.hid H1.out.ok
  obtain ⟨hncx, hcxm⟩ := HAL.out.cap
  have HRL : Hid (s0.row.length = s0.l.length) := Lib.hid (row_len s0)
  clear h2 ho H1
  generalize x1.heap.size = B at *
  obtain ⟨n2, hn2⟩ : ∃ n2, s0.l.length = n2 := ⟨_, rfl⟩
  have HN2 := Lib.hid hn2
  rw [hn2] at HAL hncx HRL ⊢
  have hn240 : n2 ≤ 40 := by have := HOK.out.len; omega
  clear hn2
  by_cases hz : n2 = 0
  · subst hz
    go_wp2
    go_ret
    exact ⟨rfl, H2.out.below⟩
  have hz0 : 0 < n2 := by omega
  have hz1 : ¬ (n2 : Int) = 0 := by omega
  obtain ⟨i, hi, hpl1, hpl2⟩ := place_at wh n2 hz0
  have hi1 : (i : Int) < (n2 : Int) := by omega
  have hil : i < s0.l.length := by rw [HN2.out]; exact hi
  obtain ⟨ga, a, rfl, _, e0, hra⟩ := HAL.out.num HOK.out i hi
  rw [row_pe hil] at hra
  injection hra with hra
  have HIF : Hid (I64 (fr : Int)) := Lib.hid ⟨by omega, by omega⟩
  obtain ⟨q0, hq1, hq2, hq3, hq4⟩ := OneD.make HOK.out HAV.out hil HIF.out
  have hq5 := hq2.addr hq3.symm
  rw [hra] at hq1 hq4 hq5
  have HQ1 := Lib.hid hq1
  have HQ2 := Lib.hid hq2
  have HQ3 := Lib.hid hq3
  have HQ4 := Lib.hid hq4
  have HQ5 := Lib.hid hq5.symm
  have HQL : Hid (q0.l.length = n2) := Lib.hid (by rw [← row_len q0, hq3, HRL.out])
  clear hq1 hq2 hq3 hq4 hq5 hra hil
  go_wp2_with fail
  refine (HPC.out.deadL H2.out HIF.out).mono ?_
  rintro e y1 ⟨rfl, h1, hc1⟩
  rw [HQ1.out] at h1 ⊢
  simp only at h1 ⊢
  have H3 := Lib.hid h1
  clear h1 hc1 H2 HAL e0 HQ1
  go_wp2_with fail
  refine (HPC.out.isL H3.out).mono ?_
  rintro e y2 ⟨rfl, h1, _⟩
  rw [HQ4.out]
  have H4 := Lib.hid h1
  clear h1 H3 HQ4
  go_wp2
  go_loopw [12] (fun j wr => ∃ (k : Nat) (q : Po), k ≤ 101 ∧ j = .int .i64 k ∧ Hid (OneD q i ((fr : Int) + 20 * (((k - 1) / 20 : Nat) : Int))) ∧ Hid (q.l.length = n2) ∧ Hid ((pe q.l i).a = a) ∧ Hid (Lp Pl w L U D q wr)) (fun j _ => 101 - (intOf j).toNat)
  case atStart => exact ⟨0, q0, by omega, rfl, by simpa using HQ2, HQL, HQ5, H4⟩
  case round =>
    clear H4 HQ2 HQL HQ5 HQ3 q0
    obtain ⟨k, q, hk, rfl, HO, HL, HA, H⟩ := hrel
    rename World => y0
    by_cases hlt : k < 101
    · have hlt1 : (k : Int) ≤ 100 := by omega
      have HI : Hid (I64 ((fr : Int) + (k : Int))) := Lib.hid ⟨by omega, by omega⟩
      obtain ⟨r, hr⟩ : ∃ r, k % 20 = r := ⟨_, rfl⟩
      have hq1 : (k : Int).tmod 20 = (r : Int) := by rw [← hr]; rfl
      by_cases hdue : 0 < k ∧ r = 0
      · as_aux_lemma =>
          obtain ⟨hk0, hr0⟩ := hdue
          have hk01 : (0 : Int) < (k : Int) := by omega
          subst hr0
          obtain ⟨q2, hx1, hx2, hx3⟩ := HO.out.due (t := (fr : Int) + (k : Int)) HI.out (by omega)
          rw [HA.out] at hx1
          have HX1 := Lib.hid hx1
          have HO2 : Hid (OneD q2 i ((fr : Int) + 20 * (((k + 1 - 1) / 20 : Nat) : Int))) := by
            have e : (fr : Int) + 20 * (((k + 1 - 1) / 20 : Nat) : Int) = (fr : Int) + (k : Int) := by omega
            show OneD _ _ _
            rw [e]; exact hx2
          have HL2 : Hid (q2.l.length = n2) := Lib.hid (by rw [← row_len q2, hx3, row_len, HL.out])
          have HA2 : Hid ((pe q2.l i).a = a) := Lib.hid (by rw [HO.out.addr hx3, HA.out])
          clear hx1 hx2 hx3 hr
          go_wp2_with fail
          refine (HPC.out.nextL H.out HI.out).mono ?_
          rintro e y1 ⟨rfl, h1, hc1⟩
          rw [HX1.out] at h1 ⊢
          simp only at h1 ⊢
          have H2 := Lib.hid h1
          clear h1 hc1 H HO HL HA HX1
          go_wp2
          go_roundw
          case rel => exact ⟨k + 1, q2, by omega, by go_num, HO2, HL2, HA2, H2⟩
          case measure => simp [intOf]; omega
      · have hnd : (k = 0 ∧ r = 0) ∨ (0 < k ∧ ¬ r = 0) := by
          by_cases h0 : k = 0
          · subst h0; exact .inl ⟨rfl, by omega⟩
          · exact .inr ⟨by omega, fun h => hdue ⟨by omega, h⟩⟩
        have hT : (fr : Int) + (k : Int) < (fr : Int) + 20 * (((k - 1) / 20 : Nat) : Int) + 20 := by
          rcases hnd with ⟨h1, _⟩ | ⟨h1, h2⟩ <;> omega
        have HTT : Hid ((fr : Int) + 20 * (((k + 1 - 1) / 20 : Nat) : Int) = (fr : Int) + 20 * (((k - 1) / 20 : Nat) : Int)) := Lib.hid (by
          rcases hnd with ⟨h1, _⟩ | ⟨h1, h2⟩ <;> omega)
        clear hdue
        have hdec : (k = 0) ∨ ((0 : Int) < (k : Int) ∧ ((r : Int) == 0) = false) := by
          rcases hnd with ⟨h1, _⟩ | ⟨h1, h2⟩
          · exact .inl h1
          · exact .inr ⟨by omega, by simp; omega⟩
        clear hnd
        by_cases hone : n2 = 1
        · as_aux_lemma =>
            have HX1 := Lib.hid (HO.out.alone hT (by rw [HL.out]; exact hone))
            have HO2 : Hid (OneD q i ((fr : Int) + 20 * (((k + 1 - 1) / 20 : Nat) : Int))) := by show OneD _ _ _; rw [HTT.out]; exact HO.out
            have hone2 : ¬ (1 : Int) < (n2 : Int) := by omega
            clear hT hr hone
            go_wp2_with fail
            refine (HPC.out.nextL H.out HI.out).mono ?_
            rintro e y1 ⟨rfl, h1, hc1⟩
            rw [HX1.out] at h1 ⊢
            simp only at h1 ⊢
            have H2 := Lib.hid h1
            clear h1 hc1 H HO HX1
            rcases hdec with rfl | ⟨hd1, hd2⟩
            · go_wp2
              go_roundw
              case rel => exact ⟨1, q, by omega, by go_num, HO2, HL, HA, H2⟩
              case measure => simp [intOf]
            · go_wp2
              go_roundw
              case rel => exact ⟨k + 1, q, by omega, by go_num, HO2, HL, HA, H2⟩
              case measure => simp [intOf]; omega
        · as_aux_lemma =>
            have hone1 : 1 < n2 := by omega
            have hone2 : (1 : Int) < (n2 : Int) := by omega
            obtain ⟨q2, a2, hx1, hx2, hx3, hx4⟩ := HO.out.some_ hT (by rw [HL.out]; exact hone1)
            rw [HA.out] at hx2
            have hna : ((a2 : Int) == (a : Int)) = false := by simp; omega
            have HX1 := Lib.hid hx1
            have HO2 : Hid (OneD q2 i ((fr : Int) + 20 * (((k + 1 - 1) / 20 : Nat) : Int))) := by show OneD _ _ _; rw [HTT.out]; exact hx3
            have HL2 : Hid (q2.l.length = n2) := Lib.hid (by rw [← row_len q2, hx4, row_len, HL.out])
            have HA2 : Hid ((pe q2.l i).a = a) := Lib.hid (by rw [HO.out.addr hx4, HA.out])
            clear hx1 hx2 hx3 hx4 hT hr hone
            go_wp2_with fail
            refine (HPC.out.nextL H.out HI.out).mono ?_
            rintro e y1 ⟨rfl, h1, hc1⟩
            rw [HX1.out] at h1 ⊢
            simp only at h1 ⊢
            have H2 := Lib.hid h1
            clear h1 hc1 H HO HX1 HL HA
            rcases hdec with rfl | ⟨hd1, hd2⟩
            · go_wp2
              go_roundw
              case rel => exact ⟨1, q2, by omega, by go_num, HO2, HL2, HA2, H2⟩
              case measure => simp [intOf]
            · go_wp2
              go_roundw
              case rel => exact ⟨k + 1, q2, by omega, by go_num, HO2, HL2, HA2, H2⟩
              case measure => simp [intOf]; omega
    · have hkk : k = 101 := by omega
      subst hkk
      clear hk hlt
      obtain ⟨q1, hx1, hx2, hx3, hx4, hx5⟩ := HO.out.back
      have hx6 := HO.out.addr hx4
      rw [HA.out] at hx1 hx5 hx6
      have HX1 := Lib.hid hx1
      have HX3 := Lib.hid hx3
      have HX5 := Lib.hid hx5
      have HA1 := Lib.hid hx6
      have HL1 : Hid (q1.l.length = n2) := Lib.hid (by rw [← row_len q1, hx4, row_len, HL.out])
      clear hx1 hx2 hx3 hx4 hx5 hx6
      go_wp2_with fail
      refine (HPC.out.aliveL H.out).mono ?_
      rintro e y1 ⟨rfl, h1, hc1⟩
      rw [HX1.out] at h1 ⊢
      simp only at h1 ⊢
      have H2 := Lib.hid h1
      clear h1 hc1 H HO HX1 HL HA
      go_wp2_with fail
      refine (HPC.out.isL H2.out).mono ?_
      rintro e y2 ⟨rfl, h1, _⟩
      rw [HX5.out]
      have H3 := Lib.hid h1
      clear h1 H2 HX5
      have HIE : Hid (I64 ((fr : Int) + 101)) := Lib.hid ⟨by omega, by omega⟩
      obtain ⟨pl, hpl⟩ : ∃ pl, q1.l = pl := ⟨_, rfl⟩
      rw [hpl] at HX3 HA1 HL1
      have HPL := Lib.hid hpl
      obtain ⟨c1, hc1⟩ : ∃ c1, q1.nx = c1 := ⟨_, rfl⟩
      have HC1 : Hid (q1.nx % n2 = (c1 + 0) % n2) := Lib.hid (by rw [hc1]; rfl)
      clear hpl hc1
      go_wp2
      go_loopw [16, 17] (fun v j wr => ∃ (k : Nat) (q : Po) (b : Bool), k ≤ n2 ∧ j = .int .i64 k ∧ v = .bool b ∧ Hid (b = true ∨ ∀ j, j < k → (c1 + j) % n2 ≠ i) ∧ Hid (q.l = pl) ∧ Hid (q.nx % n2 = (c1 + k) % n2) ∧ Hid (Lp Pl w L U D q wr)) (fun _ j _ => n2 - (intOf j).toNat)
      case atStart => exact ⟨0, q1, false, Nat.zero_le _, rfl, rfl, Lib.hid (.inr (fun j hj => by omega)), HPL, HC1, H3⟩
      case round =>
        clear H3 HPL HC1 q1 y0
        obtain ⟨k, q, b, hk, rfl, rfl, HB, HPL, HC, H⟩ := hrel
        rename World => y0
        by_cases hlt : k < n2
        · have hlt1 : (k : Int) < (n2 : Int) := by omega
          have HQA : Hid (∀ e ∈ q.l, e.d = false) := Lib.hid (by rw [HPL.out]; exact HX3.out)
          have HQL : Hid (q.l.length = n2) := Lib.hid (by rw [HPL.out]; exact HL1.out)
          obtain ⟨x, hx1, hx2⟩ := next_alive (now := (fr : Int) + 101) H.out.ok.nx HQA.out (by rw [HQL.out]; omega)
          rw [HQL.out] at hx1 hx2
          have hxl : q.nx % n2 < q.l.length := by rw [HQL.out]; exact Nat.mod_lt _ hz0
          rw [row_pe hxl, HPL.out, HC.out] at hx2
          injection hx2 with hx2
          obtain ⟨q2, hq2⟩ : ∃ q2 : Po, q2 = { q with nx := q.nx % n2 + 1 } := ⟨_, rfl⟩
          rw [← hq2] at hx1
          have HX1 := Lib.hid hx1
          have HC3 : Hid (q2.nx % n2 = (c1 + (k + 1)) % n2) := Lib.hid (by rw [hq2]; show (q.nx % n2 + 1) % n2 = _; rw [HC.out, Nat.mod_add_mod]; rfl)
          have HPL2 : Hid (q2.l = pl) := Lib.hid (by rw [hq2]; exact HPL.out)
          clear hx1 hxl hq2
          go_wp2_with fail
          refine (HPC.out.nextL H.out HIE.out).mono ?_
          rintro e y1 ⟨rfl, h1, hc1⟩
          rw [HX1.out] at h1 ⊢
          simp only at h1 ⊢
          have H2 := Lib.hid h1
          clear h1 hc1 H HX1
          by_cases hci : (c1 + k) % n2 = i
          · have hxa : x = a := by rw [← hx2, hci, HA1.out]
            subst hxa
            clear hx2
            cases b with
            | true =>
              go_wp2
              go_roundw
              case rel => exact ⟨k + 1, q2, true, by omega, by go_num, rfl, Lib.hid (.inl rfl), HPL2, HC3, H2⟩
              case measure => simp [intOf]; omega
            | false =>
              go_wp2
              go_roundw
              case rel => exact ⟨k + 1, q2, true, by omega, by go_num, rfl, Lib.hid (.inl rfl), HPL2, HC3, H2⟩
              case measure => simp [intOf]; omega
          · have HB2 : Hid (b = true ∨ ∀ j, j < k + 1 → (c1 + j) % n2 ≠ i) := by
              rcases HB.out with h1 | h1
              · exact Lib.hid (.inl h1)
              · exact Lib.hid (.inr (fun j hj => by
                  by_cases hjk : j = k
                  · subst hjk; exact hci
                  · exact h1 j (by omega)))
            clear hx2 hci
            cases b with
            | true =>
              go_wp2
              go_roundw
              case rel => exact ⟨k + 1, q2, true, by omega, by go_num, rfl, HB2, HPL2, HC3, H2⟩
              case measure => simp [intOf]; omega
            | false =>
              by_cases hxa : x = a
              · subst hxa
                go_wp2
                go_roundw
                case rel => exact ⟨k + 1, q2, true, by omega, by go_num, rfl, Lib.hid (.inl rfl), HPL2, HC3, H2⟩
                case measure => simp [intOf]; omega
              · have hxa' : ((x : Int) == (a : Int)) = false := by simp; omega
                clear hxa
                go_wp2
                go_roundw
                case rel => exact ⟨k + 1, q2, false, by omega, by go_num, rfl, HB2, HPL2, HC3, H2⟩
                case measure => simp [intOf]; omega
        · have hkn : n2 = k := by omega
          have hb : b = true := by
            rcases HB.out with h1 | h1
            · exact h1
            · obtain ⟨j, hj1, hj2⟩ := meets (c := c1) hi
              exact absurd hj2 (h1 j (by omega))
          subst hb
          subst hkn
          go_wp2
          go_ret
          exact ⟨rfl, H.out.below⟩

end Go.Proofs.Ytkghbdikbbeoaaa
