/-
  lamplightlaw09.PollDead, walked: true, under the conditions on poll's calls.
-/
import Derived.Test.YtkghbdikbbeoaaaPolT
import Derived.Test.YtkghbdikbbeoaaaFClone
import Derived.Deep.DeepCutAuto
namespace Go.Proofs.Ytkghbdikbbeoaaa
set_option linter.unusedVariables false
set_option linter.unusedSimpArgs false
open Go.RowKit

theorem info_int9 : (Try.prog.info? 3).map (fun i => (i.zero, i.size, i.bytes)) = some (some (.int .i64 0), 1, 8) := by kernel_rfl
set_option maxRecDepth 20000 in
set_option maxHeartbeats 12800000 in
theorem polldead_walk {Pl : World → Nat → Nat → Nat → Po → Prop} (PC : PolCond Pl) {g n c g1 n0 c0 : Nat} {A A1 : Option Addr} {l l1 : List UInt8} {w : World} (h : Holds w g A (bcs l)) (hn : l.length = n) (hc : n ≤ c) (hcm : c ≤ 9223372036854775807)
    (hp : Holds w g1 A1 (bcs l1)) (hs : l1.length = n0) (hc0 : n0 ≤ c0) (hm0 : c0 ≤ 9223372036854775807) :
    Calls Try.prog 7 #[.slice A n c, .slice A1 n0 c0] w fun e w' => e = .returned (.bool true) ∧ Below w.heap.size w w' := by
  obtain ⟨p, hp40, hpn, hpe, hmin⟩ := min40 n
  have hpc : p ≤ c := by omega
  have HPC := Lib.hid PC
  have HH : Hid (Holds w g A (bcs (l.take p))) := by show Holds _ _ _ _; rw [bcs_take]; exact h.take p
  have HLP : Hid ((l.take p).length = p) := by show _ = _; rw [List.length_take]; omega
  have HP := Lib.hid hp
  have HS := Lib.hid hs
  clear PC h hn hp hs hpe
  generalize l.take p = lp at *
  go_enter Try.func7, Try.ntmps7
  go_wp2_with fail
  refine (shown_on HPC.out w).mono ?_
  rintro e x0 ⟨rfl, hb0⟩
  have HB0 := Lib.hid hb0
  clear hb0
  go_wp2_with fail
  refine (HPC.out.newL (w := w) HB0.out (HH.out.keep (F := []) (Ch.of_below HB0.out) (by simp)) HLP.out hp40 hpc hcm).mono ?_
  rintro e x1 ⟨D0, rfl, h1, hb1⟩
  have H1 := Lib.hid h1
  clear h1 hb1 HB0
  generalize x0.heap.size = L at *
  generalize x1.heap.size = U at *
  have HAV : Hid (∀ e ∈ (newP lp).l, e.d = false) := Lib.hid (newP_alive lp)
  generalize newP lp = s0 at *
  clear HH HLP hp40 hpn hmin hpc hc hcm
  go_wp2_with fail
  refine (HPC.out.addrsL H1.out).mono ?_
  rintro e x2 ⟨Ax, cx, rfl, ho, h2, _⟩
  have H2 := Lib.hid h2
  have HUB : Hid (U ≤ x1.heap.size) := Lib.hid H1.out.us
  have HAL : Hid (Al9 x2 x1.heap.size s0.l.length Ax cx s0.bytes) := Lib.hid ⟨ho, bytes_len s0⟩
  have HOK := Lib.hid H1.out.ok
  obtain ⟨hncx, hcxm⟩ := HAL.out.cap
  have HRL : Hid (s0.row.length = s0.l.length) := Lib.hid (row_len s0)
  clear h2 ho H1
  generalize x1.heap.size = B at *
  obtain ⟨n2, hn2⟩ : ∃ n2, s0.l.length = n2 := ⟨_, rfl⟩
  have HN2 := Lib.hid hn2
  rw [hn2] at HAL hncx HRL ⊢
  have hn240 : n2 ≤ 40 := by have := HOK.out.len; omega
  clear hn2
  by_cases hz : n2 = 0
  · subst hz
    go_wp2
    go_ret
    exact ⟨rfl, H2.out.below⟩
  have hz1 : ((n2 : Int) == 0) = false := by simp; omega
  by_cases h6 : 6 < n2
  · have h61 : (6 : Int) < (n2 : Int) := by omega
    go_wp2
    go_ret
    exact ⟨rfl, H2.out.below⟩
  have h61 : ¬ (6 : Int) < (n2 : Int) := by omega
  have HDG : Hid (Dg s0 [] 0) := Lib.hid ⟨HOK.out, Nat.zero_le _, fun j hj => absurd hj (by simp), fun j hj => absurd hj (by simp), Nat.zero_le _⟩
  obtain ⟨B2, hB2⟩ : ∃ B2, x2.heap.size = B2 := ⟨_, rfl⟩
  have HUB2 : Hid (U ≤ B2) := Lib.hid (by rw [← hB2]; exact H2.out.us)
  have HAX : Hid (∀ g, Ax = some ⟨g, 0, none⟩ → g < B2) := Lib.hid (by rw [← hB2]; exact HAL.out.lt)
  have HSZ : Hid (B2 ≤ x2.heap.size) := Lib.hid (Nat.le_of_eq hB2.symm)
  have HIN : Hid (In9 3 x2 B2 0 none 0 []) := Lib.hid ⟨World.ownsRow_nil _ _ _ _, rfl⟩
  clear hB2
  go_wp2
  go_loopw [8, 9, 10] (fun u v j wr => ∃ (i nw co : Nat) (s : Po) (D : List Nat) (Ao : Option Addr), i ≤ n2 ∧ j = .int .i64 i ∧ u = .int .i64 nw ∧ v = .slice Ao i co ∧ nw ≤ 3 * i ∧ Hid (Dg s D nw) ∧ Hid (D.length = i) ∧ Hid (s.l.length = n2) ∧ Hid (s.row = s0.row) ∧ Hid (Lp Pl w L U D0 s wr) ∧ Hid (Al9 wr B n2 Ax cx s0.bytes) ∧ Hid (In9 3 wr B2 i Ao co D) ∧ Hid (B2 ≤ wr.heap.size)) (fun _ _ j _ => n2 - (intOf j).toNat)
  case atStart => exact ⟨0, 0, 0, s0, [], none, Nat.zero_le _, rfl, rfl, rfl, Nat.le_refl _, HDG, Lib.hid rfl, HN2, Lib.hid rfl, H2, HAL, HIN, HSZ⟩
  case round =>
    clear H2 HAL HIN HSZ HDG
    obtain ⟨i, nw, co, s, D, Ao, hi, rfl, rfl, rfl, hnw, HDG, HDL, HLN, HRW, H, HAL, HIN, HSZ⟩ := hrel
    rename World => y0
    by_cases hlt : i < n2
    · have hlt1 : (i : Int) < (n2 : Int) := by omega
      have hil : i < s.l.length := by rw [HLN.out]; exact hlt
      obtain ⟨ga, a, rfl, _, e0, hra⟩ := HAL.out.num HOK.out i hlt
      have HRO := Lib.hid hra
      rw [← HRW.out, row_pe hil] at hra
      injection hra with hra
      obtain ⟨hmc, hcm2⟩ := HIN.out.cap
      obtain ⟨i0, hi0, hz0, hz1, hz2⟩ := info_parts info_int9
      by_cases h0 : i < n0
      · have h01 : (i : Int) < (n0 : Int) := by omega
        obtain ⟨hgw, o, rfl, hcell⟩ := HP.out (by rw [bcs_length, HS.out]; omega)
        have e1 := (H.out.below.cell (p := ⟨g1, o + i, none⟩) hgw).trans (hcell i _ (bcs_get l1 i (by rw [HS.out]; exact h0)))
        generalize (l1[i]'(by rw [HS.out]; exact h0)).toNat = bb at *
        obtain ⟨x, hx⟩ : ∃ x, bb % 4 = x := ⟨_, rfl⟩
        have hx3 : x ≤ 3 := by omega
        have hq1 : ((bb : Nat) : Int).tmod 4 = (x : Int) := by rw [← hx]; rfl
        have hV : ((nw + x : Nat) : Int) = (nw : Int) + (x : Int) := by omega
        have HVW : Hid ((nw : Int) + (x : Int) = ((nw + x : Nat) : Int)) := Lib.hid hV.symm
        clear hgw hcell hx
        obtain ⟨V, hVV⟩ : ∃ V, (nw : Int) + (x : Int) = V := ⟨_, rfl⟩
        rw [hVV] at hV HVW
        obtain ⟨q, hq1', hq2', hq3'⟩ := HDG.out.more hx3 (by rw [HDL.out]; exact hil) (by rw [HLN.out]; omega)
        rw [HDL.out, hra, hV] at hq1'
        have HQ1 := Lib.hid hq1'
        have HQ2 := Lib.hid hq2'
        have HRW2 : Hid (q.row = s0.row) := Lib.hid (hq3'.trans HRW.out)
        have HLN2 : Hid (q.l.length = n2) := Lib.hid (by rw [← row_len q, hq3', row_len, HLN.out])
        have HDL2 : Hid ((D ++ [nw + x]).length = i + 1) := Lib.hid (by rw [List.length_append, HDL.out]; rfl)
        have HIV : Hid (I64 V) := Lib.hid (by rw [← hV]; exact ⟨by omega, by omega⟩)
        have hb4 := new_below y0 (.cells #[.int .i64 V] 3)
        have HO4 := Lib.hid (HIN.out.step hb4)
        have HH4 : Hid (Holds (y0.alloc (.cells #[.int .i64 V] 3)) y0.heap.size (some ⟨y0.heap.size, 0, none⟩) [.int .i64 V]) := Lib.hid (Holds.of_row (cs := [.int .i64 V]) (heap_alloc_new y0 _))
        have HU4 : Hid (B2 ≤ (y0.alloc (.cells #[.int .i64 V] 3)).heap.size) := Lib.hid (Nat.le_trans HSZ.out hb4.size)
        have HB4 := Lib.hid hb4
        have HBD : Hid (i + 1 ≤ maxLen ∧ (i + 1) * 8 ≤ 140737488355328) := Lib.hid ⟨by unfold maxLen; omega, by omega⟩
        clear hb4 hra hil hq1' hq2' hq3' hV
        as_aux_lemma =>
          go_upto_region 16 with (refine wpList_append_wide rfl _ _ 49 rfl B2 3 i0 (.int .i64 0) 1 8 Try.underlying49 hi0 hz0 hz1 hz2 rfl (by decide) _ i (D.map fun (d : Nat) => .int .i64 (d : Int)) rfl HO4.out.own y0.heap.size (some ⟨y0.heap.size, 0, none⟩) 1 1 [.int .i64 V] rfl rfl HH4.out (by intro u hu; simp at hu; subst hu; rfl) HBD.out.1 HBD.out.2 HU4.out ?_; intro A5 c5 x5 ho5 hg5)
          have hft5 := (ft_grown HO4.out.own hg5).below HU4.out
          have H5 := Lib.hid ((H.out.step HPC.out HB4.out).low HPC.out HUB2.out hft5)
          have HAL5 := Lib.hid ((HAL.out.step HB4.out).low HAX.out (fun k hk => hft5.block k hk))
          have HSZ5 : Hid (B2 ≤ x5.heap.size) := Lib.hid (Nat.le_trans HU4.out hft5.size)
          have HIN5 : Hid (In9 3 x5 B2 (i + 1) A5 c5 (D ++ [nw + x])) := by
            refine ⟨?_, HDL2.out⟩
            rw [List.map_append]
            show x5.ownsRow _ _ _ _ _ (_ ++ [.int .i64 ((nw + x : Nat) : Int)])
            rw [← HVW.out]
            exact ho5
          have HA5 := Lib.hid HAL5
          obtain ⟨ga5, a5, hga5, _, e5, hra5⟩ := HAL5.out.num HOK.out i hlt
          injection hga5 with hga5
          injection hga5 with hga5
          subst hga5
          clear hft5 ho5 hg5 H HAL HIN HO4 HH4 HU4 HB4 HBD HSZ hi0 hz0 hz1 hz2 e0 HDG
          have ha5 : a5 = a := by rw [HRO.out] at hra5; injection hra5 with h; exact h.symm
          subst ha5
          clear hra5
          go_wp2_with fail
          refine (HPC.out.deadL H5.out HIV.out).mono ?_
          rintro e x6 ⟨rfl, h1, hc1⟩
          rw [HQ1.out] at h1 ⊢
          simp only at h1 ⊢
          have H6 := Lib.hid h1
          have HAL6 := Lib.hid (HAL5.out.cr hc1 HUB.out)
          have HIN6 := Lib.hid (HIN5.out.cr hc1 HUB2.out)
          have HSZ6 : Hid (B2 ≤ x6.heap.size) := Lib.hid (Nat.le_trans HSZ5.out hc1.size)
          clear h1 hc1 H5 HAL5 HIN5 HSZ5 HA5 e5
          go_wp2
          go_roundw
          case rel => exact ⟨i + 1, nw + x, c5, q, D ++ [nw + x], A5, by omega, by go_num, by rw [HVW.out], rfl, by omega, HQ2, HDL2, HLN2, HRW2, H6, HAL6, HIN6, HSZ6⟩
          case measure => simp [intOf]; omega
      · have h01 : ¬ (i : Int) < (n0 : Int) := by omega
        obtain ⟨x, hx3, hx⟩ : ∃ x : Nat, x ≤ 3 ∧ x = 0 := ⟨0, by omega, rfl⟩
        obtain ⟨V, hVV⟩ : ∃ V, (nw : Int) = V := ⟨_, rfl⟩
        have hV : ((nw + x : Nat) : Int) = V := by omega
        have HVW : Hid (V = ((nw + x : Nat) : Int)) := Lib.hid hV.symm
        clear hx
        obtain ⟨q, hq1', hq2', hq3'⟩ := HDG.out.more hx3 (by rw [HDL.out]; exact hil) (by rw [HLN.out]; omega)
        rw [HDL.out, hra, hV] at hq1'
        have HQ1 := Lib.hid hq1'
        have HQ2 := Lib.hid hq2'
        have HRW2 : Hid (q.row = s0.row) := Lib.hid (hq3'.trans HRW.out)
        have HLN2 : Hid (q.l.length = n2) := Lib.hid (by rw [← row_len q, hq3', row_len, HLN.out])
        have HDL2 : Hid ((D ++ [nw + x]).length = i + 1) := Lib.hid (by rw [List.length_append, HDL.out]; rfl)
        have HIV : Hid (I64 V) := Lib.hid (by rw [← hV]; exact ⟨by omega, by omega⟩)
        have hb4 := new_below y0 (.cells #[.int .i64 V] 3)
        have HO4 := Lib.hid (HIN.out.step hb4)
        have HH4 : Hid (Holds (y0.alloc (.cells #[.int .i64 V] 3)) y0.heap.size (some ⟨y0.heap.size, 0, none⟩) [.int .i64 V]) := Lib.hid (Holds.of_row (cs := [.int .i64 V]) (heap_alloc_new y0 _))
        have HU4 : Hid (B2 ≤ (y0.alloc (.cells #[.int .i64 V] 3)).heap.size) := Lib.hid (Nat.le_trans HSZ.out hb4.size)
        have HB4 := Lib.hid hb4
        have HBD : Hid (i + 1 ≤ maxLen ∧ (i + 1) * 8 ≤ 140737488355328) := Lib.hid ⟨by unfold maxLen; omega, by omega⟩
        clear hb4 hra hil hq1' hq2' hq3' hV
        as_aux_lemma =>
          go_upto_region 16 with (refine wpList_append_wide rfl _ _ 49 rfl B2 3 i0 (.int .i64 0) 1 8 Try.underlying49 hi0 hz0 hz1 hz2 rfl (by decide) _ i (D.map fun (d : Nat) => .int .i64 (d : Int)) rfl HO4.out.own y0.heap.size (some ⟨y0.heap.size, 0, none⟩) 1 1 [.int .i64 V] rfl rfl HH4.out (by intro u hu; simp at hu; subst hu; rfl) HBD.out.1 HBD.out.2 HU4.out ?_; intro A5 c5 x5 ho5 hg5)
          have hft5 := (ft_grown HO4.out.own hg5).below HU4.out
          have H5 := Lib.hid ((H.out.step HPC.out HB4.out).low HPC.out HUB2.out hft5)
          have HAL5 := Lib.hid ((HAL.out.step HB4.out).low HAX.out (fun k hk => hft5.block k hk))
          have HSZ5 : Hid (B2 ≤ x5.heap.size) := Lib.hid (Nat.le_trans HU4.out hft5.size)
          have HIN5 : Hid (In9 3 x5 B2 (i + 1) A5 c5 (D ++ [nw + x])) := by
            refine ⟨?_, HDL2.out⟩
            rw [List.map_append]
            show x5.ownsRow _ _ _ _ _ (_ ++ [.int .i64 ((nw + x : Nat) : Int)])
            rw [← HVW.out]
            exact ho5
          have HA5 := Lib.hid HAL5
          obtain ⟨ga5, a5, hga5, _, e5, hra5⟩ := HAL5.out.num HOK.out i hlt
          injection hga5 with hga5
          injection hga5 with hga5
          subst hga5
          clear hft5 ho5 hg5 H HAL HIN HO4 HH4 HU4 HB4 HBD HSZ hi0 hz0 hz1 hz2 e0 HDG
          have ha5 : a5 = a := by rw [HRO.out] at hra5; injection hra5 with h; exact h.symm
          subst ha5
          clear hra5
          go_wp2_with fail
          refine (HPC.out.deadL H5.out HIV.out).mono ?_
          rintro e x6 ⟨rfl, h1, hc1⟩
          rw [HQ1.out] at h1 ⊢
          simp only at h1 ⊢
          have H6 := Lib.hid h1
          have HAL6 := Lib.hid (HAL5.out.cr hc1 HUB.out)
          have HIN6 := Lib.hid (HIN5.out.cr hc1 HUB2.out)
          have HSZ6 : Hid (B2 ≤ x6.heap.size) := Lib.hid (Nat.le_trans HSZ5.out hc1.size)
          clear h1 hc1 H5 HAL5 HIN5 HSZ5 HA5 e5
          go_wp2
          go_roundw
          case rel => exact ⟨i + 1, nw + x, c5, q, D ++ [nw + x], A5, by omega, by go_num, by rw [HVW.out], rfl, by omega, HQ2, HDL2, HLN2, HRW2, H6, HAL6, HIN6, HSZ6⟩
          case measure => simp [intOf]; omega
    · have hkn : n2 = i := by omega
      subst hkn
      have HDU := Lib.hid (Du.start HDG.out (HDL.out.trans HLN.out.symm) (by rw [HDL.out]; omega))
      have hnw18 : nw ≤ 18 := by omega
      obtain ⟨hmc, hcm2⟩ := HIN.out.cap
      clear hi hlt HDG HSZ hnw
      have HIC := HIN.out.cap
      go_wp2
      go_loopw [11] (fun j wr => ∃ (k : Nat) (s : Po), nw ≤ k ∧ k ≤ nw + 100 ∧ j = .int .i64 k ∧ Hid (Du s D k 0) ∧ Hid (s.l.length = n2) ∧ Hid (s.row = s0.row) ∧ Hid (Lp Pl w L U D0 s wr) ∧ Hid (Al9 wr B n2 Ax cx s0.bytes) ∧ Hid (In9 3 wr B2 n2 Ao co D)) (fun j _ => nw + 100 - (intOf j).toNat)
      case atStart => exact ⟨nw, s, Nat.le_refl _, by omega, rfl, HDU, HLN, HRW, H, HAL, HIN⟩
      case round =>
        clear H HAL HIN HDU HLN HRW y0 s
        obtain ⟨k, s, hnk, hk, rfl, HDU, HLN, HRW, H, HAL, HIN⟩ := hrel
        rename World => y0
        by_cases hlt : k < nw + 100
        · have hlt1 : (k : Int) < (nw : Int) + 100 := by omega
          have HIK : Hid (I64 (k : Int)) := Lib.hid ⟨by omega, by omega⟩
          go_wp2
          go_loopw [12] (fun j wr => ∃ (i : Nat) (s : Po), i ≤ n2 ∧ j = .int .i64 i ∧ Hid (Du s D k i) ∧ Hid (s.l.length = n2) ∧ Hid (s.row = s0.row) ∧ Hid (Lp Pl w L U D0 s wr) ∧ Hid (Al9 wr B n2 Ax cx s0.bytes) ∧ Hid (In9 3 wr B2 n2 Ao co D)) (fun j _ => n2 - (intOf j).toNat)
          case atStart => exact ⟨0, s, Nat.zero_le _, rfl, HDU, HLN, HRW, H, HAL, HIN⟩
          case round =>
            clear H HAL HIN HDU HLN HRW y0 s
            obtain ⟨i, s, hi, rfl, HDU, HLN, HRW, H, HAL, HIN⟩ := hrel
            rename World => y0
            by_cases hin : i < n2
            · have hin1 : (i : Int) < (n2 : Int) := by omega
              have hil : i < s.l.length := by rw [HLN.out]; exact hin
              obtain ⟨gi, rfl, e1⟩ := HIN.out.at i hin
              obtain ⟨d, hd⟩ : ∃ d, dl D i = d := ⟨_, rfl⟩
              have hdk : d ≤ k := by
                obtain ⟨_, S, _, h3⟩ := HDU.out.st i hil
                have h4 := h3.lo
                have h5 := h3.hi
                omega
              have HSK : Hid ((k = d ∨ (k - d) % 20 ≠ 0) → Du s D k (i + 1)) := Lib.hid (fun h => HDU.out.skip (by rw [hd]; exact h))
              have HHT : Hid (k ≠ d → (k - d) % 20 = 0 → ∃ q, nextP s (k : Int) = (q, (pe s.l i).a, true) ∧ Du q D k (i + 1) ∧ q.row = s.row) := Lib.hid (fun h1 h2 => HDU.out.hit hil (by omega) (by rw [hd]; exact h1) (by rw [hd]; exact h2))
              rw [hd] at e1
              clear hd
              by_cases hkd : k = d
              · as_aux_lemma =>
                  have HDU2 := Lib.hid (HSK.out (.inl hkd))
                  subst hkd
                  clear HSK HHT HDU hil
                  go_wp2
                  go_roundw
                  case rel => exact ⟨i + 1, s, by omega, by go_num, HDU2, HLN, HRW, H, HAL, HIN⟩
                  case measure => simp [intOf]; omega
              · have hkd1 : ((k : Int) == (d : Int)) = false := by simp; omega
                obtain ⟨z, hz3⟩ : ∃ z, k - d = z := ⟨_, rfl⟩
                obtain ⟨r, hr⟩ : ∃ r, z % 20 = r := ⟨_, rfl⟩
                have hw : (k : Int) - (d : Int) = (z : Int) := by omega
                have hq : (z : Int).tmod 20 = (r : Int) := by rw [← hr]; rfl
                by_cases hr0 : r = 0
                · as_aux_lemma =>
                    obtain ⟨q, hq1, hq2, hq3⟩ := HHT.out hkd (by rw [hz3, hr]; exact hr0)
                    have HQ1 := Lib.hid hq1
                    have HQ2 := Lib.hid hq2
                    have HLN2 : Hid (q.l.length = n2) := Lib.hid (by rw [← row_len q, hq3, row_len, HLN.out])
                    have HRW2 : Hid (q.row = s0.row) := Lib.hid (hq3.trans HRW.out)
                    have HAI : Hid (s0.row[i]? = some (pe s.l i).a) := Lib.hid (by rw [← HRW.out]; exact row_pe hil)
                    generalize (pe s.l i).a = ai at *
                    subst hr0
                    clear hq1 hq2 hq3 hr hz3 HSK HHT HDU hil hkd
                    go_wp2_with fail
                    refine (HPC.out.nextL H.out HIK.out).mono ?_
                    rintro e y1 ⟨rfl, h1, hc1⟩
                    rw [HQ1.out] at h1 ⊢
                    simp only at h1 ⊢
                    have H2 := Lib.hid h1
                    have HAL2 := Lib.hid (HAL.out.cr hc1 HUB.out)
                    have HIN2 := Lib.hid (HIN.out.cr hc1 HUB2.out)
                    clear h1 hc1 H HAL HIN e1
                    obtain ⟨gx, ax, hgx, _, e2, hra⟩ := HAL2.out.num HOK.out i hin
                    have hax : ax = ai := by rw [HAI.out] at hra; injection hra with h; exact h.symm
                    subst hax
                    subst hgx
                    clear hra
                    go_wp2
                    go_roundw
                    case rel => exact ⟨i + 1, q, by omega, by go_num, HQ2, HLN2, HRW2, H2, HAL2, HIN2⟩
                    case measure => simp [intOf]; omega
                · as_aux_lemma =>
                    have HDU2 := Lib.hid (HSK.out (.inr (by rw [hz3, hr]; exact hr0)))
                    have hr1 : ((r : Int) != 0) = true := by simp; omega
                    clear hr hz3 HSK HHT HDU hil hkd hr0
                    go_wp2
                    go_roundw
                    case rel => exact ⟨i + 1, s, by omega, by go_num, HDU2, HLN, HRW, H, HAL, HIN⟩
                    case measure => simp [intOf]; omega
            · have hkn : n2 = i := by omega
              subst hkn
              obtain ⟨hn1, hn2⟩ := Du.none (by rw [HLN.out]; exact HDU.out)
              have HN1 := Lib.hid hn1
              have HDU2 := Lib.hid hn2
              clear hn1 hn2 HDU
              go_wp2_with fail
              refine (HPC.out.nextL H.out HIK.out).mono ?_
              rintro e y1 ⟨rfl, h1, hc1⟩
              rw [HN1.out] at h1 ⊢
              simp only at h1 ⊢
              have H2 := Lib.hid h1
              have HAL2 := Lib.hid (HAL.out.cr hc1 HUB.out)
              have HIN2 := Lib.hid (HIN.out.cr hc1 HUB2.out)
              clear h1 hc1 H HAL HIN
              go_wp2
              go_roundw
              case rel => exact ⟨k + 1, s, by omega, by omega, by go_num, HDU2, HLN, HRW, H2, HAL2, HIN2⟩
              case measure => simp [intOf]; omega
        · have hkk : ¬ (k : Int) < (nw : Int) + 100 := by omega
          go_wp2
          go_ret
          exact ⟨rfl, H.out.below⟩

end Go.Proofs.Ytkghbdikbbeoaaa
