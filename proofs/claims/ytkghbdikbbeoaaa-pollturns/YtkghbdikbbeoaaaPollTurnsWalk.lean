/-
  lamplightlaw09.PollTurns, walked: true, under the conditions on poll's calls.
-/
import Derived.Test.YtkghbdikbbeoaaaPolT
import Derived.Test.YtkghbdikbbeoaaaFClone
import Derived.Deep.DeepCutAuto
namespace Go.Proofs.Ytkghbdikbbeoaaa
set_option linter.unusedVariables false
set_option linter.unusedSimpArgs false
open Go.RowKit

set_option maxRecDepth 20000 in
set_option maxHeartbeats 12800000 in
theorem pollturns_walk {Pl : World → Nat → Nat → Nat → Po → Prop} (PC : PolCond Pl) {g n c g1 n0 c0 : Nat} {A A1 : Option Addr} {l : List UInt8} {bd : List Bool} {ah : Int} {w : World} (h : Holds w g A (bcs l)) (hn : l.length = n) (hc : n ≤ c) (hcm : c ≤ 9223372036854775807)
    (hp : Holds w g1 A1 (bd.map Value.bool)) (hs : bd.length = n0) (hc0 : n0 ≤ c0) (hm0 : c0 ≤ 9223372036854775807) :
    Calls Try.prog 4 #[.slice A n c, .slice A1 n0 c0, .int .i64 ah] w fun e w' => e = .returned (.bool true) ∧ Below w.heap.size w w' := by
  obtain ⟨p, hp40, hpn, hpe, hmin⟩ := min40 n
  obtain ⟨na, hna, hand⟩ := and31 ah
  have hpc : p ≤ c := by omega
  have HPC := Lib.hid PC
  have HH : Hid (Holds w g A (bcs (l.take p))) := by show Holds _ _ _ _; rw [bcs_take]; exact h.take p
  have HLP : Hid ((l.take p).length = p) := by show _ = _; rw [List.length_take]; omega
  have HP := Lib.hid hp
  have HS := Lib.hid hs
  clear PC h hn hp hs hpe
  generalize l.take p = lp at *
  go_enter Try.func4, Try.ntmps4
  go_wp2_with fail
  refine (shown_on HPC.out w).mono ?_
  rintro e x0 ⟨rfl, hb0⟩
  have HB0 := Lib.hid hb0
  clear hb0
  go_wp2_with fail
  refine (HPC.out.newL (w := w) HB0.out (HH.out.keep (F := []) (Ch.of_below HB0.out) (by simp)) HLP.out hp40 hpc hcm).mono ?_
  rintro e x1 ⟨D, rfl, h1, hb1⟩
  have H1 := Lib.hid h1
  clear h1 hb1 HB0
  generalize x0.heap.size = L at *
  generalize x1.heap.size = U at *
  have HAV : Hid (∀ e ∈ (newP lp).l, e.d = false) := Lib.hid (newP_alive lp)
  generalize newP lp = s0 at *
  clear HH HLP hp40 hpn hmin hpc hc hcm
  go_wp2_with fail
  refine (HPC.out.addrsL H1.out).mono ?_
  rintro e x2 ⟨Ax, cx, rfl, ho, h2, _⟩
  have H2 := Lib.hid h2
  have HUB : Hid (U ≤ x1.heap.size) := Lib.hid H1.out.us
  have HAL : Hid (Al9 x2 x1.heap.size s0.l.length Ax cx s0.bytes) := Lib.hid ⟨ho, bytes_len s0⟩
  have HOK := Lib.hid H1.out.ok
  obtain ⟨hncx, hcxm⟩ := HAL.out.cap
  have HRL : Hid (s0.row.length = s0.l.length) := Lib.hid (row_len s0)
  clear h2 ho H1
  generalize x1.heap.size = B at *
  obtain ⟨n2, hn2⟩ : ∃ n2, s0.l.length = n2 := ⟨_, rfl⟩
  have HN2 := Lib.hid hn2
  rw [hn2] at HAL hncx HRL ⊢
  have hn240 : n2 ≤ 40 := by have := HOK.out.len; omega
  clear hn2
  have HI0 : Hid (I64 0) := Lib.hid ⟨by omega, by omega⟩
  have HSL : Hid (s0.l = s0.l ∧ s0.nx ≤ s0.l.length) := Lib.hid ⟨rfl, HOK.out.nx⟩
  go_wp2
  go_loopw [10] (fun j wr => ∃ (i : Nat) (s : Po), i ≤ na ∧ j = .int .i64 i ∧ Hid (s.l = s0.l) ∧ Hid (Lp Pl w L U D s wr) ∧ Hid (Al9 wr B n2 Ax cx s0.bytes)) (fun j _ => na - (intOf j).toNat)
  case atStart => exact ⟨0, s0, Nat.zero_le _, rfl, Lib.hid rfl, H2, HAL⟩
  case round =>
    clear H2 HAL HSL
    obtain ⟨i, s, hi, rfl, HSL, H, HAL⟩ := hrel
    rename World => y0
    by_cases hlt : i < na
    · have hlt1 : (i : Int) < (na : Int) := by omega
      have HSA : Hid (∀ e ∈ s.l, e.d = false) := Lib.hid (by rw [HSL.out]; exact HAV.out)
      have HSN : Hid (s.l.length = n2) := Lib.hid (by rw [HSL.out]; exact HN2.out)
      as_aux_lemma =>
        by_cases hz : n2 = 0
        · have HE := Lib.hid (next_empty (p := s) (now := 0) (by rw [HSN.out]; exact hz))
          subst hz
          go_wp2_with fail
          refine (HPC.out.nextL H.out HI0.out).mono ?_
          rintro e y1 ⟨rfl, h1, hc1⟩
          rw [HE.out] at h1 ⊢
          simp only at h1 ⊢
          have H2 := Lib.hid h1
          have HAL2 := Lib.hid (HAL.out.cr hc1 HUB.out)
          clear h1 hc1 H HAL
          go_wp2
          go_roundw
          case rel => exact ⟨i + 1, s, by omega, by go_num, HSL, H2, HAL2⟩
          case measure => simp [intOf]; omega
        · obtain ⟨a, he, _⟩ := next_alive (p := s) (now := 0) H.out.ok.nx HSA.out (by rw [HSN.out]; omega)
          have HE := Lib.hid he
          have hz1 : 0 < n2 := by omega
          clear he
          go_wp2_with fail
          refine (HPC.out.nextL H.out HI0.out).mono ?_
          rintro e y1 ⟨rfl, h1, hc1⟩
          rw [HE.out] at h1 ⊢
          simp only at h1 ⊢
          have H2 := Lib.hid h1
          have HAL2 := Lib.hid (HAL.out.cr hc1 HUB.out)
          have HSL2 : Hid (({ s with nx := s.nx % s.l.length + 1 } : Po).l = s0.l) := HSL
          clear h1 hc1 H HAL HE
          generalize ({ s with nx := s.nx % s.l.length + 1 } : Po) = s1 at *
          go_wp2
          go_roundw
          case rel => exact ⟨i + 1, s1, by omega, by go_num, HSL2, H2, HAL2⟩
          case measure => simp [intOf]; omega
    · have hkn : na = i := by omega
      subst hkn
      have HDY : Hid (Dy s 0 7) := Lib.hid ⟨H.out.ok, (fun e he hd => by rw [HSL.out] at he; rw [HAV.out e he] at hd; exact absurd hd (by decide)), (fun k _ hk => HAV.out _ (by rw [← HSL.out]; exact pe_mem hk))⟩
      have HLN : Hid (s.l.length = n2) := Lib.hid (by rw [HSL.out]; exact HN2.out)
      have HRW : Hid (s.row = s0.row) := Lib.hid (by unfold Po.row; rw [HSL.out])
      obtain ⟨B2, hB2⟩ : ∃ B2, y0.heap.size = B2 := ⟨_, rfl⟩
      have HUB2 : Hid (U ≤ B2) := Lib.hid (by rw [← hB2]; exact H.out.us)
      have HAX : Hid (∀ g, Ax = some ⟨g, 0, none⟩ → g < B2) := Lib.hid (by rw [← hB2]; exact HAL.out.lt)
      have HSZ : Hid (B2 ≤ y0.heap.size) := Lib.hid (Nat.le_of_eq hB2.symm)
      clear hB2
      have HO0 : Hid (Al9 y0 B2 0 none 0 []) := Lib.hid ⟨World.ownsRow_nil _ _ _ _, rfl⟩
      have HOO : Hid ((([] : List UInt8).map UInt8.toNat) = own (s.l.take 0)) := Lib.hid rfl
      clear hi HSL
      have HI7 : Hid (I64 7) := Lib.hid ⟨by omega, by omega⟩
      go_wp2
      go_loopw [13, 14] (fun v j wr => ∃ (i : Nat) (s : Po) (Ao : Option Addr) (m co : Nat) (bo : List UInt8), i ≤ n2 ∧ j = .int .i64 i ∧ v = .slice Ao m co ∧ m ≤ i ∧ Hid (Dy s i 7) ∧ Hid (s.l.length = n2) ∧ Hid (s.row = s0.row) ∧ Hid (Lp Pl w L U D s wr) ∧ Hid (Al9 wr B n2 Ax cx s0.bytes) ∧ Hid (Al9 wr B2 m Ao co bo) ∧ Hid (B2 ≤ wr.heap.size) ∧ Hid (bo.map UInt8.toNat = own (s.l.take i))) (fun _ j _ => n2 - (intOf j).toNat)
      case atStart => exact ⟨0, s, none, 0, 0, [], Nat.zero_le _, rfl, rfl, Nat.le_refl _, HDY, HLN, HRW, H, HAL, HO0, HSZ, HOO⟩
      case round =>
        clear H HAL HO0 HSZ HOO HDY HLN HRW y0 s
        obtain ⟨i, s, Ao, m, co, bo, hi, rfl, rfl, hmi, HDY, HLN, HRW, H, HAL, HO, HSZ, HOO⟩ := hrel
        rename World => y0
        by_cases hlt : i < n2
        · have hlt1 : (i : Int) < (n2 : Int) := by omega
          have hil : i < s.l.length := by rw [HLN.out]; exact hlt
          obtain ⟨ga, a, rfl, _, e0, hra⟩ := HAL.out.num HOK.out i hlt
          rw [← HRW.out, row_pe hil] at hra
          injection hra with hra
          have HRA := Lib.hid hra
          obtain ⟨hmc, hcm2⟩ := HO.out.cap
          obtain ⟨bi, hbi⟩ : ∃ bi : Bool, (i < n0 → bd[i]? = some bi) ∧ (n0 ≤ i → bi = false) := by
            by_cases h0 : i < n0
            · exact ⟨bd[i]'(by rw [HS.out]; exact h0), fun _ => List.getElem?_eq_getElem _, fun h => by omega⟩
            · exact ⟨false, fun h => by omega, fun _ => rfl⟩
          have hbl := hbi.1
          cases bi with
          | true =>
            have h0 : i < n0 := by
              by_cases h0 : i < n0
              · exact h0
              · have := hbi.2 (by omega); cases this
            have h01 : (i : Int) < (n0 : Int) := by omega
            obtain ⟨hgw, o, rfl, hcell⟩ := HP.out (by rw [List.length_map, HS.out]; omega)
            have e1 := (H.out.below.cell (p := ⟨g1, o + i, none⟩) hgw).trans (hcell i (.bool true) (by rw [List.getElem?_map, hbl h0]; rfl))
            have HDS := Lib.hid (HDY.out.die HI7.out hil)
            have HDE := Lib.hid (dead_at H.out.ok hil 7)
            have HDR := Lib.hid (deadP_row s (pe s.l i).a 7)
            rw [HRA.out] at HDE HDR
            clear hbi hbl hgw hcell hra hil
            as_aux_lemma =>
              go_wp2_with fail
              refine (HPC.out.deadL H.out HI7.out).mono ?_
              rintro e y1 ⟨rfl, h1, hc1⟩
              rw [HDE.out] at h1 HDR ⊢
              simp only at h1 HDR ⊢
              have H2 := Lib.hid h1
              have HAL2 := Lib.hid (HAL.out.cr hc1 HUB.out)
              have HO2 := Lib.hid (HO.out.cr hc1 HUB2.out)
              have HSZ2 : Hid (B2 ≤ y1.heap.size) := Lib.hid (Nat.le_trans HSZ.out hc1.size)
              have HRW2 := Lib.hid (HDR.out.trans HRW.out)
              have HLN2 : Hid (({ s with l := s.l.set i { pe s.l i with d := true, t := 7 } } : Po).l.length = n2) := Lib.hid (by simpa using HLN.out)
              have HDY2 := Lib.hid HDS.out.1
              have HOO2 : Hid (bo.map UInt8.toNat = own (({ s with l := s.l.set i { pe s.l i with d := true, t := 7 } } : Po).l.take (i + 1))) := Lib.hid (HOO.out.trans HDS.out.2.symm)
              clear h1 hc1 H HAL HO HSZ HRW HLN HDY HOO HDS HDE HDR e0 e1 HRA
              generalize ({ s with l := s.l.set i { pe s.l i with d := true, t := 7 } } : Po) = s1 at *
              go_wp2
              go_roundw
              case rel => exact ⟨i + 1, s1, Ao, m, co, bo, by omega, by go_num, rfl, by omega, HDY2, HLN2, HRW2, H2, HAL2, HO2, HSZ2, HOO2⟩
              case measure => simp [intOf]; omega
          | false =>
            have HDS := Lib.hid (HDY.out.live hil)
            rw [HRA.out] at HDS
            have ha31 : a < 256 := by have := H.out.ok.hi a (by rw [← HRA.out]; exact List.mem_map_of_mem (pe_mem hil)); omega
            obtain ⟨i0, hi0, hz0, hz1, hz2⟩ := info_parts info_byte
            have hb4 := new_below y0 (.cells #[.int .u8 (a : Int)] 5)
            have HO4 := Lib.hid (HO.out.step hb4)
            have HH4 : Hid (Holds (y0.alloc (.cells #[.int .u8 (a : Int)] 5)) y0.heap.size (some ⟨y0.heap.size, 0, none⟩) [.int .u8 (a : Int)]) := Lib.hid (Holds.of_row (cs := [.int .u8 (a : Int)]) (heap_alloc_new y0 _))
            have HU4 : Hid (B2 ≤ (y0.alloc (.cells #[.int .u8 (a : Int)] 5)).heap.size) := Lib.hid (Nat.le_trans HSZ.out hb4.size)
            have HB4 := Lib.hid hb4
            have HBD : Hid (m + 1 ≤ maxLen ∧ (m + 1) * 1 ≤ 140737488355328) := Lib.hid ⟨by unfold maxLen; omega, by omega⟩
            have HA31 := Lib.hid ha31
            clear hb4 hra hil ha31
            have hbs : (i < n0 ∧ bd[i]? = some false) ∨ ¬ i < n0 := by
              by_cases h0 : i < n0
              · exact .inl ⟨h0, hbl h0⟩
              · exact .inr h0
            clear hbl hbi
            rcases hbs with ⟨h0, hbl⟩ | h0
            · have h01 : (i : Int) < (n0 : Int) := by omega
              obtain ⟨hgw, o, rfl, hcell⟩ := HP.out (by rw [List.length_map, HS.out]; omega)
              have e1 := (H.out.below.cell (p := ⟨g1, o + i, none⟩) hgw).trans (hcell i (.bool false) (by rw [List.getElem?_map, hbl]; rfl))
              clear hgw hcell hbl
              as_aux_lemma =>
                go_wp2_with (refine wpList_append_wide rfl _ _ 22 rfl B2 5 i0 (.int .u8 0) 1 1 Try.underlying22 hi0 hz0 hz1 hz2 rfl (by decide) _ m (bcs bo) rfl HO4.out.own y0.heap.size (some ⟨y0.heap.size, 0, none⟩) 1 1 [.int .u8 (a : Int)] rfl rfl HH4.out (by intro u hu; simp at hu; subst hu; rfl) HBD.out.1 HBD.out.2 HU4.out ?_; intro A5 c5 x5 ho5 hg5)
                have hft5 := (ft_grown HO4.out.own hg5).below HU4.out
                have H5 := Lib.hid ((H.out.step HPC.out HB4.out).low HPC.out HUB2.out hft5)
                have HAL5 := Lib.hid ((HAL.out.step HB4.out).low HAX.out (fun k hk => hft5.block k hk))
                have HSZ5 : Hid (B2 ≤ x5.heap.size) := Lib.hid (Nat.le_trans HU4.out hft5.size)
                have HO5 : Hid (Al9 x5 B2 (m + 1) A5 c5 (bo ++ [UInt8.ofNat a])) := by
                  refine ⟨?_, by rw [List.length_append, HO.out.len]; rfl⟩
                  have e : bcs (bo ++ [UInt8.ofNat a]) = bcs bo ++ [.int .u8 (a : Int)] := by
                    have h1 := HA31.out
                    simp [bcs]
                    omega
                  rw [e]
                  exact ho5
                have HOO5 : Hid ((bo ++ [UInt8.ofNat a]).map UInt8.toNat = own (s.l.take (i + 1))) := by
                  show _ = _
                  rw [HDS.out.2, List.map_append, HOO.out]
                  congr 1
                  have h1 := HA31.out
                  simp
                  omega
                have HDY5 := Lib.hid HDS.out.1
                clear hft5 ho5 hg5 H HAL HO HO4 HH4 HU4 HB4 HBD HOO HDS HDY HSZ HA31 hi0 hz0 hz1 hz2
                refine ⟨⟨i + 1, s, A5, m + 1, c5, bo ++ [UInt8.ofNat a], by omega, by go_num, rfl, by omega, HDY5, HLN, HRW, H5, HAL5, HO5, HSZ5, HOO5⟩, ?_⟩
                simp [intOf]; omega
            · have h01 : ¬ (i : Int) < (n0 : Int) := by omega
              as_aux_lemma =>
                go_wp2_with (refine wpList_append_wide rfl _ _ 22 rfl B2 5 i0 (.int .u8 0) 1 1 Try.underlying22 hi0 hz0 hz1 hz2 rfl (by decide) _ m (bcs bo) rfl HO4.out.own y0.heap.size (some ⟨y0.heap.size, 0, none⟩) 1 1 [.int .u8 (a : Int)] rfl rfl HH4.out (by intro u hu; simp at hu; subst hu; rfl) HBD.out.1 HBD.out.2 HU4.out ?_; intro A5 c5 x5 ho5 hg5)
                have hft5 := (ft_grown HO4.out.own hg5).below HU4.out
                have H5 := Lib.hid ((H.out.step HPC.out HB4.out).low HPC.out HUB2.out hft5)
                have HAL5 := Lib.hid ((HAL.out.step HB4.out).low HAX.out (fun k hk => hft5.block k hk))
                have HSZ5 : Hid (B2 ≤ x5.heap.size) := Lib.hid (Nat.le_trans HU4.out hft5.size)
                have HO5 : Hid (Al9 x5 B2 (m + 1) A5 c5 (bo ++ [UInt8.ofNat a])) := by
                  refine ⟨?_, by rw [List.length_append, HO.out.len]; rfl⟩
                  have e : bcs (bo ++ [UInt8.ofNat a]) = bcs bo ++ [.int .u8 (a : Int)] := by
                    have h1 := HA31.out
                    simp [bcs]
                    omega
                  rw [e]
                  exact ho5
                have HOO5 : Hid ((bo ++ [UInt8.ofNat a]).map UInt8.toNat = own (s.l.take (i + 1))) := by
                  show _ = _
                  rw [HDS.out.2, List.map_append, HOO.out]
                  congr 1
                  have h1 := HA31.out
                  simp
                  omega
                have HDY5 := Lib.hid HDS.out.1
                clear hft5 ho5 hg5 H HAL HO HO4 HH4 HU4 HB4 HBD HOO HDS HDY HSZ HA31 hi0 hz0 hz1 hz2
                refine ⟨⟨i + 1, s, A5, m + 1, c5, bo ++ [UInt8.ofNat a], by omega, by go_num, rfl, by omega, HDY5, HLN, HRW, H5, HAL5, HO5, HSZ5, HOO5⟩, ?_⟩
                simp [intOf]; omega
        · have hkn : n2 = i := by omega
          subst hkn
          have HOO2 : Hid (bo.map UInt8.toNat = own s.l) := by
            have h1 := HOO.out
            rw [List.take_of_length_le (by rw [HLN.out]; exact Nat.le_refl _)] at h1
            exact h1
          have HML : Hid ((own s.l).length = m) := by
            show _ = _
            rw [← HOO2.out, List.length_map, HO.out.len]
          have HI8 : Hid (I64 8) := Lib.hid ⟨by omega, by omega⟩
          obtain ⟨hmc, hcm2⟩ := HO.out.cap
          clear HOO hi hlt HAL HRL
          by_cases hz : m = 0
          · as_aux_lemma =>
              have HE := Lib.hid (next_none (p := s) (now := 8) (HDY.out.due (by omega)) (own_dead (List.eq_nil_of_length_eq_zero (by rw [HML.out]; exact hz))))
              subst hz
              go_wp2_with fail
              refine (HPC.out.nextL H.out HI8.out).mono ?_
              rintro e y1 ⟨rfl, h1, hc1⟩
              rw [HE.out] at h1 ⊢
              simp only at h1 ⊢
              have H2 := Lib.hid h1
              clear h1 hc1 H
              go_wp2
              go_ret
              exact ⟨rfl, H2.out.below⟩
          · have hmz : ¬ (m : Int) = 0 := by omega
            have hmz0 : 0 < m := by omega
            obtain ⟨nx', ax, he, ha, hx', hrk⟩ := next_turn (p := s) (now := 8) H.out.ok.nx (HDY.out.due (by omega)) (by rw [HML.out]; omega)
            rw [HML.out] at ha hrk
            obtain ⟨a0, ha0⟩ : ∃ a0, rank s.l s.nx % m = a0 := ⟨_, rfl⟩
            have ha0m : a0 < m := by rw [← ha0]; exact Nat.mod_lt _ hmz0
            rw [ha0] at ha hrk
            have HE := Lib.hid he
            have HA0 := Lib.hid ha
            have HX := Lib.hid hx'
            have HRK : Hid (rank s.l nx' = (a0 + 0) % m + 1) := by have e : (a0 + 0) % m = a0 := Nat.mod_eq_of_lt ha0m; show _ = _; rw [hrk, e]
            clear he ha hx' hrk ha0
            go_wp2_with fail
            refine (HPC.out.nextL H.out HI8.out).mono ?_
            rintro e y1 ⟨rfl, h1, hc1⟩
            rw [HE.out] at h1 ⊢
            simp only at h1 ⊢
            have H2 : Hid (Lp Pl w L U D ⟨s.l, nx'⟩ y1) := Lib.hid h1
            have HO2 := Lib.hid (HO.out.cr hc1 HUB2.out)
            clear h1 hc1 H HO HSZ HE
            go_wp2
            go_loopw [19, 20] (fun v j wr => ∃ (i : Nat), i ≤ m ∧ j = .int .i64 i ∧ v = .int .i64 (if a0 < i then (a0 : Int) else -1) ∧ Hid (Lp Pl w L U D ⟨s.l, nx'⟩ wr) ∧ Hid (Al9 wr B2 m Ao co bo)) (fun _ j _ => m - (intOf j).toNat)
            case atStart => exact ⟨0, Nat.zero_le _, rfl, by simp, H2, HO2⟩
            case round =>
              clear H2 HO2 y1 y0
              obtain ⟨i, hi, rfl, rfl, H, HO⟩ := hrel
              rename World => y0
              by_cases hlt : i < m
              · have hlt1 : (i : Int) < (m : Int) := by omega
                obtain ⟨ga, a, rfl, e0, hra⟩ := HO.out.numo HOO2.out i hlt
                have HRA := Lib.hid hra
                clear hra
                by_cases hia : i = a0
                · have haa : a = ax := by have h1 := HRA.out; rw [hia, HA0.out] at h1; injection h1 with h1; exact h1.symm
                  subst haa
                  have HV : Hid ((if a0 < i + 1 then (a0 : Int) else -1) = (i : Int)) := by show _ = _; rw [if_pos (by omega)]; omega
                  generalize (if a0 < i then (a0 : Int) else -1) = vv at *
                  clear hia
                  go_wp2
                  go_roundw
                  case rel => exact ⟨i + 1, by omega, by go_num, by rw [HV.out], H, HO⟩
                  case measure => simp [intOf]; omega
                · have haa : ¬ a = ax := by
                    rintro rfl
                    have h1 := List.getElem?_eq_some_iff.1 HRA.out
                    have h2 := List.getElem?_eq_some_iff.1 HA0.out
                    obtain ⟨k1, k2⟩ := h1
                    obtain ⟨k3, k4⟩ := h2
                    exact hia ((List.getElem_inj (h₀ := k1) (h₁ := k3) (own_nodup HDY.out.ok)).1 (by rw [k2, k4]))
                  have haa' : ((a : Int) == (ax : Int)) = false := by simp; omega
                  have HV : Hid ((if a0 < i + 1 then (a0 : Int) else -1) = (if a0 < i then (a0 : Int) else -1)) := by
                    show _ = _
                    by_cases h1 : a0 < i
                    · rw [if_pos h1, if_pos (by omega)]
                    · rw [if_neg h1, if_neg (by omega)]
                  obtain ⟨vv, hvv⟩ : ∃ vv, (if a0 < i then (a0 : Int) else -1) = vv := ⟨_, rfl⟩
                  rw [hvv] at HV ⊢
                  clear hia haa hvv
                  go_wp2
                  go_roundw
                  case rel => exact ⟨i + 1, by omega, by go_num, by rw [HV.out], H, HO⟩
                  case measure => simp [intOf]; omega
              · have hkn : m = i := by omega
                subst hkn
                rw [if_pos ha0m]
                have ha00 : ¬ (a0 : Int) < 0 := by omega
                have hm3 : (m : Int) ≤ 40 := by omega
                clear hi hlt
                go_wp2
                go_loopw [21] (fun j wr => ∃ (k nx : Nat), k ≤ 3 * m ∧ j = .int .i64 ((k : Int) + 1) ∧ Hid (nx ≤ s.l.length) ∧ Hid (rank s.l nx = (a0 + k) % m + 1) ∧ Hid (Lp Pl w L U D ⟨s.l, nx⟩ wr) ∧ Hid (Al9 wr B2 m Ao co bo)) (fun j _ => 3 * m + 1 - (intOf j).toNat)
                case atStart => exact ⟨0, nx', Nat.zero_le _, rfl, HX, HRK, H, HO⟩
                case round =>
                  clear H HO HX HRK y0
                  obtain ⟨k, nx, hk, rfl, HX, HRK, H, HO⟩ := hrel
                  rename World => y0
                  by_cases hlt : k < 3 * m
                  · have hlt1 : (k : Int) + 1 ≤ 3 * (m : Int) := by omega
                    obtain ⟨r, hr⟩ : ∃ r, (k + 1) % 19 = r := ⟨_, rfl⟩
                    have hr18 : r ≤ 18 := by omega
                    have hq1 : ((k : Int) + 1).tmod 19 = (r : Int) := by rw [← hr]; rfl
                    obtain ⟨z, hz2⟩ : ∃ z, a0 + (k + 1) = z := ⟨_, rfl⟩
                    obtain ⟨ix, hix⟩ : ∃ ix, z % m = ix := ⟨_, rfl⟩
                    have hixm : ix < m := by rw [← hix]; exact Nat.mod_lt _ hmz0
                    have hixm1 : (ix : Int) < (m : Int) := by omega
                    have hw2 : IntKind.i64.wrap ((a0 : Int) + ((k : Int) + 1)) = (z : Int) := by rw [IntKind.wrap_i64]; omega
                    have hq2 : (z : Int).tmod (m : Int) = (ix : Int) := by rw [← hix]; rfl
                    have HI : Hid (I64 (8 + (r : Int))) := Lib.hid ⟨by omega, by omega⟩
                    obtain ⟨nx2, a, he, ha, hx2, hrk⟩ := turn_step (t := 8 + (r : Int)) HX.out (HDY.out.due (by omega)) (by rw [HML.out]; exact hmz0) (by rw [HML.out]; exact HRK.out)
                    rw [HML.out] at ha hrk
                    have hHA : (own s.l)[ix]? = some a := by rw [← hix, ← hz2]; exact ha
                    have HE := Lib.hid he
                    have HX2 := Lib.hid hx2
                    have HRK2 := Lib.hid hrk
                    have HHA := Lib.hid hHA
                    clear he ha hx2 hrk hHA hr hz2 hix
                    go_wp2_with fail
                    refine (HPC.out.nextL H.out HI.out).mono ?_
                    rintro e y1 ⟨rfl, h1, hc1⟩
                    rw [HE.out] at h1 ⊢
                    simp only at h1 ⊢
                    have H2 := Lib.hid h1
                    have HO2 := Lib.hid (HO.out.cr hc1 HUB2.out)
                    obtain ⟨ga, a', hga, e0, hra⟩ := HO2.out.numo HOO2.out ix hixm
                    have haa : a' = a := by rw [HHA.out] at hra; injection hra with hra; exact hra.symm
                    subst haa
                    subst hga
                    clear hra
                    clear h1 hc1 H HO HE
                    go_wp2
                    go_roundw
                    case rel => exact ⟨k + 1, nx2, by omega, by go_num, HX2, HRK2, H2, HO2⟩
                    case measure => simp [intOf]; omega
                  · have hkk : k = 3 * m := by omega
                    have hle : ¬ (k : Int) + 1 ≤ 3 * (m : Int) := by omega
                    go_wp2
                    go_ret
                    exact ⟨rfl, H.out.below⟩

end Go.Proofs.Ytkghbdikbbeoaaa
