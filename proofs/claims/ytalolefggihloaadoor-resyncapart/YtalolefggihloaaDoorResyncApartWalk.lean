/-
  lamplightlaw05.ResyncApart: whatever it is asked, true; nothing that was there is turned.
-/
import Derived.Test.YtalolefggihloaaDoorResyncPortionsWalk
import Derived.Test.YtalolefggihloaaDoorFOwn
namespace Go.Proofs.YtalolefggihloaaDoor
set_option linter.unusedVariables false
set_option linter.unusedSimpArgs false
open Go.RowKit

/-- What is known while two frames are looked at. -/
structure V2 (P : World → Prop) (q g1 : Nat) (B1 : Option Addr) (b1 h1 g2 : Nat) (B2 : Option Addr) (b2 h2 : Nat) (F : Fr) (x : World) : Prop where
  p : P x
  ps : ∀ x y, P x → Below x.heap.size x y → P y
  f1 : Fa g1 q B1 b1 h1 F x
  f2 : Fa g2 q B2 b2 h2 F x
theorem V2.step {P : World → Prop} {q g1 b1 h1 g2 b2 h2 : Nat} {B1 B2 : Option Addr} {F : Fr} {x y : World} (h : V2 P q g1 B1 b1 h1 g2 B2 b2 h2 F x) (hb : Below x.heap.size x y) : V2 P q g1 B1 b1 h1 g2 B2 b2 h2 F y :=
  ⟨h.ps _ _ h.p hb, h.ps, h.f1.step hb, h.f2.step hb⟩
theorem V2.cells {P : World → Prop} {q g1 b1 h1 g2 b2 h2 : Nat} {B1 B2 : Option Addr} {F : Fr} {x : World} (h : V2 P q g1 B1 b1 h1 g2 B2 b2 h2 F x) : (x.cell? ⟨g1, q * 6, none⟩ = some (.int .u8 (F.a : Int)) ∧ x.cell? ⟨g1, q * 6 + 1, none⟩ = some (.int .u8 (F.k : Int)) ∧ x.cell? ⟨g1, q * 6 + 2, none⟩ = some (.int .u8 (F.s : Int)) ∧ x.cell? ⟨g1, q * 6 + 3, none⟩ = some (.int .u8 (F.q : Int)) ∧ x.cell? ⟨g1, q * 6 + 4, none⟩ = some (.int .u8 (F.c : Int)) ∧ x.cell? ⟨g1, q * 6 + 5, none⟩ = some (.slice B1 F.b.length b1)) ∧ (x.cell? ⟨g2, q * 6, none⟩ = some (.int .u8 (F.a : Int)) ∧ x.cell? ⟨g2, q * 6 + 1, none⟩ = some (.int .u8 (F.k : Int)) ∧ x.cell? ⟨g2, q * 6 + 2, none⟩ = some (.int .u8 (F.s : Int)) ∧ x.cell? ⟨g2, q * 6 + 3, none⟩ = some (.int .u8 (F.q : Int)) ∧ x.cell? ⟨g2, q * 6 + 4, none⟩ = some (.int .u8 (F.c : Int)) ∧ x.cell? ⟨g2, q * 6 + 5, none⟩ = some (.slice B2 F.b.length b2)) := ⟨h.f1.cells, h.f2.cells⟩

set_option maxHeartbeats 8000000 in
set_option maxRecDepth 100000 in
theorem resyncapart_walk (P : Option Addr) (n cp : Nat) (ps : List (List UInt8)) (gw : Nat) (Aw : Option Addr) (lw cw : Nat) (ws : List Bool) (w : World) (ht : Tab w) (h : InParts w P ps) (hn : ps.length = n) (hnc : n ≤ cp) (hnm : cp ≤ 9223372036854775807) (hw : Holds w gw Aw (ws.map Value.bool)) (hwl : ws.length = lw) (hwc : lw ≤ cw) (hwm : cw ≤ 9223372036854775807) :
    Calls Tryd.prog 8 #[.slice P n cp, .slice Aw lw cw] w fun e w' => e = .returned (.bool true) ∧ Below w.heap.size w w' := by
  have HTB := Lib.hid ht
  have HP0 := Lib.hid h
  have HN := Lib.hid hn
  have HWS := Lib.hid hw
  have HWL := Lib.hid hwl
  clear h hn ht hw hwl
  go_enter Tryd.func8, Tryd.ntmps8
  go_wp2_with fail
  refine (shown_any w HTB.out).mono ?_
  rintro e x1 ⟨rfl, hb1⟩
  have HT1 := Lib.hid (HTB.out.keep (Ch.of_below hb1) (by simp))
  have HW1 := Lib.hid hb1
  clear HTB hb1
  obtain ⟨zs, hzs, hz, hzn, hz0⟩ := zero_ex
  have HZ := Lib.hid hzs
  clear hzs
  go_upto_region 5 with fail
  have HD1 := Lib.hid (Sd.start HT1.out HW1.out HZ.out)
  have HD2 := Lib.hid (Sd.start HD1.out.tab HD1.out.below HZ.out)
  have HD3 := Lib.hid (Sd.start HD2.out.tab HD2.out.below HZ.out)
  have hs1 : (x1.alloc (.cells zs 30)).heap.size = x1.heap.size + 1 := by simp
  have hs2 : ((x1.alloc (.cells zs 30)).alloc (.cells zs 30)).heap.size = x1.heap.size + 1 + 1 := by simp
  rw [hs1] at HD2
  rw [hs2] at HD3
  have H2 : Hid (P3 w x1.heap.size (x1.heap.size + 1) (x1.heap.size + 1 + 1) Dc.zero Dc.zero Dc.zero 0 0 none [] (((x1.alloc (.cells zs 30)).alloc (.cells zs 30)).alloc (.cells zs 30))) :=
    ⟨HD3.out.tab, ((HD1.out.dec.keep (Ch.of_below (new_below _ _)) (by simp)).keep (Ch.of_below (new_below _ _)) (by simp)), (HD2.out.dec.keep (Ch.of_below (new_below _ _)) (by simp)), HD3.out.dec, Holds.nil _ _ _, HD3.out.below, HW1.out.size, by omega, by omega, fun hp => absurd hp (by simp)⟩
  clear hz hzn hz0 HZ HT1 HW1 HD1 HD2 HD3 hs1 hs2
  generalize (((x1.alloc (.cells zs 30)).alloc (.cells zs 30)).alloc (.cells zs 30)) = x2 at *
  generalize x1.heap.size = D at *
  go_wp2
  go_loopw [9] (fun i wr => ∃ (k : Nat) (d e : Dc), k ≤ n ∧ k ≤ 20 ∧ i = .int .i64 k ∧ Hid (P3 w D (D + 1) (D + 1 + 1) d e d (100 * k) 0 none [] wr)) (fun i _ => n - (intOf i).toNat)
  case atStart => exact ⟨0, Dc.zero, Dc.zero, Nat.zero_le _, Nat.zero_le _, rfl, H2⟩
  case round =>
    clear H2
    obtain ⟨k, d, e, hk, hk20, rfl, HP⟩ := hrel
    by_cases hlt : k < n ∧ k < 20
    · obtain ⟨hkn, hk20'⟩ := hlt
      have hpn := HN.out
      obtain ⟨p, hl⟩ : ∃ l, ps[k]? = some l := ⟨_, List.getElem?_eq_getElem (by omega)⟩
      obtain ⟨b, o, gl, Al, cl, hPe, hbw, hcell, hlc, hcm, hhl⟩ := HP0.out k p hl
      subst hPe
      obtain ⟨m, hm100, hml, hmin⟩ := min_of p.length 100 100 rfl
      have HLM : Hid ((p.take m).length = m) := by show _ = _; simp; omega
      have hcr : wr.cell? ⟨b, o + k, none⟩ = some (.slice Al p.length cl) := (HP.out.below.cell (p := ⟨b, o + k, none⟩) hbw).trans hcell
      have HHL : Hid (Holds w gl Al (bcs (p.take m))) := by show Holds _ _ _ _; rw [bcs_take]; exact hhl.take m
      have HGL : Hid (0 < m → gl < w.heap.size) := fun hp => (hhl (by rw [bcs_length]; omega)).1
      have hkn' : (k : Int) < (n : Int) := by omega
      have hk20i : (k : Int) < 20 := by omega
      have hmc : (m : Int) ≤ (cl : Int) := by omega
      clear hcell hhl hl hpn
      generalize p.length = pl at *
      generalize p.take m = l at *
      go_upto_region 8 with fail
      refine region_plan [(true, 0), (true, 1), (true, 2), (true, 3), (true, 4), (true, 5), (true, 6), (true, 7), (true, 8), (true, 9), (true, 10), (true, 11)]
        (fun x => x.cell? ⟨b, o + k, none⟩ = some (.slice Al pl cl)) (by kernel_rfl) (by kernel_rfl) (by kernel_rfl) rfl hcr ?_
      iterate 12 (refine Plan.take (v := ?_) rfl (by rfl) ?_ ?_; rotate_left 1; (focus (intro x hx; go_simp <;> (first | with_reducible rfl | rw [if_pos (by omega)]))); simp only [Act.put, List.setIfInBounds_toArray, List.set_cons_zero, List.set_cons_succ])
      refine Plan.done ?_
      replace HP := Lib.hid (HP.out.step (drew_below wr))
      clear hcr
      generalize wr.drew = x3 at *
      have HH3 := Lib.hid (HHL.out.keep (Ch.of_below HP.out.below) (by simp))
      go_upto_region 9 with fail
      obtain ⟨wb, hwb⟩ : ∃ wb : Bool, wb = (ws[k]?).getD false := ⟨_, rfl⟩
      go_cut [51] (fun v y => v = .bool wb ∧ y = x3)
      case first =>
        by_cases hkw : k < lw
        · have hkw' : k < ws.length := by rw [HWL.out]; exact hkw
          obtain ⟨hgwl, ow, rfl, hcw⟩ := HWS.out (by simp; omega)
          have hc1 := hcw k (.bool (ws[k]'hkw')) (by simp [hkw'])
          have hc2 := (HP.out.below.cell (p := ⟨gw, ow + k, none⟩) hgwl).trans hc1
          rw [List.getElem?_eq_getElem hkw', Option.getD_some] at hwb
          rw [← hwb] at hc2
          have hkwi : (k : Int) < (lw : Int) := by omega
          clear hc1 hcw
          go_wp2
          go_meet
          case rel => exact ⟨by rw [hwb], rfl⟩
        · have hkwi : ¬ (k : Int) < (lw : Int) := by omega
          rw [List.getElem?_eq_none (by rw [HWL.out]; omega)] at hwb
          go_wp2
          go_meet
          case rel => exact ⟨by rw [hwb]; rfl, rfl⟩
      case rest =>
        obtain ⟨rfl, rfl⟩ := hcut
        clear hwb
        cases wb
        · go_wp2_with fail
          refine (feed_on (l := l) HP.out.tab HP.out.one HH3.out HLM.out (fun hp => by have := HGL.out hp; have := HP.out.le; omega) (by omega)).mono ?_
          rintro e' x4 ⟨A4, m4, c4, ts4, rfl, ho4, hf4, hm4, hd4, ht4, hc4⟩
          rw [HLM.out] at hd4
          have HP4 := Lib.hid (HP.out.turn1 ht4 hd4 hc4 (by omega))
          have HO1 := Lib.hid (ho4.mono (show D + 1 + 1 + 1 ≤ wc.heap.size from HP.out.three.lt))
          have HF1 := Lib.hid hf4
          have hm4' : m4 ≤ 100 := Nat.le_trans hm4 (by rw [HLM.out]; exact hm100)
          have HH4 := Lib.hid (HHL.out.keep (Ch.of_below HP4.out.below) (by simp))
          have HD3 := Lib.hid (HP.out.three.keep hc4 (by have := HP.out.le; simp; omega))
          clear ho4 hf4 hm4 hd4 ht4 hc4 HP HH3
          go_wp2_with fail
          refine (feed_on (l := l) HP4.out.tab HD3.out HH4.out HLM.out (fun hp => by have := HGL.out hp; have := HP4.out.le; omega) (by omega)).mono ?_
          rintro e' x5 ⟨A5, m5, c5, ts5, rfl, ho5, hf5, hm5, hd5, ht5, hc5⟩
          rw [HLM.out] at hd5
          have HP5 := Lib.hid (HP4.out.turn3 ht5 (hd5.mono (show 100 * k + m ≤ 100 * (k + 1) by omega)) hc5 (by omega))
          have HO2 := Lib.hid (ho5.mono (show D + 1 + 1 + 1 ≤ x4.heap.size from HP4.out.three.lt))
          replace HO1 := Lib.hid (HO1.out.keep hc5 (fun g hg => by simp; omega))
          have HF2 := Lib.hid hf5
          clear ho5 hf5 hm5 hd5 ht5 hc5 HP4 HH4 HD3
          generalize (d.feed l).1 = d' at *
          generalize (d.feed l).2 = fs at *
          obtain rfl : m5 = m4 := by have h1 := congrArg List.length HF1.out; have h2 := congrArg List.length HF2.out; rw [List.length_map, HO1.out.len] at h1; rw [List.length_map, HO2.out.len] at h2; omega
          have HFL : Hid (fs.length = m5) := by show _ = _; rw [← HF1.out, List.length_map, HO1.out.len]
          go_wp2
          go_loopw [13] (fun i wr => ∃ q : Nat, q ≤ m5 ∧ i = .int .i64 q ∧ Hid (P3 w D (D + 1) (D + 1 + 1) d' e d' (100 * (k + 1)) 0 none [] wr ∧ Told wr (D + 1 + 1 + 1) (.slice A4 m5 c4) m5 ts4 ∧ Told wr (D + 1 + 1 + 1) (.slice A5 m5 c5) m5 ts5)) (fun i _ => m5 - (intOf i).toNat)
          case atStart => exact ⟨0, Nat.zero_le _, rfl, ⟨HP5.out, HO1.out, HO2.out⟩⟩
          case round =>
            clear HP5 HO1 HO2
            obtain ⟨q, hq, rfl, HA⟩ := hrel
            by_cases hlt : q < m5
            · have hq1 : q < ts4.length := by rw [HA.out.2.1.len]; exact hlt
              have hq2 : q < ts5.length := by rw [HA.out.2.2.len]; exact hlt
              have hqf : q < fs.length := by rw [HFL.out]; exact hlt
              have hlt' : (q : Int) < (m5 : Int) := by omega
              go_upto_region 18 with fail
              obtain ⟨F, hF⟩ : ∃ F, fs[q]'hqf = F := ⟨_, rfl⟩
              have he1 : (ts4[q]'hq1).f = F := by rw [← hF]; simp only [← HF1.out, List.getElem_map]
              have he2 : (ts5[q]'hq2).f = F := by rw [← hF]; simp only [← HF2.out, List.getElem_map]
              obtain ⟨g1, B1, b1, h1, rfl, hf1⟩ := HA.out.2.1.fa q hq1 F he1
              obtain ⟨g2, B2, b2, h2, rfl, hf2⟩ := HA.out.2.2.fa q hq2 F he2
              have HV : Hid (V2 (fun x => P3 w D (D + 1) (D + 1 + 1) d' e d' (100 * (k + 1)) 0 none [] x ∧ Told x (D + 1 + 1 + 1) (.slice (some ⟨g1, 0, none⟩) m5 c4) m5 ts4 ∧ Told x (D + 1 + 1 + 1) (.slice (some ⟨g2, 0, none⟩) m5 c5) m5 ts5) q g1 B1 b1 h1 g2 B2 b2 h2 F wr.drew) :=
                V2.step ⟨HA.out, fun _ _ h hb => ⟨h.1.step hb, h.2.1.step hb, h.2.2.step hb⟩, hf1, hf2⟩ (drew_below wr)
              clear HA hf1 hf2 he1 he2 hF hq1 hq2 hqf
              refine region_plan [(true, 0), (true, 1), (true, 2), (true, 3), (true, 5), (true, 6), (true, 7), (true, 8), (false, 4), (false, 9), (true, 10)]
                (fun x => (x.cell? ⟨g1, q * 6, none⟩ = some (.int .u8 (F.a : Int)) ∧ x.cell? ⟨g1, q * 6 + 1, none⟩ = some (.int .u8 (F.k : Int)) ∧ x.cell? ⟨g1, q * 6 + 2, none⟩ = some (.int .u8 (F.s : Int)) ∧ x.cell? ⟨g1, q * 6 + 3, none⟩ = some (.int .u8 (F.q : Int)) ∧ x.cell? ⟨g1, q * 6 + 4, none⟩ = some (.int .u8 (F.c : Int)) ∧ x.cell? ⟨g1, q * 6 + 5, none⟩ = some (.slice B1 F.b.length b1)) ∧ (x.cell? ⟨g2, q * 6, none⟩ = some (.int .u8 (F.a : Int)) ∧ x.cell? ⟨g2, q * 6 + 1, none⟩ = some (.int .u8 (F.k : Int)) ∧ x.cell? ⟨g2, q * 6 + 2, none⟩ = some (.int .u8 (F.s : Int)) ∧ x.cell? ⟨g2, q * 6 + 3, none⟩ = some (.int .u8 (F.q : Int)) ∧ x.cell? ⟨g2, q * 6 + 4, none⟩ = some (.int .u8 (F.c : Int)) ∧ x.cell? ⟨g2, q * 6 + 5, none⟩ = some (.slice B2 F.b.length b2)))
                (by kernel_rfl) (by kernel_rfl) (by kernel_rfl) rfl HV.out.cells ?_
              iterate 8 (refine Plan.take (v := ?_) rfl (by rfl) ?_ ?_; rotate_left 1; (focus (intro x hx; go_simp <;> (first | with_reducible rfl | rw [if_pos (by omega)]))); simp only [Act.put, List.setIfInBounds_toArray, List.set_cons_zero, List.set_cons_succ])
              generalize wr.drew = y0 at *
              refine Plan.loud rfl (fun K hK => ?_)
              go_simp
              refine (of_on HV.out.f1.hold rfl).mono ?_
              rintro e1 y1 ⟨rfl, hb⟩
              replace HV := Lib.hid (HV.out.step hb)
              clear hb
              refine hK.out _ _ _ (fun x hx => hx) HV.out.cells ?_
              clear hK K
              refine Plan.loud rfl (fun K hK => ?_)
              go_simp
              refine (of_on HV.out.f2.hold rfl).mono ?_
              rintro e1 y2 ⟨rfl, hb⟩
              replace HV := Lib.hid (HV.out.step hb)
              clear hb
              refine hK.out _ _ _ (fun x hx => hx) HV.out.cells ?_
              clear hK K
              iterate 1 (refine Plan.take (v := ?_) rfl (by rfl) ?_ ?_; rotate_left 1; (focus (intro x hx; go_simp <;> (first | with_reducible rfl | rw [if_pos (by omega)]))); simp only [Act.put, List.setIfInBounds_toArray, List.set_cons_zero, List.set_cons_succ])
              refine Plan.done ?_
              go_wp2
              go_roundw
              case rel => exact ⟨q + 1, by omega, by go_num, HV.out.p⟩
              case measure => simp [intOf]; omega
            · go_wp2
              go_roundw
              case rel => exact ⟨k + 1, d', e, by omega, by omega, by go_num, HA.out.1⟩
              case measure => simp [intOf]; omega
        · go_wp2_with fail
          refine (feed_on (l := l) HP.out.tab HP.out.two HH3.out HLM.out (fun hp => by have := HGL.out hp; have := HP.out.le; omega) (by omega)).mono ?_
          rintro e' x4 ⟨A4, m4, c4, ts4, rfl, -, -, -, hd4, ht4, hc4⟩
          rw [HLM.out] at hd4
          have HP4 := Lib.hid (HP.out.turn2 ht4 (hd4.mono (show 100 * k + m ≤ 100 * (k + 1) by omega)) hc4 (by omega))
          clear hd4 ht4 hc4 HP
          go_wp2
          go_roundw
          case rel => exact ⟨k + 1, d, _, by omega, by omega, by go_num, HP4⟩
          case measure => simp [intOf]; omega
    · have heq := eq_twelve (d.errs 0 : Int) (d.errs 1 : Int) (d.errs 2 : Int) (d.errs 3 : Int) (d.errs 4 : Int) (d.errs 5 : Int) (d.errs 6 : Int) (d.errs 7 : Int) (d.errs 8 : Int) (d.errs 9 : Int) (d.errs 10 : Int) (d.errs 11 : Int)
      have hgd : Tryd.prog.eqGuardType Tryd.prog.depth 25 = false := by kernel_rfl
      have hcond : ((k : Int) < (n : Int) → ¬ (k : Int) < 20) := by omega
      by_cases hkn : k < n
      · have h1 : (k : Int) < (n : Int) := by omega
        have h2 : ¬ (k : Int) < 20 := by omega
        clear hcond
        go_wp2_with fail
        refine (errors_on HP.out.one).mono ?_
        rintro e1 y1 ⟨rfl, hb⟩
        rw [ecs_lit]
        replace HP := Lib.hid (HP.out.step hb)
        clear hb
        go_wp2_with fail
        refine (errors_on HP.out.three).mono ?_
        rintro e1 y2 ⟨rfl, hb⟩
        rw [ecs_lit]
        replace HP := Lib.hid (HP.out.step hb)
        clear hb
        go_wp2_with fail
        refine (held_on HP.out.one).mono ?_
        rintro e1 y3 ⟨rfl, rfl⟩
        go_wp2_with fail
        refine (held_on HP.out.three).mono ?_
        rintro e1 y4 ⟨rfl, rfl⟩
        go_wp2
        go_ret
        exact ⟨rfl, HP.out.below⟩
      · have h1 : ¬ (k : Int) < (n : Int) := by omega
        clear hcond
        go_wp2_with fail
        refine (errors_on HP.out.one).mono ?_
        rintro e1 y1 ⟨rfl, hb⟩
        rw [ecs_lit]
        replace HP := Lib.hid (HP.out.step hb)
        clear hb
        go_wp2_with fail
        refine (errors_on HP.out.three).mono ?_
        rintro e1 y2 ⟨rfl, hb⟩
        rw [ecs_lit]
        replace HP := Lib.hid (HP.out.step hb)
        clear hb
        go_wp2_with fail
        refine (held_on HP.out.one).mono ?_
        rintro e1 y3 ⟨rfl, rfl⟩
        go_wp2_with fail
        refine (held_on HP.out.three).mono ?_
        rintro e1 y4 ⟨rfl, rfl⟩
        go_wp2
        go_ret
        exact ⟨rfl, HP.out.below⟩

end Go.Proofs.YtalolefggihloaaDoor
