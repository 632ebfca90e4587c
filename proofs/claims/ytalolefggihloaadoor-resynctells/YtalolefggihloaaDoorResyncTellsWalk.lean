/-
  lamplightlaw05.ResyncTells: whatever it is asked, true; nothing that was there is turned.
-/
import Derived.Test.YtalolefggihloaaDoorResyncTellsMem
namespace Go.Proofs.YtalolefggihloaaDoor
set_option linter.unusedVariables false
set_option linter.unusedSimpArgs false
open Go.RowKit

set_option maxHeartbeats 16000000 in
set_option maxRecDepth 100000 in
theorem resynctells_walk (P : Option Addr) (n cp : Nat) (ps : List (List UInt8)) (w : World) (ht : Tab w) (h : InParts w P ps) (hn : ps.length = n) (hnc : n ≤ cp) (hnm : cp ≤ 9223372036854775807) :
    Calls Tryd.prog 3 #[.slice P n cp] w fun e w' => e = .returned (.bool true) ∧ Below w.heap.size w w' := by
  obtain ⟨ib, hib, hib0, hib1, hib2⟩ := info_parts info_byte
  obtain ⟨i0, hi, hz0', hz1, hz2⟩ := info_parts info_frame
  have HTB := Lib.hid ht
  have HP0 := Lib.hid h
  have HN := Lib.hid hn
  clear h hn ht
  go_enter Tryd.func3, Tryd.ntmps3
  go_wp2_with fail
  refine (shown_any w HTB.out).mono ?_
  rintro e x1 ⟨rfl, hb1⟩
  have HT1 := Lib.hid (HTB.out.keep (Ch.of_below hb1) (by simp))
  have HW1 := Lib.hid hb1
  clear HTB hb1
  obtain ⟨zs, hzs, hz, hzn, hz0⟩ := zero_ex
  have HZ := Lib.hid hzs
  clear hzs
  go_upto_region 3 with fail
  have H2 := Lib.hid (Sd.start HT1.out HW1.out HZ.out)
  clear hz hzn hz0 HZ HT1 HW1
  generalize x1.alloc (.cells zs 30) = x2 at *
  generalize x1.heap.size = D at *
  go_wp2
  go_loopw [5, 6, 7] (fun s v i wr => ∃ (k nn c' : Nat) (A' : Option Addr) (ts : List Tf), k ≤ n ∧ k ≤ 20 ∧ i = .int .i64 k ∧ s = .string ⟨(ctn ps k).toArray⟩ ∧ v = .slice A' nn c' ∧ nn ≤ 100 * k ∧ Hid (Sd w D (Dc.zero.feed (ctn ps k)).1 (100 * k) wr) ∧ Hid (Gt wr (D + 1) (.slice A' nn c') nn ts) ∧ Hid (ts.map (·.f) = (Dc.zero.feed (ctn ps k)).2)) (fun _ _ i _ => n - (intOf i).toNat)
  case atStart => exact ⟨0, 0, 0, none, [], Nat.zero_le _, Nat.zero_le _, rfl, rfl, rfl, Nat.le_refl _, H2, Gt.nil _ _, rfl⟩
  case round =>
    clear H2
    obtain ⟨k, nn, c', A', ts, hk, hk20, rfl, rfl, rfl, hnn, HS, HG, HF⟩ := hrel
    have hct := ctn_le ps k
    by_cases hlt : k < n ∧ k < 20
    · obtain ⟨hkn, hk20'⟩ := hlt
      have hpn := HN.out
      obtain ⟨p, hl⟩ : ∃ l, ps[k]? = some l := ⟨_, List.getElem?_eq_getElem (by omega)⟩
      obtain ⟨b, o, gl, Al, cl, hPe, hbw, hcell, hlc, hcm, hhl⟩ := HP0.out k p hl
      subst hPe
      obtain ⟨m, hm100, hml, hmin⟩ := min_of p.length 100 100 rfl
      have HLM : Hid ((p.take m).length = m) := by show _ = _; simp; omega
      have hpt : p.take m = p.take 100 := by
        by_cases h50 : (100 : Int) < (p.length : Int)
        · rw [if_pos h50] at hmin
          rw [show m = 100 by omega]
        · rw [if_neg h50] at hmin
          rw [List.take_of_length_le (i := m) (by omega), List.take_of_length_le (i := 100) (by omega)]
      have HCT : Hid (ctn ps (k + 1) = ctn ps k ++ p.take m) := by show _ = _; rw [hpt]; exact ctn_succ ps k p hl
      have hcr : wr.cell? ⟨b, o + k, none⟩ = some (.slice Al p.length cl) := (HS.out.below.cell (p := ⟨b, o + k, none⟩) hbw).trans hcell
      have HHL : Hid (Holds w gl Al (bcs (p.take m))) := by show Holds _ _ _ _; rw [bcs_take]; exact hhl.take m
      have HBL : Hid (b < wr.heap.size) := Nat.lt_of_lt_of_le hbw HS.out.below.size
      have hkn' : (k : Int) < (n : Int) := by omega
      have hk20i : (k : Int) < 20 := by omega
      have hmc : (m : Int) ≤ (cl : Int) := by omega
      clear hcell hhl hl hpn hpt hbw
      generalize p.length = pl at *
      generalize p.take m = l at *
      go_upto_region 8 with fail
      refine region_plan [(true, 1), (true, 2), (true, 3), (true, 4), (true, 5), (true, 6), (true, 7), (true, 8), (true, 9), (true, 10), (true, 11), (false, 0), (false, 12), (true, 13)]
        (fun x => x.cell? ⟨b, o + k, none⟩ = some (.slice Al pl cl)) (by kernel_rfl) (by kernel_rfl) (by kernel_rfl) rfl hcr ?_
      iterate 11 (refine Plan.take (v := ?_) rfl (by rfl) ?_ ?_; rotate_left 1; (focus (intro x hx; go_simp <;> (first | with_reducible rfl | rw [if_pos (by omega)]))); simp only [Act.put, List.setIfInBounds_toArray, List.set_cons_zero, List.set_cons_succ])
      replace HS := Lib.hid (HS.out.step (drew_below wr))
      replace HG := Lib.hid (HG.out.step (drew_below wr))
      replace HBL : Hid (b < wr.drew.heap.size) := HBL.out
      replace hcr : wr.drew.cell? ⟨b, o + k, none⟩ = some (.slice Al pl cl) := hcr
      generalize wr.drew = y0 at *
      refine Plan.loud rfl (fun K hK => ?_)
      go_simp
      have HO0 := Lib.hid (Own1.empty y0)
      have HW1 := Lib.hid (new_below y0 (.cells #[] 5))
      have hcr1 := (HW1.out.cell (p := ⟨b, o + k, none⟩) HBL.out).trans hcr
      refine hK.out _ _ _ (fun x hx => hx) hcr1 ?_
      clear hK K hcr
      have HH1 := Lib.hid (HHL.out.keep (Ch.of_below (HS.out.step HW1.out).below) (by simp))
      have HZ1 : Hid (y0.heap.size < (y0.alloc (.cells #[] 5)).heap.size) := by show _ < _; simp
      generalize y0.alloc (.cells #[] 5) = y1 at *
      refine Plan.loud rfl (fun K hK => ?_)
      rw [if_pos (by rfl)]
      refine wp_append_holds (.tmp 27) (.tmp 38) 32 rfl 5 ib (.int .u8 0) 1 Tryd.underlying32 hib hib0 hib1 hib2 rfl (.slice (some ⟨y0.heap.size, 0, none⟩) 0 0) 0 (bcs []) rfl HO0.out.own gl Al m cl (bcs l) rfl (by rw [bcs_length]; exact HLM.out) HH1.out (bcs_one _) (by unfold maxLen; omega) (by omega) ?_
      intro A2 c2 y2 hown2 hgr2 hat2
      simp only [Nat.zero_add] at hown2 hat2 ⊢
      rw [← bcs_append, List.nil_append] at hown2
      have HG2 := Lib.hid (HO0.out.grown (Nat.le_of_lt HZ1.out) hgr2 hown2 HLM.out hat2)
      have HB2 : Hid (Below y0.heap.size y0 y2) := HW1.out.trans HG2.out.2
      have hcr2 := (HG2.out.2.cell (p := ⟨b, o + k, none⟩) HBL.out).trans hcr1
      refine hK.out _ _ _ (fun x hx => hx) hcr2 ?_
      clear hK K hcr1 hcr2 hown2 hgr2 hat2
      iterate 1 (refine Plan.take (v := ?_) rfl (by rfl) ?_ ?_; rotate_left 1; (focus (intro x hx; go_simp <;> (first | with_reducible rfl | rw [if_pos (by omega)]))); simp only [Act.put, List.setIfInBounds_toArray, List.set_cons_zero, List.set_cons_succ])
      refine Plan.done ?_
      have HOp := Lib.hid HG2.out.1
      have HS2 := Lib.hid (HS.out.step HB2.out)
      have HGt2 := Lib.hid (HG.out.step HB2.out)
      have HGlt : Hid (∀ t ∈ ts, 0 < t.f.b.length → t.g < y0.heap.size) := HG.out.lt
      have HGol : Hid (∀ g, (Value.slice A' nn c').ownBlock = some g → g < y0.heap.size) := fun g hg => (HG.out.own.lt g hg).2
      have HDlo : Hid (D < y0.heap.size) := HS.out.dec.lt
      have HZ2 : Hid (y0.heap.size ≤ y2.heap.size) := HB2.out.size
      clear HG2 HO0 HW1 HH1 HZ1 HB2 HS HG HBL HHL
      generalize y0.heap.size = lo at *
      have hcv := HOp.out.cv
      have hjn := cat_two (ctn ps k) l
      have hsum : ¬ 9223372036854775807 < (ctn ps k).length + l.length := by rw [HLM.out]; omega
      have hsum' : ¬ 9223372036854775807 < (ctn ps k).length + m := by omega
      go_upto_region 10 with fail
      clear hcv hjn hsum hsum'
      obtain ⟨gp, hgp, hgp'⟩ := HOp.out.holds
      have HGP := Lib.hid hgp
      have HGN : Hid (0 < m → gp ≠ D) := fun hp => by have := hgp' hp; have := HDlo.out; omega
      clear hgp hgp'
      go_wp2_with fail
      refine (feed_on (l := l) HS2.out.tab HS2.out.dec HGP.out HLM.out HGN.out (by omega)).mono ?_
      rintro e y3 ⟨A3, mx, c3, xs, rfl, ho3, hf3, hm3, hd3, ht3, hc3⟩
      rw [HLM.out] at hd3
      have HS3 := Lib.hid (HS2.out.turn ht3 (hd3.mono (show 100 * k + m ≤ 100 * (k + 1) by omega)) hc3)
      have HO3 : Hid (Own1 y3 lo A2 m c2 l) := ⟨own_ch HOp.out.own hc3 (fun g hg => by have := HOp.out.from_ g hg; have := HDlo.out; simp; omega), HOp.out.from_, HOp.out.len⟩
      have HG3 : Hid (Gt y3 (D + 1) (.slice A' nn c') nn ts) := HGt2.out.keep hc3 (fun g hg => by have := (HGt2.out.own.lt g hg).1; simp; omega) (fun t ht hp => by have := HGt2.out.from_ t ht hp; simp; omega)
      have HX3 := Lib.hid ho3
      have HXf := Lib.hid hf3
      have hmx : mx ≤ 100 := Nat.le_trans hm3 (by rw [HLM.out]; exact hm100)
      have HPl : Hid (∀ g, (Value.slice A2 m c2).ownBlock = some g → lo ≤ g ∧ g < y2.heap.size) := fun g hg => ⟨HOp.out.from_ g hg, (HOp.out.own.lt g hg).2⟩
      have HXl : Hid (xs.length = mx) := ho3.len
      have HZ3 := Lib.hid hc3.size
      clear ho3 hf3 hm3 hd3 ht3 hc3 HS2 HOp HGt2 HGP HGN
      generalize y2.heap.size = xb at *
      go_wp2
      go_loopw [10] (fun i wr => ∃ (j : Nat) (l' : List UInt8), j ≤ m ∧ i = .int .i64 j ∧ Hid (Own1 wr lo A2 m c2 l') ∧ Hid (Ch (Value.slice A2 m c2).ownBlock.toList y3 wr)) (fun i _ => m - (intOf i).toNat)
      case atStart => exact ⟨0, l, Nat.zero_le _, rfl, HO3, Ch.refl _ _⟩
      case round =>
        clear HO3
        obtain ⟨j, l', hj, rfl, HOw, HCw⟩ := hrel
        by_cases hlt : j < m
        · have hjl : j < l'.length := by rw [HOw.out.len]; exact hlt
          obtain ⟨gq, rfl, hgq, hgql, hcq, hfq, hsq⟩ := HOw.out.at j hjl
          have i3 : (j : Int) < (m : Int) := by omega
          have HN1 := Lib.hid (hsq 63)
          rw [show ((63 : UInt8).toNat : Int) = 63 from rfl] at HN1
          have HC1 : Hid (Ch (Value.slice (some ⟨gq, 0, none⟩) m c2).ownBlock.toList y3 (wr.setCell ⟨gq, j, none⟩ (.int .u8 63))) := HCw.out.trans ((Ch.refl _ wr).setCell (by simp [Value.ownBlock]) _)
          clear hsq
          go_wp2
          go_roundw
          case rel => exact ⟨j + 1, l'.set j 63, by omega, by go_num, HN1, HC1⟩
          case measure => simp [intOf]; omega
        · have HS4 := Lib.hid (HS3.out.far HCw.out (fun g hg => by have := HPl.out g (by simpa using hg); have := HDlo.out; omega))
          have HG4 := Lib.hid (HG3.out.keep HCw.out (fun g hg hk => by have := HPl.out g (by simpa using hk); have := HGol.out g hg; omega) (fun t ht hp hk => by have := HPl.out t.g (by simpa using hk); have := HGlt.out t ht hp; omega))
          have HX4 := Lib.hid (HX3.out.keep HCw.out (fun g hg hk => by have := (HPl.out g (by simpa using hk)).2; omega))
          have H3 : Hid (L3 w D ((Dc.zero.feed (ctn ps k)).1.feed l).1 (100 * (k + 1)) A' nn c' ts lo xb wr.heap.size A3 mx c3 xs 0 wr) :=
            ⟨HS4.out, HG4.out, fun t ht hp => .inl (HGlt.out t ht hp), fun g hg => .inl (HGol.out g hg), HX4.out.own, fun g hg => (HX4.out.own.lt g hg).2, fun j s hs _ => HX4.out.in_ s (List.mem_of_getElem? hs), fun s hs hp => ⟨((HX4.out.in_ s hs).row hp).2.2.2, HX4.out.lt s hs hp⟩, HX4.out.apart, HZ2.out, Nat.le_trans HZ3.out HCw.out.size, HDlo.out, Nat.le_refl _⟩
          have hjm : j = m := by omega
          subst hjm
          clear HS4 HG4 HX4 HS3 HG3 HX3 HOw HCw HPl
          generalize hhi : wr.heap.size = hi' at *
          clear hhi
          go_wp2
          go_loopw [6, 11] (fun v i wr => ∃ (q n2 c5 : Nat) (A5 : Option Addr) (us : List Tf), q ≤ mx ∧ i = .int .i64 q ∧ v = .slice A5 n2 c5 ∧ n2 ≤ nn + q ∧ Hid (L3 w D ((Dc.zero.feed (ctn ps k)).1.feed l).1 (100 * (k + 1)) A5 n2 c5 us lo xb hi' A3 mx c3 xs q wr) ∧ Hid (us.map (·.f) = ts.map (·.f) ++ (xs.map (·.f)).take q)) (fun _ i _ => mx - (intOf i).toNat)
          case atStart => exact ⟨0, nn, c', A', ts, Nat.zero_le _, rfl, rfl, Nat.le_refl _, H3, by show _ = _; simp⟩
          case round =>
            clear H3
            obtain ⟨q, n2, c5, A5, us, hq, rfl, rfl, hn2, HL, HU⟩ := hrel
            by_cases hlt : q < mx
            · have hqx : q < xs.length := by rw [HXl.out]; exact hlt
              obtain ⟨s, hs⟩ : ∃ s, xs[q]? = some s := ⟨_, List.getElem?_eq_getElem hqx⟩
              have HSs := Lib.hid hs
              obtain ⟨gx, rfl, -, -, -⟩ := own_cell6 HL.out.xown HXl.out q hqx
              have i3 : (q : Int) < (mx : Int) := by omega
              have HU1 : Hid ((us ++ [(⟨s.f, s.A, s.c, s.g⟩ : Tf)]).map (·.f) = ts.map (·.f) ++ (xs.map (·.f)).take (q + 1)) := by
                show _ = _
                rw [List.map_append, HU.out, List.append_assoc, List.take_add_one, List.getElem?_map, hs]
                rfl
              clear hs hqx
              go_upto_region 18 with fail
              replace HL := Lib.hid (HL.out.step (drew_below wr))
              refine region_plan [(true, 0), (true, 1), (true, 2), (true, 3), (true, 4), (true, 5), (true, 6), (true, 7), (true, 8), (true, 9), (true, 10), (true, 11), (true, 12), (true, 13), (true, 14), (true, 15), (true, 16), (true, 17), (true, 18), (true, 19), (true, 20), (true, 21), (true, 22), (true, 23), (true, 24), (true, 25), (true, 27), (true, 28), (true, 29), (true, 30), (true, 31), (false, 26), (false, 32), (true, 33), (false, 34), (false, 35), (true, 36)]
                (fun x => x.cell? ⟨gx, q * 6, none⟩ = some (.int .u8 (s.f.a : Int)) ∧ x.cell? ⟨gx, q * 6 + 1, none⟩ = some (.int .u8 (s.f.k : Int)) ∧ x.cell? ⟨gx, q * 6 + 2, none⟩ = some (.int .u8 (s.f.s : Int)) ∧ x.cell? ⟨gx, q * 6 + 3, none⟩ = some (.int .u8 (s.f.q : Int)) ∧ x.cell? ⟨gx, q * 6 + 4, none⟩ = some (.int .u8 (s.f.c : Int)) ∧ x.cell? ⟨gx, q * 6 + 5, none⟩ = some (.slice s.A s.f.b.length s.c)) (by kernel_rfl) (by kernel_rfl) (by kernel_rfl) rfl (HL.out.cells HXl.out HSs.out) ?_
              iterate 31 (refine Plan.take (v := ?_) rfl (by rfl) ?_ ?_; rotate_left 1; (focus (intro x hx; go_simp <;> (first | with_reducible rfl | rw [if_pos (by omega)]))); simp only [Act.put, List.setIfInBounds_toArray, List.set_cons_zero, List.set_cons_succ])
              generalize wr.drew = z0 at *
              refine Plan.loud rfl (fun K hK => ?_)
              go_simp
              have HO0 := Lib.hid (Own1.empty z0)
              have HW1 := Lib.hid (new_below z0 (.cells #[] 5))
              have HL1 := Lib.hid (HL.out.step HW1.out)
              refine hK.out _ _ _ (fun x hx => hx) (HL1.out.cells HXl.out HSs.out) ?_
              clear hK K
              have HZ1 : Hid (z0.heap.size < (z0.alloc (.cells #[] 5)).heap.size) := by show _ < _; simp
              generalize z0.alloc (.cells #[] 5) = z1 at *
              refine Plan.loud rfl (fun K hK => ?_)
              rw [if_pos (by rfl)]
              have hbl : s.f.b.length ≤ 24 := by
                have h1 := feed_right l (Dc.zero.feed (ctn ps k)).1
                rw [← HXf.out] at h1
                exact right_le (h1 s.f (List.mem_map.2 ⟨s, List.mem_of_getElem? HSs.out, rfl⟩))
              refine wp_append_holds (.tmp 88) (.tmp 93) 32 rfl 5 ib (.int .u8 0) 1 Tryd.underlying32 hib hib0 hib1 hib2 rfl (.slice (some ⟨z0.heap.size, 0, none⟩) 0 0) 0 (bcs []) rfl HO0.out.own s.g s.A s.f.b.length s.c (bcs s.f.b) rfl (bcs_length _) ((HL1.out.xin q s HSs.out (Nat.le_refl _)).holds) (bcs_one _) (by unfold maxLen; omega) (by omega) ?_
              intro Ab cb z2 hown2 hgr2 hat2
              simp only [Nat.zero_add] at hown2 hat2 ⊢
              rw [← bcs_append, List.nil_append] at hown2
              have HG2 := Lib.hid (HO0.out.grown (Nat.le_of_lt HZ1.out) hgr2 hown2 rfl hat2)
              have HL2 := Lib.hid (HL.out.step (HW1.out.trans HG2.out.2))
              have HOb := Lib.hid HG2.out.1
              refine hK.out _ _ _ (fun x hx => hx) (HL2.out.cells HXl.out HSs.out) ?_
              clear hK K hown2 hgr2 hat2
              iterate 1 (refine Plan.take (v := ?_) rfl (by rfl) ?_ ?_; rotate_left 1; (focus (intro x hx; go_simp <;> (first | with_reducible rfl | rw [if_pos (by omega)]))); simp only [Act.put, List.setIfInBounds_toArray, List.set_cons_zero, List.set_cons_succ])
              refine Plan.loud rfl (fun K hK => ?_)
              go_simp
              have HW3 := Lib.hid (new_below z2 (.cells #[.int .u8 (s.f.a : Int), .int .u8 (s.f.k : Int), .int .u8 (s.f.s : Int), .int .u8 (s.f.q : Int), .int .u8 (s.f.c : Int), .slice Ab s.f.b.length cb] 35))
              have HL3 := Lib.hid (HL2.out.step HW3.out)
              have HR3 := Lib.hid (heap_alloc_new z2 (.cells #[.int .u8 (s.f.a : Int), .int .u8 (s.f.k : Int), .int .u8 (s.f.s : Int), .int .u8 (s.f.q : Int), .int .u8 (s.f.c : Int), .slice Ab s.f.b.length cb] 35))
              obtain ⟨gb, hgb, hgb'⟩ := HOb.out.holds
              have HB3 := Lib.hid (hgb.keep (Ch.of_below HW3.out) (by simp))
              have HBg : Hid (0 < s.f.b.length → z0.heap.size ≤ gb) := hgb'
              have HOo : Hid (∀ g, (Value.slice A5 n2 c5).ownBlock = some g → g < z0.heap.size) := fun g hg => (HL.out.got.own.lt g hg).2
              have HHi := Lib.hid HL.out.sz
              refine hK.out _ _ _ (fun x hx => hx) (HL3.out.cells HXl.out HSs.out) ?_
              clear hK K HL HL1 HL2 HO0 HW1 HG2 HOb hgb hgb'
              generalize z2.alloc (.cells #[.int .u8 (s.f.a : Int), .int .u8 (s.f.k : Int), .int .u8 (s.f.s : Int), .int .u8 (s.f.q : Int), .int .u8 (s.f.c : Int), .slice Ab s.f.b.length cb] 35) = z3 at *
              refine Plan.loud rfl (fun K hK => ?_)
              rw [if_pos (by rfl)]
              refine wp_append_at (.tmp 62) (.tmp 96) 31 rfl (D + 1) 35 i0 (.agg noFrame) 6 32 Tryd.underlying31 hi hz0' hz1 hz2 rfl (by decide) (.slice A5 n2 c5) n2 (tcs us) rfl HL3.out.got.own ⟨z2.heap.size, 0, none⟩ 1 1 (tcs [⟨s.f, Ab, cb, gb⟩]) rfl rfl (fun j u hu => by rw [addr_add, Nat.zero_add, cell_of_row _ _ _ _ _ _ HR3.out]; simpa [tcs, Tf.cells] using hu) (tcs_oneCell _) (by unfold maxLen; omega) (by omega) HL3.out.sd.dec.lt ?_
              intro A6 c6 z4 hown4 hgr4 hat4
              have HL4 := Lib.hid (HL3.out.more (t := ⟨s.f, Ab, cb, gb⟩) HB3.out (fun hp => Nat.le_trans HHi.out (HBg.out hp)) hown4 hgr4 hat4 (fun g hg hp => by have := HOo.out g hg; have := HBg.out hp; show g ≠ gb; omega))
              refine hK.out _ _ _ (fun x hx => hx) (HL4.out.cells HXl.out HSs.out) ?_
              clear hK K hown4 hgr4 hat4 HL3 HW3 HR3 HB3 HBg HOo HHi
              iterate 1 (refine Plan.take (v := ?_) rfl (by rfl) ?_ ?_; rotate_left 1; (focus (intro x hx; go_simp <;> (first | with_reducible rfl | rw [if_pos (by omega)]))); simp only [Act.put, List.setIfInBounds_toArray, List.set_cons_zero, List.set_cons_succ])
              refine Plan.done ?_
              have HU2 : Hid ((us ++ [(⟨s.f, Ab, cb, gb⟩ : Tf)]).map (·.f) = ts.map (·.f) ++ (xs.map (·.f)).take (q + 1)) := by
                have := HU1.out
                rw [List.map_append] at this
                show _ = _
                rw [List.map_append]
                exact this
              have HRs := Lib.hid ((HL4.out.xin q s HSs.out (Nat.le_refl _)).row)
              replace HL4 := Lib.hid HL4.out.next
              obtain ⟨bl, hble⟩ : ∃ bl, s.f.b.length = bl := ⟨_, rfl⟩
              rw [hble] at hbl
              have HSA : Hid (0 < bl → s.A = some ⟨s.g, 0, none⟩) := fun hp => (HRs.out (by rw [hble]; exact hp)).1
              have HR0 : Hid (0 < bl → ∃ ys : List UInt8, Row z4 s.g ys ∧ ys.length = bl) := fun hp => ⟨s.f.b, (HRs.out (by rw [hble]; exact hp)).2.2.1, hble⟩
              have HBE := Lib.hid hble
              have hc5 := (HL4.out.cells HXl.out HSs.out).2.2.2.2.2
              rw [hble] at hc5
              clear hble HRs HU HU1
              go_wp2
              go_loopw [12] (fun i wr => ∃ j : Nat, j ≤ bl ∧ i = .int .i64 j ∧ Hid (L3 w D ((Dc.zero.feed (ctn ps k)).1.feed l).1 (100 * (k + 1)) A6 (n2 + 1) c6 (us ++ [(⟨s.f, Ab, cb, gb⟩ : Tf)]) lo xb hi' (some ⟨gx, 0, none⟩) mx c3 xs (q + 1) wr) ∧ Hid (0 < bl → ∃ ys : List UInt8, Row wr s.g ys ∧ ys.length = bl)) (fun i _ => bl - (intOf i).toNat)
              case atStart => exact ⟨0, Nat.zero_le _, rfl, HL4, HR0⟩
              case round =>
                clear HL4 HR0 hc5
                obtain ⟨j, hj, rfl, HL, HR⟩ := hrel
                have hc5 := (HL.out.cells HXl.out HSs.out).2.2.2.2.2
                rw [HBE.out] at hc5
                by_cases hlt : j < bl
                · obtain ⟨ys, hrow, hyl⟩ := HR.out (by omega)
                  rw [HSA.out (by omega)] at hc5
                  have hcj := hrow.cell j (by rw [hyl]; exact hlt)
                  have hfj : wr.frozen? ⟨s.g, j, none⟩ = false := frozen_of_row _ _ _ _ _ hrow
                  have i4 : (j : Int) < (bl : Int) := by omega
                  have HL5 := Lib.hid (HL.out.over HSs.out (by rw [HBE.out]; omega) hrow j (.int .u8 33))
                  have HR5 : Hid (0 < bl → ∃ ys : List UInt8, Row (wr.setCell ⟨s.g, j, none⟩ (.int .u8 33)) s.g ys ∧ ys.length = bl) := fun _ => ⟨ys.set j 33, hrow.set j 33, by rw [List.length_set]; exact hyl⟩
                  obtain ⟨yj, hyj⟩ : ∃ yj : Nat, wr.cell? ⟨s.g, j, none⟩ = some (.int .u8 (yj : Int)) := ⟨_, hcj⟩
                  clear hrow hcj hyl
                  go_wp2
                  go_roundw
                  case rel => exact ⟨j + 1, by omega, by go_num, HL5, HR5⟩
                  case measure => simp [intOf]; omega
                · go_wp2
                  go_roundw
                  case rel => exact ⟨q + 1, n2 + 1, c6, A6, _, by omega, by go_num, rfl, by omega, HL, HU2⟩
                  case measure => simp [intOf]; omega
            · have hqm : q = mx := by omega
              subst hqm
              have HUU : Hid (us.map (·.f) = ts.map (·.f) ++ xs.map (·.f)) := by
                have := HU.out
                rw [List.take_of_length_le (by rw [List.length_map, HXl.out]; exact Nat.le_refl _)] at this
                exact this
              have HDD : Hid (Dc.zero.feed (ctn ps (k + 1)) = (((Dc.zero.feed (ctn ps k)).1.feed l).1, (Dc.zero.feed (ctn ps k)).2 ++ ((Dc.zero.feed (ctn ps k)).1.feed l).2)) := by show _ = _; rw [HCT.out, feed_append]
              go_wp2
              go_roundw
              case rel => exact ⟨k + 1, n2, c5, A5, us, by omega, by omega, by go_num, by rw [HCT.out], rfl, by omega, by rw [HDD.out]; exact HL.out.sd, HL.out.got, by show _ = _; rw [HUU.out, HF.out, HXf.out, HDD.out]⟩
              case measure => simp [intOf]; omega
    · go_upto_region 6 with fail
      go_cut [24] (fun v y => v = .bool false ∧ y = wr)
      case first =>
        by_cases hkl : k < n
        · have i1 : (k : Int) < (n : Int) := by omega
          have i2 : ¬ (k : Int) < 20 := by omega
          go_wp2
          go_meet
          case rel => exact ⟨rfl, rfl⟩
        · have i1 : ¬ (k : Int) < (n : Int) := by omega
          go_wp2
          go_meet
          case rel => exact ⟨rfl, rfl⟩
      case rest =>
        obtain ⟨rfl, rfl⟩ := hcut
        go_wp2_with fail
        refine (all_on (ctn ps k) wc (by omega)).mono ?_
        rintro e z1 ⟨AA, na, ca, rfl, hoa, hla, hb⟩
        replace HS := Lib.hid (HS.out.step hb)
        replace HG := Lib.hid (HG.out.step hb)
        obtain rfl : na = nn := by rw [← hla, ← HF.out, List.length_map, HG.out.len]
        have HOA := Lib.hid hoa
        clear hoa hb hla
        generalize (Dc.zero.feed (ctn ps k)).1 = d at *
        generalize (Dc.zero.feed (ctn ps k)).2 = fs at *
        rw [acs_lit]
        go_upto_region 24 with fail
        have HT2 : Hid (Te w D d (100 * k) A' na c' ts wc.heap.size AA ca fs z1.heap.size (z1.alloc (.cells #[.slice AA na ca, .int .i64 (d.errs 0 : Int), .int .i64 (d.errs 1 : Int), .int .i64 (d.errs 2 : Int), .int .i64 (d.errs 3 : Int), .int .i64 (d.errs 4 : Int), .int .i64 (d.errs 5 : Int), .int .i64 (d.errs 6 : Int), .int .i64 (d.errs 7 : Int), .int .i64 (d.errs 8 : Int), .int .i64 (d.errs 9 : Int), .int .i64 (d.errs 10 : Int), .int .i64 (d.errs 11 : Int), .int .i64 (d.held.length : Int)] 38))) :=
          ⟨HS.out.step (new_below _ _), HG.out.step (new_below _ _), ownB_ch HOA.out (Ch.of_below (new_below _ _)) (by simp), heap_alloc_new z1 _⟩
        generalize z1.alloc (.cells #[.slice AA na ca, .int .i64 (d.errs 0 : Int), .int .i64 (d.errs 1 : Int), .int .i64 (d.errs 2 : Int), .int .i64 (d.errs 3 : Int), .int .i64 (d.errs 4 : Int), .int .i64 (d.errs 5 : Int), .int .i64 (d.errs 6 : Int), .int .i64 (d.errs 7 : Int), .int .i64 (d.errs 8 : Int), .int .i64 (d.errs 9 : Int), .int .i64 (d.errs 10 : Int), .int .i64 (d.errs 11 : Int), .int .i64 (d.held.length : Int)] 38) = z2 at *
        generalize z1.heap.size = R at *
        clear HS HG HOA
        replace HT2 := Lib.hid (HT2.out.step (drew_below z2))
        have heq := eq_twelve (d.errs 0 : Int) (d.errs 1 : Int) (d.errs 2 : Int) (d.errs 3 : Int) (d.errs 4 : Int) (d.errs 5 : Int) (d.errs 6 : Int) (d.errs 7 : Int) (d.errs 8 : Int) (d.errs 9 : Int) (d.errs 10 : Int) (d.errs 11 : Int)
        have hgd : Tryd.prog.eqGuardType Tryd.prog.depth 25 = false := by kernel_rfl
        refine region_plan [(true, 0), (true, 1), (true, 2), (true, 3), (true, 4), (false, 5), (true, 6), (true, 7), (true, 8), (true, 10), (true, 11), (false, 9), (true, 12), (true, 13), (true, 14), (true, 15), (true, 17), (true, 18), (false, 16), (true, 19), (true, 20), (true, 21)]
          (fun x => x.cell? ⟨R, 0, none⟩ = some (.slice AA na ca) ∧ x.cell? ⟨R, 1, none⟩ = some (.int .i64 (d.errs 0 : Int)) ∧ x.cell? ⟨R, 2, none⟩ = some (.int .i64 (d.errs 1 : Int)) ∧ x.cell? ⟨R, 3, none⟩ = some (.int .i64 (d.errs 2 : Int)) ∧ x.cell? ⟨R, 4, none⟩ = some (.int .i64 (d.errs 3 : Int)) ∧ x.cell? ⟨R, 5, none⟩ = some (.int .i64 (d.errs 4 : Int)) ∧ x.cell? ⟨R, 6, none⟩ = some (.int .i64 (d.errs 5 : Int)) ∧ x.cell? ⟨R, 7, none⟩ = some (.int .i64 (d.errs 6 : Int)) ∧ x.cell? ⟨R, 8, none⟩ = some (.int .i64 (d.errs 7 : Int)) ∧ x.cell? ⟨R, 9, none⟩ = some (.int .i64 (d.errs 8 : Int)) ∧ x.cell? ⟨R, 10, none⟩ = some (.int .i64 (d.errs 9 : Int)) ∧ x.cell? ⟨R, 11, none⟩ = some (.int .i64 (d.errs 10 : Int)) ∧ x.cell? ⟨R, 12, none⟩ = some (.int .i64 (d.errs 11 : Int)) ∧ x.cell? ⟨R, 13, none⟩ = some (.int .i64 (d.held.length : Int))) (by kernel_rfl) (by kernel_rfl) (by kernel_rfl) rfl HT2.out.cells ?_
        iterate 5 (refine Plan.take (v := ?_) rfl (by rfl) ?_ ?_; rotate_left 1; (focus (intro x hx; go_simp <;> (first | with_reducible rfl | rw [if_pos (by omega)]))); simp only [Act.put, List.setIfInBounds_toArray, List.set_cons_zero, List.set_cons_succ])
        generalize z2.drew = z3 at *
        refine Plan.loud rfl (fun K hK => ?_)
        go_simp
        refine (same_on HT2.out.got HT2.out.ref HF.out (by omega)).mono ?_
        rintro e z4 ⟨rfl, hb⟩
        replace HT2 := Lib.hid (HT2.out.step hb)
        clear hb
        refine hK.out _ _ _ (fun x hx => hx) HT2.out.cells ?_
        clear hK K
        iterate 5 (refine Plan.take (v := ?_) rfl (by rfl) ?_ ?_; rotate_left 1; (focus (intro x hx; go_simp <;> (first | with_reducible rfl | rw [if_pos (by omega)]))); simp only [Act.put, List.setIfInBounds_toArray, List.set_cons_zero, List.set_cons_succ])
        refine Plan.loud rfl (fun K hK => ?_)
        go_simp
        refine (errors_on HT2.out.sd.dec).mono ?_
        rintro e z5 ⟨rfl, hb⟩
        rw [ecs_lit]
        replace HT2 := Lib.hid (HT2.out.step hb)
        clear hb
        refine hK.out _ _ _ (fun x hx => hx) HT2.out.cells ?_
        clear hK K
        iterate 6 (refine Plan.take (v := ?_) rfl (by rfl) ?_ ?_; rotate_left 1; (focus (intro x hx; go_simp <;> (first | with_reducible rfl | rw [if_pos (by omega)]))); simp only [Act.put, List.setIfInBounds_toArray, List.set_cons_zero, List.set_cons_succ])
        refine Plan.loud rfl (fun K hK => ?_)
        go_simp
        refine (held_on HT2.out.sd.dec).mono ?_
        rintro e z6 ⟨rfl, rfl⟩
        refine hK.out _ _ _ (fun x hx => hx) HT2.out.cells ?_
        clear hK K
        iterate 3 (refine Plan.take (v := ?_) rfl (by rfl) ?_ ?_; rotate_left 1; (focus (intro x hx; go_simp <;> (first | with_reducible rfl | rw [if_pos (by omega)]))); simp only [Act.put, List.setIfInBounds_toArray, List.set_cons_zero, List.set_cons_succ])
        refine Plan.done ?_
        go_wp2
        go_ret
        exact ⟨rfl, HT2.out.sd.below⟩

end Go.Proofs.YtalolefggihloaaDoor
