/-
  lamplightlaw06.WireOrder, walked: true, whatever came in.
-/
import Derived.Test.YthpalepkilmpiaaWireZ
namespace Go.Proofs.Ythpalepkilmpiaa
set_option linter.unusedVariables false
set_option linter.unusedSimpArgs false
open Go.RowKit

set_option maxRecDepth 100000 in
set_option maxHeartbeats 12800000 in
theorem wireorder_walk (room : Int) (P : Option Addr) (n c : Nat) (ss : List St6) (w : World) (hp : StepsAt w P ss) (hn : ss.length = n) (hc : n ≤ c) (hm : c ≤ 9223372036854775807) :
    Calls Try.prog 4 #[.int .i64 room, .slice P n c] w fun e w' => e = .returned (.bool true) ∧ Below w.heap.size w w' := by
  obtain ⟨i0, hi, hz0, hz1, hz2⟩ := info_parts info_string
  obtain ⟨a, ha, hr, _⟩ := place_at room 64 (by decide)
  rw [show ((64 : Nat) : Int) = 64 from rfl] at hr
  have HP := Lib.hid hp
  have HN := Lib.hid hn
  clear hp hn
  go_enter Try.func4, Try.ntmps4
  go_wp2_with fail
  refine (shown_on w).mono ?_
  rintro e x0 ⟨rfl, hb0⟩
  have HB0 := Lib.hid hb0
  clear hb0
  have ha64 : (a : Int) < 64 := by omega
  have hwr : IntKind.i64.wrap (1 + (a : Int)) = 1 + (a : Int) := by rw [IntKind.wrap_i64]; omega
  go_wp2_with fail
  refine (new_lw (w := w) (by omega) HB0.out).mono ?_
  rintro e x1 ⟨rfl, h1, _⟩
  have hmax : max (1 + (a : Int)) 1 = 1 + (a : Int) := by omega
  rw [hmax] at h1
  have H1 : Hid (Ow w x0.heap.size (1 + (a : Int)) [] none 0 0 [] none 0 0 [] x1) := ⟨h1, Two.nil w x1⟩
  clear h1 hmax hwr HB0
  generalize x0.heap.size = D at *
  obtain ⟨rm, hrm⟩ : ∃ rm : Int, 1 + (a : Int) = rm := ⟨_, rfl⟩
  rw [hrm] at H1 ⊢
  have hrm1 : 1 ≤ rm ∧ rm ≤ 64 := by omega
  clear hrm
  go_wp2
  go_loopw [7, 8, 9] (fun v7 v8 i wr => ∃ (k : Nat) (qs : List Rw) (A1 : Option Addr) (n1 c1 : Nat) (out : List (List UInt8)) (A2 : Option Addr) (n2 c2 : Nat) (want : List (List UInt8)), k ≤ n ∧ k ≤ 200 ∧ i = .int .i64 k ∧ v8 = .slice A1 n1 c1 ∧ v7 = .slice A2 n2 c2 ∧ n2 ≤ 2 * k ∧ Hid (want = out ++ qs.map (·.l)) ∧ Hid (Ow w D rm qs A1 n1 c1 out A2 n2 c2 want wr)) (fun _ _ i _ => n - (intOf i).toNat)
  case atStart => exact ⟨0, [], none, 0, 0, [], none, 0, 0, [], Nat.zero_le _, Nat.zero_le _, rfl, rfl, rfl, Nat.zero_le _, rfl, H1⟩
  case round =>
    clear H1
    obtain ⟨k, qs, A1, n1, c1, out, A2, n2, c2, want, hk, hk200, rfl, rfl, rfl, hn2, HWt, H⟩ := hrel
    have HQL : Hid (out.length + qs.length = n2) := by
      have h1 := congrArg List.length HWt.out
      rw [List.length_append, List.length_map, H.out.two.len2] at h1
      exact h1.symm
    have HOL : Hid (out.length = n1) := H.out.two.len1
    have hqln : qs.length ≤ 400 := by have := HQL.out; omega
    have hn1 : n1 ≤ 400 := by have := HQL.out; have := HOL.out; omega
    by_cases hlt : k < n ∧ k < 200
    · obtain ⟨hlt1, hlt2⟩ := hlt
      have i1 : (k : Int) < (n : Int) := by omega
      have i2 : (k : Int) < 200 := by omega
      obtain ⟨s, hsk⟩ : ∃ s, ss[k]? = some s := ⟨_, List.getElem?_eq_getElem (by rw [HN.out]; exact hlt1)⟩
      obtain ⟨b, o, gB, AB, cB, gF, AF, cF, rfl, hbw, hcells, hBc, hBm, hBh, hFc, hFm, hFh⟩ := HP.out k s hsk
      obtain ⟨e0, e1, e2, e3, e4, e5⟩ := hcells
      have hbel := H.out.lw.below
      replace e0 := (hbel.cell (p := ⟨b, o + k * 6, none⟩) hbw).trans e0
      replace e1 := (hbel.cell (p := ⟨b, o + k * 6 + 1, none⟩) hbw).trans e1
      replace e2 := (hbel.cell (p := ⟨b, o + k * 6 + 2, none⟩) hbw).trans e2
      replace e3 := (hbel.cell (p := ⟨b, o + k * 6 + 3, none⟩) hbw).trans e3
      replace e4 := (hbel.cell (p := ⟨b, o + k * 6 + 4, none⟩) hbw).trans e4
      replace e5 := (hbel.cell (p := ⟨b, o + k * 6 + 5, none⟩) hbw).trans e5
      cases s with
      | mk sk sb f =>
      simp only at *
      obtain ⟨l, hl⟩ : ∃ l, sb.take 200 = l := ⟨_, rfl⟩
      obtain ⟨bn, hbn⟩ : ∃ bn, min sb.length 200 = bn := ⟨_, rfl⟩
      have HL : Hid (l.length = bn) := by show _ = _; rw [← hl, List.length_take]; omega
      have hbn2 : bn ≤ 200 := by omega
      have HBC : Hid (bn ≤ cB) := by show _ ≤ _; omega
      have HBL : Hid (sb.length ≤ cB) := hBc
      have HBM := Lib.hid hBm
      have HFC := Lib.hid hFc
      have HFM := Lib.hid hFm
      have HHB : Hid (∀ y, Below w.heap.size w y → Holds y gB AB (bcs l)) := fun y hb => by rw [← hl, bcs_take]; exact (hBh.keep (F := []) (Ch.of_below hb) (by simp)).take _
      have HHF : Hid (∀ y, Below w.heap.size w y → Holds y gF AF (bcs f.b)) := fun y hb => hFh.keep (F := []) (Ch.of_below hb) (by simp)
      have HBN := Lib.hid hbn
      have HXw : Hid (w.heap.size ≤ wr.heap.size) := H.out.lw.below.size
      clear hsk hBh hFh hl hBc hBm hFc hFm hbel hbn
      generalize sb.length = sbl at *
      go_upto_region 12 with fail
      have H3 := Lib.hid (H.out.step (new_below wr (.cells #[.int .i64 sk, .slice AB sbl cB, .int .i64 f.k, .int .i64 f.n, .int .u8 (f.y.toNat : Int), .slice AF f.b.length cF] 32)))
      have HX3 := Lib.hid (heap_alloc_new wr (.cells #[.int .i64 sk, .slice AB sbl cB, .int .i64 f.k, .int .i64 f.n, .int .u8 (f.y.toNat : Int), .slice AF f.b.length cF] 32))
      clear e0 e1 e2 e3 e4 e5 H
      generalize wr.alloc (.cells #[.int .i64 sk, .slice AB sbl cB, .int .i64 f.k, .int .i64 f.n, .int .u8 (f.y.toNat : Int), .slice AF f.b.length cF] 32) = x3 at *
      generalize wr.heap.size = X at *
      have hbx := HX3.out
      have d1 : x3.cell? ⟨X, 1, none⟩ = some (.slice AB sbl cB) := by simp [World.cell?, hbx]
      have f1 : x3.frozen? ⟨X, 1, none⟩ = false := by simp [World.frozen?, hbx]
      clear hbx
      go_wp2_with fail
      refine (few_on HBL.out HBM.out).mono ?_
      rintro e x4 ⟨rfl, rfl⟩
      rw [HBN.out]
      go_upto_region 13 with fail
      have hft : Ft w.heap.size [32] x4 (x4.setCell ⟨X, 1, none⟩ (.slice AB bn cB)) := Ft.of_ch ((Ch.refl [X] x4).setCell (by simp) _) (fun y hy _ => by simp at hy; subst hy; exact ⟨HXw.out, _, _, _, HX3.out, by simp⟩)
      have H4 : Hid (Ow w D rm qs A1 n1 c1 out A2 n2 c2 want (x4.setCell ⟨X, 1, none⟩ (.slice AB bn cB))) := ⟨H3.out.lw.ft hft (Nat.le_refl _) (by decide) (by decide) (by decide), H3.out.two.ft hft (by decide)⟩
      have HX4 : Hid ((x4.setCell ⟨X, 1, none⟩ (.slice AB bn cB)).heap[X]? = some (.cells #[.int .i64 sk, .slice AB bn cB, .int .i64 f.k, .int .i64 f.n, .int .u8 (f.y.toNat : Int), .slice AF f.b.length cF] 32 (0, 0))) := by
        show _ = _
        rw [heap_setCell_same _ _ _ _ _ _ HX3.out]
        rfl
      clear H3 HX3 d1 f1 hft
      generalize x4.setCell ⟨X, 1, none⟩ (.slice AB bn cB) = y0 at *
      have HCX : Hid (∀ y : World, y.heap[X]? = some (.cells #[.int .i64 sk, .slice AB bn cB, .int .i64 f.k, .int .i64 f.n, .int .u8 (f.y.toNat : Int), .slice AF f.b.length cF] 32 (0, 0)) → y.cell? ⟨X, 0, none⟩ = some (.int .i64 sk) ∧ y.cell? ⟨X, 1, none⟩ = some (.slice AB bn cB) ∧ y.cell? ⟨X, 2, none⟩ = some (.int .i64 f.k) ∧ y.cell? ⟨X, 3, none⟩ = some (.int .i64 f.n) ∧ y.cell? ⟨X, 4, none⟩ = some (.int .u8 (f.y.toNat : Int)) ∧ y.cell? ⟨X, 5, none⟩ = some (.slice AF f.b.length cF)) := fun y hb =>
        ⟨by simp [World.cell?, hb], by simp [World.cell?, hb], by simp [World.cell?, hb], by simp [World.cell?, hb], by simp [World.cell?, hb], by simp [World.cell?, hb]⟩
      obtain ⟨q0, q1, q2, q3, q4, q5⟩ := HCX.out _ HX4.out
      by_cases hsk : 2 < sk
      · clear HHF HHB HCX q1 q2 q3 q4 q5 HX4
        go_wp2_with fail
        refine (take_lw H4.out.lw (by omega)).mono ?_
        rintro e y1 ⟨Vt, nt, ct, vst, rfl, hrt, hl1, hf1⟩
        have HO : Hid (Ow w D rm (takeM qs).2 A1 n1 c1 out A2 n2 c2 want y1) := H4.out.turn hl1 hf1
        have HRT := Lib.hid hrt
        have HYL : Hid ((takeM qs).1.length = nt) := hrt.len
        have HWt2 : Hid (want = (out ++ (takeM qs).1) ++ (takeM qs).2.map (·.l)) := by show _ = _; rw [List.append_assoc, takeM_cat]; exact HWt.out
        have hnt : nt ≤ 400 := by have h1 := takeM_len qs; have h2 := HYL.out; omega
        have hnt2 : n1 + nt ≤ 400 := by have h1 := takeM_len qs; have h2 := HYL.out; have h3 := HQL.out; have h4 := HOL.out; omega
        clear hl1 hf1 hrt H4 q0
        generalize (takeM qs).1 = ys at *
        generalize (takeM qs).2 = qs2 at *
        go_wp2
        go_loopw [8, 12] (fun v i wr => ∃ (j n3 c3 : Nat) (A3 : Option Addr), j ≤ nt ∧ i = .int .i64 j ∧ v = .slice A3 n3 c3 ∧ Hid (Ow w D rm qs2 A3 n3 c3 (out ++ ys.take j) A2 n2 c2 want wr) ∧ Hid (Rp wr D Vt nt ct vst ys)) (fun _ i _ => nt - (intOf i).toNat)
        case atStart => exact ⟨0, n1, c1, A1, Nat.zero_le _, rfl, rfl, by show Ow _ _ _ _ _ _ _ _ _ _ _ _ _; rw [List.take_zero, List.append_nil]; exact HO.out, HRT⟩
        case round =>
          clear HO HRT
          obtain ⟨j, n3, c3, A3, hj, rfl, rfl, HO, HRT⟩ := hrel
          have hn3 : n3 ≤ 402 := by have h1 := HO.out.two.len1; have h2 := HYL.out; have h3 := HOL.out; rw [List.length_append, List.length_take] at h1; omega
          by_cases hltj : j < nt
          · have i3 : (j : Int) < (nt : Int) := by omega
            obtain ⟨gv, Av, lv, cl, rfl, _, _, _, hpl, hcl, _, hown⟩ := HRT.out.at j hltj
            have hcv := convert_own (own_zero hown) rfl
            have HTN := Lib.hid (take_next hpl)
            have HTL := Lib.hid (text_laid wr lv)
            have HO1 := Lib.hid (HO.out.two.o1.alloc (.cells #[.string ⟨lv.toArray⟩] 9))
            have HSZ : Hid (w.heap.size ≤ (wr.alloc (.cells #[.string ⟨lv.toArray⟩] 9)).heap.size) := Nat.le_trans HO.out.size (new_below wr _).size
            clear hpl hown
            generalize lv.length = ll at *
            go_wp2_with (first
              | (at_builtin; refine wpList_append_at rfl (.tmp 58) (.tmp 64) 37 rfl w.heap.size 9 i0 (.string ⟨#[]⟩) 1 16 Try.underlying37 hi hz0 hz1 hz2 rfl (by decide) (.slice A3 n3 c3) n3 _ rfl HO1.out ⟨wr.heap.size, 0, none⟩ 1 1 [.string ⟨lv.toArray⟩] rfl rfl HTL.out (by simp [Value.oneCell']) (by unfold maxLen; omega) (by omega) HSZ.out ?_; intro A5 c5 x5 hown5 hgr5 hat5))
            obtain ⟨hOw, hF⟩ := HO.out.more1 hown5 hgr5 hat5
            have H5 : Hid (Ow w D rm qs2 A5 (n3 + 1) c5 (out ++ ys.take (j + 1)) A2 n2 c2 want x5) := by
              show Ow _ _ _ _ _ _ _ _ _ _ _ _ _
              rw [HTN.out, ← List.append_assoc]
              exact hOw
            have HR5 := Lib.hid (HRT.out.ft hF (by decide) (by decide))
            clear hown5 hgr5 hat5 hOw hF
            go_simp
            first
              | exact ⟨⟨j + 1, by omega, by omega, n3 + 1, c5, A5, ⟨rfl, rfl, rfl⟩, H5⟩, by simp [intOf]; omega⟩
              | exact ⟨⟨j + 1, by omega, by omega, n3 + 1, c5, A5, ⟨rfl, rfl, rfl⟩, H5, HR5⟩, by simp [intOf]; omega⟩
          · have hjn : j = nt := by omega
            subst hjn
            have HOe : Hid (Ow w D rm qs2 A3 n3 c3 (out ++ ys) A2 n2 c2 want wr) := by
              have h := HO.out
              rw [List.take_of_length_le (by rw [HYL.out]; exact Nat.le_refl _)] at h
              exact h
            clear HO HRT
            go_wp2
            go_simp
            exact ⟨⟨k + 1, by omega, by omega, by omega, qs2, A3, n3, c3, ⟨rfl, rfl, rfl⟩, out ++ ys, A2, n2, c2, ⟨rfl, rfl, rfl⟩, by omega, want, HWt2, HOe⟩, by simp [intOf]; omega⟩
      · go_wp2_with fail
        refine (put_lw H4.out.lw (by omega) (HHB.out _ H4.out.lw.below) HL.out (by omega) HBC.out HBM.out (HHF.out _ H4.out.lw.below) HFC.out HFM.out).mono ?_
        rintro e y1 ⟨rfl, hl1, hf1⟩
        have HO : Hid (Ow w D rm (putM rm qs f l).1 A1 n1 c1 out A2 n2 c2 want y1) := H4.out.turn hl1 hf1
        have HX5 : Hid (y1.heap[X]? = some (.cells #[.int .i64 sk, .slice AB bn cB, .int .i64 f.k, .int .i64 f.n, .int .u8 (f.y.toNat : Int), .slice AF f.b.length cF] 32 (0, 0))) := hf1.keep HX4.out (by decide)
        have HPC := Lib.hid (putM_cat rm qs f l)
        have HPF := Lib.hid (putM_full rm qs f l)
        clear hl1 hf1 H4 HX4 q0 q1 q2 q3 q4 q5
        obtain ⟨q0, q1, q2, q3, q4, q5⟩ := HCX.out _ HX5.out
        generalize (putM rm qs f l).2 = er at *
        generalize (putM rm qs f l).1 = qs2 at *
        go_wp2_with fail
        refine (of_on (HHB.out _ HO.out.lw.below) HL.out (by omega) HBC.out HBM.out (HHF.out _ HO.out.lw.below) HFC.out HFM.out).mono ?_
        rintro e y2 ⟨Vt, vst, ct, rfl, hrp, hb2⟩
        replace HO := Lib.hid (HO.out.step hb2)
        have HRT := Lib.hid hrp
        have HO2 := Lib.hid (f.of_len l)
        clear hrp hb2 HX5 q0 q1 q2 q3 q4 q5 HHB HHF HCX
        generalize hB5 : y1.heap.size = B5 at *
        clear hB5
        obtain ⟨nt, hnt⟩ : ∃ nt, (f.of l).length = nt := ⟨_, rfl⟩
        have HYL := Lib.hid hnt
        have hnt2 : nt ≤ 2 := by have := HO2.out; omega
        rw [hnt] at HRT ⊢
        clear hnt HO2
        generalize f.of l = ys at *
        have HRM : Hid ((qs2.length : Int) ≤ rm) := HO.out.lw.room
        by_cases her : er = 0
        · subst her
          have HWt2 : Hid (want ++ ys = out ++ qs2.map (·.l)) := by show _ = _; rw [HPC.out rfl, ← List.append_assoc, HWt.out]
          go_wp2
          go_loopw [7, 15] (fun v i wr => ∃ (j n3 c3 : Nat) (A3 : Option Addr), j ≤ nt ∧ i = .int .i64 j ∧ v = .slice A3 n3 c3 ∧ Hid (Ow w D rm qs2 A1 n1 c1 out A3 n3 c3 (want ++ ys.take j) wr) ∧ Hid (Rp wr B5 Vt nt ct vst ys)) (fun _ i _ => nt - (intOf i).toNat)
          case atStart => exact ⟨0, n2, c2, A2, Nat.zero_le _, rfl, rfl, by show Ow _ _ _ _ _ _ _ _ _ _ _ _ _; rw [List.take_zero, List.append_nil]; exact HO.out, HRT⟩
          case round =>
            have HWL : Hid (want.length = n2) := HO.out.two.len2
            clear HO HRT
            obtain ⟨j, n3, c3, A3, hj, rfl, rfl, HO, HRT⟩ := hrel
            have hn3 : n3 ≤ n2 + j := by have h1 := HO.out.two.len2; have h2 := HYL.out; have h3 := HWL.out; rw [List.length_append, List.length_take] at h1; omega
            by_cases hltj : j < nt
            · have i3 : (j : Int) < (nt : Int) := by omega
              obtain ⟨gv, Av, lv, cl, rfl, _, _, _, hpl, hcl, _, hown⟩ := HRT.out.at j hltj
              have hcv := convert_own (own_zero hown) rfl
              have HTN := Lib.hid (take_next hpl)
              have HTL := Lib.hid (text_laid wr lv)
              have HO1 := Lib.hid (HO.out.two.o2.alloc (.cells #[.string ⟨lv.toArray⟩] 9))
              have HSZ : Hid (w.heap.size ≤ (wr.alloc (.cells #[.string ⟨lv.toArray⟩] 9)).heap.size) := Nat.le_trans HO.out.size (new_below wr _).size
              clear hpl hown
              generalize lv.length = ll at *
              go_wp2_with (first
                | (at_builtin; refine wpList_append_at rfl (.tmp 87) (.tmp 93) 37 rfl w.heap.size 9 i0 (.string ⟨#[]⟩) 1 16 Try.underlying37 hi hz0 hz1 hz2 rfl (by decide) (.slice A3 n3 c3) n3 _ rfl HO1.out ⟨wr.heap.size, 0, none⟩ 1 1 [.string ⟨lv.toArray⟩] rfl rfl HTL.out (by simp [Value.oneCell']) (by unfold maxLen; omega) (by omega) HSZ.out ?_; intro A5 c5 x5 hown5 hgr5 hat5))
              obtain ⟨hOw, hF⟩ := HO.out.more2 hown5 hgr5 hat5
              have H5 : Hid (Ow w D rm qs2 A1 n1 c1 out A5 (n3 + 1) c5 (want ++ ys.take (j + 1)) x5) := by
                show Ow _ _ _ _ _ _ _ _ _ _ _ _ _
                rw [HTN.out, ← List.append_assoc]
                exact hOw
              have HR5 := Lib.hid (HRT.out.ft hF (by decide) (by decide))
              clear hown5 hgr5 hat5 hOw hF
              go_simp
              first
              | exact ⟨⟨j + 1, by omega, by omega, n3 + 1, c5, A5, ⟨rfl, rfl, rfl⟩, H5⟩, by simp [intOf]; omega⟩
              | exact ⟨⟨j + 1, by omega, by omega, n3 + 1, c5, A5, ⟨rfl, rfl, rfl⟩, H5, HR5⟩, by simp [intOf]; omega⟩
            · have hjn : j = nt := by omega
              subst hjn
              have HOe : Hid (Ow w D rm qs2 A1 n1 c1 out A3 n3 c3 (want ++ ys) wr) := by
                have h := HO.out
                rw [List.take_of_length_le (by rw [HYL.out]; exact Nat.le_refl _)] at h
                exact h
              clear HO HRT
              have hrq : ¬ rm < (qs2.length : Int) := by have := HRM.out; omega
              go_wp2_with fail
              refine (len_lw HOe.out.lw).mono ?_
              rintro e y3 ⟨rfl, rfl⟩
              go_wp2
              go_simp
              exact ⟨⟨k + 1, by omega, by omega, by omega, qs2, A1, n1, c1, ⟨rfl, rfl, rfl⟩, out, A3, n3, c3, ⟨rfl, rfl, rfl⟩, by omega, want ++ ys, HWt2, HOe⟩, by simp [intOf]; omega⟩
        · obtain ⟨hq2, he5⟩ := HPF.out her
          subst hq2 he5
          have hrq : ¬ rm < (qs2.length : Int) := by have := HRM.out; omega
          go_wp2
          go_loopw [7, 15] (fun v i wr => i = .int .i64 0 ∧ v = .slice A2 n2 c2 ∧ Hid (Ow w D rm qs2 A1 n1 c1 out A2 n2 c2 want wr)) (fun _ _ _ => 0)
          case atStart => exact ⟨rfl, rfl, HO⟩
          case round =>
            clear HO HRT
            obtain ⟨rfl, rfl, HO⟩ := hrel
            by_cases hz : nt = 0
            · subst hz
              go_wp2_with fail
              refine (len_lw HO.out.lw).mono ?_
              rintro e y3 ⟨rfl, rfl⟩
              go_wp2
              go_simp
              exact ⟨⟨k + 1, by omega, by omega, by omega, qs2, A1, n1, c1, ⟨rfl, rfl, rfl⟩, out, A2, n2, c2, ⟨rfl, rfl, rfl⟩, by omega, want, HWt, HO⟩, by simp [intOf]; omega⟩
            · have hz' : (0 : Int) < (nt : Int) := by omega
              go_wp2_with fail
              refine (len_lw HO.out.lw).mono ?_
              rintro e y3 ⟨rfl, rfl⟩
              go_wp2
              go_simp
              exact ⟨⟨k + 1, by omega, by omega, by omega, qs2, A1, n1, c1, ⟨rfl, rfl, rfl⟩, out, A2, n2, c2, ⟨rfl, rfl, rfl⟩, by omega, want, HWt, HO⟩, by simp [intOf]; omega⟩
    · have hcase : (¬ (k : Int) < (n : Int)) ∨ ((k : Int) < (n : Int) ∧ ¬ (k : Int) < 200) := by omega
      obtain ⟨r, hr0⟩ : ∃ r : Nat, rm = (r : Int) := ⟨rm.toNat, by omega⟩
      subst hr0
      have hr64 : 1 ≤ r ∧ r ≤ 64 := by omega
      have hmul : IntKind.i64.wrap (20 * (r : Int)) = 20 * (r : Int) := by rw [IntKind.wrap_i64]; omega
      have HPot : Hid (qs ≠ [] → pot qs + 0 ≤ 17 * r) := by
        intro _
        have h1 := pot_le qs H.out.lw.most'
        have h2 := H.out.lw.room
        have h3 : 17 * qs.length ≤ 17 * r := Nat.mul_le_mul_left _ (by omega)
        omega
      have HWL : Hid (want.length = n2) := H.out.two.len2
      have hn2b : n2 ≤ 400 := by omega
      clear HQL HOL hqln hn1 hn2
      rcases hcase with i1 | ⟨i1, i2⟩
      all_goals
        go_wp2
        clear i1
        go_loopw [8, 16] (fun v i wr => ∃ (j4 : Nat) (qs : List Rw) (A1 : Option Addr) (n1 c1 : Nat) (out : List (List UInt8)), j4 ≤ 20 * r ∧ i = .int .i64 j4 ∧ v = .slice A1 n1 c1 ∧ Hid (want = out ++ qs.map (·.l)) ∧ Hid (qs ≠ [] → pot qs + j4 ≤ 17 * r) ∧ Hid (Ow w D r qs A1 n1 c1 out A2 n2 c2 want wr)) (fun _ i _ => 20 * r - (intOf i).toNat)
        case atStart => exact ⟨0, qs, A1, n1, c1, out, Nat.zero_le _, rfl, rfl, HWt, HPot, H⟩
        case round =>
          clear H HWt HPot
          obtain ⟨j4, qs, A1, n1, c1, out, hj4, rfl, rfl, HWt, HPot, H⟩ := hrel
          have HQL : Hid (out.length + qs.length = n2) := by
            have h1 := congrArg List.length HWt.out
            rw [List.length_append, List.length_map, HWL.out] at h1
            exact h1.symm
          have HOL : Hid (out.length = n1) := H.out.two.len1
          have hqln : qs.length ≤ 400 := by have := HQL.out; omega
          by_cases hlt4 : j4 < 20 * r
          · have i4 : (j4 : Int) < 20 * (r : Int) := by omega
            go_wp2_with fail
            refine (take_lw H.out.lw (by omega)).mono ?_
            rintro e y1 ⟨Vt, nt, ct, vst, rfl, hrt, hl1, hf1⟩
            have HO : Hid (Ow w D r (takeM qs).2 A1 n1 c1 out A2 n2 c2 want y1) := H.out.turn hl1 hf1
            have HRT := Lib.hid hrt
            have HYL : Hid ((takeM qs).1.length = nt) := hrt.len
            have HWt2 : Hid (want = (out ++ (takeM qs).1) ++ (takeM qs).2.map (·.l)) := by show _ = _; rw [List.append_assoc, takeM_cat]; exact HWt.out
            have HPot2 : Hid ((takeM qs).2 ≠ [] → pot (takeM qs).2 + (j4 + 1) ≤ 17 * r) := by
              intro hne
              have hq0 : qs ≠ [] := by
                rintro rfl
                exact hne rfl
              have h1 := pot_take qs hq0
              have h2 := HPot.out hq0
              omega
            have hnt2 : n1 + nt ≤ 400 := by have h1 := takeM_len qs; have h2 := HYL.out; have h3 := HQL.out; have h4 := HOL.out; omega
            clear hl1 hf1 hrt H HPot
            generalize (takeM qs).1 = ys at *
            generalize (takeM qs).2 = qs2 at *
            go_wp2
            go_loopw [8, 18] (fun v i wr => ∃ (j n3 c3 : Nat) (A3 : Option Addr), j ≤ nt ∧ i = .int .i64 j ∧ v = .slice A3 n3 c3 ∧ Hid (Ow w D r qs2 A3 n3 c3 (out ++ ys.take j) A2 n2 c2 want wr) ∧ Hid (Rp wr D Vt nt ct vst ys)) (fun _ i _ => nt - (intOf i).toNat)
            case atStart => exact ⟨0, n1, c1, A1, Nat.zero_le _, rfl, rfl, by show Ow _ _ _ _ _ _ _ _ _ _ _ _ _; rw [List.take_zero, List.append_nil]; exact HO.out, HRT⟩
            case round =>
              clear HO HRT
              obtain ⟨j, n3, c3, A3, hj, rfl, rfl, HO, HRT⟩ := hrel
              have hn3 : n3 ≤ 402 := by have h1 := HO.out.two.len1; have h2 := HYL.out; have h3 := HOL.out; rw [List.length_append, List.length_take] at h1; omega
              by_cases hltj : j < nt
              · have i3 : (j : Int) < (nt : Int) := by omega
                obtain ⟨gv, Av, lv, cl, rfl, _, _, _, hpl, hcl, _, hown⟩ := HRT.out.at j hltj
                have hcv := convert_own (own_zero hown) rfl
                have HTN := Lib.hid (take_next hpl)
                have HTL := Lib.hid (text_laid wr lv)
                have HO1 := Lib.hid (HO.out.two.o1.alloc (.cells #[.string ⟨lv.toArray⟩] 9))
                have HSZ : Hid (w.heap.size ≤ (wr.alloc (.cells #[.string ⟨lv.toArray⟩] 9)).heap.size) := Nat.le_trans HO.out.size (new_below wr _).size
                clear hpl hown
                generalize lv.length = ll at *
                go_wp2_with (first
                  | (at_builtin; refine wpList_append_at rfl (.tmp 121) (.tmp 127) 37 rfl w.heap.size 9 i0 (.string ⟨#[]⟩) 1 16 Try.underlying37 hi hz0 hz1 hz2 rfl (by decide) (.slice A3 n3 c3) n3 _ rfl HO1.out ⟨wr.heap.size, 0, none⟩ 1 1 [.string ⟨lv.toArray⟩] rfl rfl HTL.out (by simp [Value.oneCell']) (by unfold maxLen; omega) (by omega) HSZ.out ?_; intro A5 c5 x5 hown5 hgr5 hat5))
                obtain ⟨hOw, hF⟩ := HO.out.more1 hown5 hgr5 hat5
                have H5 : Hid (Ow w D r qs2 A5 (n3 + 1) c5 (out ++ ys.take (j + 1)) A2 n2 c2 want x5) := by
                  show Ow _ _ _ _ _ _ _ _ _ _ _ _ _
                  rw [HTN.out, ← List.append_assoc]
                  exact hOw
                have HR5 := Lib.hid (HRT.out.ft hF (by decide) (by decide))
                clear hown5 hgr5 hat5 hOw hF
                go_simp
                first
                  | exact ⟨⟨j + 1, by omega, by omega, n3 + 1, c5, A5, ⟨rfl, rfl, rfl⟩, H5⟩, by simp [intOf]; omega⟩
                  | exact ⟨⟨j + 1, by omega, by omega, n3 + 1, c5, A5, ⟨rfl, rfl, rfl⟩, H5, HR5⟩, by simp [intOf]; omega⟩
              · have hjn : j = nt := by omega
                subst hjn
                have HOe : Hid (Ow w D r qs2 A3 n3 c3 (out ++ ys) A2 n2 c2 want wr) := by
                  have h := HO.out
                  rw [List.take_of_length_le (by rw [HYL.out]; exact Nat.le_refl _)] at h
                  exact h
                clear HO HRT
                go_wp2
                go_simp
                exact ⟨⟨j4 + 1, by omega, by omega, qs2, A3, n3, c3, ⟨rfl, rfl, rfl⟩, out ++ ys, HWt2, HPot2, HOe⟩, by simp [intOf]; omega⟩
          · have hj : j4 = 20 * r := by omega
            have hq0 : qs = [] := by
              apply Classical.byContradiction
              intro hne
              have h2 := HPot.out hne
              omega
            subst hq0
            have HWE : Hid (want = out) := by have h := HWt.out; rw [List.map_nil, List.append_nil] at h; exact h
            have hn12 : n1 = n2 := by rw [← HOL.out, ← HWL.out, HWE.out]
            subst hn12
            have i4 : ¬ (j4 : Int) < 20 * (r : Int) := by omega
            clear hj HPot HWt
            go_wp2_with fail
            refine (len_lw H.out.lw).mono ?_
            rintro e y1 ⟨rfl, rfl⟩
            simp only [List.length_nil]
            go_wp2
            clear i4
            go_loopw [19] (fun i wr => ∃ j : Nat, j ≤ n1 ∧ i = .int .i64 j ∧ Hid (Below y1.heap.size y1 wr)) (fun i _ => n1 - (intOf i).toNat)
            case atStart => exact ⟨0, Nat.zero_le _, rfl, Lib.hid (Below.refl _ _)⟩
            case round =>
              obtain ⟨j, hj, rfl, HB⟩ := hrel
              by_cases hltj : j < n1
              · have i5 : (j : Int) < (n1 : Int) := by omega
                have HT := H.out.two.step (HB.out.trans ((drew_below wr).mono HB.out.size))
                obtain ⟨p, hpj⟩ : ∃ p, out[j]? = some p := ⟨_, List.getElem?_eq_getElem (by rw [HOL.out]; exact hltj)⟩
                obtain ⟨ga, hga⟩ : ∃ ga, A1 = some ⟨ga, 0, none⟩ := by
                  rcases HT.o1.2 with ⟨_, h0⟩ | ⟨g, cap, cur, hV, _⟩
                  · omega
                  · injection hV with hV
                    exact ⟨g, hV⟩
                obtain ⟨gb, hgb⟩ : ∃ gb, A2 = some ⟨gb, 0, none⟩ := by
                  rcases HT.o2.2 with ⟨_, h0⟩ | ⟨g, cap, cur, hV, _⟩
                  · omega
                  · injection hV with hV
                    exact ⟨g, hV⟩
                subst hga hgb
                have t1 : wr.drew.cell? ⟨ga, j, none⟩ = some (.string ⟨p.toArray⟩) := by rw [HT.o1.cellAt j (by omega), scs_get hpj]
                have t2 : wr.drew.cell? ⟨gb, j, none⟩ = some (.string ⟨p.toArray⟩) := by rw [HT.o2.cellAt j (by omega), HWE.out, scs_get hpj]
                clear HT hpj
                go_upto_region 40 with fail
                refine region_plan [(true, 0), (true, 1), (true, 2), (true, 3), (true, 4), (true, 5), (true, 6), (true, 7), (true, 8)]
                  (fun x => x.cell? ⟨ga, j, none⟩ = some (.string ⟨p.toArray⟩) ∧ x.cell? ⟨gb, j, none⟩ = some (.string ⟨p.toArray⟩)) (by kernel_rfl) (by kernel_rfl) (by kernel_rfl) rfl ⟨t1, t2⟩ ?_
                clear t1 t2
                iterate 9 (refine Plan.take (v := ?_) rfl (by rfl) ?_ ?_; rotate_left 1; (focus (intro x hx; go_simp <;> (first | with_reducible rfl | rw [if_pos (by omega)]))); simp only [Act.put, List.setIfInBounds_toArray, List.set_cons_zero, List.set_cons_succ])
                refine Plan.done ?_
                go_wp2
                go_simp
                exact ⟨⟨j + 1, by omega, by omega, Lib.hid (HB.out.trans ((drew_below wr).mono HB.out.size))⟩, by simp [intOf]; omega⟩
              · have hjn : j = n1 := by omega
                subst hjn
                go_wp2
                go_ret
                exact ⟨rfl, H.out.lw.below.trans (HB.out.mono H.out.lw.below.size)⟩

end Go.Proofs.Ythpalepkilmpiaa
