/-
  lamplightlaw08.SlaveReset, walked: true, whatever came in.
-/
import Derived.Test.YtabedmkhhlmbkaaSlaX
import Derived.Deep.DeepCutAuto
namespace Go.Proofs.Ytabedmkhhlmbkaa
set_option linter.unusedVariables false
set_option linter.unusedSimpArgs false
open Go.RowKit

/-- Behind a reset: one exchange closes the session, the next one opens another. -/
theorem reset_one {l : Ln} (h : Ivx l) : l.s.addr = 3 ∧ (nextM l.m).b.length ≤ 24 ∧ (nextM l.m).s < 256 ∧ takeS (newS 3) (nextM l.m) = (newS 3, ⟨3, 5, 0, 0, 0, []⟩, [], true) ∧
    ∃ m1, heardM l.m ⟨3, 5, 0, 0, 0, []⟩ = (m1, [], true) ∧ m1.st = 0 ∧ m1.q = [] ∧ nextM m1 = ⟨3, 1, 2, 0, 0, []⟩ ∧ ∃ m2, heardM m1 ⟨3, 4, 2, 0, 0, []⟩ = (m2, [], true) ∧ m2.st = 1 ∧ m2.ep = 2 := by
  obtain ⟨A, T, ds, us, h⟩ := h
  have hs := h.sl
  have hm := h.mm
  have hq : ∀ b ∈ cmds A (l.sent - A), b.length = 2 := by
    intro b hb
    simp only [cmds, List.mem_map] at hb
    obtain ⟨i, _, rfl⟩ := hb
    rfl
  rw [hm]
  generalize cmds A (l.sent - A) = q at *
  refine ⟨by rw [hs], ?_, ?_, ?_, _, rfl, rfl, rfl, rfl, _, rfl, rfl, rfl⟩
  · cases q with
    | nil => show (0 : Nat) ≤ 24; omega
    | cons b r => show b.length ≤ 24; rw [hq b (by simp)]; omega
  · cases q with
    | nil => show (1 : Nat) < 256; omega
    | cons b r => show (1 : Nat) < 256; omega
  · cases q <;> rfl
theorem reset_two : takeS (newS 3) ⟨3, 1, 2, 0, 0, []⟩ = (⟨3, 2, 0, 0, []⟩, ⟨3, 4, 2, 0, 0, []⟩, [], true) := rfl

set_option maxRecDepth 100000 in
set_option maxHeartbeats 12800000 in
theorem slavereset_walk (g : Nat) (P : Option Addr) (n0 c0 : Nat) (ks : List Int) (w : World) (hp : Holds w g P (ks.map (Value.int .i64))) (hn : ks.length = n0) (hc : n0 ≤ c0) (hm : c0 ≤ 9223372036854775807) :
    Calls Try.prog 6 #[.slice P n0 c0] w fun e w' => e = .returned (.bool true) ∧ Below w.heap.size w w' := by
  obtain ⟨n, hn0, hn100, hlast⟩ : ∃ n, n ≤ n0 ∧ n ≤ 100 ∧ (n = n0 ∨ n = 100) := ⟨min n0 100, by omega, by omega, by omega⟩
  have HL := Lib.hid hn
  have HP := Lib.hid hp
  have HLS := Lib.hid hlast
  clear hp hn hlast
  go_enter Try.func6, Try.ntmps6
  go_wp2_with fail
  refine (shown_on w).mono ?_
  rintro e x0 ⟨rfl, hb0⟩
  have HB0 := Lib.hid hb0
  clear hb0
  go_wp2_with fail
  refine (opened_on (w := w) HB0.out).mono ?_
  rintro e x1 ⟨L, D, S, rfl, h1⟩
  have H0 := Lib.hid h1
  have HV0 := Lib.hid ivx_open
  clear h1 HB0
  generalize openL = l0 at *
  go_upto_block 0 with fail
  go_cut [] (fun y => ∃ l, Hid (Lxx w L D S 101 l y) ∧ Hid (Ivx l))
  case first =>
    as_aux_lemma =>
      go_wp2
      go_loopw [5] (fun i wr => ∃ (k : Nat) (l : Ln), k ≤ n ∧ i = .int .i64 k ∧ Hid (Lxx w L D S (k + 1) l wr) ∧ Hid (Ivx l)) (fun i _ => n - (intOf i).toNat)
      case atStart => exact ⟨0, l0, Nat.zero_le _, rfl, H0, HV0⟩
      case round =>
        clear H0 HV0
        obtain ⟨k, l, hk, rfl, H, HV⟩ := hrel
        by_cases hlt : k < n
        · have hlt1 : (k : Int) < (n0 : Int) := by omega
          have hlt2 : (k : Int) < 100 := by omega
          have hkl : k < ks.length := by rw [HL.out]; omega
          obtain ⟨_, o, rfl, hcell⟩ := HP.out.keep (F := []) (Ch.of_below H.out.below) (by simp) (by rw [List.length_map]; omega)
          have ck := hcell k (.int .i64 (ks[k]'hkl)) (by rw [List.getElem?_map, List.getElem?_eq_getElem hkl]; rfl)
          generalize (ks[k]'hkl) = kk at *
          clear hcell
          go_wp2_with fail
          refine (does_on H.out HV.out (by omega) kk).mono ?_
          rintro e x3 ⟨rfl, h3⟩
          have H3 := Lib.hid h3
          have HV3 := Lib.hid (ivx_does HV.out kk).2
          clear h3 ck H HV
          generalize (doesL l kk).1 = l' at *
          go_wp2
          go_roundw
          case rel => exact ⟨k + 1, l', by omega, by go_num, H3, HV3⟩
          case measure => simp [intOf]; omega
        · have hkn : n = k := by omega
          subst hkn
          have hex : (¬ (n : Int) < (n0 : Int)) ∨ ((n : Int) < (n0 : Int) ∧ ¬ (n : Int) < 100) := by have := HLS.out; omega
          rcases hex with hl1 | ⟨hl1, hl2⟩
          · go_wp2
            go_meet
            case rel => exact ⟨l, Lib.hid (by obtain ⟨_, _, _, _, _, _, h⟩ := H.out; exact ⟨_, _, _, _, _, _, h.more (by omega)⟩), HV⟩
          · go_wp2
            go_meet
            case rel => exact ⟨l, Lib.hid (by obtain ⟨_, _, _, _, _, _, h⟩ := H.out; exact ⟨_, _, _, _, _, _, h.more (by omega)⟩), HV⟩
  case rest =>
    clear H0 HV0
    obtain ⟨lb, HX, HV⟩ := hcut
    rename World => x2
    obtain ⟨hsa, hfl, hfs, htk, m1, hh1, hst1, hq1, hn1, m2, hh2, hst2, hep2⟩ := reset_one HV.out
    have HSA := Lib.hid hsa
    have HFL := Lib.hid hfl
    have HFS := Lib.hid hfs
    have HTK := Lib.hid htk
    have HHD := Lib.hid hh1
    have HST1 := Lib.hid hst1
    have HQ1 := Lib.hid hq1
    have HN1 := Lib.hid hn1
    have HH2 := Lib.hid hh2
    have HST2 := Lib.hid hst2
    have HEP2 := Lib.hid hep2
    clear hsa hfl hfs htk hh1 hst1 hq1 hn1 hh2 hst2 hep2 HV
    obtain ⟨Ad, cd, Au, cu, hlc⟩ := HX.out.lc
    have d1 := hlc.c1
    clear hlc
    go_wp2_with fail
    refine (sla_cond.reset HX.out.sla).mono ?_
    rintro e x3 ⟨rfl, h3, hf3⟩
    rw [HSA.out] at h3
    replace HX : Hid (Lxx w L D S 101 { lb with s := newS 3 } x3) := by
      obtain ⟨_, _, _, _, _, _, h⟩ := HX.out
      exact ⟨_, _, _, _, _, _, h.sla h3 hf3⟩
    obtain ⟨Ad, cd, Au, cu, hlc⟩ := HX.out.lc
    have d1 := hlc.c1
    clear hlc h3 hf3
    go_wp2_with fail
    refine (sla_cond.pending HX.out.sla).mono ?_
    rintro e y ⟨rfl, rfl⟩
    go_wp2_with fail
    refine (sla_cond.session HX.out.sla).mono ?_
    rintro e z ⟨rfl, rfl⟩
    have hz0 : ((newS 3).ses : Int) = 0 := rfl
    rw [hz0]
    clear hz0 d1
    rename World => xs
    obtain ⟨l, hl⟩ : ∃ l, ({ lb with s := newS 3 } : Ln) = l := ⟨_, rfl⟩
    obtain ⟨fr, hfr⟩ : ∃ fr, nextM lb.m = fr := ⟨_, rfl⟩
    obtain ⟨s1, hs1⟩ : ∃ s1, newS 3 = s1 := ⟨_, rfl⟩
    obtain ⟨an, han⟩ : ∃ an, (⟨3, 5, 0, 0, 0, []⟩ : Fr) = an := ⟨_, rfl⟩
    obtain ⟨N, hNN⟩ : ∃ N, 101 = N := ⟨_, rfl⟩
    have HLM : Hid (l.m = lb.m) := by show _ = _; rw [← hl]
    have HLSS : Hid (l.s = newS 3) := by show _ = _; rw [← hl]
    have hN : N ≤ 1000 := by omega
    have HS1 : Hid (newS 3 = s1) := Lib.hid hs1
    have HAN : Hid ((⟨3, 5, 0, 0, 0, []⟩ : Fr) = an) := Lib.hid han
    have HAL : Hid (an.b.length ≤ 24) := by show _ ≤ _; rw [← han]; exact Nat.zero_le _
    replace HX : Hid (Lxx w L D S N l xs) := by rw [← hl, ← hNN]; exact HX
    have HNX : Hid (nextM l.m = fr) := by show _ = _; rw [HLM.out]; exact hfr
    replace HTK : Hid (takeS l.s fr = (s1, an, [], true)) := by show _ = _; rw [HLSS.out, ← hfr, HTK.out, hs1, han]
    replace HHD : Hid (heardM l.m an = (m1, [], true)) := by show _ = _; rw [HLM.out, ← han]; exact HHD.out
    replace HFL : Hid (fr.b.length ≤ 24) := by rw [← hfr]; exact HFL
    replace HFS : Hid (fr.s < 256) := by rw [← hfr]; exact HFS
    clear hl hfr hs1 han hNN HLM HLSS HSA
    go_upto_region 14 with fail
    rename World => xa
    go_cut [7, 8, 9] (fun v5 v6 v7 y => ∃ G A2 c2 A5 c5, v5 = .pointer (some ⟨G, 0, none⟩) ∧ v6 = .slice A2 0 c2 ∧ v7 = .bool true ∧ Hid (Fx y G an (.slice A5 an.b.length c5)) ∧ Hid (Hb y 0 A5 an.b) ∧ Hid (Lxx w L D S N { l with s := s1 } y))
    case first =>
      as_aux_lemma =>
        obtain ⟨Ad, Au, cd, cu, td, tu, hx⟩ := HX.out.step (drew_below xa)
        replace HX := Lib.hid hx
        have hc := HX.out.lc
        refine region_tree (.take 0 (.take 1 (.take 2 (.take 3 (.take 4 (.take 5 (.take 6 (.take 7 (.two 8 (.two 9 (.take 10 (.take 11 (.take 12 (.take 13 (.one 14 (.one 15 (.take 16 (.take 17 .done)))))))) 14 (.one 9 (.take 10 (.take 11 (.take 12 (.take 13 (.one 15 (.take 16 (.take 17 .done))))))))) 14 (.one 8 (.one 9 (.take 10 (.take 11 (.take 12 (.take 13 (.one 15 (.take 16 (.take 17 .done))))))))))))))))))
          (fun y => y.cell? ⟨L, 0, none⟩ = some (.pointer (some ⟨D, 0, none⟩)) ∧ y.cell? ⟨L, 1, none⟩ = some (.pointer (some ⟨S, 0, none⟩))) (by kernel_rfl) (by kernel_rfl) (by kernel_rfl) (by kernel_rfl) ⟨hc.c0, hc.c1⟩ ?_
        clear hc hx
        generalize xa.drew = xc at *
        iterate 8 (refine Tree.take (v := ?_) rfl (by rfl) ?_ ?_; rotate_left 1; (focus (intro x hx; go_simp <;> (first | with_reducible rfl | rw [if_pos (by omega)]))); simp only [Act.put, List.setIfInBounds_toArray, List.set_cons_zero, List.set_cons_succ])
        refine Tree.two rfl rfl (fun K hK => ?_) (fun K hK => ?_)
        · as_aux_lemma =>
            go_simp
            refine (next_lm HX.out.m).mono ?_
            rintro e xn ⟨A1, c1, rfl, ho, h3, hb3⟩
            rw [HNX.out] at ho ⊢
            replace HX := Lib.hid (HX.out.step hb3)
            have HB := Lib.hid (Hb.own (D := 0) (own_zero ho) rfl)
            have hc := HX.out.lc
            refine hK.out _ _ _ (fun x hx => hx) ⟨hc.c0, hc.c1⟩ ?_
            clear hK K hc ho h3 hb3
            rename World => xc
            refine Tree.two rfl rfl (fun K hK => ?_) (fun K hK => ?_)
            · as_aux_lemma =>
                go_simp
                refine (take_at sla_cond (f := fr) HX.out.s HB.out.wide (by have := HFL.out; omega) HFS.out HTK.out).mono ?_
                rintro e xt ⟨A5, c5, A2, c2, rfl, o5, o2, h3, hf3⟩
                replace HX := Lib.hid (HX.out.sla h3 hf3)
                have HB5 := Lib.hid (Hb.own (D := 0) (own_zero o5) rfl)
                have hc := HX.out.lc
                refine hK.out _ _ _ (fun x hx => hx) ⟨hc.c0, hc.c1⟩ ?_
                clear hK K hc o5 o2 h3 hf3 HB
                rename World => xc
                simp only [List.length_nil]
                iterate 4 (refine Tree.take (v := ?_) rfl (by rfl) ?_ ?_; rotate_left 1; (focus (intro x hx; go_simp <;> (first | with_reducible rfl | rw [if_pos (by omega)]))); simp only [Act.put, List.setIfInBounds_toArray, List.set_cons_zero, List.set_cons_succ])
                refine Tree.one rfl (fun K hK => ?_)
                go_simp
                have hb4 := new_below xc (.cells noFr 30)
                have HR : Hid (Fx (xc.alloc (.cells noFr 30)) xc.heap.size ⟨0, 0, 0, 0, 0, []⟩ (.slice none 0 0)) := heap_alloc_new xc _
                have HG : Hid (w.heap.size ≤ xc.heap.size) := HX.out.below.size
                have HGD : Hid (∀ b ∈ ablk Ad, b ∉ [xc.heap.size]) := Lib.hid (fun b hb hm => by have := (HX.out.dn.blk b hb).2.1; simp at hm; omega)
                have HGU : Hid (∀ b ∈ ablk Au, b ∉ [xc.heap.size]) := Lib.hid (fun b hb hm => by have := (HX.out.up.blk b hb).2.1; simp at hm; omega)
                replace HB5 := Lib.hid (HB5.out.step hb4)
                replace HX := Lib.hid (HX.out.step hb4)
                have hc := HX.out.lc
                refine hK.out _ _ _ (fun x hx => hx) ⟨hc.c0, hc.c1⟩ ?_
                clear hK K hc hb4
                generalize xc.alloc (.cells noFr 30) = xd at *
                generalize xc.heap.size = G at *
                rename World => xc
                refine Tree.one rfl (fun K hK => ?_)
                have hf := HR.out.fc
                have p0 := hf.c0
                have p1 := hf.c1
                have p2 := hf.c2
                have p3 := hf.c3
                have p4 := hf.c4
                have p5 := hf.c5
                have q0 := hf.fz 0
                have q1 := hf.fz 1
                have q2 := hf.fz 2
                have q3 := hf.fz 3
                have q4 := hf.fz 4
                have q5 := hf.fz 5
                clear hf
                go_simp
                obtain ⟨k1, k2, k3⟩ := HX.out.frameSet HR.out HG.out HGD.out HGU.out [(0, .int .u8 (an.a : Int)), (1, .int .u8 (an.k : Int)), (2, .int .u8 (an.s : Int)), (3, .int .u8 (an.q : Int)), (4, .int .u8 (an.c : Int)), (5, .slice A5 an.b.length c5)] an (.slice A5 an.b.length c5) rfl
                simp only [sets, List.foldl] at k1 k2 k3
                replace HX := Lib.hid k1
                replace HR := Lib.hid k2
                replace HB5 := Lib.hid (HB5.out.ft k3 (by decide) (Nat.zero_le _))
                have hc := HX.out.lc
                refine hK.out _ _ _ (fun x hx => hx) ⟨hc.c0, hc.c1⟩ ?_
                clear hK K hc k1 k2 k3 p0 p1 p2 p3 p4 p5 q0 q1 q2 q3 q4 q5
                iterate 2 (refine Tree.take (v := ?_) rfl (by rfl) ?_ ?_; rotate_left 1; (focus (intro x hx; go_simp <;> (first | with_reducible rfl | rw [if_pos (by omega)]))); simp only [Act.put, List.setIfInBounds_toArray, List.set_cons_zero, List.set_cons_succ])
                refine Tree.done ?_
                go_wp2
                go_meet
                case rel => exact ⟨G, A2, c2, A5, c5, rfl, rfl, rfl, HR, HB5, Lib.hid ⟨_, _, _, _, _, _, HX.out⟩⟩
            · as_aux_lemma =>
                go_simp
                have hb4 := new_below xc (.cells noFr 30)
                have HR : Hid (Fx (xc.alloc (.cells noFr 30)) xc.heap.size ⟨0, 0, 0, 0, 0, []⟩ (.slice none 0 0)) := heap_alloc_new xc _
                have HG : Hid (w.heap.size ≤ xc.heap.size) := HX.out.below.size
                have HGD : Hid (∀ b ∈ ablk Ad, b ∉ [xc.heap.size]) := Lib.hid (fun b hb hm => by have := (HX.out.dn.blk b hb).2.1; simp at hm; omega)
                have HGU : Hid (∀ b ∈ ablk Au, b ∉ [xc.heap.size]) := Lib.hid (fun b hb hm => by have := (HX.out.up.blk b hb).2.1; simp at hm; omega)
                replace HB := Lib.hid (HB.out.step hb4)
                replace HX := Lib.hid (HX.out.step hb4)
                have hc := HX.out.lc
                refine hK.out _ _ _ (fun x hx => hx) ⟨hc.c0, hc.c1⟩ ?_
                clear hK K hc hb4
                generalize xc.alloc (.cells noFr 30) = xd at *
                generalize xc.heap.size = G at *
                rename World => xc
                refine Tree.one rfl (fun K hK => ?_)
                go_simp
                refine (take_at sla_cond (f := fr) HX.out.s HB.out.wide (by have := HFL.out; omega) HFS.out HTK.out).mono ?_
                rintro e xt ⟨A5, c5, A2, c2, rfl, o5, o2, h3, hf3⟩
                replace HX := Lib.hid (HX.out.sla h3 hf3)
                have HB5 := Lib.hid (Hb.own (D := 0) (own_zero o5) rfl)
                replace HR := Lib.hid (HR.out.ft hf3 (by decide))
                have hc := HX.out.lc
                refine hK.out _ _ _ (fun x hx => hx) ⟨hc.c0, hc.c1⟩ ?_
                clear hK K hc o5 o2 h3 hf3 HB
                rename World => xc
                simp only [List.length_nil]
                iterate 4 (refine Tree.take (v := ?_) rfl (by rfl) ?_ ?_; rotate_left 1; (focus (intro x hx; go_simp <;> (first | with_reducible rfl | rw [if_pos (by omega)]))); simp only [Act.put, List.setIfInBounds_toArray, List.set_cons_zero, List.set_cons_succ])
                refine Tree.one rfl (fun K hK => ?_)
                have hf := HR.out.fc
                have p0 := hf.c0
                have p1 := hf.c1
                have p2 := hf.c2
                have p3 := hf.c3
                have p4 := hf.c4
                have p5 := hf.c5
                have q0 := hf.fz 0
                have q1 := hf.fz 1
                have q2 := hf.fz 2
                have q3 := hf.fz 3
                have q4 := hf.fz 4
                have q5 := hf.fz 5
                clear hf
                go_simp
                obtain ⟨k1, k2, k3⟩ := HX.out.frameSet HR.out HG.out HGD.out HGU.out [(0, .int .u8 (an.a : Int)), (1, .int .u8 (an.k : Int)), (2, .int .u8 (an.s : Int)), (3, .int .u8 (an.q : Int)), (4, .int .u8 (an.c : Int)), (5, .slice A5 an.b.length c5)] an (.slice A5 an.b.length c5) rfl
                simp only [sets, List.foldl] at k1 k2 k3
                replace HX := Lib.hid k1
                replace HR := Lib.hid k2
                replace HB5 := Lib.hid (HB5.out.ft k3 (by decide) (Nat.zero_le _))
                have hc := HX.out.lc
                refine hK.out _ _ _ (fun x hx => hx) ⟨hc.c0, hc.c1⟩ ?_
                clear hK K hc k1 k2 k3 p0 p1 p2 p3 p4 p5 q0 q1 q2 q3 q4 q5
                iterate 2 (refine Tree.take (v := ?_) rfl (by rfl) ?_ ?_; rotate_left 1; (focus (intro x hx; go_simp <;> (first | with_reducible rfl | rw [if_pos (by omega)]))); simp only [Act.put, List.setIfInBounds_toArray, List.set_cons_zero, List.set_cons_succ])
                refine Tree.done ?_
                go_wp2
                go_meet
                case rel => exact ⟨G, A2, c2, A5, c5, rfl, rfl, rfl, HR, HB5, Lib.hid ⟨_, _, _, _, _, _, HX.out⟩⟩
        · as_aux_lemma =>
            go_simp
            have hb4 := new_below xc (.cells noFr 30)
            have HR : Hid (Fx (xc.alloc (.cells noFr 30)) xc.heap.size ⟨0, 0, 0, 0, 0, []⟩ (.slice none 0 0)) := heap_alloc_new xc _
            have HG : Hid (w.heap.size ≤ xc.heap.size) := HX.out.below.size
            have HGD : Hid (∀ b ∈ ablk Ad, b ∉ [xc.heap.size]) := Lib.hid (fun b hb hm => by have := (HX.out.dn.blk b hb).2.1; simp at hm; omega)
            have HGU : Hid (∀ b ∈ ablk Au, b ∉ [xc.heap.size]) := Lib.hid (fun b hb hm => by have := (HX.out.up.blk b hb).2.1; simp at hm; omega)
            replace HX := Lib.hid (HX.out.step hb4)
            have hc := HX.out.lc
            refine hK.out _ _ _ (fun x hx => hx) ⟨hc.c0, hc.c1⟩ ?_
            clear hK K hc hb4
            generalize xc.alloc (.cells noFr 30) = xd at *
            generalize xc.heap.size = G at *
            rename World => xc
            refine Tree.one rfl (fun K hK => ?_)
            go_simp
            refine (next_lm HX.out.m).mono ?_
            rintro e xn ⟨A1, c1, rfl, ho, h3, hb3⟩
            rw [HNX.out] at ho ⊢
            replace HX := Lib.hid (HX.out.step hb3)
            have HB := Lib.hid (Hb.own (D := 0) (own_zero ho) rfl)
            replace HR := Lib.hid (HR.out.step hb3)
            have hc := HX.out.lc
            refine hK.out _ _ _ (fun x hx => hx) ⟨hc.c0, hc.c1⟩ ?_
            clear hK K hc ho h3 hb3
            rename World => xc
            refine Tree.one rfl (fun K hK => ?_)
            go_simp
            refine (take_at sla_cond (f := fr) HX.out.s HB.out.wide (by have := HFL.out; omega) HFS.out HTK.out).mono ?_
            rintro e xt ⟨A5, c5, A2, c2, rfl, o5, o2, h3, hf3⟩
            replace HX := Lib.hid (HX.out.sla h3 hf3)
            have HB5 := Lib.hid (Hb.own (D := 0) (own_zero o5) rfl)
            replace HR := Lib.hid (HR.out.ft hf3 (by decide))
            have hc := HX.out.lc
            refine hK.out _ _ _ (fun x hx => hx) ⟨hc.c0, hc.c1⟩ ?_
            clear hK K hc o5 o2 h3 hf3 HB
            rename World => xc
            simp only [List.length_nil]
            iterate 4 (refine Tree.take (v := ?_) rfl (by rfl) ?_ ?_; rotate_left 1; (focus (intro x hx; go_simp <;> (first | with_reducible rfl | rw [if_pos (by omega)]))); simp only [Act.put, List.setIfInBounds_toArray, List.set_cons_zero, List.set_cons_succ])
            refine Tree.one rfl (fun K hK => ?_)
            have hf := HR.out.fc
            have p0 := hf.c0
            have p1 := hf.c1
            have p2 := hf.c2
            have p3 := hf.c3
            have p4 := hf.c4
            have p5 := hf.c5
            have q0 := hf.fz 0
            have q1 := hf.fz 1
            have q2 := hf.fz 2
            have q3 := hf.fz 3
            have q4 := hf.fz 4
            have q5 := hf.fz 5
            clear hf
            go_simp
            obtain ⟨k1, k2, k3⟩ := HX.out.frameSet HR.out HG.out HGD.out HGU.out [(0, .int .u8 (an.a : Int)), (1, .int .u8 (an.k : Int)), (2, .int .u8 (an.s : Int)), (3, .int .u8 (an.q : Int)), (4, .int .u8 (an.c : Int)), (5, .slice A5 an.b.length c5)] an (.slice A5 an.b.length c5) rfl
            simp only [sets, List.foldl] at k1 k2 k3
            replace HX := Lib.hid k1
            replace HR := Lib.hid k2
            replace HB5 := Lib.hid (HB5.out.ft k3 (by decide) (Nat.zero_le _))
            have hc := HX.out.lc
            refine hK.out _ _ _ (fun x hx => hx) ⟨hc.c0, hc.c1⟩ ?_
            clear hK K hc k1 k2 k3 p0 p1 p2 p3 p4 p5 q0 q1 q2 q3 q4 q5
            iterate 2 (refine Tree.take (v := ?_) rfl (by rfl) ?_ ?_; rotate_left 1; (focus (intro x hx; go_simp <;> (first | with_reducible rfl | rw [if_pos (by omega)]))); simp only [Act.put, List.setIfInBounds_toArray, List.set_cons_zero, List.set_cons_succ])
            refine Tree.done ?_
            go_wp2
            go_meet
            case rel => exact ⟨G, A2, c2, A5, c5, rfl, rfl, rfl, HR, HB5, Lib.hid ⟨_, _, _, _, _, _, HX.out⟩⟩
    case rest =>
      clear HX HTK HNX HFL HFS
      obtain ⟨G, A2, c2, A5, c5, rfl, rfl, rfl, HR, HB, HX⟩ := hcut
      rename World => xb
      go_upto_region 15 with fail
      replace HX := Lib.hid (HX.out.step (drew_below xb))
      replace HR := Lib.hid (HR.out.step (drew_below xb))
      replace HB := Lib.hid (HB.out.step (drew_below xb))
      obtain ⟨Ad, cd, Au, cu, hc⟩ := HX.out.lc
      have hf := HR.out.fc
      refine region_plan [(true, 0), (true, 1), (true, 2), (true, 3), (true, 4), (false, 5), (true, 6), (true, 7), (true, 8), (true, 9), (true, 10)]
        (fun y => y.cell? ⟨L, 0, none⟩ = some (.pointer (some ⟨D, 0, none⟩)) ∧ y.cell? ⟨G, 0, none⟩ = some (.int .u8 (an.a : Int)) ∧ y.cell? ⟨G, 1, none⟩ = some (.int .u8 (an.k : Int)) ∧ y.cell? ⟨G, 2, none⟩ = some (.int .u8 (an.s : Int)) ∧ y.cell? ⟨G, 3, none⟩ = some (.int .u8 (an.q : Int)) ∧ y.cell? ⟨G, 4, none⟩ = some (.int .u8 (an.c : Int)) ∧ y.cell? ⟨G, 5, none⟩ = some (.slice A5 an.b.length c5)) (by kernel_rfl) (by kernel_rfl) (by kernel_rfl) rfl ⟨hc.c0, hf.c0, hf.c1, hf.c2, hf.c3, hf.c4, hf.c5⟩ ?_
      clear hc hf
      generalize xb.drew = xc at *
      iterate 5 (refine Plan.take (v := ?_) rfl (by rfl) ?_ ?_; rotate_left 1; (focus (intro x hx; go_simp <;> (first | with_reducible rfl | rw [if_pos (by omega)]))); simp only [Act.put, List.setIfInBounds_toArray, List.set_cons_zero, List.set_cons_succ])
      refine Plan.loud rfl (fun K hK => ?_)
      go_simp
      refine (heard_lm (f := an) HX.out.mas (by omega) HB.out.wide (by have := HAL.out; omega)).mono ?_
      rintro e xd ⟨A6, c6, rfl, o6, h6, hf6⟩
      rw [HHD.out] at h6 ⊢
      replace HX : Hid (Lxx w L D S (N + 1) { l with s := s1, m := m1 } xd) := by
        obtain ⟨_, _, _, _, _, _, h⟩ := HX.out
        exact ⟨_, _, _, _, _, _, h.mas h6 hf6 (Nat.le_succ _)⟩
      replace HR := Lib.hid (HR.out.ft hf6 (by decide))
      obtain ⟨Ad, cd, Au, cu, hc⟩ := HX.out.lc
      have hf := HR.out.fc
      refine hK.out _ _ _ (fun x hx => hx) ⟨hc.c0, hf.c0, hf.c1, hf.c2, hf.c3, hf.c4, hf.c5⟩ ?_
      clear hK K o6 h6 hf6 hf hc HB HR HHD HAL
      simp only [List.length_nil]
      iterate 5 (refine Plan.take (v := ?_) rfl (by rfl) ?_ ?_; rotate_left 1; (focus (intro x hx; go_simp <;> (first | with_reducible rfl | rw [if_pos (by omega)]))); simp only [Act.put, List.setIfInBounds_toArray, List.set_cons_zero, List.set_cons_succ])
      refine Plan.done ?_
      obtain ⟨Ad, cd, Au, cu, hlc⟩ := HX.out.lc
      have d0 := hlc.c0
      clear hlc
      go_wp2_with fail
      refine (state_lm HX.out.mas).mono ?_
      rintro e y ⟨rfl, rfl⟩
      rw [show ((({ l with s := s1, m := m1 } : Ln).m.st : Nat) : Int) = 0 by show ((m1.st : Nat) : Int) = 0; rw [HST1.out]; rfl]
      go_wp2_with fail
      refine (len_lm HX.out.mas).mono ?_
      rintro e z ⟨rfl, rfl⟩
      rw [show ((({ l with s := s1, m := m1 } : Ln).m.q.length : Nat) : Int) = 0 by show ((m1.q.length : Nat) : Int) = 0; rw [HQ1.out]; rfl]
      clear d0
      rename World => xs
      obtain ⟨lc, hlc⟩ : ∃ lc, ({ l with s := s1, m := m1 } : Ln) = lc := ⟨_, rfl⟩
      obtain ⟨fr, hfr⟩ : ∃ fr, nextM m1 = fr := ⟨_, rfl⟩
      obtain ⟨s2, hs2⟩ : ∃ s2, (⟨3, 2, 0, 0, []⟩ : Sl) = s2 := ⟨_, rfl⟩
      obtain ⟨an2, han⟩ : ∃ an, (⟨3, 4, 2, 0, 0, []⟩ : Fr) = an := ⟨_, rfl⟩
      obtain ⟨N2, hNN⟩ : ∃ N2, N + 1 = N2 := ⟨_, rfl⟩
      have HLM : Hid (lc.m = m1) := by show _ = _; rw [← hlc]
      have HLSS : Hid (lc.s = s1) := by show _ = _; rw [← hlc]
      replace HX : Hid (Lxx w L D S N2 lc xs) := by rw [← hlc, ← hNN]; exact HX
      replace hN : N2 ≤ 1001 := by omega
      have HAL : Hid (an2.b.length ≤ 24) := by show _ ≤ _; rw [← han]; exact Nat.zero_le _
      have HNX : Hid (nextM lc.m = fr) := by show _ = _; rw [HLM.out]; exact hfr
      have HTK : Hid (takeS lc.s fr = (s2, an2, [], true)) := by show _ = _; rw [HLSS.out, ← hfr, HN1.out, ← HS1.out, reset_two, hs2, han]
      have HHD : Hid (heardM lc.m an2 = (m2, [], true)) := by show _ = _; rw [HLM.out, ← han]; exact HH2.out
      have HFL : Hid (fr.b.length ≤ 24) := by show _ ≤ _; rw [← hfr, HN1.out]; exact Nat.zero_le _
      have HFS : Hid (fr.s < 256) := by show _ < _; rw [← hfr, HN1.out]; decide
      have HSE : Hid ((s2.ses : Int) = 2) := by show _ = _; rw [← hs2]; rfl
      clear hlc hfr hs2 han hNN HLM HLSS HN1 HS1 HAN HH2 HST1 HQ1
      go_upto_region 18 with fail
      rename World => xa
      go_cut [12, 13, 14] (fun v5 v6 v7 y => ∃ G A2 c2 A5 c5, v5 = .pointer (some ⟨G, 0, none⟩) ∧ v6 = .slice A2 0 c2 ∧ v7 = .bool true ∧ Hid (Fx y G an2 (.slice A5 an2.b.length c5)) ∧ Hid (Hb y 0 A5 an2.b) ∧ Hid (Lxx w L D S N2 { lc with s := s2 } y))
      case first =>
        as_aux_lemma =>
          obtain ⟨Ad, Au, cd, cu, td, tu, hx⟩ := HX.out.step (drew_below xa)
          replace HX := Lib.hid hx
          have hc := HX.out.lc
          refine region_tree (.take 0 (.take 1 (.take 2 (.take 3 (.take 4 (.take 5 (.take 6 (.take 7 (.two 8 (.two 9 (.take 10 (.take 11 (.take 12 (.take 13 (.one 14 (.one 15 (.take 16 (.take 17 .done)))))))) 14 (.one 9 (.take 10 (.take 11 (.take 12 (.take 13 (.one 15 (.take 16 (.take 17 .done))))))))) 14 (.one 8 (.one 9 (.take 10 (.take 11 (.take 12 (.take 13 (.one 15 (.take 16 (.take 17 .done))))))))))))))))))
            (fun y => y.cell? ⟨L, 0, none⟩ = some (.pointer (some ⟨D, 0, none⟩)) ∧ y.cell? ⟨L, 1, none⟩ = some (.pointer (some ⟨S, 0, none⟩))) (by kernel_rfl) (by kernel_rfl) (by kernel_rfl) (by kernel_rfl) ⟨hc.c0, hc.c1⟩ ?_
          clear hc hx
          generalize xa.drew = xc at *
          iterate 8 (refine Tree.take (v := ?_) rfl (by rfl) ?_ ?_; rotate_left 1; (focus (intro x hx; go_simp <;> (first | with_reducible rfl | rw [if_pos (by omega)]))); simp only [Act.put, List.setIfInBounds_toArray, List.set_cons_zero, List.set_cons_succ])
          refine Tree.two rfl rfl (fun K hK => ?_) (fun K hK => ?_)
          · as_aux_lemma =>
              go_simp
              refine (next_lm HX.out.m).mono ?_
              rintro e xn ⟨A1, c1, rfl, ho, h3, hb3⟩
              rw [HNX.out] at ho ⊢
              replace HX := Lib.hid (HX.out.step hb3)
              have HB := Lib.hid (Hb.own (D := 0) (own_zero ho) rfl)
              have hc := HX.out.lc
              refine hK.out _ _ _ (fun x hx => hx) ⟨hc.c0, hc.c1⟩ ?_
              clear hK K hc ho h3 hb3
              rename World => xc
              refine Tree.two rfl rfl (fun K hK => ?_) (fun K hK => ?_)
              · as_aux_lemma =>
                  go_simp
                  refine (take_at sla_cond (f := fr) HX.out.s HB.out.wide (by have := HFL.out; omega) HFS.out HTK.out).mono ?_
                  rintro e xt ⟨A5, c5, A2, c2, rfl, o5, o2, h3, hf3⟩
                  replace HX := Lib.hid (HX.out.sla h3 hf3)
                  have HB5 := Lib.hid (Hb.own (D := 0) (own_zero o5) rfl)
                  have hc := HX.out.lc
                  refine hK.out _ _ _ (fun x hx => hx) ⟨hc.c0, hc.c1⟩ ?_
                  clear hK K hc o5 o2 h3 hf3 HB
                  rename World => xc
                  simp only [List.length_nil]
                  iterate 4 (refine Tree.take (v := ?_) rfl (by rfl) ?_ ?_; rotate_left 1; (focus (intro x hx; go_simp <;> (first | with_reducible rfl | rw [if_pos (by omega)]))); simp only [Act.put, List.setIfInBounds_toArray, List.set_cons_zero, List.set_cons_succ])
                  refine Tree.one rfl (fun K hK => ?_)
                  go_simp
                  have hb4 := new_below xc (.cells noFr 30)
                  have HR : Hid (Fx (xc.alloc (.cells noFr 30)) xc.heap.size ⟨0, 0, 0, 0, 0, []⟩ (.slice none 0 0)) := heap_alloc_new xc _
                  have HG : Hid (w.heap.size ≤ xc.heap.size) := HX.out.below.size
                  have HGD : Hid (∀ b ∈ ablk Ad, b ∉ [xc.heap.size]) := Lib.hid (fun b hb hm => by have := (HX.out.dn.blk b hb).2.1; simp at hm; omega)
                  have HGU : Hid (∀ b ∈ ablk Au, b ∉ [xc.heap.size]) := Lib.hid (fun b hb hm => by have := (HX.out.up.blk b hb).2.1; simp at hm; omega)
                  replace HB5 := Lib.hid (HB5.out.step hb4)
                  replace HX := Lib.hid (HX.out.step hb4)
                  have hc := HX.out.lc
                  refine hK.out _ _ _ (fun x hx => hx) ⟨hc.c0, hc.c1⟩ ?_
                  clear hK K hc hb4
                  generalize xc.alloc (.cells noFr 30) = xd at *
                  generalize xc.heap.size = G at *
                  rename World => xc
                  refine Tree.one rfl (fun K hK => ?_)
                  have hf := HR.out.fc
                  have p0 := hf.c0
                  have p1 := hf.c1
                  have p2 := hf.c2
                  have p3 := hf.c3
                  have p4 := hf.c4
                  have p5 := hf.c5
                  have q0 := hf.fz 0
                  have q1 := hf.fz 1
                  have q2 := hf.fz 2
                  have q3 := hf.fz 3
                  have q4 := hf.fz 4
                  have q5 := hf.fz 5
                  clear hf
                  go_simp
                  obtain ⟨k1, k2, k3⟩ := HX.out.frameSet HR.out HG.out HGD.out HGU.out [(0, .int .u8 (an2.a : Int)), (1, .int .u8 (an2.k : Int)), (2, .int .u8 (an2.s : Int)), (3, .int .u8 (an2.q : Int)), (4, .int .u8 (an2.c : Int)), (5, .slice A5 an2.b.length c5)] an2 (.slice A5 an2.b.length c5) rfl
                  simp only [sets, List.foldl] at k1 k2 k3
                  replace HX := Lib.hid k1
                  replace HR := Lib.hid k2
                  replace HB5 := Lib.hid (HB5.out.ft k3 (by decide) (Nat.zero_le _))
                  have hc := HX.out.lc
                  refine hK.out _ _ _ (fun x hx => hx) ⟨hc.c0, hc.c1⟩ ?_
                  clear hK K hc k1 k2 k3 p0 p1 p2 p3 p4 p5 q0 q1 q2 q3 q4 q5
                  iterate 2 (refine Tree.take (v := ?_) rfl (by rfl) ?_ ?_; rotate_left 1; (focus (intro x hx; go_simp <;> (first | with_reducible rfl | rw [if_pos (by omega)]))); simp only [Act.put, List.setIfInBounds_toArray, List.set_cons_zero, List.set_cons_succ])
                  refine Tree.done ?_
                  go_wp2
                  go_meet
                  case rel => exact ⟨G, A2, c2, A5, c5, rfl, rfl, rfl, HR, HB5, Lib.hid ⟨_, _, _, _, _, _, HX.out⟩⟩
              · as_aux_lemma =>
                  go_simp
                  have hb4 := new_below xc (.cells noFr 30)
                  have HR : Hid (Fx (xc.alloc (.cells noFr 30)) xc.heap.size ⟨0, 0, 0, 0, 0, []⟩ (.slice none 0 0)) := heap_alloc_new xc _
                  have HG : Hid (w.heap.size ≤ xc.heap.size) := HX.out.below.size
                  have HGD : Hid (∀ b ∈ ablk Ad, b ∉ [xc.heap.size]) := Lib.hid (fun b hb hm => by have := (HX.out.dn.blk b hb).2.1; simp at hm; omega)
                  have HGU : Hid (∀ b ∈ ablk Au, b ∉ [xc.heap.size]) := Lib.hid (fun b hb hm => by have := (HX.out.up.blk b hb).2.1; simp at hm; omega)
                  replace HB := Lib.hid (HB.out.step hb4)
                  replace HX := Lib.hid (HX.out.step hb4)
                  have hc := HX.out.lc
                  refine hK.out _ _ _ (fun x hx => hx) ⟨hc.c0, hc.c1⟩ ?_
                  clear hK K hc hb4
                  generalize xc.alloc (.cells noFr 30) = xd at *
                  generalize xc.heap.size = G at *
                  rename World => xc
                  refine Tree.one rfl (fun K hK => ?_)
                  go_simp
                  refine (take_at sla_cond (f := fr) HX.out.s HB.out.wide (by have := HFL.out; omega) HFS.out HTK.out).mono ?_
                  rintro e xt ⟨A5, c5, A2, c2, rfl, o5, o2, h3, hf3⟩
                  replace HX := Lib.hid (HX.out.sla h3 hf3)
                  have HB5 := Lib.hid (Hb.own (D := 0) (own_zero o5) rfl)
                  replace HR := Lib.hid (HR.out.ft hf3 (by decide))
                  have hc := HX.out.lc
                  refine hK.out _ _ _ (fun x hx => hx) ⟨hc.c0, hc.c1⟩ ?_
                  clear hK K hc o5 o2 h3 hf3 HB
                  rename World => xc
                  simp only [List.length_nil]
                  iterate 4 (refine Tree.take (v := ?_) rfl (by rfl) ?_ ?_; rotate_left 1; (focus (intro x hx; go_simp <;> (first | with_reducible rfl | rw [if_pos (by omega)]))); simp only [Act.put, List.setIfInBounds_toArray, List.set_cons_zero, List.set_cons_succ])
                  refine Tree.one rfl (fun K hK => ?_)
                  have hf := HR.out.fc
                  have p0 := hf.c0
                  have p1 := hf.c1
                  have p2 := hf.c2
                  have p3 := hf.c3
                  have p4 := hf.c4
                  have p5 := hf.c5
                  have q0 := hf.fz 0
                  have q1 := hf.fz 1
                  have q2 := hf.fz 2
                  have q3 := hf.fz 3
                  have q4 := hf.fz 4
                  have q5 := hf.fz 5
                  clear hf
                  go_simp
                  obtain ⟨k1, k2, k3⟩ := HX.out.frameSet HR.out HG.out HGD.out HGU.out [(0, .int .u8 (an2.a : Int)), (1, .int .u8 (an2.k : Int)), (2, .int .u8 (an2.s : Int)), (3, .int .u8 (an2.q : Int)), (4, .int .u8 (an2.c : Int)), (5, .slice A5 an2.b.length c5)] an2 (.slice A5 an2.b.length c5) rfl
                  simp only [sets, List.foldl] at k1 k2 k3
                  replace HX := Lib.hid k1
                  replace HR := Lib.hid k2
                  replace HB5 := Lib.hid (HB5.out.ft k3 (by decide) (Nat.zero_le _))
                  have hc := HX.out.lc
                  refine hK.out _ _ _ (fun x hx => hx) ⟨hc.c0, hc.c1⟩ ?_
                  clear hK K hc k1 k2 k3 p0 p1 p2 p3 p4 p5 q0 q1 q2 q3 q4 q5
                  iterate 2 (refine Tree.take (v := ?_) rfl (by rfl) ?_ ?_; rotate_left 1; (focus (intro x hx; go_simp <;> (first | with_reducible rfl | rw [if_pos (by omega)]))); simp only [Act.put, List.setIfInBounds_toArray, List.set_cons_zero, List.set_cons_succ])
                  refine Tree.done ?_
                  go_wp2
                  go_meet
                  case rel => exact ⟨G, A2, c2, A5, c5, rfl, rfl, rfl, HR, HB5, Lib.hid ⟨_, _, _, _, _, _, HX.out⟩⟩
          · as_aux_lemma =>
              go_simp
              have hb4 := new_below xc (.cells noFr 30)
              have HR : Hid (Fx (xc.alloc (.cells noFr 30)) xc.heap.size ⟨0, 0, 0, 0, 0, []⟩ (.slice none 0 0)) := heap_alloc_new xc _
              have HG : Hid (w.heap.size ≤ xc.heap.size) := HX.out.below.size
              have HGD : Hid (∀ b ∈ ablk Ad, b ∉ [xc.heap.size]) := Lib.hid (fun b hb hm => by have := (HX.out.dn.blk b hb).2.1; simp at hm; omega)
              have HGU : Hid (∀ b ∈ ablk Au, b ∉ [xc.heap.size]) := Lib.hid (fun b hb hm => by have := (HX.out.up.blk b hb).2.1; simp at hm; omega)
              replace HX := Lib.hid (HX.out.step hb4)
              have hc := HX.out.lc
              refine hK.out _ _ _ (fun x hx => hx) ⟨hc.c0, hc.c1⟩ ?_
              clear hK K hc hb4
              generalize xc.alloc (.cells noFr 30) = xd at *
              generalize xc.heap.size = G at *
              rename World => xc
              refine Tree.one rfl (fun K hK => ?_)
              go_simp
              refine (next_lm HX.out.m).mono ?_
              rintro e xn ⟨A1, c1, rfl, ho, h3, hb3⟩
              rw [HNX.out] at ho ⊢
              replace HX := Lib.hid (HX.out.step hb3)
              have HB := Lib.hid (Hb.own (D := 0) (own_zero ho) rfl)
              replace HR := Lib.hid (HR.out.step hb3)
              have hc := HX.out.lc
              refine hK.out _ _ _ (fun x hx => hx) ⟨hc.c0, hc.c1⟩ ?_
              clear hK K hc ho h3 hb3
              rename World => xc
              refine Tree.one rfl (fun K hK => ?_)
              go_simp
              refine (take_at sla_cond (f := fr) HX.out.s HB.out.wide (by have := HFL.out; omega) HFS.out HTK.out).mono ?_
              rintro e xt ⟨A5, c5, A2, c2, rfl, o5, o2, h3, hf3⟩
              replace HX := Lib.hid (HX.out.sla h3 hf3)
              have HB5 := Lib.hid (Hb.own (D := 0) (own_zero o5) rfl)
              replace HR := Lib.hid (HR.out.ft hf3 (by decide))
              have hc := HX.out.lc
              refine hK.out _ _ _ (fun x hx => hx) ⟨hc.c0, hc.c1⟩ ?_
              clear hK K hc o5 o2 h3 hf3 HB
              rename World => xc
              simp only [List.length_nil]
              iterate 4 (refine Tree.take (v := ?_) rfl (by rfl) ?_ ?_; rotate_left 1; (focus (intro x hx; go_simp <;> (first | with_reducible rfl | rw [if_pos (by omega)]))); simp only [Act.put, List.setIfInBounds_toArray, List.set_cons_zero, List.set_cons_succ])
              refine Tree.one rfl (fun K hK => ?_)
              have hf := HR.out.fc
              have p0 := hf.c0
              have p1 := hf.c1
              have p2 := hf.c2
              have p3 := hf.c3
              have p4 := hf.c4
              have p5 := hf.c5
              have q0 := hf.fz 0
              have q1 := hf.fz 1
              have q2 := hf.fz 2
              have q3 := hf.fz 3
              have q4 := hf.fz 4
              have q5 := hf.fz 5
              clear hf
              go_simp
              obtain ⟨k1, k2, k3⟩ := HX.out.frameSet HR.out HG.out HGD.out HGU.out [(0, .int .u8 (an2.a : Int)), (1, .int .u8 (an2.k : Int)), (2, .int .u8 (an2.s : Int)), (3, .int .u8 (an2.q : Int)), (4, .int .u8 (an2.c : Int)), (5, .slice A5 an2.b.length c5)] an2 (.slice A5 an2.b.length c5) rfl
              simp only [sets, List.foldl] at k1 k2 k3
              replace HX := Lib.hid k1
              replace HR := Lib.hid k2
              replace HB5 := Lib.hid (HB5.out.ft k3 (by decide) (Nat.zero_le _))
              have hc := HX.out.lc
              refine hK.out _ _ _ (fun x hx => hx) ⟨hc.c0, hc.c1⟩ ?_
              clear hK K hc k1 k2 k3 p0 p1 p2 p3 p4 p5 q0 q1 q2 q3 q4 q5
              iterate 2 (refine Tree.take (v := ?_) rfl (by rfl) ?_ ?_; rotate_left 1; (focus (intro x hx; go_simp <;> (first | with_reducible rfl | rw [if_pos (by omega)]))); simp only [Act.put, List.setIfInBounds_toArray, List.set_cons_zero, List.set_cons_succ])
              refine Tree.done ?_
              go_wp2
              go_meet
              case rel => exact ⟨G, A2, c2, A5, c5, rfl, rfl, rfl, HR, HB5, Lib.hid ⟨_, _, _, _, _, _, HX.out⟩⟩
      case rest =>
        clear HX HTK HNX HFL HFS
        obtain ⟨G, A2, c2, A5, c5, rfl, rfl, rfl, HR, HB, HX⟩ := hcut
        rename World => xb
        go_upto_region 19 with fail
        replace HX := Lib.hid (HX.out.step (drew_below xb))
        replace HR := Lib.hid (HR.out.step (drew_below xb))
        replace HB := Lib.hid (HB.out.step (drew_below xb))
        obtain ⟨Ad, cd, Au, cu, hc⟩ := HX.out.lc
        have hf := HR.out.fc
        refine region_plan [(true, 0), (true, 1), (true, 2), (true, 3), (true, 4), (false, 5), (true, 6), (true, 7), (true, 8), (true, 9), (true, 10)]
          (fun y => y.cell? ⟨L, 0, none⟩ = some (.pointer (some ⟨D, 0, none⟩)) ∧ y.cell? ⟨G, 0, none⟩ = some (.int .u8 (an2.a : Int)) ∧ y.cell? ⟨G, 1, none⟩ = some (.int .u8 (an2.k : Int)) ∧ y.cell? ⟨G, 2, none⟩ = some (.int .u8 (an2.s : Int)) ∧ y.cell? ⟨G, 3, none⟩ = some (.int .u8 (an2.q : Int)) ∧ y.cell? ⟨G, 4, none⟩ = some (.int .u8 (an2.c : Int)) ∧ y.cell? ⟨G, 5, none⟩ = some (.slice A5 an2.b.length c5)) (by kernel_rfl) (by kernel_rfl) (by kernel_rfl) rfl ⟨hc.c0, hf.c0, hf.c1, hf.c2, hf.c3, hf.c4, hf.c5⟩ ?_
        clear hc hf
        generalize xb.drew = xc at *
        iterate 5 (refine Plan.take (v := ?_) rfl (by rfl) ?_ ?_; rotate_left 1; (focus (intro x hx; go_simp <;> (first | with_reducible rfl | rw [if_pos (by omega)]))); simp only [Act.put, List.setIfInBounds_toArray, List.set_cons_zero, List.set_cons_succ])
        refine Plan.loud rfl (fun K hK => ?_)
        go_simp
        refine (heard_lm (f := an2) HX.out.mas (by omega) HB.out.wide (by have := HAL.out; omega)).mono ?_
        rintro e xd ⟨A6, c6, rfl, o6, h6, hf6⟩
        rw [HHD.out] at h6 ⊢
        replace HX : Hid (Lxx w L D S (N2 + 1) { lc with s := s2, m := m2 } xd) := by
          obtain ⟨_, _, _, _, _, _, h⟩ := HX.out
          exact ⟨_, _, _, _, _, _, h.mas h6 hf6 (Nat.le_succ _)⟩
        replace HR := Lib.hid (HR.out.ft hf6 (by decide))
        obtain ⟨Ad, cd, Au, cu, hc⟩ := HX.out.lc
        have hf := HR.out.fc
        refine hK.out _ _ _ (fun x hx => hx) ⟨hc.c0, hf.c0, hf.c1, hf.c2, hf.c3, hf.c4, hf.c5⟩ ?_
        clear hK K o6 h6 hf6 hf hc HB HR HHD HAL
        simp only [List.length_nil]
        iterate 5 (refine Plan.take (v := ?_) rfl (by rfl) ?_ ?_; rotate_left 1; (focus (intro x hx; go_simp <;> (first | with_reducible rfl | rw [if_pos (by omega)]))); simp only [Act.put, List.setIfInBounds_toArray, List.set_cons_zero, List.set_cons_succ])
        refine Plan.done ?_
        obtain ⟨Ad, cd, Au, cu, hlc⟩ := HX.out.lc
        have d0 := hlc.c0
        have d1 := hlc.c1
        clear hlc
        go_wp2_with fail
        refine (state_lm HX.out.mas).mono ?_
        rintro e y ⟨rfl, rfl⟩
        rw [show ((({ lc with s := s2, m := m2 } : Ln).m.st : Nat) : Int) = 1 by show ((m2.st : Nat) : Int) = 1; rw [HST2.out]; rfl]
        go_wp2_with fail
        refine (epoch_lm HX.out.mas).mono ?_
        rintro e z ⟨rfl, rfl⟩
        rw [show ((({ lc with s := s2, m := m2 } : Ln).m.ep : Nat) : Int) = 2 by show ((m2.ep : Nat) : Int) = 2; rw [HEP2.out]; rfl]
        go_wp2_with fail
        refine (sla_cond.session HX.out.sla).mono ?_
        rintro e z2 ⟨rfl, rfl⟩
        rw [show ((({ lc with s := s2, m := m2 } : Ln).s.ses : Nat) : Int) = 2 from HSE.out]
        go_wp2
        go_ret
        exact ⟨rfl, HX.out.below⟩

end Go.Proofs.Ytabedmkhhlmbkaa
