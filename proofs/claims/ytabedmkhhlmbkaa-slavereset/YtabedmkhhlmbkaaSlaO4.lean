/-
  The ops of lamplightlaw08.line: the first frame down comes to the slave (kind 4).
-/
import Derived.Test.YtabedmkhhlmbkaaSlaO
import Derived.Deep.DeepCutAuto
namespace Go.Proofs.Ytabedmkhhlmbkaa
set_option linter.unusedVariables false
set_option linter.unusedSimpArgs false
open Go.RowKit

set_option maxRecDepth 20000 in
set_option maxHeartbeats 6400000 in
theorem does_take4 (C : SlaCond) {w x : World} {L D S N cd cu : Nat} {l : Ln} {Ad Au : Option Addr} {td tu : List Kf} (h : Lx w L D S N l Ad Au cd cu td tu x) (hv : Ivx l) (hN : N ≤ 100000) :
    Calls Try.prog 22 #[.pointer (some ⟨L, 0, none⟩), .agg #[.int .i64 4]] x (DoesPost w L D S N l 4) := by
  have HP : Hid (∀ y l', (takeL l).1 = l' → Lxx w L D S (N + 1) l' y → DoesPost w L D S N l 4 (.returned (.bool true)) y) := fun y l' he hh => ⟨rfl, by
    have e : (doesL l 4).1 = l' := by unfold doesL; rw [if_neg (by omega), if_neg (by omega), if_neg (by omega), if_pos (by omega)]; exact he
    rw [e]; exact hh⟩
  have HX := Lib.hid (h.step (new_below x (.cells #[.int .i64 4] 56)))
  have HUB := Lib.hid (ivx_down hv)
  have HNU : Hid (l.came + 1 ≤ N + 1) := Lib.hid (Nat.succ_le_succ h.nums.2.1)
  have HTT : Hid ((takeL l).2 = true) := by
    obtain ⟨A, T, ds, us, hv⟩ := hv
    exact (iv_take hv).1
  clear h hv
  generalize DoesPost w L D S N l 4 = Q at *
  go_enter Try.func22, Try.ntmps22
  go_upto_region 15 with fail
  generalize x.alloc (.cells #[.int .i64 4] 56) = x1 at *
  have c2 := HX.out.lc.c2
  have c3 := HX.out.lc.c3
  cases hu : l.down with
  | nil =>
    rw [hu] at c2
    simp only [List.length_nil] at c2
    have HE : Hid ((takeL l).1 = l) := by show _ = _; unfold takeL; rw [hu]
    go_wp2
    exact HP.out _ _ HE.out ⟨_, _, _, _, _, _, HX.out.more (Nat.le_succ N)⟩
  | cons f u =>
    have HHU := Lib.hid hu
    have hne0 : (((u.length + 1 : Nat) : Int) == 0) = false := by simp; omega
    rw [hu] at c2
    simp only [List.length_cons] at c2
    by_cases h20 : 20 ≤ l.up.length
    · have hn : (20 : Int) ≤ (l.up.length : Int) := by omega
      have HE : Hid ((takeL l).1 = l) := by show _ = _; unfold takeL; rw [hu]; simp only; rw [if_pos h20]
      clear hu h20
      go_wp2
      exact HP.out _ _ HE.out ⟨_, _, _, _, _, _, HX.out.more (Nat.le_succ N)⟩
    · have hn : ¬ (20 : Int) ≤ (l.up.length : Int) := by omega
      obtain ⟨s1, an, out, hts, hcase⟩ := takeL_parts hu (by omega) HTT.out
      have HCS := Lib.hid hcase
      have HTS := Lib.hid hts
      have HUL := Lib.hid (show l.up.length < 20 by omega)
      have hq := HX.out.dn
      rw [hu] at hq
      obtain ⟨g, o, t, r, htu, -, -, hA, -, hcap, -, -⟩ := hq.head
      subst hA htu
      have HFB := Lib.hid (HUB.out f (by rw [hu]; simp))
      clear hcase hts hq hu h20 HTT
      generalize hul : u.length = un at *
      go_upto_region 17 with fail
      have HX1 := Lib.hid (HX.out.step (drew_below x1))
      have hq : Fq x1.drew w.heap.size (some ⟨g, o, none⟩) cd (t :: r) (f :: u) := by rw [← HHU.out]; exact HX1.out.dn
      obtain ⟨hsix, hhb⟩ := hq.six
      have HHB := Lib.hid hhb
      have hc := HX1.out.lc
      have d2 := hc.c2
      rw [HHU.out] at d2
      simp only [List.length_cons, hul] at d2
      clear c2 c3 hne0 hn HX hq
      go_cut [5, 6, 7] (fun v5 v6 v7 y => ∃ G A2 c2 A5 c5, v5 = .pointer (some ⟨G, 0, none⟩) ∧ v6 = .slice A2 out.length c2 ∧ v7 = .bool true ∧ Hid (Fx y G an (.slice A5 an.b.length c5)) ∧ Hid (Hb y 0 A5 an.b) ∧ Hid (y.ownsRow 0 5 1 (.slice A2 out.length c2) out.length (bcs out)) ∧ Hid (∀ b ∈ ablk Au, b ∉ [G]) ∧ Hid (Lx w L D S N { l with s := s1 } (some ⟨g, o, none⟩) Au cd cu (t :: r) tu y))
      case first =>
        as_aux_lemma =>
          refine region_tree (.take 0 (.take 1 (.take 2 (.take 3 (.take 4 (.take 5 (.take 6 (.take 7 (.take 8 (.take 9 (.two 10 (.take 11 (.take 12 (.take 13 (.take 14 (.one 15 (.one 16 (.take 17 (.take 18 .done)))))))) 15 (.one 10 (.take 11 (.take 12 (.take 13 (.take 14 (.one 16 (.take 17 (.take 18 .done)))))))))))))))))))
            (fun y => y.cell? ⟨L, 1, none⟩ = some (.pointer (some ⟨S, 0, none⟩)) ∧ y.cell? ⟨L, 2, none⟩ = some (.slice (some ⟨g, o, none⟩) (un + 1) cd) ∧ y.cell? ⟨g, o, none⟩ = some (.int .u8 (f.a : Int)) ∧ y.cell? ⟨g, o + 1, none⟩ = some (.int .u8 (f.k : Int)) ∧ y.cell? ⟨g, o + 2, none⟩ = some (.int .u8 (f.s : Int)) ∧ y.cell? ⟨g, o + 3, none⟩ = some (.int .u8 (f.q : Int)) ∧ y.cell? ⟨g, o + 4, none⟩ = some (.int .u8 (f.c : Int)) ∧ y.cell? ⟨g, o + 5, none⟩ = some (.slice t.A f.b.length t.c)) (by kernel_rfl) (by kernel_rfl) (by kernel_rfl) (by kernel_rfl) ⟨hc.c1, d2, hsix⟩ ?_
          clear hc d2 hsix hhb
          generalize x1.drew = x2 at *
          iterate 10 (refine Tree.take (v := ?_) rfl (by rfl) ?_ ?_; rotate_left 1; (focus (intro x hx; go_simp <;> (first | with_reducible rfl | rw [if_pos (by omega)]))); simp only [Act.put, List.setIfInBounds_toArray, List.set_cons_zero, List.set_cons_succ])
          refine Tree.two rfl rfl (fun K hK => ?_) (fun K hK => ?_)
          · as_aux_lemma =>
              go_simp
              refine (take_at C HX1.out.s HHB.out.wide (by have := HFB.out.1; omega) HFB.out.2 HTS.out).mono ?_
              rintro e x3 ⟨A5, c5, A2, c2, rfl, o5, o2, h3, hf3⟩
              have HX3 := Lib.hid (HX1.out.sla h3 hf3)
              have H5 := Lib.hid (own_zero o5)
              have H2 := Lib.hid (own_zero o2)
              have hc := HX3.out.lc
              have hq : Fq x3 w.heap.size (some ⟨g, o, none⟩) cd (t :: r) (f :: u) := by rw [← HHU.out]; exact HX3.out.dn
              have d2 : x3.cell? ⟨L, 2, none⟩ = some (.slice (some ⟨g, o, none⟩) (un + 1) cd) := by have := hc.c2; simp only [HHU.out, List.length_cons, hul] at this; exact this
              refine hK.out _ _ _ (fun x hx => hx) ⟨hc.c1, d2, hq.six.1⟩ ?_
              clear hK K hc hq d2 o5 o2 h3 hf3 HX1 HHB
              iterate 4 (refine Tree.take (v := ?_) rfl (by rfl) ?_ ?_; rotate_left 1; (focus (intro x hx; go_simp <;> (first | with_reducible rfl | rw [if_pos (by omega)]))); simp only [Act.put, List.setIfInBounds_toArray, List.set_cons_zero, List.set_cons_succ])
              refine Tree.one rfl (fun K hK => ?_)
              go_simp
              have hb4 := new_below x3 (.cells noFr 30)
              have HX4 := Lib.hid (HX3.out.step hb4)
              have HR4 : Hid (Fx (x3.alloc (.cells noFr 30)) x3.heap.size ⟨0, 0, 0, 0, 0, []⟩ (.slice none 0 0)) := heap_alloc_new x3 _
              have H54 := Lib.hid (own_ft (B := 0) (T := []) H5.out (Ft.of_below hb4) (by simp))
              have H24 := Lib.hid (own_ft (B := 0) (T := []) H2.out (Ft.of_below hb4) (by simp))
              have HG4 : Hid (w.heap.size ≤ x3.heap.size) := HX3.out.below.size
              have hc := HX4.out.lc
              have hq : Fq (x3.alloc (.cells noFr 30)) w.heap.size (some ⟨g, o, none⟩) cd (t :: r) (f :: u) := by rw [← HHU.out]; exact HX4.out.dn
              have d2 : (x3.alloc (.cells noFr 30)).cell? ⟨L, 2, none⟩ = some (.slice (some ⟨g, o, none⟩) (un + 1) cd) := by have := hc.c2; simp only [HHU.out, List.length_cons, hul] at this; exact this
              refine hK.out _ _ _ (fun x hx => hx) ⟨hc.c1, d2, hq.six.1⟩ ?_
              clear hK K hc hq d2 hb4
              have HNE : Hid (∀ b, b < x3.heap.size → b ∉ [x3.heap.size]) := Lib.hid (fun b hb hm => by simp at hm; omega)
              have HLD := Lib.hid (fun b hb => (HX3.out.dn.blk b hb).2.1)
              have HLU := Lib.hid (fun b hb => (HX3.out.up.blk b hb).2.1)
              clear HX3 H5 H2
              generalize x3.alloc (.cells noFr 30) = x4 at *
              generalize x3.heap.size = G at *
              refine Tree.one rfl (fun K hK => ?_)
              have hf := HR4.out.fc
              have p0 := hf.c0
              have p1 := hf.c1
              have p2 := hf.c2
              have p3 := hf.c3
              have p4 := hf.c4
              have p5 := hf.c5
              have q0 := hf.fz 0
              have q1 := hf.fz 1
              have q2 := hf.fz 2
              have q3 := hf.fz 3
              have q4 := hf.fz 4
              have q5 := hf.fz 5
              clear hf
              go_simp
              obtain ⟨k1, k2, k3⟩ := HX4.out.frameSet HR4.out HG4.out (fun b hb hm => HNE.out b (HLD.out b hb) hm) (fun b hb hm => HNE.out b (HLU.out b hb) hm) [(0, .int .u8 (an.a : Int)), (1, .int .u8 (an.k : Int)), (2, .int .u8 (an.s : Int)), (3, .int .u8 (an.q : Int)), (4, .int .u8 (an.c : Int)), (5, .slice A5 an.b.length c5)] an (.slice A5 an.b.length c5) rfl
              simp only [sets, List.foldl] at k1 k2 k3
              have HX5 := Lib.hid k1
              have HR5 := Lib.hid k2
              have H55 := Lib.hid (Hb.own (D := 0) (own_ft H54.out k3 (by decide)) rfl)
              have H25 := Lib.hid (own_ft H24.out k3 (by decide))
              have hc := HX5.out.lc
              have hq := HX5.out.dn
              simp only at hq
              rw [HHU.out] at hq
              have d2 := hc.c2
              simp only [HHU.out, List.length_cons, hul] at d2
              refine hK.out _ _ _ (fun x hx => hx) ⟨hc.c1, d2, hq.six.1⟩ ?_
              clear hK K hc hq d2 k1 k2 k3 p0 p1 p2 p3 p4 p5 q0 q1 q2 q3 q4 q5
              iterate 2 (refine Tree.take (v := ?_) rfl (by rfl) ?_ ?_; rotate_left 1; (focus (intro x hx; go_simp <;> (first | with_reducible rfl | rw [if_pos (by omega)]))); simp only [Act.put, List.setIfInBounds_toArray, List.set_cons_zero, List.set_cons_succ])
              refine Tree.done ?_
              go_wp2
              go_meet
              case rel => exact ⟨G, A2, c2, A5, c5, rfl, rfl, rfl, HR5, H55, H25, Lib.hid (fun b hb hm => HNE.out b (HLU.out b hb) hm), HX5⟩
          · as_aux_lemma =>
              go_simp
              have hb4 := new_below x2 (.cells noFr 30)
              have HX4 := Lib.hid (HX1.out.step hb4)
              have HR4 : Hid (Fx (x2.alloc (.cells noFr 30)) x2.heap.size ⟨0, 0, 0, 0, 0, []⟩ (.slice none 0 0)) := heap_alloc_new x2 _
              have HHB4 := Lib.hid (HHB.out.step hb4)
              have HG4 : Hid (w.heap.size ≤ x2.heap.size) := HX1.out.below.size
              have hc := HX4.out.lc
              have hq : Fq (x2.alloc (.cells noFr 30)) w.heap.size (some ⟨g, o, none⟩) cd (t :: r) (f :: u) := by rw [← HHU.out]; exact HX4.out.dn
              have d2 : (x2.alloc (.cells noFr 30)).cell? ⟨L, 2, none⟩ = some (.slice (some ⟨g, o, none⟩) (un + 1) cd) := by have := hc.c2; simp only [HHU.out, List.length_cons, hul] at this; exact this
              refine hK.out _ _ _ (fun x hx => hx) ⟨hc.c1, d2, hq.six.1⟩ ?_
              clear hK K hc hq d2 hb4
              have HNE : Hid (∀ b, b < x2.heap.size → b ∉ [x2.heap.size]) := Lib.hid (fun b hb hm => by simp at hm; omega)
              have HLD := Lib.hid (fun b hb => (HX1.out.dn.blk b hb).2.1)
              have HLU := Lib.hid (fun b hb => (HX1.out.up.blk b hb).2.1)
              clear HX1 HHB
              generalize x2.alloc (.cells noFr 30) = x4 at *
              generalize x2.heap.size = G at *
              refine Tree.one rfl (fun K hK => ?_)
              go_simp
              refine (take_at C HX4.out.s HHB4.out.wide (by have := HFB.out.1; omega) HFB.out.2 HTS.out).mono ?_
              rintro e x3 ⟨A5, c5, A2, c2, rfl, o5, o2, h3, hf3⟩
              have HX3 := Lib.hid (HX4.out.sla h3 hf3)
              have HR3 := Lib.hid (HR4.out.ft hf3 (by decide))
              have H5 := Lib.hid (own_zero o5)
              have H2 := Lib.hid (own_zero o2)
              have hc := HX3.out.lc
              have hq : Fq x3 w.heap.size (some ⟨g, o, none⟩) cd (t :: r) (f :: u) := by rw [← HHU.out]; exact HX3.out.dn
              have d2 : x3.cell? ⟨L, 2, none⟩ = some (.slice (some ⟨g, o, none⟩) (un + 1) cd) := by have := hc.c2; simp only [HHU.out, List.length_cons, hul] at this; exact this
              refine hK.out _ _ _ (fun x hx => hx) ⟨hc.c1, d2, hq.six.1⟩ ?_
              clear hK K hc hq d2 o5 o2 h3 hf3 HX4 HHB4 HR4
              iterate 4 (refine Tree.take (v := ?_) rfl (by rfl) ?_ ?_; rotate_left 1; (focus (intro x hx; go_simp <;> (first | with_reducible rfl | rw [if_pos (by omega)]))); simp only [Act.put, List.setIfInBounds_toArray, List.set_cons_zero, List.set_cons_succ])
              refine Tree.one rfl (fun K hK => ?_)
              have hf := HR3.out.fc
              have p0 := hf.c0
              have p1 := hf.c1
              have p2 := hf.c2
              have p3 := hf.c3
              have p4 := hf.c4
              have p5 := hf.c5
              have q0 := hf.fz 0
              have q1 := hf.fz 1
              have q2 := hf.fz 2
              have q3 := hf.fz 3
              have q4 := hf.fz 4
              have q5 := hf.fz 5
              clear hf
              go_simp
              obtain ⟨k1, k2, k3⟩ := HX3.out.frameSet HR3.out HG4.out (fun b hb hm => HNE.out b (HLD.out b hb) hm) (fun b hb hm => HNE.out b (HLU.out b hb) hm) [(0, .int .u8 (an.a : Int)), (1, .int .u8 (an.k : Int)), (2, .int .u8 (an.s : Int)), (3, .int .u8 (an.q : Int)), (4, .int .u8 (an.c : Int)), (5, .slice A5 an.b.length c5)] an (.slice A5 an.b.length c5) rfl
              simp only [sets, List.foldl] at k1 k2 k3
              have HX5 := Lib.hid k1
              have HR5 := Lib.hid k2
              have H55 := Lib.hid (Hb.own (D := 0) (own_ft H5.out k3 (by decide)) rfl)
              have H25 := Lib.hid (own_ft H2.out k3 (by decide))
              have hc := HX5.out.lc
              have hq := HX5.out.dn
              simp only at hq
              rw [HHU.out] at hq
              have d2 := hc.c2
              simp only [HHU.out, List.length_cons, hul] at d2
              refine hK.out _ _ _ (fun x hx => hx) ⟨hc.c1, d2, hq.six.1⟩ ?_
              clear hK K hc hq d2 k1 k2 k3 p0 p1 p2 p3 p4 p5 q0 q1 q2 q3 q4 q5
              iterate 2 (refine Tree.take (v := ?_) rfl (by rfl) ?_ ?_; rotate_left 1; (focus (intro x hx; go_simp <;> (first | with_reducible rfl | rw [if_pos (by omega)]))); simp only [Act.put, List.setIfInBounds_toArray, List.set_cons_zero, List.set_cons_succ])
              refine Tree.done ?_
              go_wp2
              go_meet
              case rel => exact ⟨G, A2, c2, A5, c5, rfl, rfl, rfl, HR5, H55, H25, Lib.hid (fun b hb hm => HNE.out b (HLU.out b hb) hm), HX5⟩
      case rest =>
        clear hc d2 hsix hhb HHB HX1 HTS
        obtain ⟨G, A2, c2, A5, c5, rfl, rfl, rfl, HR, H5, H2, HGU, HX3⟩ := hcut
        rename World => x3
        have hc := HX3.out.lc
        have d2 := hc.c2
        simp only [HHU.out, List.length_cons, hul] at d2
        have f2 := hc.fz 2
        clear hc
        go_upto_region 18 with fail
        go_cut [] (fun y => Hid (∃ Ad' cd' td', Lx w L D S N { l with s := s1, down := u } Ad' Au cd' cu td' tu y) ∧ Hid (Fx y G an (.slice A5 an.b.length c5)) ∧ Hid (Hb y 0 A5 an.b) ∧ Hid (y.ownsRow 0 5 1 (.slice A2 out.length c2) out.length (bcs out)))
        case first =>
          as_aux_lemma =>
            have K := HX3.out.cutDown (f := f) (u := u) HHU.out
            have hftL : Ft w.heap.size [60] x3 (sets L [(2, .slice (if cd = 1 then some ⟨g, o, none⟩ else some ⟨g, o + 6, none⟩) u.length (cd - 1))] x3) := Ft.of_ch (sets_row _ HX3.out.row).2 (fun y hy _ => by simp at hy; subst hy; exact ⟨HX3.out.le, _, _, _, HX3.out.row, by simp⟩)
            have KO := own_ft H2.out hftL (by decide)
            have KR := HR.out.ft hftL (by decide)
            have KB := H5.out.ft hftL (by decide) (Nat.zero_le _)
            obtain ⟨c', hc'⟩ : ∃ c', cd = c' + 1 := ⟨cd - 1, by omega⟩
            subst hc'
            rw [hul] at K KO KR KB
            by_cases hz : c' = 0
            · subst hz
              have hun : un = 0 := by omega
              subst hun
              have KK := Lib.hid K
              have KKO := Lib.hid KO
              have KKR := Lib.hid KR
              have KKB := Lib.hid KB
              simp only [Nat.zero_add, ↓reduceIte, Nat.sub_self] at KK KKO KKR KKB
              clear K KO KR KB hftL
              go_wp2
              go_meet
              case rel => exact ⟨⟨_, _, _, KK.out⟩, KKR, KKB, KKO⟩
            · have e : ¬ c' + 1 = 1 := by omega
              have KK := Lib.hid K
              have KKO := Lib.hid KO
              have KKR := Lib.hid KR
              have KKB := Lib.hid KB
              simp only [e, ↓reduceIte, Nat.add_sub_cancel] at KK KKO KKR KKB
              clear K KO KR KB hftL
              go_wp2
              go_meet
              case rel => exact ⟨⟨_, _, _, KK.out⟩, KKR, KKB, KKO⟩
        case rest =>
          as_aux_lemma =>
            clear HX3 HR H5 H2 d2 f2
            obtain ⟨HXE, HR, H5, H2⟩ := hcut
            obtain ⟨Ad', cd', td', hx⟩ := HXE.out
            have HX4 := Lib.hid hx
            clear hx HXE
            rename World => x4
            go_upto_region 21 with fail
            have HX5 := Lib.hid (HX4.out.step (drew_below x4))
            have HR5 := Lib.hid (HR.out.step (drew_below x4))
            have HB5 := Lib.hid (H5.out.step (drew_below x4))
            have HO5 := Lib.hid (own_ft (B := 0) (T := []) H2.out (Ft.of_below (drew_below x4)) (by simp))
            have hc := HX5.out.lc
            have hf := HR5.out.fc
            refine region_last 10 (.take 0 (.take 1 (.take 2 (.take 3 (.take 4 (.take 5 (.one 6 (.one 7 (.one 8 (.take 9 (.one 10 .done)))))))))))
              (fun y => y.cell? ⟨L, 3, none⟩ = some (.slice Au l.up.length cu) ∧ y.cell? ⟨G, 0, none⟩ = some (.int .u8 (an.a : Int)) ∧ y.cell? ⟨G, 1, none⟩ = some (.int .u8 (an.k : Int)) ∧ y.cell? ⟨G, 2, none⟩ = some (.int .u8 (an.s : Int)) ∧ y.cell? ⟨G, 3, none⟩ = some (.int .u8 (an.q : Int)) ∧ y.cell? ⟨G, 4, none⟩ = some (.int .u8 (an.c : Int)) ∧ y.cell? ⟨G, 5, none⟩ = some (.slice A5 an.b.length c5)) (by kernel_rfl) (by kernel_rfl) (by kernel_rfl) (by kernel_rfl) ⟨hc.c3, hf.c0, hf.c1, hf.c2, hf.c3, hf.c4, hf.c5⟩ ?_
            clear hc hf HX4 HR H5 H2
            generalize x4.drew = x5 at *
            iterate 6 (refine TreeL.take (v := ?_) (by kernel_rfl) rfl (by rfl) ?_ ?_; rotate_left 1; (focus (intro x hx; go_simp <;> (first | with_reducible rfl | rw [if_pos (by omega)]))); simp only [Act.put, List.setIfInBounds_toArray, List.set_cons_zero, List.set_cons_succ])
            refine TreeL.one (by decide) rfl (fun K hK => ?_)
            rw [if_pos (by rfl)]
            refine wp_oneFrame (.tmp 125) rfl rfl ?_
            have hb6 := new_below x5 (.cells (fcs an (.slice A5 an.b.length c5)) 30)
            have HX6 := Lib.hid (HX5.out.step hb6)
            have HR6 := Lib.hid (HR5.out.step hb6)
            have HN6 : Hid (Fx (x5.alloc (.cells (fcs an (.slice A5 an.b.length c5)) 30)) x5.heap.size an (.slice A5 an.b.length c5)) := heap_alloc_new x5 _
            have HB6 := Lib.hid (HB5.out.step hb6)
            have HO6 := Lib.hid (own_ft (B := 0) (T := []) HO5.out (Ft.of_below hb6) (by simp))
            have HW6 : Hid (w.heap.size ≤ (x5.alloc (.cells (fcs an (.slice A5 an.b.length c5)) 30)).heap.size) := HX6.out.below.size
            have hc := HX6.out.lc
            have hf := HR6.out.fc
            refine hK.out _ _ _ (fun x hx => hx) ⟨hc.c3, hf.c0, hf.c1, hf.c2, hf.c3, hf.c4, hf.c5⟩ ?_
            clear hK K hc hf hb6 HX5 HR5 HB5 HO5
            simp only [Act.put, List.setIfInBounds_toArray, List.set_cons_zero, List.set_cons_succ]
            generalize x5.alloc (.cells (fcs an (.slice A5 an.b.length c5)) 30) = x6 at *
            generalize x5.heap.size = G6 at *
            refine TreeL.one (by decide) rfl (fun K hK => ?_)
            rw [if_pos (by rfl)]
            refine wp_push (.tmp 124) (.tmp 126) rfl ⟨an, A5, c5⟩ rfl HX6.out.up rfl HN6.out HB6.out (by have := HUL.out; show l.up.length ≤ 1000; omega) HW6.out ?_
            intro A7 c7 x7 hq7 hc7 hA7
            have HF7 := Lib.hid (HX6.out.upFt hc7)
            have HX7 := Lib.hid (HX6.out.pushUp hq7 hc7 hA7)
            have hR7 : Fx x7 G an (.slice A5 an.b.length c5) := (hc7.block G HR6.out.lt (fun hm => HGU.out G hm (by simp))).trans HR6.out
            have HO7 := Lib.hid (own_ft HO6.out HF7.out (by decide))
            have hc := HX6.out.lcy HF7.out
            have hf := hR7.fc
            refine hK.out _ _ _ (fun x hx => hx) ⟨hc.c3, hf.c0, hf.c1, hf.c2, hf.c3, hf.c4, hf.c5⟩ ?_
            clear hK K hq7 hc7 hA7 HN6 HB6 HW6 HO6 HR6
            simp only [Act.put, List.setIfInBounds_toArray, List.set_cons_zero, List.set_cons_succ]
            refine TreeL.one (by decide) rfl (fun K hK => ?_)
            go_simp
            refine hK.out _ _ _ (fun x hx => hx) ⟨hc.c3, hf.c0, hf.c1, hf.c2, hf.c3, hf.c4, hf.c5⟩ ?_
            clear hK K hf hR7
            iterate 1 (refine TreeL.take (v := ?_) (by kernel_rfl) rfl (by rfl) ?_ ?_; rotate_left 1; (focus (intro x hx; go_simp <;> (first | with_reducible rfl | rw [if_pos (by omega)]))); simp only [Act.put, List.setIfInBounds_toArray, List.set_cons_zero, List.set_cons_succ])
            refine TreeL.last rfl (fun K hK => ?_)
            have g4 := hc.c3
            have g5 := hc.fz 3
            clear hc
            go_simp
            refine hK.out _ _ (NoPanic.normal ?_)
            have HO8 := Lib.hid (own_ft HO7.out (Ft.of_ch (B := 0) (T := [60]) (sets_row [(3, .slice A7 (l.up.length + 1) c7)] (HF7.out.keep HX6.out.row (by decide))).2 (fun y hy _ => by simp at hy; subst hy; exact ⟨Nat.zero_le _, _, _, _, HF7.out.keep HX6.out.row (by decide), by simp⟩)) (by decide))
            clear hK K g4 g5 HX6 HF7 HO7
            simp only [sets, List.foldl] at HX7 HO8
            generalize x7.setCell ⟨L, 3, none⟩ (.slice A7 (l.up.length + 1) c7) = x8 at *
            rcases HCS.out with ⟨hout, hl'⟩ | ⟨hho, hout, hl'⟩
            · as_aux_lemma =>
                subst hout
                have HL' := Lib.hid hl'
                clear hl' HCS
                simp only [List.length_nil]
                go_wp2
                exact HP.out _ _ HL'.out ⟨_, _, _, _, _, _, HX7.out.more (Nat.le_succ N)⟩
            · as_aux_lemma =>
                subst hout
                have HL' := Lib.hid hl'
                have HHO := Lib.hid hho
                clear hl' HCS hho
                rw [show (cmdB l.came).length = 2 from rfl] at HO8 ⊢
                go_upto_region 23 with fail
                have HX9 := Lib.hid (HX7.out.step (drew_below x8))
                have HO9 := Lib.hid (own_ft (B := 0) (T := []) HO8.out (Ft.of_below (drew_below x8)) (by simp))
                have hc := HX9.out.lc
                obtain ⟨hv, hhv⟩ : ∃ hv, l.came = hv := ⟨_, rfl⟩
                obtain ⟨ov, hov⟩ : ∃ ov, l.sent = ov := ⟨_, rfl⟩
                have d7 : x8.drew.cell? ⟨L, 5, none⟩ = some (.int .i64 (hv : Int)) := by rw [← hhv]; exact hc.c5
                have d6 : x8.drew.cell? ⟨L, 4, none⟩ = some (.int .i64 (ov : Int)) := by rw [← hov]; exact hc.c4
                have hlt : ¬ (ov : Int) ≤ (hv : Int) := by have := HHO.out; omega
                have hv5 : hv ≤ 200000 := by have := HX9.out.nums.2.1; simp only at this; omega
                obtain ⟨u1, hu1⟩ : ∃ u1, hv % 256 = u1 := ⟨_, rfl⟩
                have hmm : (hv : Int) % 256 = (u1 : Int) := by omega
                have hwr : IntKind.u8.wrap (hv : Int) = (u1 : Int) := by rw [IntKind.wrap_u8]; omega
                rw [hhv] at HO9
                have HHV := Lib.hid hhv
                have HU1 := Lib.hid hu1
                have HOV := Lib.hid hov
                clear hc hhv hov hu1
                refine region_plan [(true, 0), (true, 1), (true, 2), (true, 3), (true, 4), (true, 5), (true, 6), (true, 7), (true, 8), (true, 9), (true, 10), (true, 11), (true, 12), (true, 13), (true, 14), (true, 15), (true, 16), (false, 17), (true, 18), (true, 19), (true, 20)]
                  (fun y => y.cell? ⟨L, 5, none⟩ = some (.int .i64 (hv : Int)) ∧ y.cell? ⟨L, 4, none⟩ = some (.int .i64 (ov : Int)) ∧ (convert 28 9 (.slice A2 2 c2)).run Try.prog y = .ok (.string ⟨(cmdB hv).toArray⟩) y) (by kernel_rfl) (by kernel_rfl) (by kernel_rfl) rfl ⟨d7, d6, convert_own HO9.out rfl⟩ ?_
                clear d7 d6 HX7 HO8
                generalize x8.drew = x9 at *
                have HB6 := Lib.hid (new_below x9 (.cells #[.int .u8 (u1 : Int), .int .u8 1] 5))
                have HX6 := Lib.hid (HX9.out.step HB6.out)
                have HO6 := Lib.hid (own_ft (B := 0) (T := []) HO9.out (Ft.of_below HB6.out) (by simp))
                have HCV : Hid ((convert 28 9 (.slice (some ⟨x9.heap.size, 0, none⟩) 2 2)).run Try.prog (x9.alloc (.cells #[.int .u8 (u1 : Int), .int .u8 1] 5)) = .ok (.string ⟨(cmdB hv).toArray⟩) (x9.alloc (.cells #[.int .u8 (u1 : Int), .int .u8 1] 5))) := by
                  obtain ⟨g2, hg2, _⟩ := two_row x9 hv u1 1 HU1.out
                  exact convert_holds hg2 rfl
                have HC6 := Lib.hid (convert_own HO6.out (l := cmdB hv) rfl)
                clear HO9 HO6
                generalize cmdB hv = ib at *
                iterate 17 (first | (refine Plan.take (v := ?_) rfl (by rfl) ?_ ?_; rotate_left 1; (focus (intro x hx; go_simp <;> (first | with_reducible rfl | rw [if_pos (by omega)]))); simp only [Act.put, List.setIfInBounds_toArray, List.set_cons_zero, List.set_cons_succ]) | (refine Plan.skip rfl (by rfl) ?_; simp only [Act.put, List.setIfInBounds_toArray, List.set_cons_zero, List.set_cons_succ]))
                refine Plan.loud rfl (fun K hK => ?_)
                go_simp
                refine hK.out (fun y => (y.cell? ⟨L, 5, none⟩ = some (.int .i64 (hv : Int)) ∧ y.cell? ⟨L, 4, none⟩ = some (.int .i64 (ov : Int)) ∧ (convert 28 9 (.slice A2 2 c2)).run Try.prog y = .ok (.string ⟨ib.toArray⟩) y) ∧ (convert 28 9 (.slice (some ⟨x9.heap.size, 0, none⟩) 2 2)).run Try.prog y = .ok (.string ⟨ib.toArray⟩) y) _ _ (fun x hx => hx.1) ⟨⟨?_, ?_, HC6.out⟩, HCV.out⟩ ?_
                · rw [← HHV.out]; exact HX6.out.lc.c5
                · rw [← HOV.out]; exact HX6.out.lc.c4
                clear hK K
                iterate 3 (first | (refine Plan.take (v := ?_) rfl (by rfl) ?_ ?_; rotate_left 1; (focus (intro x hx; go_simp <;> (first | with_reducible rfl | rw [if_pos (by omega)]))); simp only [Act.put, List.setIfInBounds_toArray, List.set_cons_zero, List.set_cons_succ]) | (refine Plan.skip rfl (by rfl) ?_; simp only [Act.put, List.setIfInBounds_toArray, List.set_cons_zero, List.set_cons_succ]))
                refine Plan.done ?_
                have hc := HX6.out.lc
                have d7 : (x9.alloc (.cells #[.int .u8 (u1 : Int), .int .u8 1] 5)).cell? ⟨L, 5, none⟩ = some (.int .i64 (hv : Int)) := by rw [← HHV.out]; exact hc.c5
                have f7 := hc.fz 5
                have HX7 := Lib.hid (HX6.out.set (l' := { l with s := s1, down := u, up := l.up ++ [an], came := l.came + 1 }) (M := N + 1) [(5, .int .i64 ((hv : Int) + 1))] rfl rfl (Nat.le_succ _) (by rw [← HHV.out]; simp [setsA]) HX6.out.dn HX6.out.up HX6.out.ne ⟨Nat.le_succ_of_le HX6.out.nums.1, HNU.out, Nat.le_succ_of_le HX6.out.nums.2.2.1, Nat.le_succ_of_le HX6.out.nums.2.2.2⟩)
                clear hc HC6 HCV
                generalize x9.alloc (.cells #[.int .u8 (u1 : Int), .int .u8 1] 5) = x6 at *
                generalize x9.heap.size = G6 at *
                go_wp2
                exact HP.out _ _ HL'.out ⟨_, _, _, _, _, _, HX7.out⟩

end Go.Proofs.Ytabedmkhhlmbkaa
