/-
  master's Next, as it landed: what it answers.
-/
import Derived.Test.YtabedmkhhlmbkaaMasD
namespace Go.Proofs.Ytabedmkhhlmbkaa
set_option linter.unusedVariables false
set_option linter.unusedSimpArgs false
open Go.RowKit

/-- What Next answers: a frame, its bytes in a row of their own; nothing that was there is turned. -/
def NextPost (w : World) (f : Fr) (e : Ending) (w' : World) : Prop :=
  ∃ A c, e = .returned (.agg (fcs f (.slice A f.b.length c))) ∧ w'.ownsRow w.heap.size 5 1 (.slice A f.b.length c) f.b.length (bcs f.b) ∧ Below w.heap.size w w'

/-- While it is made: the master as it is; the result, not yet set, at the first new block; the frame, at X. -/
structure Nx (w : World) (B D : Nat) (m : Ma) (X : Nat) (f : Fr) (V : Value) (x : World) : Prop where
  mas : Ms x B D m
  res : Fx x w.heap.size ⟨0, 0, 0, 0, 0, []⟩ (.slice none 0 0)
  box : Fx x X f V
  below : Below w.heap.size w x
  lt : w.heap.size < X
theorem Nx.step {w x y : World} {B D X : Nat} {m : Ma} {f : Fr} {V : Value} (h : Nx w B D m X f V x) (hb : Below x.heap.size x y) : Nx w B D m X f V y := ⟨h.mas.step hb, h.res.step hb, h.box.step hb, h.below.trans (hb.mono h.below.size), h.lt⟩
theorem Nx.set {w x : World} {B D X : Nat} {m : Ma} {f : Fr} {V : Value} (h : Nx w B D m X f V x) (l : List (Nat × Value)) (f' : Fr) (V' : Value) (hc : setsA l (fcs f V) = fcs f' V') : Nx w B D m X f' V' (sets X l x) := by
  have hlt := h.lt
  obtain ⟨h1, h2⟩ := sets_row l h.box
  rw [hc] at h1
  have hft : Ft 0 [30] x (sets X l x) := Ft.of_ch h2 (fun y hy _ => by simp at hy; subst hy; exact ⟨Nat.zero_le _, _, _, _, h.box, by simp⟩)
  exact ⟨h.mas.ft hft (by decide) (by decide) (by decide), (h2.block _ h.res.lt (by simp; omega)).trans h.res, h1, h.below.trans (h2.belowAt (by simp; omega) h.below.size), h.lt⟩
/-- The result, once set. -/
theorem Nx.told {w x : World} {B D X : Nat} {m : Ma} {f : Fr} {V : Value} (h : Nx w B D m X f V x) (l : List (Nat × Value)) (f' : Fr) (V' : Value) (hc : setsA l (fcs ⟨0, 0, 0, 0, 0, []⟩ (.slice none 0 0)) = fcs f' V') :
    (sets w.heap.size l x).heap[w.heap.size]? = some (.cells (fcs f' V') 30 (0, 0)) ∧ Below w.heap.size w (sets w.heap.size l x) ∧ Ch [w.heap.size] x (sets w.heap.size l x) := by
  obtain ⟨h1, h2⟩ := sets_row l h.res
  rw [hc] at h1
  exact ⟨h1, h.below.trans (h2.belowAt (by simp) h.below.size), h2⟩

abbrev noFr : Array Value := #[.int .u8 0, .int .u8 0, .int .u8 0, .int .u8 0, .int .u8 0, .slice none 0 0]
set_option maxRecDepth 20000 in
set_option maxHeartbeats 1600000 in
theorem next_on {w : World} {B D N : Nat} {m : Ma} (h : Ms w B D m) (hN : m.Ok N) : Calls Try.prog 26 #[.pointer (some ⟨D, 0, none⟩)] w (NextPost w (nextM m)) := by
  have HP : Hid (∀ e w' f, NextPost w f e w' ↔ ∃ A c, e = .returned (.agg (fcs f (.slice A f.b.length c))) ∧ w'.ownsRow w.heap.size 5 1 (.slice A f.b.length c) f.b.length (bcs f.b) ∧ Below w.heap.size w w') := fun _ _ _ => Iff.rfl
  have HM : Hid (nextM m = if m.st ≠ 1 then ⟨m.addr, 1, m.ses, 0, 0, []⟩ else match m.q with | [] => ⟨m.addr, 3, m.ses, m.sent, m.hrd, []⟩ | b :: _ => ⟨m.addr, 2, m.ses, m.sent, m.hrd, b⟩) := rfl
  have HL := Lib.hid h.lt
  have HB0 := Lib.hid (new_below w (.cells noFr 30))
  have H0 := Lib.hid (h.step HB0.out)
  obtain ⟨A1, cc, hc⟩ := H0.out.mc
  have c2 := hc.c2
  have c3 := hc.c3
  clear hc h
  generalize nextM m = r at *
  generalize NextPost w = Q at *
  go_enter Try.func26, Try.ntmps26
  go_upto_region 1 with fail
  refine region_plan [(true, 0), (true, 1), (true, 2), (true, 3), (true, 4), (true, 5), (true, 6), (true, 7), (true, 8), (false, 9), (false, 10)]
    (fun y => y.cell? ⟨D, 2, none⟩ = some (.int .u8 (m.addr : Int)) ∧ y.cell? ⟨D, 3, none⟩ = some (.int .u8 (m.ses : Int))) (by kernel_rfl) (by kernel_rfl) (by kernel_rfl) rfl ⟨c2, c3⟩ ?_
  have HBD : Hid (Below w.heap.size w (w.alloc (.cells noFr 30)).drew) := HB0.out.trans ((drew_below _).mono HB0.out.size)
  have HMD := Lib.hid (H0.out.step (drew_below _))
  have HS0 : Hid ((w.alloc (.cells noFr 30)).drew.heap.size = w.heap.size + 1) := by show _ = _; simp
  have HX0 : Hid (Fx (w.alloc (.cells noFr 30)).drew w.heap.size ⟨0, 0, 0, 0, 0, []⟩ (.slice none 0 0)) := heap_alloc_new w _
  clear HB0 H0 c2 c3
  generalize (w.alloc (.cells noFr 30)).drew = x at *
  iterate 9 (refine Plan.take (v := ?_) rfl (by rfl) ?_ ?_; rotate_left 1; (focus (intro x hx; go_simp <;> (first | with_reducible rfl | rw [if_pos (by omega)]))); simp only [Act.put, List.setIfInBounds_toArray, List.set_cons_zero, List.set_cons_succ])
  refine Plan.loud rfl (fun K hK => ?_)
  go_simp
  have hbA := new_below x (.cells noFr 30)
  obtain ⟨_, _, hcA⟩ := (HMD.out.step hbA).mc
  refine hK.out _ _ _ (fun x hx => hx) ⟨hcA.c2, hcA.c3⟩ ?_
  clear hK K hcA hbA
  refine Plan.loud rfl (fun K hK => ?_)
  go_simp
  have N1 : Hid (Nx w B D m x.heap.size ⟨m.addr, 1, m.ses, 0, 0, []⟩ (.slice none 0 0) (x.alloc (.cells #[.int .u8 (m.addr : Int), .int .u8 1, .int .u8 (m.ses : Int), .int .u8 0, .int .u8 0, .slice none 0 0] 30))) := by
    have hb := new_below x (.cells #[.int .u8 (m.addr : Int), .int .u8 1, .int .u8 (m.ses : Int), .int .u8 0, .int .u8 0, .slice none 0 0] 30)
    exact ⟨HMD.out.step hb, HX0.out.step hb, heap_alloc_new x _, HBD.out.trans (hb.mono HBD.out.size), by rw [HS0.out]; omega⟩
  obtain ⟨_, _, hcA⟩ := N1.out.mas.mc
  refine hK.out _ _ _ (fun x hx => hx) ⟨hcA.c2, hcA.c3⟩ ?_
  clear hK K hcA HX0 HMD HBD HS0
  generalize x.alloc (.cells #[.int .u8 (m.addr : Int), .int .u8 1, .int .u8 (m.ses : Int), .int .u8 0, .int .u8 0, .slice none 0 0] 30) = x1 at *
  generalize x.heap.size = X at *
  refine Plan.done ?_
  obtain ⟨A1, cc1, hcA⟩ := N1.out.mas.mc
  have c5 := hcA.c5
  have c0 := hcA.c0
  have c1 := hcA.c1
  have c8 := hcA.c8
  have hfA := N1.out.box.fc
  have e0 := hfA.c0
  have e1 := hfA.c1
  have e2 := hfA.c2
  have e3 := hfA.c3
  have e4 := hfA.c4
  have e5 := hfA.c5
  have hfR := N1.out.res.fc
  have r0 := hfR.c0
  have r1 := hfR.c1
  have r2 := hfR.c2
  have r3 := hfR.c3
  have r4 := hfR.c4
  have r5 := hfR.c5
  have q0 := hfR.fz 0
  have q1 := hfR.fz 1
  have q2 := hfR.fz 2
  have q3 := hfR.fz 3
  have q4 := hfR.fz 4
  have q5 := hfR.fz 5
  clear hcA hfA hfR
  by_cases hst : m.st = 1
  · have hst' : (m.st : Int) = 1 := by omega
    rw [hst'] at c5
    rw [if_neg (by omega)] at HM
    go_upto_region 4 with fail
    replace N1 := Lib.hid (N1.out.step (drew_below x1))
    refine region_plan [(true, 0), (true, 1), (true, 2), (true, 3), (true, 4), (true, 5), (true, 6), (true, 7), (true, 8), (true, 9), (true, 10), (false, 11), (true, 12), (false, 13), (true, 14), (false, 15)]
      (fun y => y.cell? ⟨D, 0, none⟩ = some (.int .u8 (m.sent : Int)) ∧ y.cell? ⟨D, 1, none⟩ = some (.int .u8 (m.hrd : Int))) (by kernel_rfl) (by kernel_rfl) (by kernel_rfl) rfl ⟨c0, c1⟩ ?_
    clear c5 c0 c1 c8 e0 e1 e2 e3 e4 e5 r0 r1 r2 r3 r4 r5 q0 q1 q2 q3 q4 q5
    generalize x1.drew = x2 at *
    iterate 11 (refine Plan.take (v := ?_) rfl (by rfl) ?_ ?_; rotate_left 1; (focus (intro x hx; go_simp <;> (first | with_reducible rfl | rw [if_pos (by omega)]))); simp only [Act.put, List.setIfInBounds_toArray, List.set_cons_zero, List.set_cons_succ])
    refine Plan.loud rfl (fun K hK => ?_)
    have g1 := N1.out.box.fc.c1
    have g2 := N1.out.box.fc.fz 1
    go_simp
    clear g1 g2
    have N2 : Hid (Nx w B D m X ⟨m.addr, 3, m.ses, 0, 0, []⟩ (.slice none 0 0) (x2.setCell ⟨X, 1, none⟩ (.int .u8 3))) := N1.out.set [(1, .int .u8 3)] _ _ rfl
    obtain ⟨_, _, hcA⟩ := N2.out.mas.mc
    refine hK.out _ _ _ (fun x hx => hx) ⟨hcA.c0, hcA.c1⟩ ?_
    clear hK K hcA N1
    generalize x2.setCell ⟨X, 1, none⟩ (.int .u8 3) = x3 at *
    iterate 1 (refine Plan.take (v := ?_) rfl (by rfl) ?_ ?_; rotate_left 1; (focus (intro x hx; go_simp <;> (first | with_reducible rfl | rw [if_pos (by omega)]))); simp only [Act.put, List.setIfInBounds_toArray, List.set_cons_zero, List.set_cons_succ])
    refine Plan.loud rfl (fun K hK => ?_)
    have g1 := N2.out.box.fc.c3
    have g2 := N2.out.box.fc.fz 3
    go_simp
    clear g1 g2
    have N3 : Hid (Nx w B D m X ⟨m.addr, 3, m.ses, m.sent, 0, []⟩ (.slice none 0 0) (x3.setCell ⟨X, 3, none⟩ (.int .u8 (m.sent : Int)))) := N2.out.set [(3, .int .u8 (m.sent : Int))] _ _ rfl
    obtain ⟨_, _, hcA⟩ := N3.out.mas.mc
    refine hK.out _ _ _ (fun x hx => hx) ⟨hcA.c0, hcA.c1⟩ ?_
    clear hK K hcA N2
    generalize x3.setCell ⟨X, 3, none⟩ (.int .u8 (m.sent : Int)) = x4 at *
    iterate 1 (refine Plan.take (v := ?_) rfl (by rfl) ?_ ?_; rotate_left 1; (focus (intro x hx; go_simp <;> (first | with_reducible rfl | rw [if_pos (by omega)]))); simp only [Act.put, List.setIfInBounds_toArray, List.set_cons_zero, List.set_cons_succ])
    refine Plan.loud rfl (fun K hK => ?_)
    have g1 := N3.out.box.fc.c4
    have g2 := N3.out.box.fc.fz 4
    go_simp
    clear g1 g2
    have N4 : Hid (Nx w B D m X ⟨m.addr, 3, m.ses, m.sent, m.hrd, []⟩ (.slice none 0 0) (x4.setCell ⟨X, 4, none⟩ (.int .u8 (m.hrd : Int)))) := N3.out.set [(4, .int .u8 (m.hrd : Int))] _ _ rfl
    obtain ⟨_, _, hcA⟩ := N4.out.mas.mc
    refine hK.out _ _ _ (fun x hx => hx) ⟨hcA.c0, hcA.c1⟩ ?_
    clear hK K hcA N3
    generalize x4.setCell ⟨X, 4, none⟩ (.int .u8 (m.hrd : Int)) = x5 at *
    refine Plan.done ?_
    obtain ⟨A8, cc8, vs, k1, k2, k3⟩ := N4.out.mas.at_
    have c8 := (mc_of k1).c8
    have hfA := N4.out.box.fc
    have e0 := hfA.c0
    have e1 := hfA.c1
    have e2 := hfA.c2
    have e3 := hfA.c3
    have e4 := hfA.c4
    have e5 := hfA.c5
    have hfR := N4.out.res.fc
    have r0 := hfR.c0
    have r1 := hfR.c1
    have r2 := hfR.c2
    have r3 := hfR.c3
    have r4 := hfR.c4
    have r5 := hfR.c5
    have q0 := hfR.fz 0
    have q1 := hfR.fz 1
    have q2 := hfR.fz 2
    have q3 := hfR.fz 3
    have q4 := hfR.fz 4
    have q5 := hfR.fz 5
    have p1 := hfA.fz 1
    have p5 := hfA.fz 5
    clear hfA hfR k1
    cases hq : m.q with
    | nil =>
      rw [hq] at c8 HM
      have HR : Hid (r = ⟨m.addr, 3, m.ses, m.sent, m.hrd, []⟩) := HM.out
      clear HM k2 k3
      simp only [List.length_nil] at c8
      go_wp2
      have T := N4.out.told [(0, .int .u8 (m.addr : Int)), (1, .int .u8 3), (2, .int .u8 (m.ses : Int)), (3, .int .u8 (m.sent : Int)), (4, .int .u8 (m.hrd : Int)), (5, .slice none 0 0)] ⟨m.addr, 3, m.ses, m.sent, m.hrd, []⟩ (.slice none 0 0) rfl
      refine bodyPost_ret (results_row rfl _ _ w.heap.size 30 _ _ rfl T.1 frame_struct frame_size) rfl ?_
      rw [HR.out]
      exact (HP.out _ _ _).2 ⟨none, 0, rfl, World.ownsRow_nil _ _ _ _, T.2.1⟩
    | cons b t =>
      rw [hq] at c8 HM k2 k3
      have HR : Hid (r = ⟨m.addr, 2, m.ses, m.sent, m.hrd, b⟩) := HM.out
      clear HM
      have h24 := hN.qb b (by rw [hq]; simp)
      obtain ⟨g, o, rfl, _, _, _, hcell, _, _⟩ := k2.at (by simp)
      have hvl : 0 < vs.length := by rw [k3.len]; simp
      have hown := k3.own 0 vs[0] b (List.getElem?_eq_getElem hvl) rfl
      obtain ⟨Ab, cb, hform⟩ := ownB_form hown
      have hcb := hcell 0 _ (List.getElem?_eq_getElem hvl)
      rw [hform] at hcb hown
      obtain ⟨gb, hhb, _⟩ := (Own1.mk (own_zero hown) (B := 0) (fun _ _ => Nat.zero_le _) rfl).holds
      have HHB := Lib.hid hhb
      have HH24 := Lib.hid h24
      rw [Nat.add_zero] at hcb
      simp only [List.length_cons] at c8
      have hpos : (0 : Int) < ((t.length + 1 : Nat) : Int) := by omega
      clear hhb hown hform hvl hcell k2 k3 h24 hN
      generalize t.length + 1 = n at *
      generalize hbl : b.length = bl at *
      have HBL := Lib.hid hbl
      clear hbl
      go_wp2_with fail
      refine (clone_on HHB.out HBL.out (by have := HH24.out; omega)).mono ?_
      rintro e x6 ⟨A6, c6, rfl, ho6, hb6⟩
      have N6 := Lib.hid (N4.out.step hb6)
      have HO6 := Lib.hid (own_mono ho6 N4.out.below.size)
      rw [HBL.out]
      rw [HBL.out] at HO6
      clear ho6 hb6 N4 e0 e1 e2 e3 e4 e5 r0 r1 r2 r3 r4 r5 q0 q1 q2 q3 q4 q5 c8 hcb HHB p1 p5
      have hfA := N6.out.box.fc
      have e0 := hfA.c0
      have e1 := hfA.c1
      have e2 := hfA.c2
      have e3 := hfA.c3
      have e4 := hfA.c4
      have e5 := hfA.c5
      have p1 := hfA.fz 1
      have p5 := hfA.fz 5
      go_upto_region 7 with fail
      have N7 : Hid (Nx w B D m X ⟨m.addr, 2, m.ses, m.sent, m.hrd, b⟩ (.slice A6 bl c6) ((x6.setCell ⟨X, 1, none⟩ (.int .u8 2)).setCell ⟨X, 5, none⟩ (.slice A6 bl c6))) := N6.out.set [(1, .int .u8 2), (5, .slice A6 bl c6)] _ _ rfl
      have HO7 : Hid (((x6.setCell ⟨X, 1, none⟩ (.int .u8 2)).setCell ⟨X, 5, none⟩ (.slice A6 bl c6)).ownsRow w.heap.size 5 1 (.slice A6 bl c6) bl (bcs b)) := by
        refine own_ft (B := 0) (T := [30]) HO6.out ?_ (by decide)
        exact Ft.of_ch (sets_row [(1, .int .u8 2), (5, .slice A6 bl c6)] N6.out.box).2 (fun y hy _ => by simp at hy; subst hy; exact ⟨Nat.zero_le _, _, _, _, N6.out.box, by simp⟩)
      clear e0 e1 e2 e3 e4 e5 p1 p5 N6 HO6 hfA
      generalize (x6.setCell ⟨X, 1, none⟩ (.int .u8 2)).setCell ⟨X, 5, none⟩ (.slice A6 bl c6) = x7 at *
      have hfA := N7.out.box.fc
      have e0 := hfA.c0
      have e1 := hfA.c1
      have e2 := hfA.c2
      have e3 := hfA.c3
      have e4 := hfA.c4
      have e5 := hfA.c5
      have hfR := N7.out.res.fc
      have r0 := hfR.c0
      have r1 := hfR.c1
      have r2 := hfR.c2
      have r3 := hfR.c3
      have r4 := hfR.c4
      have r5 := hfR.c5
      have q0 := hfR.fz 0
      have q1 := hfR.fz 1
      have q2 := hfR.fz 2
      have q3 := hfR.fz 3
      have q4 := hfR.fz 4
      have q5 := hfR.fz 5
      clear hfA hfR
      go_wp2
      have T := N7.out.told [(0, .int .u8 (m.addr : Int)), (1, .int .u8 2), (2, .int .u8 (m.ses : Int)), (3, .int .u8 (m.sent : Int)), (4, .int .u8 (m.hrd : Int)), (5, .slice A6 bl c6)] ⟨m.addr, 2, m.ses, m.sent, m.hrd, b⟩ (.slice A6 bl c6) rfl
      refine bodyPost_ret (results_row rfl _ _ w.heap.size 30 _ _ rfl T.1 frame_struct frame_size) rfl ?_
      rw [HR.out]
      refine (HP.out _ _ _).2 ⟨A6, c6, ?_, ?_, T.2.1⟩
      · show _ = Ending.returned (.agg (fcs _ (.slice A6 b.length c6)))
        rw [HBL.out]
      · show World.ownsRow _ _ _ _ (.slice A6 b.length c6) b.length (bcs b)
        rw [HBL.out]
        refine own_ft (B := 0) (T := [30]) HO7.out ?_ (by decide)
        exact Ft.of_ch T.2.2 (fun y hy _ => by simp at hy; subst hy; exact ⟨Nat.zero_le _, _, _, _, N7.out.res, by simp⟩)
  · have hst' : ((m.st : Int) != 1) = true := by simp; omega
    have HR : Hid (r = ⟨m.addr, 1, m.ses, 0, 0, []⟩) := by show _ = _; rw [HM.out, if_pos hst]
    clear HM
    go_wp2
    have T := N1.out.told [(0, .int .u8 (m.addr : Int)), (1, .int .u8 1), (2, .int .u8 (m.ses : Int)), (3, .int .u8 0), (4, .int .u8 0), (5, .slice none 0 0)] ⟨m.addr, 1, m.ses, 0, 0, []⟩ (.slice none 0 0) rfl
    refine bodyPost_ret (results_row rfl _ _ w.heap.size 30 _ _ rfl T.1 frame_struct frame_size) rfl ?_
    rw [HR.out]
    exact (HP.out _ _ _).2 ⟨none, 0, rfl, World.ownsRow_nil _ _ _ _, T.2.1⟩

end Go.Proofs.Ytabedmkhhlmbkaa
