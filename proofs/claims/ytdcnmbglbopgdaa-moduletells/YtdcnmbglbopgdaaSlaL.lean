/-
  slave's fresh and reply, as they landed: what they answer.
-/
import Derived.Test.YtdcnmbglbopgdaaSlaK
namespace Go.Proofs.Ytdcnmbglbopgdaa
set_option linter.unusedVariables false
set_option linter.unusedSimpArgs false
open Go.RowKit

/-- What fresh answers. -/
def SFreshPost (w : World) (B D : Nat) (s : Sl) (f : Fr) (e : Ending) (w' : World) : Prop :=
  ∃ A' c', e = .returned (.slice A' (cmdS s f).2.length c') ∧ w'.ownsRow w.heap.size 5 1 (.slice A' (cmdS s f).2.length c') (cmdS s f).2.length (bcs (cmdS s f).2) ∧ Sv w' B D (cmdS s f).1 ∧ Ft B [85] w w'

set_option maxRecDepth 20000 in
set_option maxHeartbeats 1600000 in
theorem sfresh_on {w : World} {B D c : Nat} {s : Sl} {f : Fr} {A : Option Addr} (h : Sv w B D s) (h1 : s.nx ≤ 1) (hb : Hb w B A f.b) (hle : f.b.length ≤ 1000000) : Calls Try.prog 50 #[.pointer (some ⟨D, 0, none⟩), .agg (fcs f (.slice A f.b.length c))] w (SFreshPost w B D s f) := by
  have HB := Lib.hid (new_below w (.cells (fcs f (.slice A f.b.length c)) 36))
  have H1 := Lib.hid (h.step HB.out)
  have HX : Hid (Fx (w.alloc (.cells (fcs f (.slice A f.b.length c)) 36)) w.heap.size f (.slice A f.b.length c)) := heap_alloc_new w _
  have HH := Lib.hid (hb.step HB.out)
  have HP : Hid (∀ e w', SFreshPost w B D s f e w' ↔ ∃ A' c', e = .returned (.slice A' (cmdS s f).2.length c') ∧ w'.ownsRow w.heap.size 5 1 (.slice A' (cmdS s f).2.length c') (cmdS s f).2.length (bcs (cmdS s f).2) ∧ Sv w' B D (cmdS s f).1 ∧ Ft B [85] w w') := fun _ _ => Iff.rfl
  have HM : Hid (cmdS s f = if f.k = 2 ∧ f.q = s.nx then ({ s with nx := 1 - s.nx }, f.b) else (s, [])) := rfl
  have HS := Lib.hid h1
  clear h hb h1
  generalize SFreshPost w B D s f = Q at *
  generalize cmdS s f = r at *
  obtain ⟨A1, cc, hc⟩ := H1.out.sc
  have hf := HX.out.fc
  have c1 := hc.c2
  have e1 := hf.c1
  have e3 := hf.c3
  have e5 := hf.c5
  clear hc hf
  generalize hl : f.b.length = l at *
  have HL := Lib.hid hl
  clear hl
  cases f with
  | mk fa fk fs fq fcc fb =>
  simp only at *
  go_enter Try.func50, Try.ntmps50
  go_upto_region 1 with fail
  generalize w.alloc (.cells (fcs ⟨fa, fk, fs, fq, fcc, fb⟩ (.slice A l c)) 36) = x at *
  have HXW : Hid (w.heap.size ≤ x.heap.size) := HB.out.size
  have HBD : Hid (Below w.heap.size w x.drew) := HB.out.trans ((drew_below x).mono HB.out.size)
  have HMD := Lib.hid (H1.out.step (drew_below x))
  have HXD := Lib.hid (HX.out.step (drew_below x))
  have HHD := Lib.hid (HH.out.step (drew_below x))
  have HSD : Hid (w.heap.size ≤ x.drew.heap.size) := HB.out.size
  clear HB H1 HX HH
  generalize w.heap.size = X at e1 e3 e5 HXD ⊢
  have e1' : x.drew.cell? ⟨X, 1, none⟩ = some (.int .u8 (fk : Int)) := e1
  have e3' : x.drew.cell? ⟨X, 3, none⟩ = some (.int .u8 (fq : Int)) := e3
  have e5' : x.drew.cell? ⟨X, 5, none⟩ = some (.slice A l c) := e5
  have c1' : x.drew.cell? ⟨D, 2, none⟩ = some (.int .u8 (s.nx : Int)) := c1
  clear e1 e3 e5 c1
  refine region_plan [(true, 0), (true, 1), (true, 2), (true, 3), (true, 4), (true, 5), (true, 6), (true, 7), (true, 8), (true, 9), (true, 10), (true, 11), (true, 12)]
    (fun y => y.cell? ⟨X, 1, none⟩ = some (.int .u8 (fk : Int)) ∧ y.cell? ⟨X, 3, none⟩ = some (.int .u8 (fq : Int)) ∧ y.cell? ⟨D, 2, none⟩ = some (.int .u8 (s.nx : Int))) (by kernel_rfl) (by kernel_rfl) (by kernel_rfl) rfl ⟨e1', e3', c1'⟩ ?_
  generalize x.drew = y at *
  by_cases h0 : fk = 2
  · have h0' : ((fk : Int) != 2) = false := by simp; omega
    by_cases hq : fq = s.nx
    · have HR : Hid (r = ({ s with nx := 1 - s.nx }, fb)) := by show _ = _; rw [HM.out, if_pos ⟨h0, hq⟩]
      clear HM
      subst hq
      iterate 13 (first | (refine Plan.take (v := ?_) rfl (by rfl) ?_ ?_; rotate_left 1; (focus (intro x hx; go_simp <;> (first | with_reducible rfl | rw [if_pos (by omega)]))); simp only [Act.put, List.setIfInBounds_toArray, List.set_cons_zero, List.set_cons_succ]) | (refine Plan.skip rfl (by rfl) ?_; simp only [Act.put, List.setIfInBounds_toArray, List.set_cons_zero, List.set_cons_succ]))
      refine Plan.done ?_
      go_wp2_with fail
      refine (sturnawaits_on HMD.out HS.out).mono ?_
      rintro e y1 ⟨rfl, g1, g2⟩
      have K1 := Lib.hid g1
      have K2 := Lib.hid g2
      have e5 := (g2.keep HXD.out (by decide))
      have e5'' : y1.cell? ⟨X, 5, none⟩ = some (.slice A l c) := (Fx.fc e5).c5
      obtain ⟨g, hh, _⟩ := HHD.out.ft g2 (by decide)
      have HH1 := Lib.hid hh
      clear g1 g2 e5 hh e1' e3' e5' c1'
      go_wp2_with fail
      refine (clone_on HH1.out HL.out (by omega)).mono ?_
      rintro e y2 ⟨A2, c2, rfl, ho, hb2⟩
      have K3 := Lib.hid ho
      have K4 := Lib.hid hb2
      clear ho hb2
      go_wp2
      refine (HP.out _ _).2 ?_
      rw [HR.out]
      exact ⟨A2, c2, rfl, own_mono K3.out (Nat.le_trans HSD.out K2.out.size), K1.out.step K4.out, ((Ft.of_below HBD.out).trans K2.out).step K4.out⟩
    · have HR : Hid (r = (s, [])) := by show _ = _; rw [HM.out, if_neg (by rintro ⟨_, h⟩; exact hq h)]
      clear HM
      have hq' : ((fq : Int) != (s.nx : Int)) = true := by simp; omega
      iterate 13 (first | (refine Plan.take (v := ?_) rfl (by rfl) ?_ ?_; rotate_left 1; (focus (intro x hx; go_simp <;> (first | with_reducible rfl | rw [if_pos (by omega)]))); simp only [Act.put, List.setIfInBounds_toArray, List.set_cons_zero, List.set_cons_succ]) | (refine Plan.skip rfl (by rfl) ?_; simp only [Act.put, List.setIfInBounds_toArray, List.set_cons_zero, List.set_cons_succ]))
      refine Plan.done ?_
      go_wp2
      refine (HP.out _ _).2 ?_
      rw [HR.out]
      exact ⟨none, 0, rfl, World.ownsRow_nil _ _ _ _, HMD.out, Ft.of_below HBD.out⟩
  · have HR : Hid (r = (s, [])) := by show _ = _; rw [HM.out, if_neg (by rintro ⟨h, _⟩; exact h0 h)]
    clear HM
    have h0' : ((fk : Int) != 2) = true := by simp; omega
    iterate 13 (first | (refine Plan.take (v := ?_) rfl (by rfl) ?_ ?_; rotate_left 1; (focus (intro x hx; go_simp <;> (first | with_reducible rfl | rw [if_pos (by omega)]))); simp only [Act.put, List.setIfInBounds_toArray, List.set_cons_zero, List.set_cons_succ]) | (refine Plan.skip rfl (by rfl) ?_; simp only [Act.put, List.setIfInBounds_toArray, List.set_cons_zero, List.set_cons_succ]))
    refine Plan.done ?_
    go_wp2
    refine (HP.out _ _).2 ?_
    rw [HR.out]
    exact ⟨none, 0, rfl, World.ownsRow_nil _ _ _ _, HMD.out, Ft.of_below HBD.out⟩

/-- While an answer is made: the slave as it is; the result, not yet set, at the first new block; the frame, at X. -/
structure Ny (w : World) (B D : Nat) (s : Sl) (X : Nat) (f : Fr) (V : Value) (x : World) : Prop where
  sla : Sv x B D s
  res : Fx x w.heap.size ⟨0, 0, 0, 0, 0, []⟩ (.slice none 0 0)
  box : Fx x X f V
  below : Below w.heap.size w x
  lt : w.heap.size < X
theorem Ny.step {w x y : World} {B D X : Nat} {s : Sl} {f : Fr} {V : Value} (h : Ny w B D s X f V x) (hb : Below x.heap.size x y) : Ny w B D s X f V y := ⟨h.sla.step hb, h.res.step hb, h.box.step hb, h.below.trans (hb.mono h.below.size), h.lt⟩
theorem Ny.set {w x : World} {B D X : Nat} {s : Sl} {f : Fr} {V : Value} (h : Ny w B D s X f V x) (l : List (Nat × Value)) (f' : Fr) (V' : Value) (hc : setsA l (fcs f V) = fcs f' V') : Ny w B D s X f' V' (sets X l x) ∧ Ch [X] x (sets X l x) := by
  have hlt := h.lt
  obtain ⟨h1, h2⟩ := sets_row l h.box
  rw [hc] at h1
  have hft : Ft 0 [36] x (sets X l x) := Ft.of_ch h2 (fun y hy _ => by simp at hy; subst hy; exact ⟨Nat.zero_le _, _, _, _, h.box, by simp⟩)
  exact ⟨⟨h.sla.ft hft (by decide) (by decide), (h2.block _ h.res.lt (by simp; omega)).trans h.res, h1, h.below.trans (h2.belowAt (by simp; omega) h.below.size), h.lt⟩, h2⟩
theorem Ny.ftx {w x : World} {B D X : Nat} {s : Sl} {f : Fr} {V : Value} (h : Ny w B D s X f V x) (l : List (Nat × Value)) : Ft 0 [36] x (sets X l x) := by
  obtain ⟨_, h2⟩ := sets_row l h.box
  exact Ft.of_ch h2 (fun y hy _ => by simp at hy; subst hy; exact ⟨Nat.zero_le _, _, _, _, h.box, by simp⟩)
/-- The result, once set. -/
theorem Ny.told {w x : World} {B D X : Nat} {s : Sl} {f : Fr} {V : Value} (h : Ny w B D s X f V x) (l : List (Nat × Value)) (f' : Fr) (V' : Value) (hc : setsA l (fcs ⟨0, 0, 0, 0, 0, []⟩ (.slice none 0 0)) = fcs f' V') :
    (sets w.heap.size l x).heap[w.heap.size]? = some (.cells (fcs f' V') 36 (0, 0)) ∧ Below w.heap.size w (sets w.heap.size l x) ∧ Ft 0 [36] x (sets w.heap.size l x) := by
  obtain ⟨h1, h2⟩ := sets_row l h.res
  rw [hc] at h1
  exact ⟨h1, h.below.trans (h2.belowAt (by simp) h.below.size), Ft.of_ch h2 (fun y hy _ => by simp at hy; subst hy; exact ⟨Nat.zero_le _, _, _, _, h.res, by simp⟩)⟩

/-- What reply answers. -/
def ReplyPost (w : World) (s : Sl) (e : Ending) (w' : World) : Prop :=
  ∃ A c, e = .returned (.agg (fcs (ansS s) (.slice A s.pend.length c))) ∧ w'.ownsRow w.heap.size 5 1 (.slice A s.pend.length c) s.pend.length (bcs s.pend) ∧ Below w.heap.size w w'

set_option maxRecDepth 20000 in
set_option maxHeartbeats 3200000 in
theorem sreply_on {w : World} {B D : Nat} {s : Sl} (h : Sv w B D s) (h24 : s.pend.length ≤ 24) : Calls Try.prog 51 #[.pointer (some ⟨D, 0, none⟩)] w (ReplyPost w s) := by
  have HP : Hid (∀ e w', ReplyPost w s e w' ↔ ∃ A c, e = .returned (.agg (fcs (ansS s) (.slice A s.pend.length c))) ∧ w'.ownsRow w.heap.size 5 1 (.slice A s.pend.length c) s.pend.length (bcs s.pend) ∧ Below w.heap.size w w') := fun _ _ => Iff.rfl
  have HB := Lib.hid (new_below w (.cells noFr 36))
  have H1 := Lib.hid (h.step HB.out)
  have HX : Hid (Fx (w.alloc (.cells noFr 36)) w.heap.size ⟨0, 0, 0, 0, 0, []⟩ (.slice none 0 0)) := heap_alloc_new w _
  clear h
  generalize ReplyPost w s = Q at *
  go_enter Try.func51, Try.ntmps51
  go_wp2_with fail
  refine (sanswer_on H1.out).mono ?_
  rintro e x ⟨rfl, hb⟩
  have H2 := Lib.hid (H1.out.step hb)
  have HX2 := Lib.hid (HX.out.step hb)
  have HB2 : Hid (Below w.heap.size w x) := HB.out.trans (hb.mono HB.out.size)
  have HS2 : Hid (w.heap.size < x.heap.size) := Nat.lt_of_lt_of_le HX.out.lt hb.size
  clear hb HB H1 HX
  go_upto_region 2 with fail
  have hbA := new_below x (.cells (fcs ⟨s.addr, 5, s.ses, 0, 0, []⟩ (.slice none 0 0)) 36)
  have N1 : Hid (Ny w B D s x.heap.size ⟨s.addr, 5, s.ses, 0, 0, []⟩ (.slice none 0 0) (x.alloc (.cells (fcs ⟨s.addr, 5, s.ses, 0, 0, []⟩ (.slice none 0 0)) 36)).drew) := by
    have := drew_below (x.alloc (.cells (fcs ⟨s.addr, 5, s.ses, 0, 0, []⟩ (.slice none 0 0)) 36))
    exact Ny.step ⟨H2.out.step hbA, HX2.out.step hbA, heap_alloc_new x _, HB2.out.trans (hbA.mono HB2.out.size), HS2.out⟩ this
  clear hbA H2 HX2 HB2
  obtain ⟨A0, c0, k1, k2⟩ := N1.out.sla.at_
  have hc := sc_of k1
  have HOW := Lib.hid (own_zero k2)
  have HSS : Hid (∀ y, Ft 0 [36] (x.alloc (.cells (fcs ⟨s.addr, 5, s.ses, 0, 0, []⟩ (.slice none 0 0)) 36)).drew y → y.cell? ⟨D, 1, none⟩ = some (.int .u8 (s.tell : Int)) ∧ y.cell? ⟨D, 2, none⟩ = some (.int .u8 (s.nx : Int)) ∧ y.cell? ⟨D, 4, none⟩ = some (.slice A0 s.pend.length c0)) := fun y hy => by
    have hc := sc_of (hy.keep k1 (by decide))
    exact ⟨hc.c1, hc.c2, hc.c4⟩
  refine region_plan [(true, 0), (true, 1), (true, 2), (true, 3), (true, 4), (true, 5), (true, 6), (true, 7), (true, 8), (true, 9), (true, 10), (true, 11), (true, 12), (true, 13), (true, 15), (false, 14), (false, 16), (true, 17), (false, 18), (true, 19), (false, 20)]
    (fun y => y.cell? ⟨D, 1, none⟩ = some (.int .u8 (s.tell : Int)) ∧ y.cell? ⟨D, 2, none⟩ = some (.int .u8 (s.nx : Int)) ∧ y.cell? ⟨D, 4, none⟩ = some (.slice A0 s.pend.length c0)) (by kernel_rfl) (by kernel_rfl) (by kernel_rfl) rfl (HSS.out _ (Ft.refl _ _ _)) ?_
  clear hc k1 k2
  generalize (x.alloc (.cells (fcs ⟨s.addr, 5, s.ses, 0, 0, []⟩ (.slice none 0 0)) 36)).drew = x1 at *
  generalize x.heap.size = X at *
  have HW1 : Hid (w.heap.size ≤ x1.heap.size) := N1.out.below.size
  iterate 15 (refine Plan.take (v := ?_) rfl (by rfl) ?_ ?_; rotate_left 1; (focus (intro x hx; go_simp <;> (first | with_reducible rfl | rw [if_pos (by omega)]))); simp only [Act.put, List.setIfInBounds_toArray, List.set_cons_zero, List.set_cons_succ])
  refine Plan.loud rfl (fun K hK => ?_)
  go_simp
  obtain ⟨g, hh, _⟩ := (Own1.mk HOW.out (B := 0) (fun _ _ => Nat.zero_le _) rfl).holds
  refine (clone_on hh rfl (by omega)).mono ?_
  rintro e x2 ⟨A1, c1, rfl, ho, hb2⟩
  have HF2 : Hid (Ft 0 [36] x1 x2) := Ft.of_below hb2
  have N2 := Lib.hid (N1.out.step hb2)
  have HO := Lib.hid (own_mono ho HW1.out)
  refine hK.out _ _ _ (fun x hx => hx) (HSS.out _ HF2.out) ?_
  clear hK K hh ho hb2 N1 HOW
  refine Plan.loud rfl (fun K hK => ?_)
  have g1 := N2.out.box.fc.c3
  have g2 := N2.out.box.fc.fz 3
  go_simp
  clear g1 g2
  have N3 := Lib.hid (N2.out.set [(3, .int .u8 (s.tell : Int))] ⟨s.addr, 5, s.ses, s.tell, 0, []⟩ (.slice none 0 0) rfl).1
  have HFa := N2.out.ftx [(3, .int .u8 (s.tell : Int))]
  have HF3 := Lib.hid (HF2.out.trans HFa)
  have HO3 := Lib.hid (own_ft HO.out HFa (by decide))
  refine hK.out _ _ _ (fun x hx => hx) (HSS.out _ HF3.out) ?_
  clear hK K HFa HF2 HO N2
  simp only [sets, List.foldl] at N3 HF3 HO3
  generalize x2.setCell ⟨X, 3, none⟩ (.int .u8 (s.tell : Int)) = x3 at *
  iterate 1 (refine Plan.take (v := ?_) rfl (by rfl) ?_ ?_; rotate_left 1; (focus (intro x hx; go_simp <;> (first | with_reducible rfl | rw [if_pos (by omega)]))); simp only [Act.put, List.setIfInBounds_toArray, List.set_cons_zero, List.set_cons_succ])
  refine Plan.loud rfl (fun K hK => ?_)
  have g1 := N3.out.box.fc.c4
  have g2 := N3.out.box.fc.fz 4
  go_simp
  clear g1 g2
  have N4 := Lib.hid (N3.out.set [(4, .int .u8 (s.nx : Int))] ⟨s.addr, 5, s.ses, s.tell, s.nx, []⟩ (.slice none 0 0) rfl).1
  have HFa := N3.out.ftx [(4, .int .u8 (s.nx : Int))]
  have HF4 := Lib.hid (HF3.out.trans HFa)
  have HO4 := Lib.hid (own_ft HO3.out HFa (by decide))
  refine hK.out _ _ _ (fun x hx => hx) (HSS.out _ HF4.out) ?_
  clear hK K HFa HF3 HO3 N3
  simp only [sets, List.foldl] at N4 HF4 HO4
  generalize x3.setCell ⟨X, 4, none⟩ (.int .u8 (s.nx : Int)) = x4 at *
  iterate 1 (refine Plan.take (v := ?_) rfl (by rfl) ?_ ?_; rotate_left 1; (focus (intro x hx; go_simp <;> (first | with_reducible rfl | rw [if_pos (by omega)]))); simp only [Act.put, List.setIfInBounds_toArray, List.set_cons_zero, List.set_cons_succ])
  refine Plan.loud rfl (fun K hK => ?_)
  have g1 := N4.out.box.fc.c5
  have g2 := N4.out.box.fc.fz 5
  go_simp
  clear g1 g2
  have N5 : Hid (Ny w B D s X (ansS s) (.slice A1 s.pend.length c1) (sets X [(5, .slice A1 s.pend.length c1)] x4)) := (N4.out.set [(5, .slice A1 s.pend.length c1)] (ansS s) (.slice A1 s.pend.length c1) rfl).1
  have HFa := N4.out.ftx [(5, .slice A1 s.pend.length c1)]
  have HF5 := Lib.hid (HF4.out.trans HFa)
  have HO5 := Lib.hid (own_ft HO4.out HFa (by decide))
  refine hK.out _ _ _ (fun x hx => hx) (HSS.out _ HF5.out) ?_
  clear hK K HFa HF4 HO4 N4 HSS
  simp only [sets, List.foldl] at N5 HO5
  clear HF5
  generalize x4.setCell ⟨X, 5, none⟩ (.slice A1 s.pend.length c1) = x5 at *
  refine Plan.done ?_
  have hfA := N5.out.box.fc
  have e0 := hfA.c0
  have e1 := hfA.c1
  have e2 := hfA.c2
  have e3 := hfA.c3
  have e4 := hfA.c4
  have e5 := hfA.c5
  have hfR := N5.out.res.fc
  have r0 := hfR.c0
  have r1 := hfR.c1
  have r2 := hfR.c2
  have r3 := hfR.c3
  have r4 := hfR.c4
  have r5 := hfR.c5
  have q0 := hfR.fz 0
  have q1 := hfR.fz 1
  have q2 := hfR.fz 2
  have q3 := hfR.fz 3
  have q4 := hfR.fz 4
  have q5 := hfR.fz 5
  clear hfA hfR
  go_wp2
  have T := N5.out.told [(0, .int .u8 (s.addr : Int)), (1, .int .u8 5), (2, .int .u8 (s.ses : Int)), (3, .int .u8 (s.tell : Int)), (4, .int .u8 (s.nx : Int)), (5, .slice A1 s.pend.length c1)] (ansS s) (.slice A1 s.pend.length c1) rfl
  refine bodyPost_ret (results_row rfl _ _ w.heap.size 36 _ _ rfl T.1 frame_struct frame_size) rfl ?_
  exact (HP.out _ _).2 ⟨A1, c1, rfl, own_ft HO5.out T.2.2 (by decide), T.2.1⟩

end Go.Proofs.Ytdcnmbglbopgdaa
