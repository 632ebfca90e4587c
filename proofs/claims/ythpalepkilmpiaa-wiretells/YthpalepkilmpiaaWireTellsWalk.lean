/-
  lamplightlaw06.WireTells, walked: true, whatever came in.
-/
import Derived.Test.YthpalepkilmpiaaWireX
import Derived.Test.YthpalepkilmpiaaWireY
namespace Go.Proofs.Ythpalepkilmpiaa
set_option linter.unusedVariables false
set_option linter.unusedSimpArgs false
open Go.RowKit

/-- Both wires, with the same rows on their way. -/
structure Tl (w : World) (D R : Nat) (room : Int) (qs : List Rw) (x : World) : Prop where
  lw : Lw w D room qs x
  rf : Rf x R R room qs
  lt : D < R
theorem Tl.step {w x y : World} {D R : Nat} {room : Int} {qs : List Rw} (h : Tl w D R room qs x) (hb : Below x.heap.size x y) : Tl w D R room qs y := ⟨h.lw.step hb, h.rf.step hb, h.lt⟩
theorem Lw.most {w x : World} {D : Nat} {room : Int} {qs : List Rw} (h : Lw w D room qs x) : ∀ r ∈ qs, r.h ≤ 16 := by
  obtain ⟨rs, h1, rfl⟩ := h.wire
  intro r hr
  obtain ⟨q, hq, rfl⟩ := List.mem_map.1 hr
  exact h1.most q hq
theorem putM_len (room : Int) (qs : List Rw) (f : Fl) (l : List UInt8) : (putM room qs f l).1.length ≤ qs.length + 2 := by
  unfold putM
  split
  · simp
  · have := f.of_len l
    rw [List.length_append, f.rows_len]
    omega
theorem takeM_le (qs : List Rw) : (takeM qs).2.length ≤ qs.length := by have := takeM_len qs; omega

/-- .. and the step at hand, at X. -/
structure Tx (w : World) (D R : Nat) (room : Int) (qs : List Rw) (X : Nat) (cs : Array Value) (x : World) : Prop where
  tl : Tl w D R room qs x
  box : x.heap[X]? = some (.cells cs 32 (0, 0))
theorem Tx.step {w x y : World} {D R X : Nat} {room : Int} {qs : List Rw} {cs : Array Value} (h : Tx w D R room qs X cs x) (hb : Below x.heap.size x y) : Tx w D R room qs X cs y := ⟨h.tl.step hb, (hb.block X (Array.getElem?_eq_some_iff.1 h.box).1).trans h.box⟩
theorem Tx.put {w x y : World} {D R X : Nat} {room : Int} {qs qs' : List Rw} {cs : Array Value} (h : Tx w D R room qs X cs x) (hl : Lw w D room qs' y) (hf : Ft D [57, 61] x y) : Lw w D room qs' y ∧ Rf y R R room qs ∧ y.heap[X]? = some (.cells cs 32 (0, 0)) :=
  ⟨hl, h.tl.rf.ft hf (by decide) (by decide), hf.keep h.box (by decide)⟩
theorem Tx.ref {w x y : World} {D R X : Nat} {room : Int} {qs' : List Rw} {cs : Array Value} (hl : Lw w D room qs' x) (hlt : D < R) (hbx : x.heap[X]? = some (.cells cs 32 (0, 0))) (hr : Rf y R R room qs') (hf : Ft R [50, 63] x y) : Tx w D R room qs' X cs y :=
  ⟨⟨hl.ft hf (by have := hl.le; omega) (by decide) (by decide) (by decide), hr, hlt⟩, hf.keep hbx (by decide)⟩

set_option maxRecDepth 100000 in
set_option maxHeartbeats 6400000 in
theorem wiretells_walk (room : Int) (P : Option Addr) (n c : Nat) (ss : List St6) (w : World) (hroom : room ≤ 9223372036854775807) (hp : StepsAt w P ss) (hn : ss.length = n) (hc : n ≤ c) (hm : c ≤ 9223372036854775807) :
    Calls Try.prog 3 #[.int .i64 room, .slice P n c] w fun e w' => e = .returned (.bool true) ∧ Below w.heap.size w w' := by
  have HP := Lib.hid hp
  have HN := Lib.hid hn
  clear hp hn
  go_enter Try.func3, Try.ntmps3
  go_wp2_with fail
  refine (shown_on w).mono ?_
  rintro e x0 ⟨rfl, hb0⟩
  have HB0 := Lib.hid hb0
  clear hb0
  go_wp2_with fail
  refine (new_lw (w := w) hroom HB0.out).mono ?_
  rintro e x1 ⟨rfl, h1, hb1⟩
  have H1 := Lib.hid h1
  have HD : Hid (x0.heap.size < x1.heap.size) := h1.lt
  clear h1 hb1
  generalize x0.heap.size = D at *
  go_wp2_with fail
  refine (refnew_on hroom).mono ?_
  rintro e x2 ⟨rfl, h2, hb2⟩
  have H2 : Hid (Tl w D x1.heap.size (max room 1) [] x2) := ⟨H1.out.step hb2, h2, HD.out⟩
  clear h2 hb2 H1 HD HB0
  generalize x1.heap.size = R at *
  generalize max room 1 = rm at *
  go_wp2
  go_loopw [8] (fun i wr => ∃ (k : Nat) (qs : List Rw), k ≤ n ∧ k ≤ 200 ∧ i = .int .i64 k ∧ qs.length ≤ 2 * k ∧ Hid (Tl w D R rm qs wr)) (fun i _ => n - (intOf i).toNat)
  case atStart => exact ⟨0, [], Nat.zero_le _, Nat.zero_le _, rfl, Nat.zero_le _, H2⟩
  case round =>
    clear H2
    obtain ⟨k, qs, hk, hk200, rfl, hql, H⟩ := hrel
    by_cases hlt : k < n ∧ k < 200
    · obtain ⟨hlt1, hlt2⟩ := hlt
      have i1 : (k : Int) < (n : Int) := by omega
      have i2 : (k : Int) < 200 := by omega
      obtain ⟨s, hsk⟩ : ∃ s, ss[k]? = some s := ⟨_, List.getElem?_eq_getElem (by rw [HN.out]; exact hlt1)⟩
      obtain ⟨b, o, gB, AB, cB, gF, AF, cF, rfl, hbw, hcells, hBc, hBm, hBh, hFc, hFm, hFh⟩ := HP.out k s hsk
      obtain ⟨e0, e1, e2, e3, e4, e5⟩ := hcells
      have hbel := H.out.lw.below
      replace e0 := (hbel.cell (p := ⟨b, o + k * 6, none⟩) hbw).trans e0
      replace e1 := (hbel.cell (p := ⟨b, o + k * 6 + 1, none⟩) hbw).trans e1
      replace e2 := (hbel.cell (p := ⟨b, o + k * 6 + 2, none⟩) hbw).trans e2
      replace e3 := (hbel.cell (p := ⟨b, o + k * 6 + 3, none⟩) hbw).trans e3
      replace e4 := (hbel.cell (p := ⟨b, o + k * 6 + 4, none⟩) hbw).trans e4
      replace e5 := (hbel.cell (p := ⟨b, o + k * 6 + 5, none⟩) hbw).trans e5
      cases s with
      | mk sk sb f =>
      simp only at *
      obtain ⟨l, hl⟩ : ∃ l, sb.take 200 = l := ⟨_, rfl⟩
      obtain ⟨bn, hbn⟩ : ∃ bn, min sb.length 200 = bn := ⟨_, rfl⟩
      have HL : Hid (l.length = bn) := by show _ = _; rw [← hl, List.length_take]; omega
      have hbn2 : bn ≤ 200 := by omega
      have HBC : Hid (bn ≤ cB) := by show _ ≤ _; omega
      have HBL : Hid (sb.length ≤ cB) := hBc
      have HBM := Lib.hid hBm
      have HFC := Lib.hid hFc
      have HFM := Lib.hid hFm
      have HHB : Hid (∀ y, Below w.heap.size w y → Holds y gB AB (bcs l)) := fun y hb => by rw [← hl, bcs_take]; exact (hBh.keep (F := []) (Ch.of_below hb) (by simp)).take _
      have HHF : Hid (∀ y, Below w.heap.size w y → Holds y gF AF (bcs f.b)) := fun y hb => hFh.keep (F := []) (Ch.of_below hb) (by simp)
      have HBN := Lib.hid hbn
      have HXw : Hid (w.heap.size ≤ wr.heap.size) := H.out.lw.below.size
      clear hsk hBh hFh hl hBc hBm hFc hFm hbel hbn
      generalize sb.length = sbl at *
      go_upto_region 10 with fail
      have H3 : Hid (Tx w D R rm qs wr.heap.size #[.int .i64 sk, .slice AB sbl cB, .int .i64 f.k, .int .i64 f.n, .int .u8 (f.y.toNat : Int), .slice AF f.b.length cF] (wr.alloc (.cells #[.int .i64 sk, .slice AB sbl cB, .int .i64 f.k, .int .i64 f.n, .int .u8 (f.y.toNat : Int), .slice AF f.b.length cF] 32))) := ⟨H.out.step (new_below _ _), heap_alloc_new wr _⟩
      clear e0 e1 e2 e3 e4 e5 H
      generalize wr.alloc (.cells #[.int .i64 sk, .slice AB sbl cB, .int .i64 f.k, .int .i64 f.n, .int .u8 (f.y.toNat : Int), .slice AF f.b.length cF] 32) = x3 at *
      generalize wr.heap.size = X at *
      have hbx := H3.out.box
      have c1 : x3.cell? ⟨X, 1, none⟩ = some (.slice AB sbl cB) := by simp [World.cell?, hbx]
      have f1 : x3.frozen? ⟨X, 1, none⟩ = false := by simp [World.frozen?, hbx]
      clear hbx
      go_wp2_with fail
      refine (few_on HBL.out HBM.out).mono ?_
      rintro e x4 ⟨rfl, rfl⟩
      rw [HBN.out]
      go_upto_region 11 with fail
      have H4 : Hid (Tx w D R rm qs X #[.int .i64 sk, .slice AB bn cB, .int .i64 f.k, .int .i64 f.n, .int .u8 (f.y.toNat : Int), .slice AF f.b.length cF] (x4.setCell ⟨X, 1, none⟩ (.slice AB bn cB))) := by
        have hft : Ft w.heap.size [32] x4 (x4.setCell ⟨X, 1, none⟩ (.slice AB bn cB)) := Ft.of_ch ((Ch.refl [X] x4).setCell (by simp) _) (fun y hy _ => by simp at hy; subst hy; exact ⟨HXw.out, _, _, _, H3.out.box, by simp⟩)
        refine ⟨⟨H3.out.tl.lw.ft hft (Nat.le_refl _) (by decide) (by decide) (by decide), H3.out.tl.rf.ft hft (by decide) (by decide), H3.out.tl.lt⟩, ?_⟩
        rw [heap_setCell_same _ _ _ _ _ _ H3.out.box]
        rfl
      clear H3 c1 f1
      replace H4 := Lib.hid (H4.out.step (drew_below _))
      have HSX : Hid (∀ y qs', Tx w D R rm qs' X #[.int .i64 sk, .slice AB bn cB, .int .i64 f.k, .int .i64 f.n, .int .u8 (f.y.toNat : Int), .slice AF f.b.length cF] y → y.cell? ⟨X, 1, none⟩ = some (.slice AB bn cB) ∧ y.cell? ⟨X, 2, none⟩ = some (.int .i64 f.k) ∧ y.cell? ⟨X, 3, none⟩ = some (.int .i64 f.n) ∧ y.cell? ⟨X, 4, none⟩ = some (.int .u8 (f.y.toNat : Int)) ∧ y.cell? ⟨X, 5, none⟩ = some (.slice AF f.b.length cF) ∧ (convert 28 9 (.slice AB bn cB)).run Try.prog y = .ok (.string ⟨l.toArray⟩) y) := fun y qs' hy => by
        have hb := hy.box
        exact ⟨by simp [World.cell?, hb], by simp [World.cell?, hb], by simp [World.cell?, hb], by simp [World.cell?, hb], by simp [World.cell?, hb], convert_holds (HHB.out y hy.tl.lw.below) HL.out⟩
      refine region_plan [(true, 0), (true, 1), (true, 2), (true, 3), (true, 5), (true, 6), (true, 8), (true, 9), (true, 10), (false, 4), (false, 7), (false, 11), (false, 12), (true, 13)]
        (fun x => x.cell? ⟨X, 1, none⟩ = some (.slice AB bn cB) ∧ x.cell? ⟨X, 2, none⟩ = some (.int .i64 f.k) ∧ x.cell? ⟨X, 3, none⟩ = some (.int .i64 f.n) ∧ x.cell? ⟨X, 4, none⟩ = some (.int .u8 (f.y.toNat : Int)) ∧ x.cell? ⟨X, 5, none⟩ = some (.slice AF f.b.length cF) ∧ (convert 28 9 (.slice AB bn cB)).run Try.prog x = .ok (.string ⟨l.toArray⟩) x) (by kernel_rfl) (by kernel_rfl) (by kernel_rfl) rfl (HSX.out _ _ H4.out) ?_
      generalize (x4.setCell ⟨X, 1, none⟩ (.slice AB bn cB)).drew = y0 at *
      iterate 9 (refine Plan.take (v := ?_) rfl (by rfl) ?_ ?_; rotate_left 1; (focus (intro x hx; go_simp <;> (first | with_reducible rfl | rw [if_pos (by omega)]))); simp only [Act.put, List.setIfInBounds_toArray, List.set_cons_zero, List.set_cons_succ])
      refine Plan.loud rfl (fun K hK => ?_)
      go_simp
      refine (of_on (HHB.out _ H4.out.tl.lw.below) HL.out (by omega) HBC.out HBM.out (HHF.out _ H4.out.tl.lw.below) HFC.out HFM.out).mono ?_
      rintro e y1 ⟨V, vs, cv, rfl, hrp, hb1⟩
      have HR1 := Lib.hid hrp
      have H5 := Lib.hid (H4.out.step hb1)
      clear hrp hb1 H4
      refine hK.out _ _ _ (fun x hx => hx) (HSX.out _ _ H5.out) ?_
      clear hK K
      refine Plan.loud rfl (fun K hK => ?_)
      go_simp
      refine (ref_on (HHF.out _ H5.out.tl.lw.below)).mono ?_
      rintro e y2 ⟨rfl, hb2⟩
      have HR2 := Lib.hid (HR1.out.step hb2)
      have H6 := Lib.hid (H5.out.step hb2)
      clear hb2 H5 HR1
      refine hK.out _ _ _ (fun x hx => hx) (HSX.out _ _ H6.out) ?_
      clear hK K
      refine Plan.loud rfl (fun K hK => ?_)
      go_simp
      refine (refof_on (by rw [HL.out]; omega)).mono ?_
      rintro e y3 ⟨Vs, cs, rfl, hown, hb3⟩
      have HR3 := Lib.hid (HR2.out.step hb3)
      have H7 := Lib.hid (H6.out.step hb3)
      obtain ⟨gs, hgs⟩ := (Que.of_own hown).holds
      have HGS := Lib.hid hgs
      have HO2 := Lib.hid (f.of_len l)
      clear hb3 H6 HR2 hown hgs
      refine hK.out _ _ _ (fun x hx => hx) (HSX.out _ _ H7.out) ?_
      clear hK K
      refine Plan.loud rfl (fun K hK => ?_)
      go_simp
      refine (texts_on HR3.out HGS.out (by have := HO2.out; omega)).mono ?_
      rintro e y4 ⟨rfl, hb4⟩
      have H8 := Lib.hid (H7.out.step hb4)
      clear hb4 H7 HR3 HGS
      refine hK.out _ _ _ (fun x hx => hx) (HSX.out _ _ H8.out) ?_
      clear hK K
      iterate 1 (refine Plan.take (v := ?_) rfl (by rfl) ?_ ?_; rotate_left 1; (focus (intro x hx; go_simp <;> (first | with_reducible rfl | rw [if_pos (by omega)]))); simp only [Act.put, List.setIfInBounds_toArray, List.set_cons_zero, List.set_cons_succ])
      refine Plan.done ?_
      have c0 : y4.cell? ⟨X, 0, none⟩ = some (.int .i64 sk) := by have hb := H8.out.box; simp [World.cell?, hb]
      by_cases hsk : sk ≤ 2
      · go_upto_region 13 with fail
        clear c0
        replace H8 := Lib.hid (H8.out.step (drew_below y4))
        refine region_plan [(true, 0), (true, 1), (true, 2), (true, 3), (true, 4), (true, 5), (true, 6), (true, 8), (true, 9), (true, 10), (true, 11), (true, 12), (true, 13), (false, 7), (false, 14), (false, 15), (true, 16), (true, 17), (true, 18)]
          (fun x => x.cell? ⟨X, 1, none⟩ = some (.slice AB bn cB) ∧ x.cell? ⟨X, 2, none⟩ = some (.int .i64 f.k) ∧ x.cell? ⟨X, 3, none⟩ = some (.int .i64 f.n) ∧ x.cell? ⟨X, 4, none⟩ = some (.int .u8 (f.y.toNat : Int)) ∧ x.cell? ⟨X, 5, none⟩ = some (.slice AF f.b.length cF) ∧ (convert 28 9 (.slice AB bn cB)).run Try.prog x = .ok (.string ⟨l.toArray⟩) x) (by kernel_rfl) (by kernel_rfl) (by kernel_rfl) rfl (HSX.out _ _ H8.out) ?_
        generalize y4.drew = z0 at *
        iterate 13 (first | (refine Plan.take (v := ?_) rfl (by rfl) ?_ ?_; rotate_left 1; (focus (intro x hx; go_simp <;> (first | with_reducible rfl | rw [if_pos (by omega)]))); simp only [Act.put, List.setIfInBounds_toArray, List.set_cons_zero, List.set_cons_succ]) | (refine Plan.skip rfl (by rfl) ?_; simp only [Act.put, List.setIfInBounds_toArray, List.set_cons_zero, List.set_cons_succ]))
        refine Plan.loud rfl (fun K hK => ?_)
        go_simp
        refine (put_lw H8.out.tl.lw (by omega) (HHB.out _ H8.out.tl.lw.below) HL.out (by omega) HBC.out HBM.out (HHF.out _ H8.out.tl.lw.below) HFC.out HFM.out).mono ?_
        rintro e z1 ⟨rfl, hl1, hf1⟩
        obtain ⟨p1, p2, p3⟩ := H8.out.put hl1 hf1
        have HL1 := Lib.hid p1
        have HF1 := Lib.hid p2
        have HX1 := Lib.hid p3
        have HLT := Lib.hid H8.out.tl.lt
        have HSZ : Hid (z1.cell? ⟨X, 1, none⟩ = some (.slice AB bn cB) ∧ z1.cell? ⟨X, 2, none⟩ = some (.int .i64 f.k) ∧ z1.cell? ⟨X, 3, none⟩ = some (.int .i64 f.n) ∧ z1.cell? ⟨X, 4, none⟩ = some (.int .u8 (f.y.toNat : Int)) ∧ z1.cell? ⟨X, 5, none⟩ = some (.slice AF f.b.length cF) ∧ (convert 28 9 (.slice AB bn cB)).run Try.prog z1 = .ok (.string ⟨l.toArray⟩) z1) := by
          have hb := p3
          exact ⟨by simp [World.cell?, hb], by simp [World.cell?, hb], by simp [World.cell?, hb], by simp [World.cell?, hb], by simp [World.cell?, hb], convert_holds (HHB.out z1 p1.below) HL.out⟩
        clear hl1 hf1 p1 p2 p3 H8
        refine hK.out _ _ _ (fun x hx => hx) HSZ.out ?_
        clear hK K
        refine Plan.loud rfl (fun K hK => ?_)
        go_simp
        refine (ref_on (HHF.out _ HL1.out.below)).mono ?_
        rintro e z2 ⟨rfl, hb2⟩
        have HL2 := Lib.hid (HL1.out.step hb2)
        have HF2 := Lib.hid (HF1.out.step hb2)
        have HX2 : Hid (z2.heap[X]? = some (.cells #[.int .i64 sk, .slice AB bn cB, .int .i64 f.k, .int .i64 f.n, .int .u8 (f.y.toNat : Int), .slice AF f.b.length cF] 32 (0, 0))) := (hb2.block X (Array.getElem?_eq_some_iff.1 HX1.out).1).trans HX1.out
        have HSZ2 : Hid (z2.cell? ⟨X, 1, none⟩ = some (.slice AB bn cB) ∧ z2.cell? ⟨X, 2, none⟩ = some (.int .i64 f.k) ∧ z2.cell? ⟨X, 3, none⟩ = some (.int .i64 f.n) ∧ z2.cell? ⟨X, 4, none⟩ = some (.int .u8 (f.y.toNat : Int)) ∧ z2.cell? ⟨X, 5, none⟩ = some (.slice AF f.b.length cF) ∧ (convert 28 9 (.slice AB bn cB)).run Try.prog z2 = .ok (.string ⟨l.toArray⟩) z2) := by
          have hb := HX2.out
          exact ⟨by simp [World.cell?, hb], by simp [World.cell?, hb], by simp [World.cell?, hb], by simp [World.cell?, hb], by simp [World.cell?, hb], convert_holds (HHB.out z2 HL2.out.below) HL.out⟩
        clear hb2 HL1 HF1 HX1 HSZ
        refine hK.out _ _ _ (fun x hx => hx) HSZ2.out ?_
        clear hK K
        refine Plan.loud rfl (fun K hK => ?_)
        go_simp
        refine (refput_on HF2.out (Nat.le_of_lt HF2.out.lt) (by omega) (by rw [HL.out]; omega)).mono ?_
        rintro e y5 ⟨rfl, hr3, hf3⟩
        have H5 := Lib.hid (Tx.ref HL2.out HLT.out HX2.out hr3 hf3)
        have HQN : Hid ((putM rm qs f l).1.length ≤ 2 * (k + 1)) := by have := putM_len rm qs f l; show _ ≤ _; omega
        clear hr3 hf3 HL2 HF2 HX2 HSZ2
        refine hK.out _ _ _ (fun x hx => hx) (HSX.out _ _ H5.out) ?_
        clear hK K
        iterate 3 (first | (refine Plan.take (v := ?_) rfl (by rfl) ?_ ?_; rotate_left 1; (focus (intro x hx; go_simp <;> (first | with_reducible rfl | rw [if_pos (by omega)]))); simp only [Act.put, List.setIfInBounds_toArray, List.set_cons_zero, List.set_cons_succ]) | (refine Plan.skip rfl (by rfl) ?_; simp only [Act.put, List.setIfInBounds_toArray, List.set_cons_zero, List.set_cons_succ]))
        refine Plan.done ?_
        generalize (putM rm qs f l).1 = qn at *
        go_upto_region 15 with fail
        replace H5 := Lib.hid (H5.out.step (drew_below y5))
        obtain ⟨Ar, cr, _, g1, _, _⟩ := H5.out.tl.rf.cells
        refine region_plan [(true, 0), (true, 1), (true, 2), (true, 3), (true, 5), (true, 6), (true, 7), (true, 8), (true, 9), (false, 4), (true, 10), (true, 11)]
          (fun x => x.cell? ⟨R, 1, none⟩ = some (.slice Ar qn.length cr)) (by kernel_rfl) (by kernel_rfl) (by kernel_rfl) rfl g1 ?_
        generalize y5.drew = y6 at *
        iterate 9 (first | (refine Plan.take (v := ?_) rfl (by rfl) ?_ ?_; rotate_left 1; (focus (intro x hx; go_simp <;> (first | with_reducible rfl | rw [if_pos (by omega)]))); simp only [Act.put, List.setIfInBounds_toArray, List.set_cons_zero, List.set_cons_succ]) | (refine Plan.skip rfl (by rfl) ?_; simp only [Act.put, List.setIfInBounds_toArray, List.set_cons_zero, List.set_cons_succ]))
        refine Plan.loud rfl (fun K hK => ?_)
        go_simp
        refine (len_lw H5.out.tl.lw).mono ?_
        rintro e y7 ⟨rfl, rfl⟩
        refine hK.out _ _ _ (fun x hx => hx) g1 ?_
        clear hK K
        iterate 2 (first | (refine Plan.take (v := ?_) rfl (by rfl) ?_ ?_; rotate_left 1; (focus (intro x hx; go_simp <;> (first | with_reducible rfl | rw [if_pos (by omega)]))); simp only [Act.put, List.setIfInBounds_toArray, List.set_cons_zero, List.set_cons_succ]) | (refine Plan.skip rfl (by rfl) ?_; simp only [Act.put, List.setIfInBounds_toArray, List.set_cons_zero, List.set_cons_succ]))
        refine Plan.done ?_
        have H6 := Lib.hid H5.out.tl
        clear g1
        generalize hql2 : qn.length = ql at *
        have HQ2 : Hid (qn.length ≤ 2 * (k + 1)) := by show _ ≤ _; rw [hql2]; exact HQN.out
        clear hql2
        go_wp2
        go_simp
        exact ⟨⟨k + 1, by omega, by omega, by omega, qn, HQ2.out, H6⟩, by simp [intOf]; omega⟩
      · have hsk2 : ¬ sk ≤ 2 := hsk
        clear HHF HSX
        go_wp2_with fail
        refine (take_lw H8.out.tl.lw (by omega)).mono ?_
        rintro e z1 ⟨Vt, nt, ct, vst, rfl, hrt, hl1, hf1⟩
        obtain ⟨p1, p2, p3⟩ := H8.out.put hl1 hf1
        have HL1 := Lib.hid p1
        have HF1 := Lib.hid p2
        have HX1 := Lib.hid p3
        have HLT := Lib.hid H8.out.tl.lt
        have HRT := Lib.hid hrt
        have HMO := Lib.hid H8.out.tl.lw.most
        clear hl1 hf1 p1 p2 p3 hrt H8 c0
        go_wp2_with fail
        refine (reftake_on HF1.out (Nat.le_of_lt HF1.out.lt) (by omega) HMO.out).mono ?_
        rintro e z2 ⟨Vr, nr, cr, rfl, hnr, hor, hr2, hf2⟩
        obtain rfl : nr = nt := by rw [hnr]; exact HRT.out.len
        have HT2 := Lib.hid (HRT.out.ft hf2 (by decide) (by decide))
        have H2 := Lib.hid (Tx.ref HL1.out HLT.out HX1.out hr2 hf2)
        obtain ⟨gs, hgs⟩ := (Que.of_own hor).holds
        have HGS := Lib.hid hgs
        have HQN : Hid ((takeM qs).2.length ≤ 2 * (k + 1)) := by have := takeM_le qs; show _ ≤ _; omega
        have hnt : nr ≤ 1000000 := by have := takeM_len qs; omega
        clear hnr hor hr2 hf2 hgs HL1 HF1 HX1 HRT HLT
        go_wp2_with fail
        refine (texts_on HT2.out HGS.out hnt).mono ?_
        rintro e y5 ⟨rfl, hb5⟩
        have H5 := Lib.hid (H2.out.step hb5)
        clear hb5 H2 HT2 HGS hnt
        generalize (takeM qs).2 = qn at *
        go_upto_region 15 with fail
        replace H5 := Lib.hid (H5.out.step (drew_below y5))
        obtain ⟨Ar, cr, _, g1, _, _⟩ := H5.out.tl.rf.cells
        refine region_plan [(true, 0), (true, 1), (true, 2), (true, 3), (true, 5), (true, 6), (true, 7), (true, 8), (true, 9), (false, 4), (true, 10), (true, 11)]
          (fun x => x.cell? ⟨R, 1, none⟩ = some (.slice Ar qn.length cr)) (by kernel_rfl) (by kernel_rfl) (by kernel_rfl) rfl g1 ?_
        generalize y5.drew = y6 at *
        iterate 9 (first | (refine Plan.take (v := ?_) rfl (by rfl) ?_ ?_; rotate_left 1; (focus (intro x hx; go_simp <;> (first | with_reducible rfl | rw [if_pos (by omega)]))); simp only [Act.put, List.setIfInBounds_toArray, List.set_cons_zero, List.set_cons_succ]) | (refine Plan.skip rfl (by rfl) ?_; simp only [Act.put, List.setIfInBounds_toArray, List.set_cons_zero, List.set_cons_succ]))
        refine Plan.loud rfl (fun K hK => ?_)
        go_simp
        refine (len_lw H5.out.tl.lw).mono ?_
        rintro e y7 ⟨rfl, rfl⟩
        refine hK.out _ _ _ (fun x hx => hx) g1 ?_
        clear hK K
        iterate 2 (first | (refine Plan.take (v := ?_) rfl (by rfl) ?_ ?_; rotate_left 1; (focus (intro x hx; go_simp <;> (first | with_reducible rfl | rw [if_pos (by omega)]))); simp only [Act.put, List.setIfInBounds_toArray, List.set_cons_zero, List.set_cons_succ]) | (refine Plan.skip rfl (by rfl) ?_; simp only [Act.put, List.setIfInBounds_toArray, List.set_cons_zero, List.set_cons_succ]))
        refine Plan.done ?_
        have H6 := Lib.hid H5.out.tl
        clear g1
        generalize hql2 : qn.length = ql at *
        have HQ2 : Hid (qn.length ≤ 2 * (k + 1)) := by show _ ≤ _; rw [hql2]; exact HQN.out
        clear hql2
        go_wp2
        go_simp
        exact ⟨⟨k + 1, by omega, by omega, by omega, qn, HQ2.out, H6⟩, by simp [intOf]; omega⟩
    · have hcase : (¬ (k : Int) < (n : Int)) ∨ ((k : Int) < (n : Int) ∧ ¬ (k : Int) < 200) := by omega
      rcases hcase with i1 | ⟨i1, i2⟩
      all_goals
        go_wp2
        go_ret
        exact ⟨rfl, H.out.lw.below⟩

end Go.Proofs.Ythpalepkilmpiaa
