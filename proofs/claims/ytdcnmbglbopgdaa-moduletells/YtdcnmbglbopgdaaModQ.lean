/-
  The document's module: what Take answers.
-/
import Derived.Test.YtdcnmbglbopgdaaModR
import Derived.Deep.DeepCutAuto
namespace Go.Proofs.Ytdcnmbglbopgdaa
set_option linter.unusedVariables false
set_option linter.unusedSimpArgs false
open Go.RowKit

/-- A struct and one more, as a call hands them back: the struct lies in a row of its own. -/
theorem results_row_one {P : Program} {fn : Func} {p u : Tmp} {ty : TypeId} (h : fn.results = #[.cell p ty, .tmp u]) (tmps : Array Value) (w : World) (g : Nat) (t : TypeId) (cs : Array Value) (fr : Nat × Nat)
    (hp : tmps.getD p undef = .pointer (some ⟨g, 0, none⟩)) (hg : w.heap[g]? = some (.cells cs t fr))
    (hu : ∃ fs, P.underlying ty = some (.struct fs)) (hi : (P.info? ty).map (·.size) = some cs.size) :
    (results fn tmps).run P w = .ok (.tuple #[.agg cs, tmps.getD u undef]) w := by
  obtain ⟨fs, hu⟩ := hu
  have e : (results fn tmps).run P w = ((asAddr (tmps.getD p undef)).run P w).andThen fun a w₁ => ((loadVar ty a).run P w₁).andThen fun x w₂ => .ok (.tuple #[x, tmps.getD u undef]) w₂ := by
    simp only [results, h]
    simp [Sem.run_bind, Result.andThen]
  rw [e, hp]
  simp [asAddr, Result.andThen, run_loadVar_row w g t ty cs fr _ hg hu rfl hi]
theorem rtake_at {w : World} {B R : Nat} {s s1 : Sl} {f an : Fr} {c : List UInt8} {ok : Bool} (h : Rv w B R s) (hN : s.Ok) (ht : takeS s f = (s1, an, c, ok)) :
    Calls Try.prog 37 #[.pointer (some ⟨R, 0, none⟩), .agg (rcs f)] w fun e y => e = .returned (.tuple #[.agg (rcs an), .string ⟨c.toArray⟩, .bool ok]) ∧ Rv y B R s1 ∧ Ft B [98] w y := by
  have k := rtake_on (f := f) h hN
  unfold RTakePost at k
  rw [ht] at k
  exact k
theorem takeS_outlen (s : Sl) (f : Fr) : (takeS s f).2.2.1.length ≤ f.b.length := by
  unfold takeS
  split
  · exact Nat.zero_le _
  · split
    · exact Nat.zero_le _
    · split
      · exact Nat.zero_le _
      · show (cmdS _ _).2.length ≤ _
        unfold cmdS
        split
        · exact Nat.le_refl _
        · exact Nat.zero_le _
theorem Rx8.step {x y : World} {X : Nat} {f : Fr} (h : Rx8 x X f) (hb : Below x.heap.size x y) : Rx8 y X f := (hb.block X (Array.getElem?_eq_some_iff.1 h).1).trans h
theorem Rx8.ft {x y : World} {B X : Nat} {T : List TypeId} {f : Fr} (h : Rx8 x X f) (hf : Ft B T x y) (hT : 42 ∉ T) : Rx8 y X f := hf.keep h hT
theorem Rx8.lt {x : World} {X : Nat} {f : Fr} (h : Rx8 x X f) : X < x.heap.size := (Array.getElem?_eq_some_iff.1 h).1
/-- While it takes. -/
structure Tmo (w : World) (B R RS R0 : Nat) (m : Mo) (x : World) : Prop where
  mo : Rm x B R RS m
  res : Rx8 x R0 noFrS
  ft : Ft B Tm11 w x
  le : w.heap.size ≤ R0
theorem Tmo.step {w x y : World} {B R RS R0 : Nat} {m : Mo} (h : Tmo w B R RS R0 m x) (hb : Below x.heap.size x y) : Tmo w B R RS R0 m y := ⟨h.mo.step hb, h.res.step hb, h.ft.trans (Ft.of_below hb), h.le⟩
theorem Tmo.slave {w x y : World} {B R RS R0 : Nat} {m : Mo} {s' : Sl} (h : Tmo w B R RS R0 m x) (hs : Rv y B RS s') (hf : Ft B [98] x y) : Tmo w B R RS R0 { m with s := s' } y := ⟨h.mo.slave hs hf, h.res.ft hf (by decide), h.ft.trans (ft_sl hf), h.le⟩
theorem Tmo.put {w x : World} {B R RS R0 : Nat} {m : Mo} (h : Tmo w B R RS R0 m x) (l : List (Nat × Value)) (m' : Mo) (hs : m'.s = m.s) (hc : setsA l (rmc m RS) = rmc m' RS) : Tmo w B R RS R0 m' (sets R l x) := by
  obtain ⟨h1, h2⟩ := h.mo.put l m' hs hc
  exact ⟨h1, h.res.ft h2 (by decide), h.ft.trans h2, h.le⟩
/-- .. a frame's row stays. -/
theorem Tmo.keepG {w x : World} {B R RS R0 G : Nat} {m : Mo} {f : Fr} (h : Tmo w B R RS R0 m x) (hG : Rx8 x G f) (l : List (Nat × Value)) : Rx8 (sets R l x) G f := by
  obtain ⟨h1, h2⟩ := sets_row l h.mo.row
  refine (h2.block G hG.lt ?_).trans hG
  simp
  rintro rfl
  have k1 := h.mo.row
  have k2 : x.heap[G]? = _ := hG
  rw [k1] at k2
  injection k2 with k2
  injection k2 with _ k2
  exact absurd k2 (by decide)
/-- A frame's row of its own is written. -/
theorem Tmo.own {w x : World} {B R RS R0 G : Nat} {m : Mo} {f : Fr} (h : Tmo w B R RS R0 m x) (hG : Rx8 x G f) (hne : G ≠ R0) (hw : w.heap.size ≤ G) (l : List (Nat × Value)) (f' : Fr) (hc : setsA l (rcs f) = rcs f') : Tmo w B R RS R0 m (sets G l x) ∧ Rx8 (sets G l x) G f' := by
  obtain ⟨h1, h2⟩ := sets_row l hG
  rw [hc] at h1
  have h3 : Ft 0 [42] x (sets G l x) := Ft.of_ch h2 (fun y hy _ => by simp at hy; subst hy; exact ⟨Nat.zero_le _, _, _, _, hG, by simp⟩)
  refine ⟨⟨h.mo.ft h3 (by decide) (by decide), (h2.block R0 h.res.lt (by simp; omega)).trans h.res, ⟨h2.os.trans h.ft.os, h2.tape.trans h.ft.tape, h2.output.trans h.ft.output, Nat.le_trans h.ft.size h2.size, fun k hk hb => ?_⟩, h.le⟩, h1⟩
  rw [h2.block k (Nat.lt_of_lt_of_le hk h.ft.size) (by simp; omega)]
  exact h.ft.block k hk hb
/-- The answer's row is set. -/
theorem Tmo.told {w x : World} {B R RS R0 : Nat} {m : Mo} (h : Tmo w B R RS R0 m x) (f' : Fr) :
    Rx8 (x.setRow R0 (rcs f')) R0 f' ∧ Rm (x.setRow R0 (rcs f')) B R RS m ∧ Ft B Tm11 w (x.setRow R0 (rcs f')) := by
  have h1 := setRow_heap x R0 _ (rcs f') _ _ h.res
  have h2 : Ch [R0] x (x.setRow R0 (rcs f')) := ⟨rfl, rfl, rfl, Nat.le_of_eq (size_setRow x R0 _).symm, fun k _ hf => setRow_other x R0 k _ (by simpa using hf)⟩
  have h3 : Ft 0 [42] x (x.setRow R0 (rcs f')) := Ft.of_ch h2 (fun y hy _ => by simp at hy; subst hy; exact ⟨Nat.zero_le _, _, _, _, h.res, by simp⟩)
  refine ⟨h1, h.mo.ft h3 (by decide) (by decide), h2.os.trans h.ft.os, h2.tape.trans h.ft.tape, h2.output.trans h.ft.output, Nat.le_trans h.ft.size h2.size, fun k hk hb => ?_⟩
  have hl := h.le
  rw [h2.block k (Nat.lt_of_lt_of_le hk h.ft.size) (by simp; omega)]
  exact h.ft.block k hk hb
def RmTakePost (w : World) (B R RS : Nat) (m : Mo) (f : Fr) (e : Ending) (y : World) : Prop :=
  e = .returned (.tuple #[.agg (rcs (takeMo m f).2.1), .bool (takeMo m f).2.2]) ∧ Rm y B R RS (takeMo m f).1 ∧ Ft B Tm11 w y

set_option maxRecDepth 20000 in
set_option maxHeartbeats 25600000 in
theorem rmtake_on {w : World} {B R RS : Nat} {m : Mo} {f : Fr} (h : Rm w B R RS m) (hok : m.Ok) (hfl : f.b.length ≤ 1000) : Calls Try.prog 13 #[.pointer (some ⟨R, 0, none⟩), .agg (rcs f)] w (RmTakePost w B R RS m f) := by
  obtain ⟨ts, hts⟩ : ∃ ts, takeS m.s f = ts := ⟨_, rfl⟩
  obtain ⟨s1, an, c, ok⟩ := ts
  have hcl : c.length ≤ 1000 := by
    have := takeS_outlen m.s f
    rw [hts] at this
    exact Nat.le_trans this hfl
  have HP : Hid (∀ e y, e = .returned (.tuple #[.agg (rcs an), .bool ok]) → Rm y B R RS (({ m with s := s1 } : Mo).cmd c) → Ft B Tm11 w y → RmTakePost w B R RS m f e y) := by
    intro e y h1 h2 h3
    unfold RmTakePost
    rw [takeMo_parts hts]
    exact ⟨h1, h2, h3⟩
  generalize RmTakePost w B R RS m f = Q at *
  have HTS := Lib.hid hts
  have HOK := Lib.hid hok
  have HCL := Lib.hid hcl
  have HB := Lib.hid (new_below w (.cells (rcs f) 42))
  have HB1 := Lib.hid (new_below (w.alloc (.cells (rcs f) 42)) (.cells rnoFr 42))
  have H0 : Hid (Tmo w B R RS (w.heap.size + 1) m ((w.alloc (.cells (rcs f) 42)).alloc (.cells rnoFr 42)) ∧ Rx8 ((w.alloc (.cells (rcs f) 42)).alloc (.cells rnoFr 42)) w.heap.size f) := by
    have k := heap_alloc_new (w.alloc (.cells (rcs f) 42)) (.cells rnoFr 42)
    rw [show (w.alloc (.cells (rcs f) 42)).heap.size = w.heap.size + 1 by simp] at k
    exact ⟨⟨(h.step HB.out).step HB1.out, k, (Ft.of_below HB.out).trans (Ft.of_below HB1.out), Nat.le_succ _⟩, (HB1.out.block _ (by simp)).trans (heap_alloc_new w _)⟩
  clear h hok hcl hts hfl HB HB1
  go_enter Try.func13, Try.ntmps13
  go_upto_region 1 with fail
  replace H0 : Hid (Tmo w B R RS (w.heap.size + 1) m ((w.alloc (.cells (rcs f) 42)).alloc (.cells rnoFr 42)).drew ∧ Rx8 ((w.alloc (.cells (rcs f) 42)).alloc (.cells rnoFr 42)).drew w.heap.size f) := Lib.hid ⟨H0.out.1.step (drew_below _), H0.out.2.step (drew_below _)⟩
  obtain ⟨X, hX⟩ : ∃ X, w.heap.size = X := ⟨_, rfl⟩
  rw [hX] at H0
  have HXW : Hid (w.heap.size ≤ X) := Lib.hid (by omega)
  rw [hX]
  clear hX
  obtain ⟨R0, hR0⟩ : ∃ R0, X + 1 = R0 := ⟨_, rfl⟩
  rw [hR0] at H0 ⊢
  clear hR0
  go_cut [6, 7, 8] (fun v6 v7 v8 y => ∃ G, v6 = .pointer (some ⟨G, 0, none⟩) ∧ v7 = .string ⟨c.toArray⟩ ∧ v8 = .bool ok ∧ Hid (Rx8 y G an) ∧ Hid (Tmo w B R RS R0 { m with s := s1 } y))
  case first =>
    as_aux_lemma =>
      have HSS : Hid (∀ y B' T, Rm y B' R RS T → Rx8 y X f → y.cell? ⟨R, 0, none⟩ = some (.pointer (some ⟨RS, 0, none⟩)) ∧ y.cell? ⟨X, 0, none⟩ = some (.int .u8 (f.a : Int)) ∧ y.cell? ⟨X, 1, none⟩ = some (.int .u8 (f.k : Int)) ∧ y.cell? ⟨X, 2, none⟩ = some (.int .u8 (f.s : Int)) ∧ y.cell? ⟨X, 3, none⟩ = some (.int .u8 (f.q : Int)) ∧ y.cell? ⟨X, 4, none⟩ = some (.int .u8 (f.c : Int)) ∧ y.cell? ⟨X, 5, none⟩ = some (.string ⟨f.b.toArray⟩)) := by
        intro y B' T h1 h2
        have h3 := rc8_of h2
        exact ⟨h1.mc.c0, h3.c0, h3.c1, h3.c2, h3.c3, h3.c4, h3.c5⟩
      refine region_tree (.take 0 (.take 1 (.take 2 (.take 3 (.take 4 (.two 5 (.take 6 (.take 7 (.take 8 (.take 9 (.one 10 (.one 11 (.take 12 (.take 13 .done)))))))) 10 (.one 5 (.take 6 (.take 7 (.take 8 (.take 9 (.one 11 (.take 12 (.take 13 .done))))))))))))))
        (fun y => y.cell? ⟨R, 0, none⟩ = some (.pointer (some ⟨RS, 0, none⟩)) ∧ y.cell? ⟨X, 0, none⟩ = some (.int .u8 (f.a : Int)) ∧ y.cell? ⟨X, 1, none⟩ = some (.int .u8 (f.k : Int)) ∧ y.cell? ⟨X, 2, none⟩ = some (.int .u8 (f.s : Int)) ∧ y.cell? ⟨X, 3, none⟩ = some (.int .u8 (f.q : Int)) ∧ y.cell? ⟨X, 4, none⟩ = some (.int .u8 (f.c : Int)) ∧ y.cell? ⟨X, 5, none⟩ = some (.string ⟨f.b.toArray⟩)) (by kernel_rfl) (by kernel_rfl) (by kernel_rfl) rfl (HSS.out _ _ _ H0.out.1.mo H0.out.2) ?_
      generalize World.drew _ = x1 at *
      iterate 5 (refine Tree.take (v := ?_) rfl (by rfl) ?_ ?_; rotate_left 1; (focus (intro x hx; go_simp <;> (first | with_reducible rfl | rw [if_pos (by omega)]))); simp only [Act.put, List.setIfInBounds_toArray, List.set_cons_zero, List.set_cons_succ])
      refine Tree.two rfl rfl (fun K hK => ?_) (fun K hK => ?_)
      · as_aux_lemma =>
          go_simp
          refine (rtake_at H0.out.1.mo.sla HOK.out.s HTS.out).mono ?_
          rintro e x2 ⟨rfl, h2, hf2⟩
          have H2 := Lib.hid (H0.out.1.slave h2 hf2)
          have HX2 := Lib.hid (H0.out.2.ft hf2 (by decide))
          refine hK.out _ _ _ (fun x hx => hx) (HSS.out _ _ _ H2.out.mo HX2.out) ?_
          clear hK K h2 hf2 H0
          iterate 4 (refine Tree.take (v := ?_) rfl (by rfl) ?_ ?_; rotate_left 1; (focus (intro x hx; go_simp <;> (first | with_reducible rfl | rw [if_pos (by omega)]))); simp only [Act.put, List.setIfInBounds_toArray, List.set_cons_zero, List.set_cons_succ])
          refine Tree.one rfl (fun K hK => ?_)
          go_simp
          have hb3 := new_below x2 (.cells rnoFr 42)
          have HG3 : Hid (Rx8 (x2.alloc (.cells rnoFr 42)) x2.heap.size noFrS) := heap_alloc_new x2 _
          have H3 := Lib.hid (H2.out.step hb3)
          have HX3 := Lib.hid (HX2.out.step hb3)
          have HGW : Hid (w.heap.size ≤ x2.heap.size) := Lib.hid H2.out.ft.size
          have HGR : Hid (x2.heap.size ≠ R0) := Lib.hid (by have := H2.out.res.lt; omega)
          have HGX : Hid (x2.heap.size ≠ X) := Lib.hid (by have := HX2.out.lt; omega)
          refine hK.out _ _ _ (fun x hx => hx) (HSS.out _ _ _ H3.out.mo HX3.out) ?_
          clear hK K hb3 H2 HX2
          generalize x2.alloc (.cells rnoFr 42) = x3 at *
          generalize x2.heap.size = G at *
          refine Tree.one rfl (fun K hK => ?_)
          have hf := rc8_of HG3.out
          have p0 := hf.c0
          have p1 := hf.c1
          have p2 := hf.c2
          have p3 := hf.c3
          have p4 := hf.c4
          have p5 := hf.c5
          have q0 := hf.fz 0
          have q1 := hf.fz 1
          have q2 := hf.fz 2
          have q3 := hf.fz 3
          have q4 := hf.fz 4
          have q5 := hf.fz 5
          clear hf
          go_simp
          obtain ⟨k1, k2⟩ := H3.out.own HG3.out HGR.out HGW.out [(0, .int .u8 (an.a : Int)), (1, .int .u8 (an.k : Int)), (2, .int .u8 (an.s : Int)), (3, .int .u8 (an.q : Int)), (4, .int .u8 (an.c : Int)), (5, .string ⟨an.b.toArray⟩)] an rfl
          have hx4 : Rx8 (sets G [(0, .int .u8 (an.a : Int)), (1, .int .u8 (an.k : Int)), (2, .int .u8 (an.s : Int)), (3, .int .u8 (an.q : Int)), (4, .int .u8 (an.c : Int)), (5, .string ⟨an.b.toArray⟩)] x3) X f := ((sets_row [(0, .int .u8 (an.a : Int)), (1, .int .u8 (an.k : Int)), (2, .int .u8 (an.s : Int)), (3, .int .u8 (an.q : Int)), (4, .int .u8 (an.c : Int)), (5, .string ⟨an.b.toArray⟩)] HG3.out).2.block X HX3.out.lt (by have := HGX.out; simp; omega)).trans HX3.out
          simp only [sets, List.foldl] at k1 k2 hx4
          have H4 := Lib.hid k1
          have HG4 := Lib.hid k2
          refine hK.out _ _ _ (fun x hx => hx) (HSS.out _ _ _ H4.out.mo hx4) ?_
          clear hK K k1 k2 hx4 p0 p1 p2 p3 p4 p5 q0 q1 q2 q3 q4 q5 H3 HG3
          iterate 2 (refine Tree.take (v := ?_) rfl (by rfl) ?_ ?_; rotate_left 1; (focus (intro x hx; go_simp <;> (first | with_reducible rfl | rw [if_pos (by omega)]))); simp only [Act.put, List.setIfInBounds_toArray, List.set_cons_zero, List.set_cons_succ])
          refine Tree.done ?_
          go_wp2
          go_meet
          case rel => exact ⟨G, rfl, rfl, rfl, HG4, H4⟩
      · as_aux_lemma =>
          go_simp
          have hb2 := new_below x1 (.cells rnoFr 42)
          have HG2 : Hid (Rx8 (x1.alloc (.cells rnoFr 42)) x1.heap.size noFrS) := heap_alloc_new x1 _
          have H2 := Lib.hid (H0.out.1.step hb2)
          have HX2 := Lib.hid (H0.out.2.step hb2)
          have HGW : Hid (w.heap.size ≤ x1.heap.size) := Lib.hid H0.out.1.ft.size
          have HGR : Hid (x1.heap.size ≠ R0) := Lib.hid (by have := H0.out.1.res.lt; omega)
          have HGX : Hid (x1.heap.size ≠ X) := Lib.hid (by have := H0.out.2.lt; omega)
          refine hK.out _ _ _ (fun x hx => hx) (HSS.out _ _ _ H2.out.mo HX2.out) ?_
          clear hK K hb2 H0
          generalize x1.alloc (.cells rnoFr 42) = x2 at *
          generalize x1.heap.size = G at *
          refine Tree.one rfl (fun K hK => ?_)
          go_simp
          refine (rtake_at H2.out.mo.sla HOK.out.s HTS.out).mono ?_
          rintro e x3 ⟨rfl, h3, hf3⟩
          have H3 := Lib.hid (H2.out.slave h3 hf3)
          have HX3 := Lib.hid (HX2.out.ft hf3 (by decide))
          have HG3 := Lib.hid (HG2.out.ft hf3 (by decide))
          refine hK.out _ _ _ (fun x hx => hx) (HSS.out _ _ _ H3.out.mo HX3.out) ?_
          clear hK K h3 hf3 H2 HX2 HG2
          iterate 4 (refine Tree.take (v := ?_) rfl (by rfl) ?_ ?_; rotate_left 1; (focus (intro x hx; go_simp <;> (first | with_reducible rfl | rw [if_pos (by omega)]))); simp only [Act.put, List.setIfInBounds_toArray, List.set_cons_zero, List.set_cons_succ])
          refine Tree.one rfl (fun K hK => ?_)
          have hf := rc8_of HG3.out
          have p0 := hf.c0
          have p1 := hf.c1
          have p2 := hf.c2
          have p3 := hf.c3
          have p4 := hf.c4
          have p5 := hf.c5
          have q0 := hf.fz 0
          have q1 := hf.fz 1
          have q2 := hf.fz 2
          have q3 := hf.fz 3
          have q4 := hf.fz 4
          have q5 := hf.fz 5
          clear hf
          go_simp
          obtain ⟨k1, k2⟩ := H3.out.own HG3.out HGR.out HGW.out [(0, .int .u8 (an.a : Int)), (1, .int .u8 (an.k : Int)), (2, .int .u8 (an.s : Int)), (3, .int .u8 (an.q : Int)), (4, .int .u8 (an.c : Int)), (5, .string ⟨an.b.toArray⟩)] an rfl
          have hx4 : Rx8 (sets G [(0, .int .u8 (an.a : Int)), (1, .int .u8 (an.k : Int)), (2, .int .u8 (an.s : Int)), (3, .int .u8 (an.q : Int)), (4, .int .u8 (an.c : Int)), (5, .string ⟨an.b.toArray⟩)] x3) X f := ((sets_row [(0, .int .u8 (an.a : Int)), (1, .int .u8 (an.k : Int)), (2, .int .u8 (an.s : Int)), (3, .int .u8 (an.q : Int)), (4, .int .u8 (an.c : Int)), (5, .string ⟨an.b.toArray⟩)] HG3.out).2.block X HX3.out.lt (by have := HGX.out; simp; omega)).trans HX3.out
          simp only [sets, List.foldl] at k1 k2 hx4
          have H4 := Lib.hid k1
          have HG4 := Lib.hid k2
          refine hK.out _ _ _ (fun x hx => hx) (HSS.out _ _ _ H4.out.mo hx4) ?_
          clear hK K k1 k2 hx4 p0 p1 p2 p3 p4 p5 q0 q1 q2 q3 q4 q5 H3 HG3
          iterate 2 (refine Tree.take (v := ?_) rfl (by rfl) ?_ ?_; rotate_left 1; (focus (intro x hx; go_simp <;> (first | with_reducible rfl | rw [if_pos (by omega)]))); simp only [Act.put, List.setIfInBounds_toArray, List.set_cons_zero, List.set_cons_succ])
          refine Tree.done ?_
          go_wp2
          go_meet
          case rel => exact ⟨G, rfl, rfl, rfl, HG4, H4⟩
  case rest =>
    clear H0 HTS HXW
    obtain ⟨G, rfl, rfl, rfl, HG, H⟩ := hcut
    rename World => y0
    go_wp2_with fail
    refine (parse_on HCL.out).mono ?_
    rintro e y1 ⟨rfl, hb1⟩
    replace H := Lib.hid (H.out.step hb1)
    replace HG := Lib.hid (HG.out.step hb1)
    clear hb1 HCL
    obtain ⟨pk, hpk⟩ : ∃ pk, (parse5 c).1 = pk := ⟨_, rfl⟩
    obtain ⟨pt, hpt⟩ : ∃ pt, (parse5 c).2.1 = pt := ⟨_, rfl⟩
    obtain ⟨pq, hpq⟩ : ∃ pq, (parse5 c).2.2.1 = pq := ⟨_, rfl⟩
    obtain ⟨pe, hpe⟩ : ∃ pe, (parse5 c).2.2.2 = pe := ⟨_, rfl⟩
    rw [hpk, hpt, hpq, hpe]
    have HKD : Hid (pe = 0 → pk = 1 ∨ pk = 2) := Lib.hid (by intro h; rw [← hpk]; exact parse5_kind (by rw [hpe]; exact h))
    generalize hm1 : ({ m with s := s1 } : Mo) = m1 at *
    have HCD : Hid (m1.cmd c = if pe ≠ 0 then m1 else if pk = 1 then (if m1.same pt = true ∧ (m1.lat = false ∨ m1.s.pend.length ≠ 0) then m1 else m1.light pt pq) else if m1.same pt = true then m1.dark else m1) := by
      show _ = _
      rw [← hpk, ← hpt, ← hpq, ← hpe]
      rfl
    clear hpk hpt hpq hpe hm1
    generalize m1.cmd c = m2 at *
    have hc := H.out.mo.mc
    have c1 := hc.c1
    have c3 := hc.c3
    clear hc
    go_upto_region 3 with fail
    go_cut [13] (fun v y => v = .bool (m1.same pt) ∧ y = y1)
    case first =>
      as_aux_lemma =>
        have HSM : Hid (m1.same pt = (m1.lit && decide (m1.tok = pt))) := rfl
        generalize m1.lit = lt at *
        generalize m1.tok = tk at *
        cases lt with
        | false =>
          go_wp2
          go_meet
          case rel => exact ⟨by rw [HSM.out]; rfl, rfl⟩
        | true =>
          have hs : m1.same pt = ((tk : Int) == (pt : Int)) := by
            rw [HSM.out]
            by_cases hq : tk = pt
            · subst hq; simp
            · have : ((tk : Int) == (pt : Int)) = false := by simp; omega
              rw [this]; simp [hq]
          have HE := Lib.hid hs
          clear hs HSM
          go_wp2
          go_meet
          case rel => exact ⟨by rw [HE.out], rfl⟩
    case rest =>
      obtain ⟨rfl, hy⟩ := hcut
      subst hy
      rename World => y1
      clear c1 c3
      generalize hsm : m1.same pt = sm at *
      have HSM := Lib.hid hsm
      clear hsm
      by_cases he : pe = 0
      rotate_left 1
      · as_aux_lemma =>
          have he' : (pe == 0) = false := by simp [he]
          have HM : Hid (m2 = m1) := by show _ = _; rw [HCD.out]; rw [if_pos he]
          clear HCD HKD
          go_upto_region 16 with fail
          have hg := rc8_of HG.out
          have p0 := hg.c0
          have p1 := hg.c1
          have p2 := hg.c2
          have p3 := hg.c3
          have p4 := hg.c4
          have p5 := hg.c5
          clear hg
          go_wp2_with (refine wpList_store_row rfl _ _ _ rfl R0 (rcs an) rfl rfl 42 (rcs noFrS) H.out.res rfl rfl (by simp [rcs, Value.oneCell']) ?_)
          have T := H.out.told an
          refine bodyPost_ret (results_row_one rfl _ _ R0 42 _ _ rfl T.1 ref_struct ref_size) rfl ?_
          exact HP.out _ _ rfl (by rw [HM.out]; exact T.2.1) T.2.2
      subst he
      have hk := HKD.out rfl
      rw [if_neg (by simp)] at HCD
      by_cases hk1 : pk = 1
      · subst hk1
        rw [if_pos rfl] at HCD
        cases sm with
        | false =>
          · as_aux_lemma =>
              have HM : Hid (m2 = m1.light pt pq) := by show _ = _; rw [HCD.out]; rw [if_neg (by simp)]
              clear HCD HKD
              go_upto_if 68 with fail
              go_cut [] (fun y => Hid (Rx8 y G an) ∧ Hid (Tmo w B R RS R0 (m1.light pt pq) y))
              case first =>
                have hc := H.out.mo.mc
                have d1 := hc.c1
                have d2 := hc.c2
                have d3 := hc.c3
                have d4 := hc.c4
                have d5 := hc.c5
                have f1 := hc.fz 1
                have f2 := hc.fz 2
                have f3 := hc.fz 3
                have f4 := hc.fz 4
                have f5 := hc.fz 5
                clear hc
                have h2 := H.out.put [(1, .bool true), (2, .bool false), (3, .int .u16 (pt : Int)), (4, .int .u16 (pq : Int)), (5, .int .u16 (pq : Int))] (m1.light pt pq) rfl rfl
                have hg2 := H.out.keepG HG.out [(1, .bool true), (2, .bool false), (3, .int .u16 (pt : Int)), (4, .int .u16 (pq : Int)), (5, .int .u16 (pq : Int))]
                simp only [sets, List.foldl] at h2 hg2
                have H2 := Lib.hid h2
                have HG2 := Lib.hid hg2
                clear h2 hg2
                go_wp2
                go_meet
                case rel => exact ⟨HG2, H2⟩
              case rest =>
                clear H HG
                obtain ⟨HG, H⟩ := hcut
                rename World => y2
                go_upto_region 16 with fail
                have hg := rc8_of HG.out
                have p0 := hg.c0
                have p1 := hg.c1
                have p2 := hg.c2
                have p3 := hg.c3
                have p4 := hg.c4
                have p5 := hg.c5
                clear hg
                go_wp2_with (refine wpList_store_row rfl _ _ _ rfl R0 (rcs an) rfl rfl 42 (rcs noFrS) H.out.res rfl rfl (by simp [rcs, Value.oneCell']) ?_)
                have T := H.out.told an
                refine bodyPost_ret (results_row_one rfl _ _ R0 42 _ _ rfl T.1 ref_struct ref_size) rfl ?_
                exact HP.out _ _ rfl (by rw [HM.out]; exact T.2.1) T.2.2
        | true =>
          have e2 := H.out.mo.mc.c2
          have e0 := H.out.mo.mc.c0
          have g4 := H.out.mo.sla.vc.c4
          cases hla : m1.lat with
          | false =>
            rw [hla] at e2
            · as_aux_lemma =>
                have HM : Hid (m2 = m1) := by show _ = _; rw [HCD.out]; rw [if_pos ⟨rfl, .inl hla⟩]
                clear HCD HKD
                go_upto_region 16 with fail
                have hg := rc8_of HG.out
                have p0 := hg.c0
                have p1 := hg.c1
                have p2 := hg.c2
                have p3 := hg.c3
                have p4 := hg.c4
                have p5 := hg.c5
                clear hg
                go_wp2_with (refine wpList_store_row rfl _ _ _ rfl R0 (rcs an) rfl rfl 42 (rcs noFrS) H.out.res rfl rfl (by simp [rcs, Value.oneCell']) ?_)
                have T := H.out.told an
                refine bodyPost_ret (results_row_one rfl _ _ R0 42 _ _ rfl T.1 ref_struct ref_size) rfl ?_
                exact HP.out _ _ rfl (by rw [HM.out]; exact T.2.1) T.2.2
          | true =>
            rw [hla] at e2
            by_cases hp : m1.s.pend = []
            · rw [hp] at g4
              · as_aux_lemma =>
                  have HM : Hid (m2 = m1.light pt pq) := by show _ = _; rw [HCD.out]; rw [if_neg (by rw [hp, hla]; simp)]
                  clear HCD HKD
                  go_upto_if 68 with fail
                  go_cut [] (fun y => Hid (Rx8 y G an) ∧ Hid (Tmo w B R RS R0 (m1.light pt pq) y))
                  case first =>
                    have hc := H.out.mo.mc
                    have d1 := hc.c1
                    have d2 := hc.c2
                    have d3 := hc.c3
                    have d4 := hc.c4
                    have d5 := hc.c5
                    have f1 := hc.fz 1
                    have f2 := hc.fz 2
                    have f3 := hc.fz 3
                    have f4 := hc.fz 4
                    have f5 := hc.fz 5
                    clear hc
                    have h2 := H.out.put [(1, .bool true), (2, .bool false), (3, .int .u16 (pt : Int)), (4, .int .u16 (pq : Int)), (5, .int .u16 (pq : Int))] (m1.light pt pq) rfl rfl
                    have hg2 := H.out.keepG HG.out [(1, .bool true), (2, .bool false), (3, .int .u16 (pt : Int)), (4, .int .u16 (pq : Int)), (5, .int .u16 (pq : Int))]
                    simp only [sets, List.foldl] at h2 hg2
                    have H2 := Lib.hid h2
                    have HG2 := Lib.hid hg2
                    clear h2 hg2
                    go_wp2
                    go_meet
                    case rel => exact ⟨HG2, H2⟩
                  case rest =>
                    clear H HG
                    obtain ⟨HG, H⟩ := hcut
                    rename World => y2
                    go_upto_region 16 with fail
                    have hg := rc8_of HG.out
                    have p0 := hg.c0
                    have p1 := hg.c1
                    have p2 := hg.c2
                    have p3 := hg.c3
                    have p4 := hg.c4
                    have p5 := hg.c5
                    clear hg
                    go_wp2_with (refine wpList_store_row rfl _ _ _ rfl R0 (rcs an) rfl rfl 42 (rcs noFrS) H.out.res rfl rfl (by simp [rcs, Value.oneCell']) ?_)
                    have T := H.out.told an
                    refine bodyPost_ret (results_row_one rfl _ _ R0 42 _ _ rfl T.1 ref_struct ref_size) rfl ?_
                    exact HP.out _ _ rfl (by rw [HM.out]; exact T.2.1) T.2.2
            · have hp1 : (m1.s.pend == []) = false := by cases hq : m1.s.pend with | nil => exact absurd hq hp | cons a t => rfl
              · as_aux_lemma =>
                  have HM : Hid (m2 = m1) := by show _ = _; rw [HCD.out]; rw [if_pos ⟨rfl, .inr (fun hh => hp (List.eq_nil_of_length_eq_zero hh))⟩]
                  clear HCD HKD
                  go_upto_region 16 with fail
                  have hg := rc8_of HG.out
                  have p0 := hg.c0
                  have p1 := hg.c1
                  have p2 := hg.c2
                  have p3 := hg.c3
                  have p4 := hg.c4
                  have p5 := hg.c5
                  clear hg
                  go_wp2_with (refine wpList_store_row rfl _ _ _ rfl R0 (rcs an) rfl rfl 42 (rcs noFrS) H.out.res rfl rfl (by simp [rcs, Value.oneCell']) ?_)
                  have T := H.out.told an
                  refine bodyPost_ret (results_row_one rfl _ _ R0 42 _ _ rfl T.1 ref_struct ref_size) rfl ?_
                  exact HP.out _ _ rfl (by rw [HM.out]; exact T.2.1) T.2.2
      · have hk2 : pk = 2 := by rcases hk with h | h; exact absurd h hk1; exact h
        subst hk2
        rw [if_neg (by decide)] at HCD
        clear hk hk1
        cases sm with
        | false =>
          · as_aux_lemma =>
              have HM : Hid (m2 = m1) := by show _ = _; rw [HCD.out]; rw [if_neg (by decide)]
              clear HCD HKD
              go_upto_region 16 with fail
              have hg := rc8_of HG.out
              have p0 := hg.c0
              have p1 := hg.c1
              have p2 := hg.c2
              have p3 := hg.c3
              have p4 := hg.c4
              have p5 := hg.c5
              clear hg
              go_wp2_with (refine wpList_store_row rfl _ _ _ rfl R0 (rcs an) rfl rfl 42 (rcs noFrS) H.out.res rfl rfl (by simp [rcs, Value.oneCell']) ?_)
              have T := H.out.told an
              refine bodyPost_ret (results_row_one rfl _ _ R0 42 _ _ rfl T.1 ref_struct ref_size) rfl ?_
              exact HP.out _ _ rfl (by rw [HM.out]; exact T.2.1) T.2.2
        | true =>
          · as_aux_lemma =>
              have HM : Hid (m2 = m1.dark) := by show _ = _; rw [HCD.out]; rw [if_pos rfl]
              clear HCD HKD
              go_upto_if 95 with fail
              go_cut [] (fun y => Hid (Rx8 y G an) ∧ Hid (Tmo w B R RS R0 (m1.dark) y))
              case first =>
                have hc := H.out.mo.mc
                have d1 := hc.c1
                have d2 := hc.c2
                have d3 := hc.c3
                have d4 := hc.c4
                have d5 := hc.c5
                have f1 := hc.fz 1
                have f2 := hc.fz 2
                have f3 := hc.fz 3
                have f4 := hc.fz 4
                have f5 := hc.fz 5
                clear hc
                have h2 := H.out.put [(1, .bool false), (2, .bool false), (3, .int .u16 0), (4, .int .u16 0), (5, .int .u16 0)] (m1.dark) rfl rfl
                have hg2 := H.out.keepG HG.out [(1, .bool false), (2, .bool false), (3, .int .u16 0), (4, .int .u16 0), (5, .int .u16 0)]
                simp only [sets, List.foldl] at h2 hg2
                have H2 := Lib.hid h2
                have HG2 := Lib.hid hg2
                clear h2 hg2
                go_wp2
                go_meet
                case rel => exact ⟨HG2, H2⟩
              case rest =>
                clear H HG
                obtain ⟨HG, H⟩ := hcut
                rename World => y2
                go_upto_region 16 with fail
                have hg := rc8_of HG.out
                have p0 := hg.c0
                have p1 := hg.c1
                have p2 := hg.c2
                have p3 := hg.c3
                have p4 := hg.c4
                have p5 := hg.c5
                clear hg
                go_wp2_with (refine wpList_store_row rfl _ _ _ rfl R0 (rcs an) rfl rfl 42 (rcs noFrS) H.out.res rfl rfl (by simp [rcs, Value.oneCell']) ?_)
                have T := H.out.told an
                refine bodyPost_ret (results_row_one rfl _ _ R0 42 _ _ rfl T.1 ref_struct ref_size) rfl ?_
                exact HP.out _ _ rfl (by rw [HM.out]; exact T.2.1) T.2.2
end Go.Proofs.Ytdcnmbglbopgdaa
