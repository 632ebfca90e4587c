/-
  slave's Take, as it landed: what it answers; all its calls at once (SlaCond).
-/
import Derived.Test.YtdcnmbglbopgdaaSlaL
import Derived.Deep.DeepCutAuto
namespace Go.Proofs.Ytdcnmbglbopgdaa
set_option linter.unusedVariables false
set_option linter.unusedSimpArgs false
open Go.RowKit

/-- A struct and two more, as a call hands them back: the struct lies in a row of its own. -/
theorem results_row_two {P : Program} {fn : Func} {p u v : Tmp} {ty : TypeId} (h : fn.results = #[.cell p ty, .tmp u, .tmp v]) (tmps : Array Value) (w : World) (g : Nat) (t : TypeId) (cs : Array Value) (fr : Nat × Nat)
    (hp : tmps.getD p undef = .pointer (some ⟨g, 0, none⟩)) (hg : w.heap[g]? = some (.cells cs t fr))
    (hu : ∃ fs, P.underlying ty = some (.struct fs)) (hi : (P.info? ty).map (·.size) = some cs.size) :
    (results fn tmps).run P w = .ok (.tuple #[.agg cs, tmps.getD u undef, tmps.getD v undef]) w := by
  obtain ⟨fs, hu⟩ := hu
  have e : (results fn tmps).run P w = ((asAddr (tmps.getD p undef)).run P w).andThen fun a w₁ => ((loadVar ty a).run P w₁).andThen fun x w₂ => .ok (.tuple #[x, tmps.getD u undef, tmps.getD v undef]) w₂ := by
    simp only [results, h]
    simp [Sem.run_bind, Result.andThen]
  rw [e, hp]
  simp [asAddr, Result.andThen, run_loadVar_row w g t ty cs fr _ hg hu rfl hi]

/-- What Take answers. -/
def STakePost (w : World) (B D : Nat) (s : Sl) (f : Fr) (e : Ending) (w' : World) : Prop :=
  ∃ A1 c1 A2 c2, e = .returned (.tuple #[.agg (fcs (takeS s f).2.1 (.slice A1 (takeS s f).2.1.b.length c1)), .slice A2 (takeS s f).2.2.1.length c2, .bool (takeS s f).2.2.2]) ∧ w'.ownsRow w.heap.size 5 1 (.slice A1 (takeS s f).2.1.b.length c1) (takeS s f).2.1.b.length (bcs (takeS s f).2.1.b) ∧
    w'.ownsRow w.heap.size 5 1 (.slice A2 (takeS s f).2.2.1.length c2) (takeS s f).2.2.1.length (bcs (takeS s f).2.2.1) ∧ Sv w' B D (takeS s f).1 ∧ Ft B [85] w w'

/-- While it takes: the slave, the frame at X, its bytes, the answer at R. -/
structure Tk (w : World) (B D : Nat) (s : Sl) (X R : Nat) (f : Fr) (A : Option Addr) (c : Nat) (x : World) : Prop where
  sla : Sv x B D s
  box : Fx x X f (.slice A f.b.length c)
  res : Fx x R ⟨0, 0, 0, 0, 0, []⟩ (.slice none 0 0)
  hb : Hb x B A f.b
  ft : Ft B [85] w x
  lt : w.heap.size ≤ R
theorem Tk.step {w x y : World} {B D X R c : Nat} {s : Sl} {f : Fr} {A : Option Addr} (h : Tk w B D s X R f A c x) (hb : Below x.heap.size x y) : Tk w B D s X R f A c y := ⟨h.sla.step hb, h.box.step hb, h.res.step hb, h.hb.step hb, h.ft.step hb, h.lt⟩
theorem Tk.turn {w x y : World} {B D X R c : Nat} {s s' : Sl} {f : Fr} {A : Option Addr} (h : Tk w B D s X R f A c x) (hm : Sv y B D s') (hf : Ft B [85] x y) : Tk w B D s' X R f A c y := ⟨hm, h.box.ft hf (by decide), h.res.ft hf (by decide), h.hb.ft hf (by decide), h.ft.trans hf, h.lt⟩
/-- The answer, once set. -/
theorem Tk.told {w x : World} {B D X R c : Nat} {s : Sl} {f : Fr} {A : Option Addr} (h : Tk w B D s X R f A c x) (l : List (Nat × Value)) (f' : Fr) (V' : Value) (hc : setsA l (fcs ⟨0, 0, 0, 0, 0, []⟩ (.slice none 0 0)) = fcs f' V') :
    (sets R l x).heap[R]? = some (.cells (fcs f' V') 36 (0, 0)) ∧ Ft B [85] w (sets R l x) ∧ Ft 0 [36] x (sets R l x) ∧ Sv (sets R l x) B D s := by
  obtain ⟨h1, h2⟩ := sets_row l h.res
  rw [hc] at h1
  have hft : Ft 0 [36] x (sets R l x) := Ft.of_ch h2 (fun y hy _ => by simp at hy; subst hy; exact ⟨Nat.zero_le _, _, _, _, h.res, by simp⟩)
  have hlt := h.lt
  have hch : Ch [] w (sets R l x) → True := fun _ => trivial
  refine ⟨h1, ?_, hft, h.sla.ft hft (by decide) (by decide)⟩
  refine ⟨h2.os.trans h.ft.os, h2.tape.trans h.ft.tape, h2.output.trans h.ft.output, Nat.le_trans h.ft.size h2.size, fun k hk hb => ?_⟩
  rw [h2.block k (Nat.lt_of_lt_of_le hk h.ft.size) (by simp; omega)]
  exact h.ft.block k hk hb

set_option maxRecDepth 20000 in
set_option maxHeartbeats 3200000 in
theorem stake_on {w : World} {B D c : Nat} {s : Sl} {f : Fr} {A : Option Addr} (h : Sv w B D s) (hN : s.Ok) (hb : Hb w B A f.b) (hfl : f.b.length ≤ 1000000) : Calls Try.prog 35 #[.pointer (some ⟨D, 0, none⟩), .agg (fcs f (.slice A f.b.length c))] w (STakePost w B D s f) := by
  have HP : Hid (∀ e w' r, takeS s f = r → ((∃ A1 c1 A2 c2, e = .returned (.tuple #[.agg (fcs r.2.1 (.slice A1 r.2.1.b.length c1)), .slice A2 r.2.2.1.length c2, .bool r.2.2.2]) ∧ w'.ownsRow w.heap.size 5 1 (.slice A1 r.2.1.b.length c1) r.2.1.b.length (bcs r.2.1.b) ∧
    w'.ownsRow w.heap.size 5 1 (.slice A2 r.2.2.1.length c2) r.2.2.1.length (bcs r.2.2.1) ∧ Sv w' B D r.1 ∧ Ft B [85] w w') → STakePost w B D s f e w')) := by
    rintro e w' r rfl hh
    exact hh
  have HM : Hid (takeS s f = if f.a ≠ s.addr ∨ f.k < 1 ∨ 3 < f.k then (s, noFrS, [], false)
    else if f.k = 1 then ({ s with ses := f.s, tell := 0, nx := 0 }, ⟨s.addr, 4, f.s, 0, 0, []⟩, [], true)
    else if f.s ≠ s.ses ∨ s.ses = 0 then (s, ⟨s.addr, 5, s.ses, 0, 0, []⟩, [], true)
    else ((cmdS (gotS s f.c) f).1, ansS (cmdS (gotS s f.c) f).1, (cmdS (gotS s f.c) f).2, true)) := rfl
  have HB := Lib.hid (new_below w (.cells (fcs f (.slice A f.b.length c)) 36))
  have HB1 := Lib.hid (new_below (w.alloc (.cells (fcs f (.slice A f.b.length c)) 36)) (.cells noFr 36))
  have H0 : Hid (Tk w B D s w.heap.size (w.heap.size + 1) f A c ((w.alloc (.cells (fcs f (.slice A f.b.length c)) 36)).alloc (.cells noFr 36))) := by
    have k := heap_alloc_new (w.alloc (.cells (fcs f (.slice A f.b.length c)) 36)) (.cells noFr 36)
    rw [show (w.alloc (.cells (fcs f (.slice A f.b.length c)) 36)).heap.size = w.heap.size + 1 by simp] at k
    exact ⟨(h.step HB.out).step HB1.out, Fx.step (heap_alloc_new w _) HB1.out, k, (hb.step HB.out).step HB1.out, (Ft.of_below HB.out).step HB1.out, Nat.le_succ _⟩
  have HN := Lib.hid hN
  have HFL := Lib.hid hfl
  clear h hb hN HB HB1 hfl
  generalize STakePost w B D s f = Q at *
  generalize takeS s f = r at *
  go_enter Try.func35, Try.ntmps35
  go_upto_region 1 with fail
  replace H0 := Lib.hid (H0.out.step (drew_below _))
  obtain ⟨A1, cc1, hc⟩ := H0.out.sla.sc
  have c3 := hc.c3
  have e0 := H0.out.box.fc.c0
  clear hc
  generalize hX : w.heap.size = X at *
  refine region_plan [(true, 0), (true, 1), (true, 2), (true, 3), (true, 4), (true, 5), (true, 6)]
    (fun y => y.cell? ⟨X, 0, none⟩ = some (.int .u8 (f.a : Int)) ∧ y.cell? ⟨D, 3, none⟩ = some (.int .u8 (s.addr : Int))) (by kernel_rfl) (by kernel_rfl) (by kernel_rfl) rfl ⟨e0, c3⟩ ?_
  clear c3 e0
  generalize World.drew _ = x1 at *
  have HXR : Hid (X = w.heap.size) := hX.symm
  clear hX
  have HW1 : Hid (X ≤ x1.heap.size) := by show _ ≤ _; rw [HXR.out]; exact H0.out.ft.size
  generalize hR : X + 1 = R at *
  clear hR
  iterate 7 (refine Plan.take (v := ?_) rfl (by rfl) ?_ ?_; rotate_left 1; (focus (intro x hx; go_simp <;> (first | with_reducible rfl | rw [if_pos (by omega)]))); simp only [Act.put, List.setIfInBounds_toArray, List.set_cons_zero, List.set_cons_succ])
  refine Plan.done ?_
  by_cases ha : f.a = s.addr
  rotate_left 1
  · rw [if_pos (.inl ha)] at HM
    have ha' : ((f.a : Int) != (s.addr : Int)) = true := by simp; omega
    have hfR := H0.out.res.fc
    have r0 := hfR.c0
    have r1 := hfR.c1
    have r2 := hfR.c2
    have r3 := hfR.c3
    have r4 := hfR.c4
    have r5 := hfR.c5
    have q0 := hfR.fz 0
    have q1 := hfR.fz 1
    have q2 := hfR.fz 2
    have q3 := hfR.fz 3
    have q4 := hfR.fz 4
    have q5 := hfR.fz 5
    clear hfR
    go_wp2
    have T := H0.out.told [(0, .int .u8 0), (1, .int .u8 0), (2, .int .u8 0), (3, .int .u8 0), (4, .int .u8 0), (5, .slice none 0 0)] noFrS (.slice none 0 0) rfl
    refine bodyPost_ret (results_row_two rfl _ _ R 36 _ _ rfl T.1 frame_struct frame_size) rfl ?_
    refine HP.out _ _ _ HM.out ⟨none, 0, none, 0, rfl, World.ownsRow_nil _ _ _ _, World.ownsRow_nil _ _ _ _, T.2.2.2, T.2.1⟩
  have ha' : ((f.a : Int) != (s.addr : Int)) = false := by simp; omega
  have e1 := H0.out.box.fc.c1
  by_cases hk1 : f.k = 1
  · rw [if_neg (by omega), if_pos hk1] at HM
    rw [hk1] at e1
    go_upto_region 5 with fail
    replace H0 := Lib.hid (H0.out.step (drew_below x1))
    have e2 := H0.out.box.fc.c2
    refine region_plan [(true, 0), (true, 1), (true, 2), (true, 3), (true, 4), (false, 5)]
      (fun y => y.cell? ⟨X, 2, none⟩ = some (.int .u8 (f.s : Int))) (by kernel_rfl) (by kernel_rfl) (by kernel_rfl) rfl e2 ?_
    clear e1 e2 ha'
    generalize x1.drew = x2 at *
    iterate 5 (refine Plan.take (v := ?_) rfl (by rfl) ?_ ?_; rotate_left 1; (focus (intro x hx; go_simp <;> (first | with_reducible rfl | rw [if_pos (by omega)]))); simp only [Act.put, List.setIfInBounds_toArray, List.set_cons_zero, List.set_cons_succ])
    refine Plan.loud rfl (fun K hK => ?_)
    go_simp
    refine (sbegin_on (n := f.s) H0.out.sla).mono ?_
    rintro e x3 ⟨rfl, g1, g2⟩
    have H3 := Lib.hid (H0.out.turn g1 g2)
    refine hK.out _ _ _ (fun x hx => hx) H3.out.box.fc.c2 ?_
    clear hK K g1 g2 H0
    refine Plan.done ?_
    go_wp2_with fail
    refine (sanswer_on H3.out.sla).mono ?_
    rintro e x4 ⟨rfl, hb4⟩
    have H4 := Lib.hid (H3.out.step hb4)
    clear hb4 H3
    simp only
    have hfR := H4.out.res.fc
    have r0 := hfR.c0
    have r1 := hfR.c1
    have r2 := hfR.c2
    have r3 := hfR.c3
    have r4 := hfR.c4
    have r5 := hfR.c5
    have q0 := hfR.fz 0
    have q1 := hfR.fz 1
    have q2 := hfR.fz 2
    have q3 := hfR.fz 3
    have q4 := hfR.fz 4
    have q5 := hfR.fz 5
    clear hfR
    go_wp2
    have T := H4.out.told [(0, .int .u8 (s.addr : Int)), (1, .int .u8 4), (2, .int .u8 (f.s : Int)), (3, .int .u8 0), (4, .int .u8 0), (5, .slice none 0 0)] ⟨s.addr, 4, f.s, 0, 0, []⟩ (.slice none 0 0) rfl
    refine bodyPost_ret (results_row_two rfl _ _ R 36 _ _ rfl T.1 frame_struct frame_size) rfl ?_
    refine HP.out _ _ _ HM.out ⟨none, 0, none, 0, rfl, World.ownsRow_nil _ _ _ _, World.ownsRow_nil _ _ _ _, T.2.2.2, T.2.1⟩
  by_cases hk : f.k = 2 ∨ f.k = 3
  rotate_left 1
  · rw [if_pos (by omega)] at HM
    have k1 : ((f.k : Int) == 1) = false := by simp; omega
    have k2 : ((f.k : Int) == 2) = false := by simp; omega
    have k3 : ((f.k : Int) == 3) = false := by simp; omega
    have hfR := H0.out.res.fc
    have r0 := hfR.c0
    have r1 := hfR.c1
    have r2 := hfR.c2
    have r3 := hfR.c3
    have r4 := hfR.c4
    have r5 := hfR.c5
    have q0 := hfR.fz 0
    have q1 := hfR.fz 1
    have q2 := hfR.fz 2
    have q3 := hfR.fz 3
    have q4 := hfR.fz 4
    have q5 := hfR.fz 5
    clear hfR
    go_wp2
    have T := H0.out.told [(0, .int .u8 0), (1, .int .u8 0), (2, .int .u8 0), (3, .int .u8 0), (4, .int .u8 0), (5, .slice none 0 0)] noFrS (.slice none 0 0) rfl
    refine bodyPost_ret (results_row_two rfl _ _ R 36 _ _ rfl T.1 frame_struct frame_size) rfl ?_
    refine HP.out _ _ _ HM.out ⟨none, 0, none, 0, rfl, World.ownsRow_nil _ _ _ _, World.ownsRow_nil _ _ _ _, T.2.2.2, T.2.1⟩
  rw [if_neg (by omega), if_neg hk1] at HM
  have k1 : ((f.k : Int) == 1) = false := by simp; omega
  clear ha hk1
  go_upto_region 7 with fail
  go_cut [28] (fun v y => v = .bool ((f.k : Int) == 2) ∧ y = x1)
  case first =>
    go_wp2
    go_meet
    case rel => exact ⟨rfl, rfl⟩
  case rest =>
    obtain ⟨rfl, rfl⟩ := hcut
    rename World => x1
    go_upto_if 28 with fail
    go_cut [28] (fun v y => v = .bool true ∧ y = x1)
    case first =>
      rcases hk with hk | hk
      · have k2 : (f.k : Int) = 2 := by omega
        clear hk
        go_wp2
        go_meet
        case rel => exact ⟨by rw [k2]; rfl, rfl⟩
      · have k2 : (f.k : Int) = 3 := by omega
        clear hk
        go_wp2
        go_meet
        case rel => exact ⟨rfl, rfl⟩
    case rest =>
      obtain ⟨rfl, rfl⟩ := hcut
      clear e1 k1 hk ha'
      go_upto_region 9 with fail
      rename World => x1
      replace H0 := Lib.hid (H0.out.step (drew_below x1))
      replace HW1 : Hid (X ≤ x1.drew.heap.size) := HW1.out
      have e2 := H0.out.box.fc.c2
      refine region_plan [(true, 0), (true, 1), (true, 2), (true, 3), (true, 4), (false, 5), (true, 6)]
        (fun y => y.cell? ⟨X, 2, none⟩ = some (.int .u8 (f.s : Int))) (by kernel_rfl) (by kernel_rfl) (by kernel_rfl) rfl e2 ?_
      clear e2
      generalize x1.drew = x2 at *
      iterate 5 (refine Plan.take (v := ?_) rfl (by rfl) ?_ ?_; rotate_left 1; (focus (intro x hx; go_simp <;> (first | with_reducible rfl | rw [if_pos (by omega)]))); simp only [Act.put, List.setIfInBounds_toArray, List.set_cons_zero, List.set_cons_succ])
      refine Plan.loud rfl (fun K hK => ?_)
      go_simp
      refine (slasts_on (n := f.s) H0.out.sla).mono ?_
      rintro e x3 ⟨rfl, rfl⟩
      refine hK.out _ _ _ (fun x hx => hx) H0.out.box.fc.c2 ?_
      clear hK K
      by_cases hs : s.ses ≠ 0 ∧ f.s = s.ses
      rotate_left 1
      · rw [if_pos (by omega)] at HM
        have hd : decide (s.ses ≠ 0 ∧ f.s = s.ses) = false := by simpa using hs
        rw [hd]
        iterate 1 (refine Plan.take (v := ?_) rfl (by rfl) ?_ ?_; rotate_left 1; (focus (intro x hx; go_simp <;> (first | with_reducible rfl | rw [if_pos (by omega)]))); simp only [Act.put, List.setIfInBounds_toArray, List.set_cons_zero, List.set_cons_succ])
        refine Plan.done ?_
        go_wp2_with fail
        refine (sanswer_on H0.out.sla).mono ?_
        rintro e x4 ⟨rfl, hb4⟩
        have H4 := Lib.hid (H0.out.step hb4)
        clear hb4 H0 hd hs
        have hfR := H4.out.res.fc
        have r0 := hfR.c0
        have r1 := hfR.c1
        have r2 := hfR.c2
        have r3 := hfR.c3
        have r4 := hfR.c4
        have r5 := hfR.c5
        have q0 := hfR.fz 0
        have q1 := hfR.fz 1
        have q2 := hfR.fz 2
        have q3 := hfR.fz 3
        have q4 := hfR.fz 4
        have q5 := hfR.fz 5
        clear hfR
        go_wp2
        have T := H4.out.told [(0, .int .u8 (s.addr : Int)), (1, .int .u8 5), (2, .int .u8 (s.ses : Int)), (3, .int .u8 0), (4, .int .u8 0), (5, .slice none 0 0)] ⟨s.addr, 5, s.ses, 0, 0, []⟩ (.slice none 0 0) rfl
        refine bodyPost_ret (results_row_two rfl _ _ R 36 _ _ rfl T.1 frame_struct frame_size) rfl ?_
        refine HP.out _ _ _ HM.out ⟨none, 0, none, 0, rfl, World.ownsRow_nil _ _ _ _, World.ownsRow_nil _ _ _ _, T.2.2.2, T.2.1⟩
      · rw [if_neg (by omega)] at HM
        have hd : decide (s.ses ≠ 0 ∧ f.s = s.ses) = true := by simpa using hs
        rw [hd]
        iterate 1 (refine Plan.take (v := ?_) rfl (by rfl) ?_ ?_; rotate_left 1; (focus (intro x hx; go_simp <;> (first | with_reducible rfl | rw [if_pos (by omega)]))); simp only [Act.put, List.setIfInBounds_toArray, List.set_cons_zero, List.set_cons_succ])
        refine Plan.done ?_
        clear hd hs
        have e4 := H0.out.box.fc.c4
        go_wp2_with fail
        refine (ssettle_on H0.out.sla HN.out.tell f.c).mono ?_
        rintro e x4 ⟨rfl, g1, g2⟩
        have H4 := Lib.hid (H0.out.turn g1 g2)
        have HN4 := Lib.hid (gotS_ok HN.out f.c)
        have HW4 : Hid (X ≤ x4.heap.size) := Nat.le_trans HW1.out g2.size
        clear g1 g2 H0 HW1 e4
        have hfA := H4.out.box.fc
        have e0 := hfA.c0
        have e1 := hfA.c1
        have e2 := hfA.c2
        have e3 := hfA.c3
        have e4 := hfA.c4
        have e5 := hfA.c5
        clear hfA
        go_wp2_with fail
        refine (sfresh_on (f := f) H4.out.sla HN4.out.nx H4.out.hb HFL.out).mono ?_
        rintro e x5 ⟨A5, c5, rfl, ho, g1, g2⟩
        have HO5 := Lib.hid (own_mono ho HW4.out)
        have H5 := Lib.hid (H4.out.turn g1 g2)
        have HN5 := Lib.hid (cmdS_ok HN4.out f)
        have HW5 : Hid (X ≤ x5.heap.size) := Nat.le_trans HW4.out g2.size
        clear ho g1 g2 e0 e1 e2 e3 e4 e5 H4 HN4 HW4
        generalize cmdS (gotS s f.c) f = cs at *
        go_wp2_with fail
        refine (sreply_on H5.out.sla HN5.out.pend).mono ?_
        rintro e x6 ⟨A6, c6, rfl, ho, hb6⟩
        have H6 := Lib.hid (H5.out.step hb6)
        have HO6 := Lib.hid (own_mono ho HW5.out)
        have HO56 := Lib.hid (own_ft (B := 0) (T := []) HO5.out (Ft.of_below hb6) (by simp))
        clear ho hb6 H5 HO5 HW5
        obtain ⟨s1, out⟩ := cs
        simp only at *
        have hfR := H6.out.res.fc
        have r0 := hfR.c0
        have r1 := hfR.c1
        have r2 := hfR.c2
        have r3 := hfR.c3
        have r4 := hfR.c4
        have r5 := hfR.c5
        have q0 := hfR.fz 0
        have q1 := hfR.fz 1
        have q2 := hfR.fz 2
        have q3 := hfR.fz 3
        have q4 := hfR.fz 4
        have q5 := hfR.fz 5
        clear hfR
        go_wp2
        have T := H6.out.told [(0, .int .u8 (s1.addr : Int)), (1, .int .u8 5), (2, .int .u8 (s1.ses : Int)), (3, .int .u8 (s1.tell : Int)), (4, .int .u8 (s1.nx : Int)), (5, .slice A6 s1.pend.length c6)] (ansS s1) (.slice A6 s1.pend.length c6) rfl
        refine bodyPost_ret (results_row_two rfl _ _ R 36 _ _ rfl T.1 frame_struct frame_size) rfl ?_
        refine HP.out _ _ _ HM.out ⟨A6, c6, A5, c5, rfl, own_ft HO6.out T.2.2.1 (by decide), own_ft HO56.out T.2.2.1 (by decide), T.2.2.2, T.2.1⟩

end Go.Proofs.Ytdcnmbglbopgdaa
