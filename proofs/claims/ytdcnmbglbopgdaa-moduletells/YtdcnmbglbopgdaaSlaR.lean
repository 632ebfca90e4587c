/-
  The document's slave (lamplightref08.Slave) in memory; New, Offer, Take, as they stand: what they answer.
-/
import Derived.Test.YtdcnmbglbopgdaaSlaV
namespace Go.Proofs.Ytdcnmbglbopgdaa
set_option linter.unusedVariables false
set_option linter.unusedSimpArgs false
open Go.RowKit

abbrev rscs (s : Sl) : Array Value := #[.int .u8 (s.addr : Int), .int .u8 (s.ses : Int), .int .u8 (s.tell : Int), .int .u8 (s.nx : Int), .string ⟨s.pend.toArray⟩]
/-- The document's slave at R, from B on. -/
structure Rv (w : World) (B R : Nat) (s : Sl) : Prop where
  le : B ≤ R
  row : w.heap[R]? = some (.cells (rscs s) 98 (0, 0))
theorem Rv.ft {w w' : World} {B B' R : Nat} {T : List TypeId} {s : Sl} (h : Rv w B R s) (hc : Ft B' T w w') (h1 : 98 ∉ T) : Rv w' B R s := ⟨h.le, hc.keep h.row h1⟩
theorem Rv.step {w w' : World} {B R : Nat} {s : Sl} (h : Rv w B R s) (hb : Below w.heap.size w w') : Rv w' B R s := h.ft (B' := 0) (T := []) (Ft.of_below hb) (by simp)
theorem Rv.lt {w : World} {B R : Nat} {s : Sl} (h : Rv w B R s) : R < w.heap.size := (Array.getElem?_eq_some_iff.1 h.row).1
structure Rvc (w : World) (R : Nat) (s : Sl) : Prop where
  c0 : w.cell? ⟨R, 0, none⟩ = some (.int .u8 (s.addr : Int))
  c1 : w.cell? ⟨R, 1, none⟩ = some (.int .u8 (s.ses : Int))
  c2 : w.cell? ⟨R, 2, none⟩ = some (.int .u8 (s.tell : Int))
  c3 : w.cell? ⟨R, 3, none⟩ = some (.int .u8 (s.nx : Int))
  c4 : w.cell? ⟨R, 4, none⟩ = some (.string ⟨s.pend.toArray⟩)
  fz : ∀ i, w.frozen? ⟨R, i, none⟩ = false
theorem Rv.vc {w : World} {B R : Nat} {s : Sl} (h : Rv w B R s) : Rvc w R s := by
  have k := h.row
  constructor
  all_goals first | (simp [World.cell?, k]; done) | (intro i; simp [World.frozen?, k])
theorem Rv.turn {w : World} {B R : Nat} {s : Sl} (h : Rv w B R s) (l : List (Nat × Value)) (s' : Sl) (hc : setsA l (rscs s) = rscs s') : Rv (sets R l w) B R s' ∧ Ft B [98] w (sets R l w) := by
  obtain ⟨h1, h2⟩ := sets_row l h.row
  rw [hc] at h1
  exact ⟨⟨h.le, h1⟩, Ft.of_ch h2 (fun y hy _ => by simp at hy; subst hy; exact ⟨h.le, _, _, _, h.row, by simp⟩)⟩
abbrev rnoFr : Array Value := #[.int .u8 0, .int .u8 0, .int .u8 0, .int .u8 0, .int .u8 0, .string ⟨#[]⟩]
abbrev Rx8 (w : World) (X : Nat) (f : Fr) : Prop := w.heap[X]? = some (.cells (rcs f) 42 (0, 0))
structure Rc8 (w : World) (X : Nat) (f : Fr) : Prop where
  c0 : w.cell? ⟨X, 0, none⟩ = some (.int .u8 (f.a : Int))
  c1 : w.cell? ⟨X, 1, none⟩ = some (.int .u8 (f.k : Int))
  c2 : w.cell? ⟨X, 2, none⟩ = some (.int .u8 (f.s : Int))
  c3 : w.cell? ⟨X, 3, none⟩ = some (.int .u8 (f.q : Int))
  c4 : w.cell? ⟨X, 4, none⟩ = some (.int .u8 (f.c : Int))
  c5 : w.cell? ⟨X, 5, none⟩ = some (.string ⟨f.b.toArray⟩)
  fz : ∀ i, w.frozen? ⟨X, i, none⟩ = false
theorem rc8_of {w : World} {X : Nat} {f : Fr} (h : Rx8 w X f) : Rc8 w X f := by
  unfold Rx8 at h
  constructor
  all_goals first | (simp [World.cell?, h]; done) | (intro i; simp [World.frozen?, h])

theorem rnew_on {w : World} {a : Nat} : Calls Try.prog 34 #[.int .u8 (a : Int)] w fun e w' => e = .returned (.pointer (some ⟨w.heap.size, 0, none⟩)) ∧ Rv w' w.heap.size w.heap.size (newS a) ∧ Below w.heap.size w w' := by
  unfold newS
  go_enter Try.func34, Try.ntmps34
  go_wp2
  go_ret
  exact ⟨rfl, ⟨Nat.le_refl _, heap_alloc_new w _⟩, new_below _ _⟩

set_option maxRecDepth 20000 in
set_option maxHeartbeats 1600000 in
theorem roffer_on {w : World} {B R : Nat} {s : Sl} {l : List UInt8} (h : Rv w B R s) : Calls Try.prog 41 #[.pointer (some ⟨R, 0, none⟩), .string ⟨l.toArray⟩] w fun e w' => e = .returned (.int .i64 (offerS s l).2) ∧ Rv w' B R (offerS s l).1 ∧ Ft B [98] w w' := by
  have HM : Hid (offerS s l = if l.length = 0 ∨ 24 < l.length then (s, 1) else if s.pend.length ≠ 0 then (s, 5) else ({ s with pend := l }, 0)) := rfl
  have H := Lib.hid h
  have c4 := h.vc.c4
  have f4 := h.vc.fz 4
  have K := Lib.hid (h.turn [(4, .string ⟨l.toArray⟩)] { s with pend := l } rfl)
  clear h
  generalize hr : offerS s l = r at *
  clear hr
  by_cases hb : l.length = 0 ∨ 24 < l.length
  · have HRR : Hid (r = (s, 1)) := by show _ = _; rw [HM.out, if_pos hb]
    clear HM
    by_cases hn0 : l.length = 0
    · have hln : l = [] := List.eq_nil_of_length_eq_zero hn0
      subst hln
      go_enter Try.func41, Try.ntmps41
      go_wp2
      go_ret
      rw [HRR.out]
      exact ⟨rfl, H.out, Ft.refl _ _ _⟩
    · have i1 : (l == []) = false := by cases l with | nil => simp at hn0 | cons a t => rfl
      have i3 : ¬ l = [] := by rintro rfl; simp at hn0
      have i2 : (24 : Int) < (l.length : Int) := by omega
      go_enter Try.func41, Try.ntmps41
      go_wp2
      go_ret
      rw [HRR.out]
      exact ⟨rfl, H.out, Ft.refl _ _ _⟩
  · have i1 : (l == []) = false := by cases l with | nil => simp at hb | cons a t => rfl
    have i3 : ¬ l = [] := by rintro rfl; simp at hb
    have i2 : ¬ (24 : Int) < (l.length : Int) := by omega
    rw [if_neg hb] at HM
    by_cases hp : s.pend = []
    · have HRR : Hid (r = ({ s with pend := l }, 0)) := by show _ = _; rw [HM.out, if_neg (by rw [hp]; simp)]
      clear HM
      rw [hp] at c4
      clear hp
      go_enter Try.func41, Try.ntmps41
      go_wp2
      go_ret
      rw [HRR.out]
      exact ⟨rfl, K.out⟩
    · have HRR : Hid (r = (s, 5)) := by show _ = _; rw [HM.out, if_pos (by intro hh; exact hp (List.eq_nil_of_length_eq_zero hh))]
      clear HM
      have p1 : (s.pend == []) = false := by cases hq : s.pend with | nil => exact absurd hq hp | cons a t => rfl
      go_enter Try.func41, Try.ntmps41
      go_wp2
      go_ret
      rw [HRR.out]
      exact ⟨rfl, H.out, Ft.refl _ _ _⟩

/-- While it takes: the slave, the frame at X, what it answers at R0. -/
structure Tr (w : World) (B R : Nat) (s : Sl) (X R0 : Nat) (f : Fr) (x : World) : Prop where
  sla : Rv x B R s
  box : Rx8 x X f
  res : Rx8 x R0 noFrS
  ft : Ft B [98] w x
  lt : w.heap.size ≤ R0
theorem Tr.step {w x y : World} {B R X R0 : Nat} {s : Sl} {f : Fr} (h : Tr w B R s X R0 f x) (hb : Below x.heap.size x y) : Tr w B R s X R0 f y :=
  ⟨h.sla.step hb, (hb.block X (Array.getElem?_eq_some_iff.1 h.box).1).trans h.box, (hb.block R0 (Array.getElem?_eq_some_iff.1 h.res).1).trans h.res, h.ft.step hb, h.lt⟩
theorem Tr.turn {w x y : World} {B R X R0 : Nat} {s s' : Sl} {f : Fr} (h : Tr w B R s X R0 f x) (hm : Rv y B R s') (hf : Ft B [98] x y) : Tr w B R s' X R0 f y :=
  ⟨hm, hf.keep h.box (by decide), hf.keep h.res (by decide), h.ft.trans hf, h.lt⟩
/-- A frame of a call's own is set. -/
theorem Ft.own {w x : World} {B X : Nat} {f : Fr} (hft : Ft B [98] w x) (hX : w.heap.size ≤ X) (h : Rx8 x X f) (l : List (Nat × Value)) (f' : Fr) (hc : setsA l (rcs f) = rcs f') :
    Rx8 (sets X l x) X f' ∧ Ft B [98] w (sets X l x) ∧ Ft 0 [42] x (sets X l x) ∧ Ch [X] x (sets X l x) := by
  obtain ⟨h1, h2⟩ := sets_row l h
  rw [hc] at h1
  refine ⟨h1, ⟨h2.os.trans hft.os, h2.tape.trans hft.tape, h2.output.trans hft.output, Nat.le_trans hft.size h2.size, fun k hk hb => ?_⟩, Ft.of_ch h2 (fun y hy _ => by simp at hy; subst hy; exact ⟨Nat.zero_le _, _, _, _, h, by simp⟩), h2⟩
  rw [h2.block k (Nat.lt_of_lt_of_le hk hft.size) (by simp; omega)]
  exact hft.block k hk hb
/-- What is left of it when the frame is read. -/
structure Tq (w : World) (B R : Nat) (s : Sl) (R0 : Nat) (x : World) : Prop where
  sla : Rv x B R s
  res : Rx8 x R0 noFrS
  ft : Ft B [98] w x
  lt : w.heap.size ≤ R0
theorem Tr.q {w x : World} {B R X R0 : Nat} {s : Sl} {f : Fr} (h : Tr w B R s X R0 f x) : Tq w B R s R0 x := ⟨h.sla, h.res, h.ft, h.lt⟩
abbrev six8 (f' : Fr) : List (Nat × Value) := [(0, .int .u8 (f'.a : Int)), (1, .int .u8 (f'.k : Int)), (2, .int .u8 (f'.s : Int)), (3, .int .u8 (f'.q : Int)), (4, .int .u8 (f'.c : Int)), (5, .string ⟨f'.b.toArray⟩)]
theorem Tq.told {w x : World} {B R R0 : Nat} {s : Sl} (h : Tq w B R s R0 x) (f' : Fr) :
    Rx8 (sets R0 (six8 f') x) R0 f' ∧ Rv (sets R0 (six8 f') x) B R s ∧ Ft B [98] w (sets R0 (six8 f') x) := by
  obtain ⟨h1, h2, h3, _⟩ := h.ft.own h.lt h.res (six8 f') f' (by simp [setsA])
  exact ⟨h1, h.sla.ft h3 (by decide), h2⟩
/-- The same where the row is set as a whole. -/
theorem Tq.row {w x : World} {B R R0 : Nat} {s : Sl} (h : Tq w B R s R0 x) (f' : Fr) :
    Rx8 (x.setRow R0 (rcs f')) R0 f' ∧ Rv (x.setRow R0 (rcs f')) B R s ∧ Ft B [98] w (x.setRow R0 (rcs f')) := by
  have h1 := setRow_heap x R0 _ (rcs f') _ _ h.res
  have h2 : Ch [R0] x (x.setRow R0 (rcs f')) := ⟨rfl, rfl, rfl, Nat.le_of_eq (size_setRow x R0 _).symm, fun k _ hf => setRow_other x R0 k _ (by simpa using hf)⟩
  have h3 : Ft 0 [42] x (x.setRow R0 (rcs f')) := Ft.of_ch h2 (fun y hy _ => by simp at hy; subst hy; exact ⟨Nat.zero_le _, _, _, _, h.res, by simp⟩)
  refine ⟨h1, h.sla.ft h3 (by decide), h2.os.trans h.ft.os, h2.tape.trans h.ft.tape, h2.output.trans h.ft.output, Nat.le_trans h.ft.size h2.size, fun k hk hb => ?_⟩
  have hl := h.lt
  rw [h2.block k (Nat.lt_of_lt_of_le hk h.ft.size) (by simp; omega)]
  exact h.ft.block k hk hb
/-- The answer made whole. -/
theorem Tq.ans {w x : World} {B R R0 Y : Nat} {s : Sl} (h : Tq w B R s R0 x) (hY : Rx8 x Y ⟨s.addr, 5, s.ses, 0, 0, []⟩) (hlt : R0 < Y) :
    Tq w B R s R0 (sets Y [(3, .int .u8 (s.tell : Int)), (4, .int .u8 (s.nx : Int)), (5, .string ⟨s.pend.toArray⟩)] x) ∧ Rx8 (sets Y [(3, .int .u8 (s.tell : Int)), (4, .int .u8 (s.nx : Int)), (5, .string ⟨s.pend.toArray⟩)] x) Y (ansS s) := by
  have hl := h.lt
  obtain ⟨h1, h2, h3, h4⟩ := h.ft.own (Nat.le_of_lt (Nat.lt_of_le_of_lt hl hlt)) hY [(3, .int .u8 (s.tell : Int)), (4, .int .u8 (s.nx : Int)), (5, .string ⟨s.pend.toArray⟩)] (ansS s) rfl
  exact ⟨⟨h.sla.ft h3 (by decide), (h4.block R0 (Array.getElem?_eq_some_iff.1 h.res).1 (by simp; omega)).trans h.res, h2, hl⟩, h1⟩

/-- What the document's Take answers. -/
def RTakePost (w : World) (B R : Nat) (s : Sl) (f : Fr) (e : Ending) (w' : World) : Prop :=
  e = .returned (.tuple #[.agg (rcs (takeS s f).2.1), .string ⟨(takeS s f).2.2.1.toArray⟩, .bool (takeS s f).2.2.2]) ∧ Rv w' B R (takeS s f).1 ∧ Ft B [98] w w'

set_option maxRecDepth 20000 in
set_option maxHeartbeats 6400000 in
theorem rtake_on {w : World} {B R : Nat} {s : Sl} {f : Fr} (h : Rv w B R s) (hN : s.Ok) : Calls Try.prog 37 #[.pointer (some ⟨R, 0, none⟩), .agg (rcs f)] w (RTakePost w B R s f) := by
  have HP : Hid (∀ (e : Ending) w' r, takeS s f = r → (e = .returned (.tuple #[.agg (rcs r.2.1), .string ⟨r.2.2.1.toArray⟩, .bool r.2.2.2]) ∧ Rv w' B R r.1 ∧ Ft B [98] w w') → RTakePost w B R s f e w') := by
    rintro e w' r rfl hh
    exact hh
  have HM : Hid (takeS s f = if f.a ≠ s.addr ∨ f.k < 1 ∨ 3 < f.k then (s, noFrS, [], false)
    else if f.k = 1 then ({ s with ses := f.s, tell := 0, nx := 0 }, ⟨s.addr, 4, f.s, 0, 0, []⟩, [], true)
    else if f.s ≠ s.ses ∨ s.ses = 0 then (s, ⟨s.addr, 5, s.ses, 0, 0, []⟩, [], true)
    else ((cmdS (gotS s f.c) f).1, ansS (cmdS (gotS s f.c) f).1, (cmdS (gotS s f.c) f).2, true)) := rfl
  have HB := Lib.hid (new_below w (.cells (rcs f) 42))
  have HB1 := Lib.hid (new_below (w.alloc (.cells (rcs f) 42)) (.cells rnoFr 42))
  have H0 : Hid (Tr w B R s w.heap.size (w.heap.size + 1) f ((w.alloc (.cells (rcs f) 42)).alloc (.cells rnoFr 42))) := by
    have k := heap_alloc_new (w.alloc (.cells (rcs f) 42)) (.cells rnoFr 42)
    rw [show (w.alloc (.cells (rcs f) 42)).heap.size = w.heap.size + 1 by simp] at k
    exact ⟨(h.step HB.out).step HB1.out, (HB1.out.block _ (by simp)).trans (heap_alloc_new w _), k, (Ft.of_below HB.out).step HB1.out, Nat.le_succ _⟩
  have HRL := Lib.hid h.lt
  have HT1 := Lib.hid hN.tell
  have HX1 := Lib.hid hN.nx
  clear h hN HB HB1
  generalize RTakePost w B R s f = Q at *
  generalize takeS s f = r at *
  go_enter Try.func37, Try.ntmps37
  go_upto_region 1 with fail
  replace H0 := Lib.hid (H0.out.step (drew_below _))
  have c0 := H0.out.sla.vc.c0
  have e0 := (rc8_of H0.out.box).c0
  have e1 := (rc8_of H0.out.box).c1
  generalize hX : w.heap.size = X at *
  refine region_plan [(true, 0), (true, 1), (true, 2), (true, 3), (true, 4), (true, 5), (true, 6), (true, 7), (true, 8), (true, 9), (true, 10), (true, 11), (true, 12), (true, 13), (true, 14), (true, 15), (true, 16)]
    (fun y => y.cell? ⟨X, 0, none⟩ = some (.int .u8 (f.a : Int)) ∧ y.cell? ⟨X, 1, none⟩ = some (.int .u8 (f.k : Int)) ∧ y.cell? ⟨R, 0, none⟩ = some (.int .u8 (s.addr : Int))) (by kernel_rfl) (by kernel_rfl) (by kernel_rfl) rfl ⟨e0, e1, c0⟩ ?_
  clear c0 e0 e1
  generalize World.drew _ = x1 at *
  obtain ⟨R0, hR⟩ : ∃ R0, X + 1 = R0 := ⟨_, rfl⟩
  have HRW : Hid (w.heap.size < R0) := Lib.hid (by omega)
  have HRR : Hid (R < R0) := by have := HRL.out; exact Lib.hid (by omega)
  rw [hR] at H0 ⊢
  clear hR hX
  by_cases ha : f.a = s.addr
  rotate_left 1
  · as_aux_lemma =>
      rw [if_pos (.inl ha)] at HM
      have ha' : ((f.a : Int) != (s.addr : Int)) = true := by simp; omega
      clear ha
      iterate 17 (first | (refine Plan.take (v := ?_) rfl (by rfl) ?_ ?_; rotate_left 1; (focus (intro x hx; go_simp <;> (first | with_reducible rfl | rw [if_pos (by omega)]))); simp only [Act.put, List.setIfInBounds_toArray, List.set_cons_zero, List.set_cons_succ]) | (refine Plan.skip rfl (by rfl) ?_; simp only [Act.put, List.setIfInBounds_toArray, List.set_cons_zero, List.set_cons_succ]))
      refine Plan.done ?_
      have hfR := rc8_of H0.out.res
      have r0 := hfR.c0
      have r1 := hfR.c1
      have r2 := hfR.c2
      have r3 := hfR.c3
      have r4 := hfR.c4
      have r5 := hfR.c5
      have z0 := hfR.fz 0
      have z1 := hfR.fz 1
      have z2 := hfR.fz 2
      have z3 := hfR.fz 3
      have z4 := hfR.fz 4
      have z5 := hfR.fz 5
      clear hfR
      go_wp2
      have T := H0.out.q.told noFrS
      refine bodyPost_ret (results_row_two rfl _ _ R0 42 _ _ rfl T.1 ref_struct ref_size) rfl ?_
      exact HP.out _ _ _ HM.out ⟨rfl, T.2.1, T.2.2⟩
  have ha' : ((f.a : Int) != (s.addr : Int)) = false := by simp; omega
  by_cases hk0 : f.k < 1
  · as_aux_lemma =>
      rw [if_pos (.inr (.inl hk0))] at HM
      have hk0' : (f.k : Int) < 1 := by omega
      clear ha hk0
      iterate 17 (first | (refine Plan.take (v := ?_) rfl (by rfl) ?_ ?_; rotate_left 1; (focus (intro x hx; go_simp <;> (first | with_reducible rfl | rw [if_pos (by omega)]))); simp only [Act.put, List.setIfInBounds_toArray, List.set_cons_zero, List.set_cons_succ]) | (refine Plan.skip rfl (by rfl) ?_; simp only [Act.put, List.setIfInBounds_toArray, List.set_cons_zero, List.set_cons_succ]))
      refine Plan.done ?_
      have hfR := rc8_of H0.out.res
      have r0 := hfR.c0
      have r1 := hfR.c1
      have r2 := hfR.c2
      have r3 := hfR.c3
      have r4 := hfR.c4
      have r5 := hfR.c5
      have z0 := hfR.fz 0
      have z1 := hfR.fz 1
      have z2 := hfR.fz 2
      have z3 := hfR.fz 3
      have z4 := hfR.fz 4
      have z5 := hfR.fz 5
      clear hfR
      go_wp2
      have T := H0.out.q.told noFrS
      refine bodyPost_ret (results_row_two rfl _ _ R0 42 _ _ rfl T.1 ref_struct ref_size) rfl ?_
      exact HP.out _ _ _ HM.out ⟨rfl, T.2.1, T.2.2⟩
  have hk0' : ¬ (f.k : Int) < 1 := by omega
  by_cases hk3 : 3 < f.k
  · as_aux_lemma =>
      rw [if_pos (.inr (.inr hk3))] at HM
      have hk3' : (3 : Int) < (f.k : Int) := by omega
      clear ha hk0 hk3
      iterate 17 (first | (refine Plan.take (v := ?_) rfl (by rfl) ?_ ?_; rotate_left 1; (focus (intro x hx; go_simp <;> (first | with_reducible rfl | rw [if_pos (by omega)]))); simp only [Act.put, List.setIfInBounds_toArray, List.set_cons_zero, List.set_cons_succ]) | (refine Plan.skip rfl (by rfl) ?_; simp only [Act.put, List.setIfInBounds_toArray, List.set_cons_zero, List.set_cons_succ]))
      refine Plan.done ?_
      have hfR := rc8_of H0.out.res
      have r0 := hfR.c0
      have r1 := hfR.c1
      have r2 := hfR.c2
      have r3 := hfR.c3
      have r4 := hfR.c4
      have r5 := hfR.c5
      have z0 := hfR.fz 0
      have z1 := hfR.fz 1
      have z2 := hfR.fz 2
      have z3 := hfR.fz 3
      have z4 := hfR.fz 4
      have z5 := hfR.fz 5
      clear hfR
      go_wp2
      have T := H0.out.q.told noFrS
      refine bodyPost_ret (results_row_two rfl _ _ R0 42 _ _ rfl T.1 ref_struct ref_size) rfl ?_
      exact HP.out _ _ _ HM.out ⟨rfl, T.2.1, T.2.2⟩
  have hk3' : ¬ (3 : Int) < (f.k : Int) := by omega
  rw [if_neg (by omega)] at HM
  iterate 17 (first | (refine Plan.take (v := ?_) rfl (by rfl) ?_ ?_; rotate_left 1; (focus (intro x hx; go_simp <;> (first | with_reducible rfl | rw [if_pos (by omega)]))); simp only [Act.put, List.setIfInBounds_toArray, List.set_cons_zero, List.set_cons_succ]) | (refine Plan.skip rfl (by rfl) ?_; simp only [Act.put, List.setIfInBounds_toArray, List.set_cons_zero, List.set_cons_succ]))
  refine Plan.done ?_
  clear ha' hk0' hk3' ha
  have e1 := (rc8_of H0.out.box).c1
  have e2 := (rc8_of H0.out.box).c2
  by_cases hk1 : f.k = 1
  · as_aux_lemma =>
      rw [if_pos hk1] at HM
      rw [hk1] at e1
      have hc := H0.out.sla.vc
      have c1 := hc.c1
      have c2 := hc.c2
      have c3 := hc.c3
      have f1 := hc.fz 1
      have f2 := hc.fz 2
      have f3 := hc.fz 3
      clear hc hk0 hk3 hk1
      have K := Lib.hid (H0.out.sla.turn [(1, .int .u8 (f.s : Int)), (2, .int .u8 0), (3, .int .u8 0)] { s with ses := f.s, tell := 0, nx := 0 } rfl)
      go_upto_region 7 with fail
      have H1 := Lib.hid (H0.out.turn K.out.1 K.out.2)
      clear K H0 c1 c2 c3 f1 f2 f3 e1 e2
      simp only [sets, List.foldl] at H1
      generalize ((x1.setCell ⟨R, 1, none⟩ (.int .u8 (f.s : Int))).setCell ⟨R, 2, none⟩ (.int .u8 0)).setCell ⟨R, 3, none⟩ (.int .u8 0) = x2 at *
      replace H1 := Lib.hid (H1.out.step (drew_below x2))
      have c0 := H1.out.sla.vc.c0
      have c1 := H1.out.sla.vc.c1
      simp only at c0 c1
      refine region_plan [(true, 0), (true, 1), (true, 2), (true, 3), (true, 4), (true, 5), (true, 6), (true, 7), (true, 8), (false, 9), (true, 10), (true, 11)]
        (fun y => y.cell? ⟨R, 0, none⟩ = some (.int .u8 (s.addr : Int)) ∧ y.cell? ⟨R, 1, none⟩ = some (.int .u8 (f.s : Int))) (by kernel_rfl) (by kernel_rfl) (by kernel_rfl) rfl ⟨c0, c1⟩ ?_
      clear c0 c1
      generalize x2.drew = x3 at *
      iterate 9 (refine Plan.take (v := ?_) rfl (by rfl) ?_ ?_; rotate_left 1; (focus (intro x hx; go_simp <;> (first | with_reducible rfl | rw [if_pos (by omega)]))); simp only [Act.put, List.setIfInBounds_toArray, List.set_cons_zero, List.set_cons_succ])
      refine Plan.loud rfl (fun K hK => ?_)
      rw [if_pos (by rfl)]
      refine wp_store_row _ _ _ rfl R0 (rcs ⟨s.addr, 4, f.s, 0, 0, []⟩) rfl rfl 42 (rcs noFrS) H1.out.res rfl rfl (by simp [rcs, Value.oneCell']) ?_
      simp only [Act.put]
      have HT := Lib.hid (H1.out.q.row ⟨s.addr, 4, f.s, 0, 0, []⟩)
      refine hK.out _ _ _ (fun x hx => hx) ⟨HT.out.2.1.vc.c0, HT.out.2.1.vc.c1⟩ ?_
      clear hK K
      iterate 2 (refine Plan.take (v := ?_) rfl (by rfl) ?_ ?_; rotate_left 1; (focus (intro x hx; go_simp <;> (first | with_reducible rfl | rw [if_pos (by omega)]))); simp only [Act.put, List.setIfInBounds_toArray, List.set_cons_zero, List.set_cons_succ])
      refine Plan.done ?_
      go_wp2
      refine bodyPost_ret (results_row_two rfl _ _ R0 42 _ _ rfl HT.out.1 ref_struct ref_size) rfl ?_
      exact HP.out _ _ _ HM.out ⟨rfl, HT.out.2.1, HT.out.2.2⟩
  rw [if_neg hk1] at HM
  have k1' : ((f.k : Int) == 1) = false := by simp; omega
  go_upto_region 8 with fail
  clear k1' e1 e2
  replace H0 := Lib.hid (H0.out.step (drew_below x1))
  have c0 := H0.out.sla.vc.c0
  have c1 := H0.out.sla.vc.c1
  refine region_plan [(true, 0), (true, 1), (true, 2), (true, 3), (true, 4), (true, 5), (true, 6), (true, 7), (true, 8), (false, 9), (false, 10)]
    (fun y => y.cell? ⟨R, 0, none⟩ = some (.int .u8 (s.addr : Int)) ∧ y.cell? ⟨R, 1, none⟩ = some (.int .u8 (s.ses : Int))) (by kernel_rfl) (by kernel_rfl) (by kernel_rfl) rfl ⟨c0, c1⟩ ?_
  clear c0 c1
  generalize x1.drew = x2 at *
  iterate 9 (refine Plan.take (v := ?_) rfl (by rfl) ?_ ?_; rotate_left 1; (focus (intro x hx; go_simp <;> (first | with_reducible rfl | rw [if_pos (by omega)]))); simp only [Act.put, List.setIfInBounds_toArray, List.set_cons_zero, List.set_cons_succ])
  refine Plan.loud rfl (fun K hK => ?_)
  go_simp
  have hb3 := new_below x2 (.cells rnoFr 42)
  have HZ := Lib.hid (H0.out.step hb3)
  refine hK.out _ _ _ (fun x hx => hx) ⟨HZ.out.sla.vc.c0, HZ.out.sla.vc.c1⟩ ?_
  clear hK K hb3 HZ
  refine Plan.loud rfl (fun K hK => ?_)
  go_simp
  have hb3 := new_below x2 (.cells #[.int .u8 (s.addr : Int), .int .u8 5, .int .u8 (s.ses : Int), .int .u8 0, .int .u8 0, .string ⟨#[]⟩] 42)
  have HY : Hid (Rx8 (x2.alloc (.cells #[.int .u8 (s.addr : Int), .int .u8 5, .int .u8 (s.ses : Int), .int .u8 0, .int .u8 0, .string ⟨#[]⟩] 42)) x2.heap.size ⟨s.addr, 5, s.ses, 0, 0, []⟩) := heap_alloc_new x2 _
  have HRY : Hid (R0 < x2.heap.size) := Lib.hid (Array.getElem?_eq_some_iff.1 H0.out.res).1
  have H1 := Lib.hid (H0.out.step hb3)
  refine hK.out _ _ _ (fun x hx => hx) ⟨H1.out.sla.vc.c0, H1.out.sla.vc.c1⟩ ?_
  clear hK K hb3 H0
  generalize x2.alloc (.cells #[.int .u8 (s.addr : Int), .int .u8 5, .int .u8 (s.ses : Int), .int .u8 0, .int .u8 0, .string ⟨#[]⟩] 42) = x3 at *
  generalize x2.heap.size = Y at *
  refine Plan.done ?_
  go_upto_region 9 with fail
  replace HY : Hid (Rx8 x3.drew Y ⟨s.addr, 5, s.ses, 0, 0, []⟩) := HY
  replace H1 := Lib.hid (H1.out.step (drew_below x3))
  have c1 := H1.out.sla.vc.c1
  have e2 := (rc8_of H1.out.box).c2
  refine region_plan [(true, 0), (true, 1), (true, 2), (true, 3), (true, 4), (true, 5), (true, 6), (true, 7), (true, 8), (true, 9), (true, 10), (true, 11), (true, 12), (true, 13)]
    (fun y => y.cell? ⟨X, 2, none⟩ = some (.int .u8 (f.s : Int)) ∧ y.cell? ⟨R, 1, none⟩ = some (.int .u8 (s.ses : Int))) (by kernel_rfl) (by kernel_rfl) (by kernel_rfl) rfl ⟨e2, c1⟩ ?_
  clear c1 e2
  generalize x3.drew = x4 at *
  by_cases hs : f.s ≠ s.ses
  · as_aux_lemma =>
      rw [if_pos (.inl hs)] at HM
      have hs' : ((f.s : Int) != (s.ses : Int)) = true := by simp; omega
      clear hs hk0 hk3 hk1
      iterate 14 (first | (refine Plan.take (v := ?_) rfl (by rfl) ?_ ?_; rotate_left 1; (focus (intro x hx; go_simp <;> (first | with_reducible rfl | rw [if_pos (by omega)]))); simp only [Act.put, List.setIfInBounds_toArray, List.set_cons_zero, List.set_cons_succ]) | (refine Plan.skip rfl (by rfl) ?_; simp only [Act.put, List.setIfInBounds_toArray, List.set_cons_zero, List.set_cons_succ]))
      refine Plan.done ?_
      have hy := rc8_of HY.out
      have y0 := hy.c0
      have y1 := hy.c1
      have y2 := hy.c2
      have y3 := hy.c3
      have y4 := hy.c4
      have y5 := hy.c5
      have w3 := hy.fz 3
      have w4 := hy.fz 4
      have w5 := hy.fz 5
      clear hy
      have hfR := rc8_of H1.out.res
      have r0 := hfR.c0
      have r1 := hfR.c1
      have r2 := hfR.c2
      have r3 := hfR.c3
      have r4 := hfR.c4
      have r5 := hfR.c5
      have z0 := hfR.fz 0
      have z1 := hfR.fz 1
      have z2 := hfR.fz 2
      have z3 := hfR.fz 3
      have z4 := hfR.fz 4
      have z5 := hfR.fz 5
      clear hfR
      go_wp2
      have T := H1.out.q.told ⟨s.addr, 5, s.ses, 0, 0, []⟩
      refine bodyPost_ret (results_row_two rfl _ _ R0 42 _ _ rfl T.1 ref_struct ref_size) rfl ?_
      exact HP.out _ _ _ HM.out ⟨rfl, T.2.1, T.2.2⟩
  have hse : f.s = s.ses := by omega
  have hs' : ((f.s : Int) != (s.ses : Int)) = false := by simp; omega
  by_cases hz : s.ses = 0
  · as_aux_lemma =>
      rw [if_pos (.inr hz)] at HM
      have hz' : ((s.ses : Int) == 0) = true := by simp; omega
      clear hse hz hk0 hk3 hk1
      iterate 14 (first | (refine Plan.take (v := ?_) rfl (by rfl) ?_ ?_; rotate_left 1; (focus (intro x hx; go_simp <;> (first | with_reducible rfl | rw [if_pos (by omega)]))); simp only [Act.put, List.setIfInBounds_toArray, List.set_cons_zero, List.set_cons_succ]) | (refine Plan.skip rfl (by rfl) ?_; simp only [Act.put, List.setIfInBounds_toArray, List.set_cons_zero, List.set_cons_succ]))
      refine Plan.done ?_
      have hy := rc8_of HY.out
      have y0 := hy.c0
      have y1 := hy.c1
      have y2 := hy.c2
      have y3 := hy.c3
      have y4 := hy.c4
      have y5 := hy.c5
      have w3 := hy.fz 3
      have w4 := hy.fz 4
      have w5 := hy.fz 5
      clear hy
      have hfR := rc8_of H1.out.res
      have r0 := hfR.c0
      have r1 := hfR.c1
      have r2 := hfR.c2
      have r3 := hfR.c3
      have r4 := hfR.c4
      have r5 := hfR.c5
      have z0 := hfR.fz 0
      have z1 := hfR.fz 1
      have z2 := hfR.fz 2
      have z3 := hfR.fz 3
      have z4 := hfR.fz 4
      have z5 := hfR.fz 5
      clear hfR
      go_wp2
      have T := H1.out.q.told ⟨s.addr, 5, s.ses, 0, 0, []⟩
      refine bodyPost_ret (results_row_two rfl _ _ R0 42 _ _ rfl T.1 ref_struct ref_size) rfl ?_
      exact HP.out _ _ _ HM.out ⟨rfl, T.2.1, T.2.2⟩
  rw [if_neg (by omega)] at HM
  have hz' : ((s.ses : Int) == 0) = false := by simp; omega
  iterate 14 (first | (refine Plan.take (v := ?_) rfl (by rfl) ?_ ?_; rotate_left 1; (focus (intro x hx; go_simp <;> (first | with_reducible rfl | rw [if_pos (by omega)]))); simp only [Act.put, List.setIfInBounds_toArray, List.set_cons_zero, List.set_cons_succ]) | (refine Plan.skip rfl (by rfl) ?_; simp only [Act.put, List.setIfInBounds_toArray, List.set_cons_zero, List.set_cons_succ]))
  refine Plan.done ?_
  clear hse hs hz hs' hz'
  go_upto_region 11 with fail
  replace HY : Hid (Rx8 x4.drew Y ⟨s.addr, 5, s.ses, 0, 0, []⟩) := HY
  replace H1 := Lib.hid (H1.out.step (drew_below x4))
  have hc := H1.out.sla.vc
  have c2 := hc.c2
  have c4 := hc.c4
  have g2 := hc.fz 2
  have g4 := hc.fz 4
  have e4 := (rc8_of H1.out.box).c4
  clear hc
  have HGT : Hid (gotS s f.c = if s.pend.length ≠ 0 ∧ f.c ≠ s.tell then { s with pend := [], tell := 1 - s.tell } else s) := rfl
  generalize gotS s f.c = g at *
  by_cases hp : s.pend = []
  · as_aux_lemma =>
      have HG : Hid (g = s) := by show _ = _; rw [HGT.out, if_neg (by rw [hp]; simp)]
      rw [hp] at c4
      clear HGT hp
      refine region_plan [(true, 0), (true, 1), (true, 2), (true, 3), (true, 4), (true, 5), (true, 6), (true, 7), (true, 8), (true, 9), (true, 10), (true, 11), (true, 12), (true, 13)]
        (fun y => y.cell? ⟨R, 4, none⟩ = some (.string ⟨([] : List UInt8).toArray⟩) ∧ y.cell? ⟨R, 2, none⟩ = some (.int .u8 (s.tell : Int)) ∧ y.cell? ⟨X, 4, none⟩ = some (.int .u8 (f.c : Int))) (by kernel_rfl) (by kernel_rfl) (by kernel_rfl) rfl ⟨c4, c2, e4⟩ ?_
      generalize x4.drew = x5 at *
      iterate 14 (first | (refine Plan.take (v := ?_) rfl (by rfl) ?_ ?_; rotate_left 1; (focus (intro x hx; go_simp <;> (first | with_reducible rfl | rw [if_pos (by omega)]))); simp only [Act.put, List.setIfInBounds_toArray, List.set_cons_zero, List.set_cons_succ]) | (refine Plan.skip rfl (by rfl) ?_; simp only [Act.put, List.setIfInBounds_toArray, List.set_cons_zero, List.set_cons_succ]))
      refine Plan.done ?_
      have hgs := HG.out
      subst hgs
      clear c2 c4 g2 g4 e4 HG
      go_upto_region 15 with fail
      replace HY : Hid (Rx8 x5.drew Y ⟨g.addr, 5, g.ses, 0, 0, []⟩) := HY
      replace H1 := Lib.hid (H1.out.step (drew_below x5))
      have hc := H1.out.sla.vc
      have c2 := hc.c2
      have c3 := hc.c3
      have c4 := hc.c4
      have g3 := hc.fz 3
      have hb := rc8_of H1.out.box
      have e1 := hb.c1
      have e3 := hb.c3
      have e5 := hb.c5
      clear hc hb
      have HCM : Hid (cmdS g f = if f.k = 2 ∧ f.q = g.nx then ({ g with nx := 1 - g.nx }, f.b) else (g, [])) := rfl
      generalize cmdS g f = cs at *
      refine region_plan [(true, 0), (true, 1), (true, 2), (true, 3), (true, 4), (true, 5), (true, 6), (true, 7), (true, 8), (true, 9), (true, 10), (true, 11)]
        (fun y => y.cell? ⟨X, 1, none⟩ = some (.int .u8 (f.k : Int)) ∧ y.cell? ⟨X, 3, none⟩ = some (.int .u8 (f.q : Int)) ∧ y.cell? ⟨R, 3, none⟩ = some (.int .u8 (g.nx : Int))) (by kernel_rfl) (by kernel_rfl) (by kernel_rfl) rfl ⟨e1, e3, c3⟩ ?_
      generalize x5.drew = x8 at *
      by_cases hk2 : f.k = 2
      · have hk2' : (f.k : Int) = 2 := by omega
        by_cases hqn : f.q = g.nx
        · as_aux_lemma =>
            have HC : Hid (cs = ({ g with nx := 1 - g.nx }, f.b)) := by show _ = _; rw [HCM.out, if_pos ⟨hk2, hqn⟩]
            have hq' : (f.q : Int) = (g.nx : Int) := by omega
            clear hk2 hqn
            rw [HC.out] at HM
            have hx1 := HX1.out
            have wn : IntKind.u8.wrap (1 - (g.nx : Int)) = ((1 - g.nx : Nat) : Int) := by rw [IntKind.wrap_u8]; omega
            have K := Lib.hid (H1.out.sla.turn [(3, .int .u8 ((1 - g.nx : Nat) : Int))] { g with nx := 1 - g.nx } rfl)
            have HQ := Lib.hid (H1.out.turn K.out.1 K.out.2).q
            have HYQ : Hid (Rx8 (sets R [(3, .int .u8 ((1 - g.nx : Nat) : Int))] x8) Y ⟨g.addr, 5, g.ses, 0, 0, []⟩) := Lib.hid (K.out.2.keep HY.out (by decide))
            clear HCM HC hk0 hk3 hk1
            iterate 12 (first | (refine Plan.take (v := ?_) rfl (by rfl) ?_ ?_; rotate_left 1; (focus (intro x hx; go_simp <;> (first | with_reducible rfl | rw [if_pos (by omega)]))); simp only [Act.put, List.setIfInBounds_toArray, List.set_cons_zero, List.set_cons_succ]) | (refine Plan.skip rfl (by rfl) ?_; simp only [Act.put, List.setIfInBounds_toArray, List.set_cons_zero, List.set_cons_succ]))
            refine Plan.done ?_
            go_upto_region 18 with fail
            simp only [sets, List.foldl] at HQ HYQ
            generalize 1 - g.nx = nn at *
            generalize x8.setCell ⟨R, 3, none⟩ (.int .u8 (nn : Int)) = x9 at *
            clear K c2 c3 c4 g3 e1 e3 e5 hx1 wn
            have hc := HQ.out.sla.vc
            have c2 := hc.c2
            have c3 := hc.c3
            have c4 := hc.c4
            simp only at c2 c3 c4
            clear hc
            have hy := rc8_of HYQ.out
            have y0 := hy.c0
            have y1 := hy.c1
            have y2 := hy.c2
            have y3 := hy.c3
            have y4 := hy.c4
            have y5 := hy.c5
            have w3 := hy.fz 3
            have w4 := hy.fz 4
            have w5 := hy.fz 5
            clear hy
            have hl1 : R < R0 := HRR.out
            have hl3 : R0 < Y := HRY.out
            have ne1 : ¬ R = Y := by omega
            have ne2 : ¬ Y = R := by omega
            clear hl1 hl3
            have HA := Lib.hid (HQ.out.ans HYQ.out HRY.out)
            go_upto_region 21 with fail
            simp only [sets, List.foldl] at HA
            generalize ((x9.setCell ⟨Y, 3, none⟩ (.int .u8 (g.tell : Int))).setCell ⟨Y, 4, none⟩ (.int .u8 (nn : Int))).setCell ⟨Y, 5, none⟩ (.string ⟨g.pend.toArray⟩) = xa at *
            clear y0 y1 y2 y3 y4 y5 w3 w4 w5 c2 c3 c4 ne1 ne2
            have hy := rc8_of HA.out.2
            have y0 := hy.c0
            have y1 := hy.c1
            have y2 := hy.c2
            have y3 := hy.c3
            have y4 := hy.c4
            have y5 := hy.c5
            clear hy
            go_wp2_with (refine wpList_store_row rfl _ _ _ rfl R0 (rcs (ansS { g with nx := nn })) rfl rfl 42 (rcs noFrS) HA.out.1.res rfl rfl (by simp [rcs, Value.oneCell']) ?_)
            have T := HA.out.1.row (ansS { g with nx := nn })
            refine bodyPost_ret (results_row_two rfl _ _ R0 42 _ _ rfl T.1 ref_struct ref_size) rfl ?_
            exact HP.out _ _ _ HM.out ⟨rfl, T.2.1, T.2.2⟩
        · as_aux_lemma =>
            have HC : Hid (cs = (g, [])) := by show _ = _; rw [HCM.out, if_neg (by omega)]
            have hq' : ((f.q : Int) == (g.nx : Int)) = false := by simp; omega
            clear hk2 hqn
            rw [HC.out] at HM
            clear HCM HC hk0 hk3 hk1
            iterate 12 (first | (refine Plan.take (v := ?_) rfl (by rfl) ?_ ?_; rotate_left 1; (focus (intro x hx; go_simp <;> (first | with_reducible rfl | rw [if_pos (by omega)]))); simp only [Act.put, List.setIfInBounds_toArray, List.set_cons_zero, List.set_cons_succ]) | (refine Plan.skip rfl (by rfl) ?_; simp only [Act.put, List.setIfInBounds_toArray, List.set_cons_zero, List.set_cons_succ]))
            refine Plan.done ?_
            have HQ := Lib.hid H1.out.q
            have hy := rc8_of HY.out
            have y0 := hy.c0
            have y1 := hy.c1
            have y2 := hy.c2
            have y3 := hy.c3
            have y4 := hy.c4
            have y5 := hy.c5
            have w3 := hy.fz 3
            have w4 := hy.fz 4
            have w5 := hy.fz 5
            clear hy
            have hl1 : R < R0 := HRR.out
            have hl3 : R0 < Y := HRY.out
            have ne1 : ¬ R = Y := by omega
            have ne2 : ¬ Y = R := by omega
            clear hl1 hl3
            have HA := Lib.hid (HQ.out.ans HY.out HRY.out)
            go_upto_region 21 with fail
            simp only [sets, List.foldl] at HA
            generalize ((x8.setCell ⟨Y, 3, none⟩ (.int .u8 (g.tell : Int))).setCell ⟨Y, 4, none⟩ (.int .u8 (g.nx : Int))).setCell ⟨Y, 5, none⟩ (.string ⟨g.pend.toArray⟩) = xa at *
            clear y0 y1 y2 y3 y4 y5 w3 w4 w5 c2 c3 c4 ne1 ne2
            have hy := rc8_of HA.out.2
            have y0 := hy.c0
            have y1 := hy.c1
            have y2 := hy.c2
            have y3 := hy.c3
            have y4 := hy.c4
            have y5 := hy.c5
            clear hy
            go_wp2_with (refine wpList_store_row rfl _ _ _ rfl R0 (rcs (ansS g)) rfl rfl 42 (rcs noFrS) HA.out.1.res rfl rfl (by simp [rcs, Value.oneCell']) ?_)
            have T := HA.out.1.row (ansS g)
            refine bodyPost_ret (results_row_two rfl _ _ R0 42 _ _ rfl T.1 ref_struct ref_size) rfl ?_
            exact HP.out _ _ _ HM.out ⟨rfl, T.2.1, T.2.2⟩
      · as_aux_lemma =>
          have HC : Hid (cs = (g, [])) := by show _ = _; rw [HCM.out, if_neg (by omega)]
          have hk2' : ((f.k : Int) == 2) = false := by simp; omega
          clear hk2
          rw [HC.out] at HM
          clear HCM HC hk0 hk3 hk1
          iterate 12 (first | (refine Plan.take (v := ?_) rfl (by rfl) ?_ ?_; rotate_left 1; (focus (intro x hx; go_simp <;> (first | with_reducible rfl | rw [if_pos (by omega)]))); simp only [Act.put, List.setIfInBounds_toArray, List.set_cons_zero, List.set_cons_succ]) | (refine Plan.skip rfl (by rfl) ?_; simp only [Act.put, List.setIfInBounds_toArray, List.set_cons_zero, List.set_cons_succ]))
          refine Plan.done ?_
          have HQ := Lib.hid H1.out.q
          have hy := rc8_of HY.out
          have y0 := hy.c0
          have y1 := hy.c1
          have y2 := hy.c2
          have y3 := hy.c3
          have y4 := hy.c4
          have y5 := hy.c5
          have w3 := hy.fz 3
          have w4 := hy.fz 4
          have w5 := hy.fz 5
          clear hy
          have hl1 : R < R0 := HRR.out
          have hl3 : R0 < Y := HRY.out
          have ne1 : ¬ R = Y := by omega
          have ne2 : ¬ Y = R := by omega
          clear hl1 hl3
          have HA := Lib.hid (HQ.out.ans HY.out HRY.out)
          go_upto_region 21 with fail
          simp only [sets, List.foldl] at HA
          generalize ((x8.setCell ⟨Y, 3, none⟩ (.int .u8 (g.tell : Int))).setCell ⟨Y, 4, none⟩ (.int .u8 (g.nx : Int))).setCell ⟨Y, 5, none⟩ (.string ⟨g.pend.toArray⟩) = xa at *
          clear y0 y1 y2 y3 y4 y5 w3 w4 w5 c2 c3 c4 ne1 ne2
          have hy := rc8_of HA.out.2
          have y0 := hy.c0
          have y1 := hy.c1
          have y2 := hy.c2
          have y3 := hy.c3
          have y4 := hy.c4
          have y5 := hy.c5
          clear hy
          go_wp2_with (refine wpList_store_row rfl _ _ _ rfl R0 (rcs (ansS g)) rfl rfl 42 (rcs noFrS) HA.out.1.res rfl rfl (by simp [rcs, Value.oneCell']) ?_)
          have T := HA.out.1.row (ansS g)
          refine bodyPost_ret (results_row_two rfl _ _ R0 42 _ _ rfl T.1 ref_struct ref_size) rfl ?_
          exact HP.out _ _ _ HM.out ⟨rfl, T.2.1, T.2.2⟩
  have p1 : (s.pend == []) = false := by cases hq : s.pend with | nil => exact absurd hq hp | cons a t => rfl
  have p2 : (s.pend != []) = true := by simp [hp]
  have hpl : s.pend.length ≠ 0 := fun hh => hp (List.eq_nil_of_length_eq_zero hh)
  refine region_plan [(true, 0), (true, 1), (true, 2), (true, 3), (true, 4), (true, 5), (true, 6), (true, 7), (true, 8), (true, 9), (true, 10), (true, 11), (true, 12), (true, 13)]
    (fun y => y.cell? ⟨R, 4, none⟩ = some (.string ⟨s.pend.toArray⟩) ∧ y.cell? ⟨R, 2, none⟩ = some (.int .u8 (s.tell : Int)) ∧ y.cell? ⟨X, 4, none⟩ = some (.int .u8 (f.c : Int))) (by kernel_rfl) (by kernel_rfl) (by kernel_rfl) rfl ⟨c4, c2, e4⟩ ?_
  generalize x4.drew = x5 at *
  by_cases hct : f.c = s.tell
  · as_aux_lemma =>
      have HG : Hid (g = s) := by show _ = _; rw [HGT.out, if_neg (by omega)]
      have hct' : ((f.c : Int) != (s.tell : Int)) = false := by simp; omega
      clear HGT hpl hct
      iterate 14 (first | (refine Plan.take (v := ?_) rfl (by rfl) ?_ ?_; rotate_left 1; (focus (intro x hx; go_simp <;> (first | with_reducible rfl | rw [if_pos (by omega)]))); simp only [Act.put, List.setIfInBounds_toArray, List.set_cons_zero, List.set_cons_succ]) | (refine Plan.skip rfl (by rfl) ?_; simp only [Act.put, List.setIfInBounds_toArray, List.set_cons_zero, List.set_cons_succ]))
      refine Plan.done ?_
      have hgs := HG.out
      subst hgs
      clear c2 c4 g2 g4 e4 HG p1 p2 hp hct'
      go_upto_region 15 with fail
      replace HY : Hid (Rx8 x5.drew Y ⟨g.addr, 5, g.ses, 0, 0, []⟩) := HY
      replace H1 := Lib.hid (H1.out.step (drew_below x5))
      have hc := H1.out.sla.vc
      have c2 := hc.c2
      have c3 := hc.c3
      have c4 := hc.c4
      have g3 := hc.fz 3
      have hb := rc8_of H1.out.box
      have e1 := hb.c1
      have e3 := hb.c3
      have e5 := hb.c5
      clear hc hb
      have HCM : Hid (cmdS g f = if f.k = 2 ∧ f.q = g.nx then ({ g with nx := 1 - g.nx }, f.b) else (g, [])) := rfl
      generalize cmdS g f = cs at *
      refine region_plan [(true, 0), (true, 1), (true, 2), (true, 3), (true, 4), (true, 5), (true, 6), (true, 7), (true, 8), (true, 9), (true, 10), (true, 11)]
        (fun y => y.cell? ⟨X, 1, none⟩ = some (.int .u8 (f.k : Int)) ∧ y.cell? ⟨X, 3, none⟩ = some (.int .u8 (f.q : Int)) ∧ y.cell? ⟨R, 3, none⟩ = some (.int .u8 (g.nx : Int))) (by kernel_rfl) (by kernel_rfl) (by kernel_rfl) rfl ⟨e1, e3, c3⟩ ?_
      generalize x5.drew = x8 at *
      by_cases hk2 : f.k = 2
      · have hk2' : (f.k : Int) = 2 := by omega
        by_cases hqn : f.q = g.nx
        · as_aux_lemma =>
            have HC : Hid (cs = ({ g with nx := 1 - g.nx }, f.b)) := by show _ = _; rw [HCM.out, if_pos ⟨hk2, hqn⟩]
            have hq' : (f.q : Int) = (g.nx : Int) := by omega
            clear hk2 hqn
            rw [HC.out] at HM
            have hx1 := HX1.out
            have wn : IntKind.u8.wrap (1 - (g.nx : Int)) = ((1 - g.nx : Nat) : Int) := by rw [IntKind.wrap_u8]; omega
            have K := Lib.hid (H1.out.sla.turn [(3, .int .u8 ((1 - g.nx : Nat) : Int))] { g with nx := 1 - g.nx } rfl)
            have HQ := Lib.hid (H1.out.turn K.out.1 K.out.2).q
            have HYQ : Hid (Rx8 (sets R [(3, .int .u8 ((1 - g.nx : Nat) : Int))] x8) Y ⟨g.addr, 5, g.ses, 0, 0, []⟩) := Lib.hid (K.out.2.keep HY.out (by decide))
            clear HCM HC hk0 hk3 hk1
            iterate 12 (first | (refine Plan.take (v := ?_) rfl (by rfl) ?_ ?_; rotate_left 1; (focus (intro x hx; go_simp <;> (first | with_reducible rfl | rw [if_pos (by omega)]))); simp only [Act.put, List.setIfInBounds_toArray, List.set_cons_zero, List.set_cons_succ]) | (refine Plan.skip rfl (by rfl) ?_; simp only [Act.put, List.setIfInBounds_toArray, List.set_cons_zero, List.set_cons_succ]))
            refine Plan.done ?_
            go_upto_region 18 with fail
            simp only [sets, List.foldl] at HQ HYQ
            generalize 1 - g.nx = nn at *
            generalize x8.setCell ⟨R, 3, none⟩ (.int .u8 (nn : Int)) = x9 at *
            clear K c2 c3 c4 g3 e1 e3 e5 hx1 wn
            have hc := HQ.out.sla.vc
            have c2 := hc.c2
            have c3 := hc.c3
            have c4 := hc.c4
            simp only at c2 c3 c4
            clear hc
            have hy := rc8_of HYQ.out
            have y0 := hy.c0
            have y1 := hy.c1
            have y2 := hy.c2
            have y3 := hy.c3
            have y4 := hy.c4
            have y5 := hy.c5
            have w3 := hy.fz 3
            have w4 := hy.fz 4
            have w5 := hy.fz 5
            clear hy
            have hl1 : R < R0 := HRR.out
            have hl3 : R0 < Y := HRY.out
            have ne1 : ¬ R = Y := by omega
            have ne2 : ¬ Y = R := by omega
            clear hl1 hl3
            have HA := Lib.hid (HQ.out.ans HYQ.out HRY.out)
            go_upto_region 21 with fail
            simp only [sets, List.foldl] at HA
            generalize ((x9.setCell ⟨Y, 3, none⟩ (.int .u8 (g.tell : Int))).setCell ⟨Y, 4, none⟩ (.int .u8 (nn : Int))).setCell ⟨Y, 5, none⟩ (.string ⟨g.pend.toArray⟩) = xa at *
            clear y0 y1 y2 y3 y4 y5 w3 w4 w5 c2 c3 c4 ne1 ne2
            have hy := rc8_of HA.out.2
            have y0 := hy.c0
            have y1 := hy.c1
            have y2 := hy.c2
            have y3 := hy.c3
            have y4 := hy.c4
            have y5 := hy.c5
            clear hy
            go_wp2_with (refine wpList_store_row rfl _ _ _ rfl R0 (rcs (ansS { g with nx := nn })) rfl rfl 42 (rcs noFrS) HA.out.1.res rfl rfl (by simp [rcs, Value.oneCell']) ?_)
            have T := HA.out.1.row (ansS { g with nx := nn })
            refine bodyPost_ret (results_row_two rfl _ _ R0 42 _ _ rfl T.1 ref_struct ref_size) rfl ?_
            exact HP.out _ _ _ HM.out ⟨rfl, T.2.1, T.2.2⟩
        · as_aux_lemma =>
            have HC : Hid (cs = (g, [])) := by show _ = _; rw [HCM.out, if_neg (by omega)]
            have hq' : ((f.q : Int) == (g.nx : Int)) = false := by simp; omega
            clear hk2 hqn
            rw [HC.out] at HM
            clear HCM HC hk0 hk3 hk1
            iterate 12 (first | (refine Plan.take (v := ?_) rfl (by rfl) ?_ ?_; rotate_left 1; (focus (intro x hx; go_simp <;> (first | with_reducible rfl | rw [if_pos (by omega)]))); simp only [Act.put, List.setIfInBounds_toArray, List.set_cons_zero, List.set_cons_succ]) | (refine Plan.skip rfl (by rfl) ?_; simp only [Act.put, List.setIfInBounds_toArray, List.set_cons_zero, List.set_cons_succ]))
            refine Plan.done ?_
            have HQ := Lib.hid H1.out.q
            have hy := rc8_of HY.out
            have y0 := hy.c0
            have y1 := hy.c1
            have y2 := hy.c2
            have y3 := hy.c3
            have y4 := hy.c4
            have y5 := hy.c5
            have w3 := hy.fz 3
            have w4 := hy.fz 4
            have w5 := hy.fz 5
            clear hy
            have hl1 : R < R0 := HRR.out
            have hl3 : R0 < Y := HRY.out
            have ne1 : ¬ R = Y := by omega
            have ne2 : ¬ Y = R := by omega
            clear hl1 hl3
            have HA := Lib.hid (HQ.out.ans HY.out HRY.out)
            go_upto_region 21 with fail
            simp only [sets, List.foldl] at HA
            generalize ((x8.setCell ⟨Y, 3, none⟩ (.int .u8 (g.tell : Int))).setCell ⟨Y, 4, none⟩ (.int .u8 (g.nx : Int))).setCell ⟨Y, 5, none⟩ (.string ⟨g.pend.toArray⟩) = xa at *
            clear y0 y1 y2 y3 y4 y5 w3 w4 w5 c2 c3 c4 ne1 ne2
            have hy := rc8_of HA.out.2
            have y0 := hy.c0
            have y1 := hy.c1
            have y2 := hy.c2
            have y3 := hy.c3
            have y4 := hy.c4
            have y5 := hy.c5
            clear hy
            go_wp2_with (refine wpList_store_row rfl _ _ _ rfl R0 (rcs (ansS g)) rfl rfl 42 (rcs noFrS) HA.out.1.res rfl rfl (by simp [rcs, Value.oneCell']) ?_)
            have T := HA.out.1.row (ansS g)
            refine bodyPost_ret (results_row_two rfl _ _ R0 42 _ _ rfl T.1 ref_struct ref_size) rfl ?_
            exact HP.out _ _ _ HM.out ⟨rfl, T.2.1, T.2.2⟩
      · as_aux_lemma =>
          have HC : Hid (cs = (g, [])) := by show _ = _; rw [HCM.out, if_neg (by omega)]
          have hk2' : ((f.k : Int) == 2) = false := by simp; omega
          clear hk2
          rw [HC.out] at HM
          clear HCM HC hk0 hk3 hk1
          iterate 12 (first | (refine Plan.take (v := ?_) rfl (by rfl) ?_ ?_; rotate_left 1; (focus (intro x hx; go_simp <;> (first | with_reducible rfl | rw [if_pos (by omega)]))); simp only [Act.put, List.setIfInBounds_toArray, List.set_cons_zero, List.set_cons_succ]) | (refine Plan.skip rfl (by rfl) ?_; simp only [Act.put, List.setIfInBounds_toArray, List.set_cons_zero, List.set_cons_succ]))
          refine Plan.done ?_
          have HQ := Lib.hid H1.out.q
          have hy := rc8_of HY.out
          have y0 := hy.c0
          have y1 := hy.c1
          have y2 := hy.c2
          have y3 := hy.c3
          have y4 := hy.c4
          have y5 := hy.c5
          have w3 := hy.fz 3
          have w4 := hy.fz 4
          have w5 := hy.fz 5
          clear hy
          have hl1 : R < R0 := HRR.out
          have hl3 : R0 < Y := HRY.out
          have ne1 : ¬ R = Y := by omega
          have ne2 : ¬ Y = R := by omega
          clear hl1 hl3
          have HA := Lib.hid (HQ.out.ans HY.out HRY.out)
          go_upto_region 21 with fail
          simp only [sets, List.foldl] at HA
          generalize ((x8.setCell ⟨Y, 3, none⟩ (.int .u8 (g.tell : Int))).setCell ⟨Y, 4, none⟩ (.int .u8 (g.nx : Int))).setCell ⟨Y, 5, none⟩ (.string ⟨g.pend.toArray⟩) = xa at *
          clear y0 y1 y2 y3 y4 y5 w3 w4 w5 c2 c3 c4 ne1 ne2
          have hy := rc8_of HA.out.2
          have y0 := hy.c0
          have y1 := hy.c1
          have y2 := hy.c2
          have y3 := hy.c3
          have y4 := hy.c4
          have y5 := hy.c5
          clear hy
          go_wp2_with (refine wpList_store_row rfl _ _ _ rfl R0 (rcs (ansS g)) rfl rfl 42 (rcs noFrS) HA.out.1.res rfl rfl (by simp [rcs, Value.oneCell']) ?_)
          have T := HA.out.1.row (ansS g)
          refine bodyPost_ret (results_row_two rfl _ _ R0 42 _ _ rfl T.1 ref_struct ref_size) rfl ?_
          exact HP.out _ _ _ HM.out ⟨rfl, T.2.1, T.2.2⟩
  · as_aux_lemma =>
      have HG : Hid (g = { s with pend := [], tell := 1 - s.tell }) := by show _ = _; rw [HGT.out, if_pos ⟨hpl, hct⟩]
      have hct' : ((f.c : Int) != (s.tell : Int)) = true := by simp; omega
      have ht1 := HT1.out
      have wt : IntKind.u8.wrap (1 - (s.tell : Int)) = ((1 - s.tell : Nat) : Int) := by rw [IntKind.wrap_u8]; omega
      have K := Lib.hid (H1.out.sla.turn [(4, .string ⟨([] : List UInt8).toArray⟩), (2, .int .u8 ((1 - s.tell : Nat) : Int))] { s with pend := [], tell := 1 - s.tell } rfl)
      have H2 := Lib.hid (H1.out.turn K.out.1 K.out.2)
      have HY2 : Hid (Rx8 (sets R [(4, .string ⟨([] : List UInt8).toArray⟩), (2, .int .u8 ((1 - s.tell : Nat) : Int))] x5) Y ⟨s.addr, 5, s.ses, 0, 0, []⟩) := Lib.hid (K.out.2.keep HY.out (by decide))
      rw [← HG.out] at H2
      have HGA : Hid (g.addr = s.addr ∧ g.ses = s.ses ∧ g.nx = s.nx) := by show _ ∧ _ ∧ _; rw [HG.out]; exact ⟨rfl, rfl, rfl⟩
      rw [← HGA.out.1, ← HGA.out.2.1] at HY2
      have HX1 : Hid (g.nx ≤ 1) := by show _ ≤ _; rw [HGA.out.2.2]; exact HX1.out
      generalize 1 - s.tell = te at *
      clear HGT hpl hct K H1 HY ht1
      iterate 14 (first | (refine Plan.take (v := ?_) rfl (by rfl) ?_ ?_; rotate_left 1; (focus (intro x hx; go_simp <;> (first | with_reducible rfl | rw [if_pos (by omega)]))); simp only [Act.put, List.setIfInBounds_toArray, List.set_cons_zero, List.set_cons_succ]) | (refine Plan.skip rfl (by rfl) ?_; simp only [Act.put, List.setIfInBounds_toArray, List.set_cons_zero, List.set_cons_succ]))
      refine Plan.done ?_
      go_upto_region 15 with fail
      clear c2 c4 g2 g4 e4 p1 p2 hp hct' wt HG HGA HT1
      simp only [sets, List.foldl] at H2 HY2
      generalize (x5.setCell ⟨R, 4, none⟩ (.string ⟨([] : List UInt8).toArray⟩)).setCell ⟨R, 2, none⟩ (.int .u8 (te : Int)) = x6 at *
      replace HY2 : Hid (Rx8 x6.drew Y ⟨g.addr, 5, g.ses, 0, 0, []⟩) := HY2
      replace H2 := Lib.hid (H2.out.step (drew_below x6))
      have hc := H2.out.sla.vc
      have c2 := hc.c2
      have c3 := hc.c3
      have c4 := hc.c4
      have g3 := hc.fz 3
      have hb := rc8_of H2.out.box
      have e1 := hb.c1
      have e3 := hb.c3
      have e5 := hb.c5
      clear hc hb
      have HCM : Hid (cmdS g f = if f.k = 2 ∧ f.q = g.nx then ({ g with nx := 1 - g.nx }, f.b) else (g, [])) := rfl
      generalize cmdS g f = cs at *
      refine region_plan [(true, 0), (true, 1), (true, 2), (true, 3), (true, 4), (true, 5), (true, 6), (true, 7), (true, 8), (true, 9), (true, 10), (true, 11)]
        (fun y => y.cell? ⟨X, 1, none⟩ = some (.int .u8 (f.k : Int)) ∧ y.cell? ⟨X, 3, none⟩ = some (.int .u8 (f.q : Int)) ∧ y.cell? ⟨R, 3, none⟩ = some (.int .u8 (g.nx : Int))) (by kernel_rfl) (by kernel_rfl) (by kernel_rfl) rfl ⟨e1, e3, c3⟩ ?_
      generalize x6.drew = x8 at *
      by_cases hk2 : f.k = 2
      · have hk2' : (f.k : Int) = 2 := by omega
        by_cases hqn : f.q = g.nx
        · as_aux_lemma =>
            have HC : Hid (cs = ({ g with nx := 1 - g.nx }, f.b)) := by show _ = _; rw [HCM.out, if_pos ⟨hk2, hqn⟩]
            have hq' : (f.q : Int) = (g.nx : Int) := by omega
            clear hk2 hqn
            rw [HC.out] at HM
            have hx1 := HX1.out
            have wn : IntKind.u8.wrap (1 - (g.nx : Int)) = ((1 - g.nx : Nat) : Int) := by rw [IntKind.wrap_u8]; omega
            have K := Lib.hid (H2.out.sla.turn [(3, .int .u8 ((1 - g.nx : Nat) : Int))] { g with nx := 1 - g.nx } rfl)
            have HQ := Lib.hid (H2.out.turn K.out.1 K.out.2).q
            have HYQ : Hid (Rx8 (sets R [(3, .int .u8 ((1 - g.nx : Nat) : Int))] x8) Y ⟨g.addr, 5, g.ses, 0, 0, []⟩) := Lib.hid (K.out.2.keep HY2.out (by decide))
            clear HCM HC hk0 hk3 hk1
            iterate 12 (first | (refine Plan.take (v := ?_) rfl (by rfl) ?_ ?_; rotate_left 1; (focus (intro x hx; go_simp <;> (first | with_reducible rfl | rw [if_pos (by omega)]))); simp only [Act.put, List.setIfInBounds_toArray, List.set_cons_zero, List.set_cons_succ]) | (refine Plan.skip rfl (by rfl) ?_; simp only [Act.put, List.setIfInBounds_toArray, List.set_cons_zero, List.set_cons_succ]))
            refine Plan.done ?_
            go_upto_region 18 with fail
            simp only [sets, List.foldl] at HQ HYQ
            generalize 1 - g.nx = nn at *
            generalize x8.setCell ⟨R, 3, none⟩ (.int .u8 (nn : Int)) = x9 at *
            clear K c2 c3 c4 g3 e1 e3 e5 hx1 wn
            have hc := HQ.out.sla.vc
            have c2 := hc.c2
            have c3 := hc.c3
            have c4 := hc.c4
            simp only at c2 c3 c4
            clear hc
            have hy := rc8_of HYQ.out
            have y0 := hy.c0
            have y1 := hy.c1
            have y2 := hy.c2
            have y3 := hy.c3
            have y4 := hy.c4
            have y5 := hy.c5
            have w3 := hy.fz 3
            have w4 := hy.fz 4
            have w5 := hy.fz 5
            clear hy
            have hl1 : R < R0 := HRR.out
            have hl3 : R0 < Y := HRY.out
            have ne1 : ¬ R = Y := by omega
            have ne2 : ¬ Y = R := by omega
            clear hl1 hl3
            have HA := Lib.hid (HQ.out.ans HYQ.out HRY.out)
            go_upto_region 21 with fail
            simp only [sets, List.foldl] at HA
            generalize ((x9.setCell ⟨Y, 3, none⟩ (.int .u8 (g.tell : Int))).setCell ⟨Y, 4, none⟩ (.int .u8 (nn : Int))).setCell ⟨Y, 5, none⟩ (.string ⟨g.pend.toArray⟩) = xa at *
            clear y0 y1 y2 y3 y4 y5 w3 w4 w5 c2 c3 c4 ne1 ne2
            have hy := rc8_of HA.out.2
            have y0 := hy.c0
            have y1 := hy.c1
            have y2 := hy.c2
            have y3 := hy.c3
            have y4 := hy.c4
            have y5 := hy.c5
            clear hy
            go_wp2_with (refine wpList_store_row rfl _ _ _ rfl R0 (rcs (ansS { g with nx := nn })) rfl rfl 42 (rcs noFrS) HA.out.1.res rfl rfl (by simp [rcs, Value.oneCell']) ?_)
            have T := HA.out.1.row (ansS { g with nx := nn })
            refine bodyPost_ret (results_row_two rfl _ _ R0 42 _ _ rfl T.1 ref_struct ref_size) rfl ?_
            exact HP.out _ _ _ HM.out ⟨rfl, T.2.1, T.2.2⟩
        · as_aux_lemma =>
            have HC : Hid (cs = (g, [])) := by show _ = _; rw [HCM.out, if_neg (by omega)]
            have hq' : ((f.q : Int) == (g.nx : Int)) = false := by simp; omega
            clear hk2 hqn
            rw [HC.out] at HM
            clear HCM HC hk0 hk3 hk1
            iterate 12 (first | (refine Plan.take (v := ?_) rfl (by rfl) ?_ ?_; rotate_left 1; (focus (intro x hx; go_simp <;> (first | with_reducible rfl | rw [if_pos (by omega)]))); simp only [Act.put, List.setIfInBounds_toArray, List.set_cons_zero, List.set_cons_succ]) | (refine Plan.skip rfl (by rfl) ?_; simp only [Act.put, List.setIfInBounds_toArray, List.set_cons_zero, List.set_cons_succ]))
            refine Plan.done ?_
            have HQ := Lib.hid H2.out.q
            have hy := rc8_of HY2.out
            have y0 := hy.c0
            have y1 := hy.c1
            have y2 := hy.c2
            have y3 := hy.c3
            have y4 := hy.c4
            have y5 := hy.c5
            have w3 := hy.fz 3
            have w4 := hy.fz 4
            have w5 := hy.fz 5
            clear hy
            have hl1 : R < R0 := HRR.out
            have hl3 : R0 < Y := HRY.out
            have ne1 : ¬ R = Y := by omega
            have ne2 : ¬ Y = R := by omega
            clear hl1 hl3
            have HA := Lib.hid (HQ.out.ans HY2.out HRY.out)
            go_upto_region 21 with fail
            simp only [sets, List.foldl] at HA
            generalize ((x8.setCell ⟨Y, 3, none⟩ (.int .u8 (g.tell : Int))).setCell ⟨Y, 4, none⟩ (.int .u8 (g.nx : Int))).setCell ⟨Y, 5, none⟩ (.string ⟨g.pend.toArray⟩) = xa at *
            clear y0 y1 y2 y3 y4 y5 w3 w4 w5 c2 c3 c4 ne1 ne2
            have hy := rc8_of HA.out.2
            have y0 := hy.c0
            have y1 := hy.c1
            have y2 := hy.c2
            have y3 := hy.c3
            have y4 := hy.c4
            have y5 := hy.c5
            clear hy
            go_wp2_with (refine wpList_store_row rfl _ _ _ rfl R0 (rcs (ansS g)) rfl rfl 42 (rcs noFrS) HA.out.1.res rfl rfl (by simp [rcs, Value.oneCell']) ?_)
            have T := HA.out.1.row (ansS g)
            refine bodyPost_ret (results_row_two rfl _ _ R0 42 _ _ rfl T.1 ref_struct ref_size) rfl ?_
            exact HP.out _ _ _ HM.out ⟨rfl, T.2.1, T.2.2⟩
      · as_aux_lemma =>
          have HC : Hid (cs = (g, [])) := by show _ = _; rw [HCM.out, if_neg (by omega)]
          have hk2' : ((f.k : Int) == 2) = false := by simp; omega
          clear hk2
          rw [HC.out] at HM
          clear HCM HC hk0 hk3 hk1
          iterate 12 (first | (refine Plan.take (v := ?_) rfl (by rfl) ?_ ?_; rotate_left 1; (focus (intro x hx; go_simp <;> (first | with_reducible rfl | rw [if_pos (by omega)]))); simp only [Act.put, List.setIfInBounds_toArray, List.set_cons_zero, List.set_cons_succ]) | (refine Plan.skip rfl (by rfl) ?_; simp only [Act.put, List.setIfInBounds_toArray, List.set_cons_zero, List.set_cons_succ]))
          refine Plan.done ?_
          have HQ := Lib.hid H2.out.q
          have hy := rc8_of HY2.out
          have y0 := hy.c0
          have y1 := hy.c1
          have y2 := hy.c2
          have y3 := hy.c3
          have y4 := hy.c4
          have y5 := hy.c5
          have w3 := hy.fz 3
          have w4 := hy.fz 4
          have w5 := hy.fz 5
          clear hy
          have hl1 : R < R0 := HRR.out
          have hl3 : R0 < Y := HRY.out
          have ne1 : ¬ R = Y := by omega
          have ne2 : ¬ Y = R := by omega
          clear hl1 hl3
          have HA := Lib.hid (HQ.out.ans HY2.out HRY.out)
          go_upto_region 21 with fail
          simp only [sets, List.foldl] at HA
          generalize ((x8.setCell ⟨Y, 3, none⟩ (.int .u8 (g.tell : Int))).setCell ⟨Y, 4, none⟩ (.int .u8 (g.nx : Int))).setCell ⟨Y, 5, none⟩ (.string ⟨g.pend.toArray⟩) = xa at *
          clear y0 y1 y2 y3 y4 y5 w3 w4 w5 c2 c3 c4 ne1 ne2
          have hy := rc8_of HA.out.2
          have y0 := hy.c0
          have y1 := hy.c1
          have y2 := hy.c2
          have y3 := hy.c3
          have y4 := hy.c4
          have y5 := hy.c5
          clear hy
          go_wp2_with (refine wpList_store_row rfl _ _ _ rfl R0 (rcs (ansS g)) rfl rfl 42 (rcs noFrS) HA.out.1.res rfl rfl (by simp [rcs, Value.oneCell']) ?_)
          have T := HA.out.1.row (ansS g)
          refine bodyPost_ret (results_row_two rfl _ _ R0 42 _ _ rfl T.1 ref_struct ref_size) rfl ?_
          exact HP.out _ _ _ HM.out ⟨rfl, T.2.1, T.2.2⟩

end Go.Proofs.Ytdcnmbglbopgdaa
