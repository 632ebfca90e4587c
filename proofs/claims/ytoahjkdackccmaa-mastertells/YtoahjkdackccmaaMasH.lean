/-
  lamplightref07.Of and lamplightlaw07.frame: what they answer.
-/
import Derived.Test.YtoahjkdackccmaaMasY
namespace Go.Proofs.Ytoahjkdackccmaa
set_option linter.unusedVariables false
set_option linter.unusedSimpArgs false
open Go.RowKit

theorem new_below2 (w : World) (o p : Obj) : Below w.heap.size w ((w.alloc o).alloc p) := (((Ch.refl [] w).alloc o).alloc p).below (by simp)
theorem ref_struct : ∃ fs, Try.prog.underlying 42 = some (.struct fs) := ⟨_, Try.underlying42⟩
theorem ref_size : (Try.prog.info? 42).map (·.size) = some 6 := by kernel_rfl
/-- A frame of the document's, by its cells. -/
abbrev rcs (f : Fr) : Array Value := #[.int .u8 (f.a : Int), .int .u8 (f.k : Int), .int .u8 (f.s : Int), .int .u8 (f.q : Int), .int .u8 (f.c : Int), .string ⟨f.b.toArray⟩]

theorem of_on {w : World} {f : Fr} {g c n : Nat} {A : Option Addr} (h : Holds w g A (bcs f.b)) (hn : f.b.length = n) :
    Calls Try.prog 18 #[.agg (fcs f (.slice A n c))] w fun e w' => e = .returned (.agg (rcs f)) ∧ Below w.heap.size w w' := by
  obtain ⟨a, k, s, q, cc, l⟩ := f
  have hcv := convert_holds (c := c) (h.keep (((Ch.refl [] w).alloc (.cells #[.int .u8 (a : Int), .int .u8 (k : Int), .int .u8 (s : Int), .int .u8 (q : Int), .int .u8 (cc : Int), .slice A n c] 30)).alloc (.cells #[.int .u8 0, .int .u8 0, .int .u8 0, .int .u8 0, .int .u8 0, .string ⟨#[]⟩] 42)) (by simp)) hn
  clear h hn
  go_enter Try.func18, Try.ntmps18
  go_wp2
  exact bodyPost_ret (results_row rfl _ _ (w.heap.size + 1) 42 _ _ rfl (heap_alloc2_new w _ _) ref_struct ref_size) rfl ⟨rfl, new_below2 _ _ _⟩
theorem of_own {w : World} {f : Fr} {B c : Nat} {A : Option Addr} (h : w.ownsRow B 5 1 (.slice A f.b.length c) f.b.length (bcs f.b)) :
    Calls Try.prog 18 #[.agg (fcs f (.slice A f.b.length c))] w fun e w' => e = .returned (.agg (rcs f)) ∧ Below w.heap.size w w' := by
  obtain ⟨g, h1, _⟩ := (Own1.mk (own_zero h) (B := 0) (fun _ _ => Nat.zero_le _) rfl).holds
  exact of_on h1 rfl

/-- The frame of a step, as a master hears it. -/
def frM (s : St7) (a : Nat) (m : Ma) : Fr := if s.own then ⟨a, s.f.k, m.ses, s.f.q, s.f.c, s.f.b.take 40⟩ else { s.f with b := s.f.b.take 40 }
theorem nextM_ses (m : Ma) : (nextM m).s = m.ses := by
  unfold nextM
  split
  · rfl
  · split <;> rfl
theorem frM_b (s : St7) (a : Nat) (m : Ma) : (frM s a m).b = s.f.b.take 40 := by unfold frM; split <;> rfl
theorem frM_len (s : St7) (a : Nat) (m : Ma) : (frM s a m).b.length ≤ 40 := by rw [frM_b, List.length_take]; omega

abbrev stepc (s : St7) (V : Value) : Array Value := #[.int .i64 s.k, .int .u8 (s.f.a : Int), .int .u8 (s.f.k : Int), .int .u8 (s.f.s : Int), .int .u8 (s.f.q : Int), .int .u8 (s.f.c : Int), V, .bool s.own]
theorem field_two (a k s q c : Int) (V : Value) (w : World) : (Instr.field 30 (.agg #[.int .u8 a, .int .u8 k, .int .u8 s, .int .u8 q, .int .u8 c, V]) 2).run Try.prog w = .ok (.int .u8 s) w := field_ses a k s q c V w

set_option maxRecDepth 20000 in
set_option maxHeartbeats 1600000 in
theorem frame_on {w x : World} {D N a c : Nat} {m : Ma} {s : St7} {A : Option Addr} (h : Lm w D N m x) (hc : s.f.b.length ≤ c) (hm : c ≤ maxLen) :
    Calls Try.prog 13 #[.agg (stepc s (.slice A s.f.b.length c)), .pointer (some ⟨D, 0, none⟩), .int .u8 (a : Int)] x fun e y => e = .returned (.agg (fcs (frM s a m) (.slice A (frM s a m).b.length c))) ∧ Lm w D N m y ∧ Below x.heap.size x y := by
  obtain ⟨sk, ⟨fa, fk, fs, fq, fc, fb⟩, own⟩ := s
  simp only at hc ⊢
  obtain ⟨n, hn⟩ : ∃ n, fb.length = n := ⟨_, rfl⟩
  rw [hn] at hc ⊢
  obtain ⟨p, hp40, hpn, hmin⟩ := min_of n 40 40 rfl
  have HPL : Hid ((fb.take 40).length = p) := by
    show _ = _
    rw [List.length_take, hn]
    split at hmin <;> omega
  have hpc : p ≤ c := by omega
  have hcm : c ≤ 9223372036854775807 := by unfold maxLen at hm; omega
  have HM : Hid (frM ⟨sk, ⟨fa, fk, fs, fq, fc, fb⟩, own⟩ a m = if own then ⟨a, fk, m.ses, fq, fc, fb.take 40⟩ else ⟨fa, fk, fs, fq, fc, fb.take 40⟩) := rfl
  have H := Lib.hid h
  generalize frM ⟨sk, ⟨fa, fk, fs, fq, fc, fb⟩, own⟩ a m = r at *
  generalize fb.take 40 = bs at *
  clear hm h hn
  have K1 := Lib.hid (new_below x (.cells #[.int .i64 sk, .int .u8 (fa : Int), .int .u8 (fk : Int), .int .u8 (fs : Int), .int .u8 (fq : Int), .int .u8 (fc : Int), .slice A n c, .bool own] 33))
  go_enter Try.func13, Try.ntmps13
  go_upto_region 3 with fail
  have HY0 : Hid ((((x.alloc (.cells #[.int .i64 sk, .int .u8 (fa : Int), .int .u8 (fk : Int), .int .u8 (fs : Int), .int .u8 (fq : Int), .int .u8 (fc : Int), .slice A n c, .bool own] 33)).alloc (.cells #[.int .u8 0, .int .u8 0, .int .u8 0, .int .u8 0, .int .u8 0, .slice none 0 0] 30)).alloc (.cells #[.int .u8 (fa : Int), .int .u8 (fk : Int), .int .u8 (fs : Int), .int .u8 (fq : Int), .int .u8 (fc : Int), .slice A p c] 30)).heap[x.heap.size]? = some (.cells #[.int .i64 sk, .int .u8 (fa : Int), .int .u8 (fk : Int), .int .u8 (fs : Int), .int .u8 (fq : Int), .int .u8 (fc : Int), .slice A n c, .bool own] 33 (0, 0))) :=
    (Below.heap_alloc _ _ _ (by simp; omega)).trans ((Below.heap_alloc _ _ _ (by simp)).trans (heap_alloc_new x _))
  have HY1 : Hid ((((x.alloc (.cells #[.int .i64 sk, .int .u8 (fa : Int), .int .u8 (fk : Int), .int .u8 (fs : Int), .int .u8 (fq : Int), .int .u8 (fc : Int), .slice A n c, .bool own] 33)).alloc (.cells #[.int .u8 0, .int .u8 0, .int .u8 0, .int .u8 0, .int .u8 0, .slice none 0 0] 30)).alloc (.cells #[.int .u8 (fa : Int), .int .u8 (fk : Int), .int .u8 (fs : Int), .int .u8 (fq : Int), .int .u8 (fc : Int), .slice A p c] 30)).heap[x.heap.size + 1]? = some (.cells #[.int .u8 0, .int .u8 0, .int .u8 0, .int .u8 0, .int .u8 0, .slice none 0 0] 30 (0, 0))) := by
    show _ = _
    refine (Below.heap_alloc _ _ _ (by simp)).trans ?_
    have := heap_alloc_new (x.alloc (.cells #[.int .i64 sk, .int .u8 (fa : Int), .int .u8 (fk : Int), .int .u8 (fs : Int), .int .u8 (fq : Int), .int .u8 (fc : Int), .slice A n c, .bool own] 33)) (.cells #[.int .u8 0, .int .u8 0, .int .u8 0, .int .u8 0, .int .u8 0, .slice none 0 0] 30)
    simpa using this
  have HY2 : Hid ((((x.alloc (.cells #[.int .i64 sk, .int .u8 (fa : Int), .int .u8 (fk : Int), .int .u8 (fs : Int), .int .u8 (fq : Int), .int .u8 (fc : Int), .slice A n c, .bool own] 33)).alloc (.cells #[.int .u8 0, .int .u8 0, .int .u8 0, .int .u8 0, .int .u8 0, .slice none 0 0] 30)).alloc (.cells #[.int .u8 (fa : Int), .int .u8 (fk : Int), .int .u8 (fs : Int), .int .u8 (fq : Int), .int .u8 (fc : Int), .slice A p c] 30)).heap[x.heap.size + 1 + 1]? = some (.cells #[.int .u8 (fa : Int), .int .u8 (fk : Int), .int .u8 (fs : Int), .int .u8 (fq : Int), .int .u8 (fc : Int), .slice A p c] 30 (0, 0))) := by
    show _ = _
    have := heap_alloc_new ((x.alloc (.cells #[.int .i64 sk, .int .u8 (fa : Int), .int .u8 (fk : Int), .int .u8 (fs : Int), .int .u8 (fq : Int), .int .u8 (fc : Int), .slice A n c, .bool own] 33)).alloc (.cells #[.int .u8 0, .int .u8 0, .int .u8 0, .int .u8 0, .int .u8 0, .slice none 0 0] 30)) (.cells #[.int .u8 (fa : Int), .int .u8 (fk : Int), .int .u8 (fs : Int), .int .u8 (fq : Int), .int .u8 (fc : Int), .slice A p c] 30)
    simpa using this
  have HB3 : Hid (Below x.heap.size x (((x.alloc (.cells #[.int .i64 sk, .int .u8 (fa : Int), .int .u8 (fk : Int), .int .u8 (fs : Int), .int .u8 (fq : Int), .int .u8 (fc : Int), .slice A n c, .bool own] 33)).alloc (.cells #[.int .u8 0, .int .u8 0, .int .u8 0, .int .u8 0, .int .u8 0, .slice none 0 0] 30)).alloc (.cells #[.int .u8 (fa : Int), .int .u8 (fk : Int), .int .u8 (fs : Int), .int .u8 (fq : Int), .int .u8 (fc : Int), .slice A p c] 30))) := ((((Ch.refl [] x).alloc _).alloc _).alloc _).below (by simp)
  clear K1
  generalize (((x.alloc (.cells #[.int .i64 sk, .int .u8 (fa : Int), .int .u8 (fk : Int), .int .u8 (fs : Int), .int .u8 (fq : Int), .int .u8 (fc : Int), .slice A n c, .bool own] 33)).alloc (.cells #[.int .u8 0, .int .u8 0, .int .u8 0, .int .u8 0, .int .u8 0, .slice none 0 0] 30)).alloc (.cells #[.int .u8 (fa : Int), .int .u8 (fk : Int), .int .u8 (fs : Int), .int .u8 (fq : Int), .int .u8 (fc : Int), .slice A p c] 30)) = y at *
  obtain ⟨X, hX⟩ : ∃ X, X = x.heap.size := ⟨_, rfl⟩
  have HX : Hid (X = x.heap.size) := hX
  rw [← hX] at HY0 HY1 HY2 ⊢
  clear hX
  have hc7 : y.cell? ⟨X, 7, none⟩ = some (.bool own) := by simp [World.cell?, HY0.out]
  cases own with
  | false =>
    obtain ⟨r0, r1, r2, r3, r4, r5, -⟩ := frame_row HY2.out
    obtain ⟨p0, p1, p2, p3, p4, p5, s0, s1, s2, s3, s4, s5⟩ := frame_row HY1.out
    obtain ⟨hFn, hC⟩ := frame_set HY1.out (fa : Int) (fk : Int) (fs : Int) (fq : Int) (fc : Int) (.slice A p c)
    have HFn := Lib.hid hFn
    have HBn : Hid (Below x.heap.size y _) := Lib.hid (hC.belowAt (B := x.heap.size) (by simp; rw [HX.out]; omega) HB3.out.size)
    clear hFn hC
    go_wp2
    refine bodyPost_ret (results_row rfl _ _ (X + 1) 30 _ _ rfl HFn.out frame_struct frame_size) rfl ?_
    have hXX := HX.out
    subst hXX
    rw [HM.out]
    simp only [HPL.out, Bool.false_eq_true, ↓reduceIte]
    exact ⟨trivial, H.out.step (HB3.out.trans HBn.out), HB3.out.trans HBn.out⟩
  | true =>
    have H3 := Lib.hid (H.out.step HB3.out)
    go_wp2_with fail
    refine (next_lm H3.out).mono ?_
    rintro e y1 ⟨A1, c1, rfl, _, _, hb1⟩
    have hfd := field_ses
    have HY11 := Lib.hid ((hb1.block (X + 1) (Array.getElem?_eq_some_iff.1 HY1.out).1).trans HY1.out)
    have HY21 := Lib.hid ((hb1.block (X + 1 + 1) (Array.getElem?_eq_some_iff.1 HY2.out).1).trans HY2.out)
    have HB1 : Hid (Below x.heap.size x y1) := HB3.out.trans (hb1.mono HB3.out.size)
    generalize hF : nextM m = F at *
    obtain ⟨na, nk, ns, nq, nc, nb⟩ := F
    have hses : ns = m.ses := by have := nextM_ses m; rw [hF] at this; exact this
    rw [← hses] at HM
    obtain ⟨r0, r1, r2, r3, r4, r5, t0, t1, t2, t3, t4, t5⟩ := frame_row HY21.out
    clear hb1 HY1 HY2 HY0 hc7 hses hF H3
    obtain ⟨hs1, hs2⟩ := sets_row [(2, .int .u8 (ns : Int)), (0, .int .u8 (a : Int))] HY21.out
    have HS1 : Hid ((sets (X + 1 + 1) [(2, .int .u8 (ns : Int)), (0, .int .u8 (a : Int))] y1).heap[X + 1 + 1]? = some (.cells #[.int .u8 (a : Int), .int .u8 (fk : Int), .int .u8 (ns : Int), .int .u8 (fq : Int), .int .u8 (fc : Int), .slice A p c] 30 (0, 0))) := hs1.trans (by simp [setsA])
    have HS2 := Lib.hid ((hs2.block (X + 1) (Array.getElem?_eq_some_iff.1 HY11.out).1 (by simp)).trans HY11.out)
    have HS3 : Hid (Below x.heap.size x (sets (X + 1 + 1) [(2, .int .u8 (ns : Int)), (0, .int .u8 (a : Int))] y1)) := HB1.out.trans (hs2.belowAt (B := x.heap.size) (by simp; rw [HX.out]; omega) HB1.out.size)
    clear hs1 hs2
    go_upto_region 6 with fail
    clear r0 r1 r2 r3 r4 r5 t0 t1 t2 t3 t4 t5 HY21 HY11 HB1 HB3
    simp only [sets, List.foldl_cons, List.foldl_nil] at HS1 HS2 HS3
    generalize (y1.setCell ⟨X + 1 + 1, 2, none⟩ (.int .u8 (ns : Int))).setCell ⟨X + 1 + 1, 0, none⟩ (.int .u8 (a : Int)) = y2 at *
    obtain ⟨r0, r1, r2, r3, r4, r5, -⟩ := frame_row HS1.out
    obtain ⟨p0, p1, p2, p3, p4, p5, s0, s1, s2, s3, s4, s5⟩ := frame_row HS2.out
    obtain ⟨hFn, hC⟩ := frame_set HS2.out (a : Int) (fk : Int) (ns : Int) (fq : Int) (fc : Int) (.slice A p c)
    have HFn := Lib.hid hFn
    have HBn : Hid (Below x.heap.size y2 _) := Lib.hid (hC.belowAt (B := x.heap.size) (by simp; rw [HX.out]; omega) HS3.out.size)
    clear hFn hC
    go_wp2
    refine bodyPost_ret (results_row rfl _ _ (X + 1) 30 _ _ rfl HFn.out frame_struct frame_size) rfl ?_
    have hXX := HX.out
    subst hXX
    rw [HM.out]
    simp only [HPL.out, ↓reduceIte]
    exact ⟨trivial, H.out.step (HS3.out.trans HBn.out), HS3.out.trans HBn.out⟩

end Go.Proofs.Ytoahjkdackccmaa
