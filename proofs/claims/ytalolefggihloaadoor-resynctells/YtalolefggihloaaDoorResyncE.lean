/-
  (*resync.Decoder).end, as it landed: what it answers.
-/
import Derived.Test.YtalolefggihloaaDoorResyncA
import Derived.Test.YtalolefggihloaaDoorFTrees
namespace Go.Proofs.YtalolefggihloaaDoor
set_option linter.unusedVariables false
set_option linter.unusedSimpArgs false
open Go.RowKit

theorem tab_box {w : World} {D : Nat} {f : Nat → Nat} {buf : List UInt8} {n : Nat} {o : Bool} (ht : Tab w) (h : Bx w D f buf n o) : D ≠ 0 := by
  rintro rfl
  have h1 := ht.2 0 (by decide)
  have h2 := h.err 0 (by decide)
  rw [h1] at h2
  cases h2
theorem tab_dec {w : World} {D N : Nat} {d : Dc} (ht : Tab w) (h : Dec w D d N) : D ≠ 0 := by
  obtain ⟨buf, hb, _⟩ := h.box
  exact tab_box ht hb

theorem drew_below (x : World) : Below x.heap.size x x.drew := (Ch.refl [] x).drew.below (by simp)

/-- What stays known in end: the table, the decoder's cells, the row of what will be handed back. -/
structure Sn (w : World) (D : Nat) (f : Nat → Nat) (buf : List UInt8) (n : Nat) (o : Bool) (x : World) : Prop where
  tab : Tab x
  bx : Bx x D f buf n o
  box : x.heap[w.heap.size]? = some (.cells noFrame 35 (0, 0))
  ch : Ch [D] w x
  le : w.heap.size < x.heap.size
  lt : D < w.heap.size
theorem Sn.step {w x y : World} {D : Nat} {f : Nat → Nat} {buf : List UInt8} {n : Nat} {o : Bool} (h : Sn w D f buf n o x) (hb : Below x.heap.size x y) : Sn w D f buf n o y :=
  ⟨h.tab.keep (Ch.of_below hb) (by simp), h.bx.keep (Ch.of_below hb) (by simp), (hb.block _ h.le).trans h.box, h.ch.join (Ch.of_below hb) (by simp), Nat.lt_of_lt_of_le h.le hb.size, h.lt⟩
/-- Something new turned. -/
theorem Sn.far {w x y : World} {D Z : Nat} {f : Nat → Nat} {buf : List UInt8} {n : Nat} {o : Bool} (h : Sn w D f buf n o x) (hc : Ch [Z] x y) (hZ : w.heap.size < Z) : Sn w D f buf n o y := by
  have hD := h.lt
  exact ⟨h.tab.keep hc (by simp; omega), h.bx.keep hc (by simp; omega), (hc.block _ h.le (by simp; omega)).trans h.box, h.ch.join hc (by simp; omega), Nat.lt_of_lt_of_le h.le hc.size, h.lt⟩
/-- The decoder's cells turned, no others. -/
theorem Sn.turn {w x y : World} {D : Nat} {f f' : Nat → Nat} {buf buf' : List UInt8} {n n' : Nat} {o o' : Bool} (h : Sn w D f buf n o x) (hc : Ch [D] x y) (hb : Bx y D f' buf' n' o') : Sn w D f' buf' n' o' y := by
  have hD := h.lt
  have h0 := tab_box h.tab h.bx
  exact ⟨h.tab.keep hc (by simp; omega), hb, (hc.block _ h.le (by simp; omega)).trans h.box, h.ch.join hc (by simp), Nat.lt_of_lt_of_le h.le hc.size, hD⟩
theorem Sn.start {w : World} {D : Nat} {f : Nat → Nat} {buf : List UInt8} {n : Nat} {o : Bool} (ht : Tab w) (h : Bx w D f buf n o) : Sn w D f buf n o (w.alloc (.cells noFrame 35)) :=
  ⟨ht.keep ((Ch.refl [] w).alloc _) (by simp), h.keep ((Ch.refl [] w).alloc _) (by simp), heap_alloc_new w _, (Ch.refl [D] w).alloc _, by simp, h.lt⟩
theorem Sn.lost {w x : World} {D : Nat} {f : Nat → Nat} {buf : List UInt8} {n : Nat} {o : Bool} (h : Sn w D f buf n o x) (b : Bool) : Sn w D f buf n b (x.setCell ⟨D, 75, none⟩ (.bool b)) := h.turn ((Ch.refl [D] x).setCell (by simp) _) (h.bx.setLost b)
theorem Sn.size {w x : World} {D : Nat} {f : Nat → Nat} {buf : List UInt8} {n : Nat} {o : Bool} (h : Sn w D f buf n o x) (m : Nat) : Sn w D f buf m o (x.setCell ⟨D, 74, none⟩ (.int .i64 (m : Int))) := h.turn ((Ch.refl [D] x).setCell (by simp) _) (h.bx.setSize m)

theorem held_slice (D n : Nat) (hn : n ≤ 62) (x : World) : (Instr.sliceAt 28 (.pointer (some ⟨D, 12, none⟩)) none (some (.int .i64 (n : Int))) (some (.int .i64 (n : Int)))).run Tryd.prog x = .ok (.slice (some ⟨D, 12, none⟩) n n) x := by
  have hl : Tryd.prog.arrayLen 28 = 62 := by kernel_rfl
  have he : Tryd.prog.elem 28 = 5 := by kernel_rfl
  obtain ⟨i, hi, _, hs, _⟩ := info_parts info_byte
  rw [run_sliceAt_array_hm x 28 ⟨D, 12, none⟩ (by rw [hl, he]; exact Tryd.underlying28) .i64 .i64 n n (by omega) (by omega) (by rw [hl]; omega), he]
  simp [sizeOf, typeInfo, hi, hs, slicedAt, Result.andThen, Addr.add]

/-- What end answers: a frame and whether there is one. -/
def EndPost (w : World) (D : Nat) (d : Dc) (fr : List Fr) (N : Nat) (e : Ending) (w' : World) : Prop :=
  ∃ (t : Tf) (ok : Bool), e = .returned (.tuple #[.agg t.cells.toArray, .bool ok]) ∧ fr = (if ok then [t.f] else []) ∧ t.In w' w.heap.size ∧ Dec w' D d N ∧ Ch [D] w w'
theorem end_none {w x : World} {D N : Nat} {d : Dc} {f : Nat → Nat} {buf : List UInt8} {e : Ending} (h : Sn w D f buf 0 false x) (hd : d = ⟨[], false, f⟩) (hm : ∀ i, f i ≤ N)
    (hr : e = .returned (.tuple #[.agg noFrame, .bool false])) : EndPost w D d [] N e (put6 x w.heap.size (.int .u8 0) (.int .u8 0) (.int .u8 0) (.int .u8 0) (.int .u8 0) (.slice none 0 0)) := by
  subst hd
  have hD := h.lt
  refine ⟨⟨Fr.none, none, 0, 0⟩, false, hr, rfl, ⟨fun hp => absurd hp (by simp [Fr.none])⟩, ⟨⟨buf, h.bx.keep (ch6 x w.heap.size _ _ _ _ _ _) (by simp; omega), rfl⟩, ⟨by simp, fun _ => rfl, by simp⟩, hm⟩, h.ch.join (ch6 x w.heap.size _ _ _ _ _ _) (by simp)⟩

set_option maxHeartbeats 4000000 in
set_option maxRecDepth 100000 in
theorem end_on {D N : Nat} {d : Dc} {w : World} (ht : Tab w) (h : Dec w D d N) (hN : N ≤ 1000000000) :
    Calls Tryd.prog 20 #[.pointer (some ⟨D, 0, none⟩)] w (EndPost w D (d.one 126).1 (d.one 126).2 (N + 1)) := by
  obtain ⟨buf, hb, htk⟩ := h.box
  have HO := Lib.hid h.ok
  have HM := Lib.hid h.most
  have H0 := Lib.hid (Sn.start ht hb)
  clear h hb ht
  cases d with
  | mk held over errs =>
  have hlm : held.length ≤ 62 := HO.out.most
  simp only at H0 htk HM
  have HTK := Lib.hid htk
  clear htk
  by_cases h0 : held = []
  · have HE : Hid ((Dc.mk held over errs).one 126 = (⟨[], false, errs⟩, [])) := by
      show _ = _
      subst h0
      unfold Dc.one
      cases over <;> rfl
    rw [HE.out]
    subst h0
    go_enter Tryd.func20, Tryd.ntmps20
    go_upto_region 1 with fail
    generalize hx1 : w.alloc (.cells noFrame 35) = x1 at *
    have c5 := H0.out.bx.lost
    have f5 := H0.out.bx.frozen 75
    go_upto_region 2 with fail
    have H1 := Lib.hid (H0.out.lost false)
    clear c5 f5 hx1 H0
    generalize x1.setCell ⟨D, 75, none⟩ (.bool false) = x2 at *
    have c4 := H1.out.bx.size
    simp only [List.length_nil] at c4
    obtain ⟨r0, r1, r2, r3, r4, r5, s0, s1, s2, s3, s4, s5⟩ := row6_facts H1.out.box
    go_wp2
    refine bodyPost_ret (results_row_tmp rfl _ _ w.heap.size 35 _ _ rfl (set6 H1.out.box) frame_struct frame_size) rfl ?_
    exact end_none H1.out rfl (fun i => Nat.le_succ_of_le (HM.out i)) rfl
  · have ho : over = false := by
      cases over
      · rfl
      · exact absurd (HO.out.over rfl) h0
    subst ho
    obtain ⟨n, hn⟩ : ∃ n, held.length = n := ⟨_, rfl⟩
    rw [hn] at hlm H0 HTK
    have hp : 0 < n := by rw [← hn]; exact List.length_pos_iff.2 h0
    have HE : Hid ((Dc.mk held false errs).one 126 = if decE held = 0 then (⟨[], false, errs⟩, [decF held]) else (⟨[], false, bump errs (decE held)⟩, [])) := by
      show _ = _
      unfold Dc.one
      rw [if_pos rfl]
      simp [h0]
    clear h0
    generalize (Dc.mk held false errs).one 126 = pd at *
    go_enter Tryd.func20, Tryd.ntmps20
    go_upto_region 1 with fail
    generalize hx1 : w.alloc (.cells noFrame 35) = x1 at *
    have c5 := H0.out.bx.lost
    have f5 := H0.out.bx.frozen 75
    go_upto_region 2 with fail
    have H1 := Lib.hid (H0.out.lost false)
    clear c5 f5 hx1 H0
    generalize x1.setCell ⟨D, 75, none⟩ (.bool false) = x2 at *
    have c4 := H1.out.bx.size
    have hn0 : ((n : Int) == 0) = false := by rw [beq_eq_false_iff_ne]; omega
    go_upto_region 4 with fail
    have H3 := Lib.hid (H1.out.step (drew_below x2))
    have HLT := Lib.hid H1.out.le
    have hsl := held_slice D n hlm
    clear H1 c4
    refine region_tree (.take 0 (.take 1 (.take 2 (.take 3 (.take 4 (.take 5 (.take 6 (.take 7 (.take 8 (.take 9 (.take 10 (.take 11 (.two 12 (.take 13 (.take 14 (.take 15 (.one 16 (.one 17 (.take 18 .done)))))) 16 (.one 12 (.take 13 (.take 14 (.take 15 (.one 17 (.take 18 .done)))))))))))))))))))
      (fun x => x.cell? ⟨D, 74, none⟩ = some (.int .i64 (n : Int)) ∧ buf.length = 62)
      (by kernel_rfl) (by kernel_rfl) (by kernel_rfl) (by kernel_rfl) ⟨H3.out.bx.size, H3.out.bx.len⟩ ?_
    iterate 12 (refine Tree.take (v := ?_) rfl (by rfl) ?_ ?_; rotate_left 1; (focus (intro x hx; obtain ⟨hx1, hx2⟩ := hx; go_simp <;> (first | with_reducible rfl | rw [if_pos (by omega)]))); simp only [Act.put, List.setIfInBounds_toArray, List.set_cons_zero, List.set_cons_succ])
    generalize x2.drew = x3 at *
    refine Tree.two rfl rfl (fun K hK => ?_) (fun K hK => ?_)
    · go_simp
      refine (decode_row H3.out.tab (H3.out.bx.holds n) (by rw [HTK.out]; exact hn) (Nat.le_refl _) (by omega)).mono ?_
      rw [HTK.out]
      rintro e x4 ⟨f, er, A1, m1, c1, g1, hf, her, rfl, rfl, hrw, hb⟩
      have HDF := Lib.hid hf
      have HDE := Lib.hid her
      clear hf her
      have H4 := Lib.hid (H3.out.step hb)
      have HR := Lib.hid (fun hp => (hrw hp))
      have HLE := Lib.hid (Nat.lt_of_lt_of_le H3.out.le hb.size)
      have HLS := Lib.hid (Nat.le_of_lt H3.out.le)
      clear hb hrw
      refine hK.out _ _ _ (fun x hx => hx) ⟨H4.out.bx.size, H4.out.bx.len⟩ ?_
      clear hK K
      iterate 3 (refine Tree.take (v := ?_) rfl (by rfl) ?_ ?_; rotate_left 1; (focus (intro x hx; obtain ⟨hx1, hx2⟩ := hx; go_simp <;> (first | with_reducible rfl | rw [if_pos (by omega)]))); simp only [Act.put, List.setIfInBounds_toArray, List.set_cons_zero, List.set_cons_succ])
      refine Tree.one rfl (fun K hK => ?_)
      go_simp
      refine hK.out _ _ _ (fun x hx => hx) ⟨(H4.out.step (new_below x4 (.cells noFrame 35))).bx.size, H4.out.bx.len⟩ ?_
      clear hK K
      refine Tree.one rfl (fun K hK => ?_)
      go_simp
      have H5 := Lib.hid (H4.out.step (new_below x4 (.cells #[.int .u8 (f.a : Int), .int .u8 (f.k : Int), .int .u8 (f.s : Int), .int .u8 (f.q : Int), .int .u8 (f.c : Int), .slice A1 f.b.length c1] 35)))
      have HZ := Lib.hid (heap_alloc_new x4 (.cells #[.int .u8 (f.a : Int), .int .u8 (f.k : Int), .int .u8 (f.s : Int), .int .u8 (f.q : Int), .int .u8 (f.c : Int), .slice A1 f.b.length c1] 35))
      have HQ : Hid (0 < f.b.length → A1 = some ⟨g1, 0, none⟩ ∧ f.b.length ≤ c1 ∧ Row (x4.alloc (.cells #[.int .u8 (f.a : Int), .int .u8 (f.k : Int), .int .u8 (f.s : Int), .int .u8 (f.q : Int), .int .u8 (f.c : Int), .slice A1 f.b.length c1] 35)) g1 f.b ∧ w.heap.size ≤ g1) := fun hp => ⟨(HR.out hp).1, (HR.out hp).2.1, (HR.out hp).2.2.1.keep ((Ch.refl [] x4).alloc _) (by simp), Nat.le_trans HLS.out (HR.out hp).2.2.2⟩
      refine hK.out _ _ _ (fun x hx => hx) ⟨H5.out.bx.size, H5.out.bx.len⟩ ?_
      clear hK K H4 HR H3
      (refine Tree.take (v := ?_) rfl (by rfl) ?_ ?_; rotate_left 1; (focus (intro x hx; obtain ⟨hx1, hx2⟩ := hx; go_simp <;> (first | with_reducible rfl | rw [if_pos (by omega)]))); simp only [Act.put, List.setIfInBounds_toArray, List.set_cons_zero, List.set_cons_succ])
      refine Tree.done ?_
      have HZL := Lib.hid HLE.out
      generalize (x4.alloc (.cells #[.int .u8 (f.a : Int), .int .u8 (f.k : Int), .int .u8 (f.s : Int), .int .u8 (f.q : Int), .int .u8 (f.c : Int), .slice A1 f.b.length c1] 35)) = x5 at *
      generalize x4.heap.size = Z at *
      go_upto_region 5 with fail
      have c4 := H5.out.bx.size
      have f4 := H5.out.bx.frozen 74
      go_upto_region 6 with fail
      have H6 := Lib.hid (H5.out.size 0)
      have HC6 : Hid (Ch [D] x5 (x5.setCell ⟨D, 74, none⟩ (.int .i64 ((0 : Nat) : Int)))) := (Ch.refl [D] x5).setCell (by simp) _
      have hDZ : D < w.heap.size := H5.out.lt
      have hZw : w.heap.size < Z := HZL.out
      have HZ6 := Lib.hid ((HC6.out.block Z (Array.getElem?_eq_some_iff.1 HZ.out).1 (by simp; omega)).trans HZ.out)
      have HQ6 : Hid (0 < f.b.length → A1 = some ⟨g1, 0, none⟩ ∧ f.b.length ≤ c1 ∧ Row (x5.setCell ⟨D, 74, none⟩ (.int .i64 ((0 : Nat) : Int))) g1 f.b ∧ w.heap.size ≤ g1) := fun hp => by
        obtain ⟨q1, q2, q3, q4⟩ := HQ.out hp
        exact ⟨q1, q2, q3.keep HC6.out (by simp; omega), q4⟩
      clear c4 f4 H5 HZ HQ HC6
      simp only [Int.natCast_zero] at H6 HZ6 HQ6
      generalize x5.setCell ⟨D, 74, none⟩ (.int .i64 0) = x6 at *
      have hne0 : w.heap.size ≠ Z := by omega
      by_cases he : er = 0
      · obtain ⟨z0, z1, z2, z3, z4, z5, -⟩ := row6_facts HZ6.out
        obtain ⟨r0, r1, r2, r3, r4, r5, s0, s1, s2, s3, s4, s5⟩ := row6_facts H6.out.box
        have he0 : ((er : Int) != 0) = false := by rw [he]; rfl
        have HE0 := Lib.hid he
        clear he
        go_wp2
        refine bodyPost_ret (results_row_tmp rfl _ _ w.heap.size 35 _ _ rfl (set6 H6.out.box) frame_struct frame_size) rfl ?_
        show EndPost w D _ _ _ _ _
        rw [HE.out, ← HDE.out, ← HDF.out, if_pos HE0.out]
        have HC7 := ch6 x6 w.heap.size (.int .u8 (f.a : Int)) (.int .u8 (f.k : Int)) (.int .u8 (f.s : Int)) (.int .u8 (f.q : Int)) (.int .u8 (f.c : Int)) (.slice A1 f.b.length c1)
        refine ⟨⟨f, A1, c1, g1⟩, true, rfl, rfl, ⟨fun hp => ?_⟩, ⟨⟨buf, H6.out.bx.keep HC7 (by simp; omega), rfl⟩, ⟨by simp, fun _ => rfl, by simp⟩, fun i => Nat.le_succ_of_le (HM.out i)⟩, H6.out.ch.join HC7 (by simp)⟩
        obtain ⟨q1, q2, q3, q4⟩ := HQ6.out hp
        refine ⟨q1, q2, q3.keep HC7 ?_, q4⟩
        simp
        rintro rfl
        have h1 := H6.out.box
        have h2 : x6.heap[w.heap.size]? = _ := q3
        rw [h1] at h2
        injection h2 with h2
        injection h2 with _ h2
        exact absurd h2 (by decide)
      · have he0 : ((er : Int) != 0) = true := by rw [bne_iff_ne]; omega
        have HE0 := Lib.hid he
        have her : er < 12 := by have := decE_le held; have := HDE.out; omega
        clear he
        go_wp2_with fail
        refine (count_on H6.out.bx her (Nat.le_trans (HM.out er) (by omega))).mono ?_
        rintro e x7 ⟨rfl, hb7, hc7⟩
        have H7 := Lib.hid (H6.out.turn hc7 hb7)
        clear hb7 hc7 H6 HZ6 HQ6
        obtain ⟨r0, r1, r2, r3, r4, r5, s0, s1, s2, s3, s4, s5⟩ := row6_facts H7.out.box
        go_wp2
        refine bodyPost_ret (results_row_tmp rfl _ _ w.heap.size 35 _ _ rfl (set6 H7.out.box) frame_struct frame_size) rfl ?_
        show EndPost w D _ _ _ _ _
        rw [HE.out, ← HDE.out, if_neg HE0.out]
        exact end_none H7.out rfl (bump_le HM.out) rfl
    · go_simp
      have H4 := Lib.hid (H3.out.step (new_below x3 (.cells noFrame 35)))
      have HZ4 := Lib.hid (heap_alloc_new x3 (.cells noFrame 35))
      refine hK.out _ _ _ (fun x hx => hx) ⟨H4.out.bx.size, H4.out.bx.len⟩ ?_
      clear hK K
      refine Tree.one rfl (fun K hK => ?_)
      go_simp
      refine (decode_row H4.out.tab (H4.out.bx.holds n) (by rw [HTK.out]; exact hn) (Nat.le_refl _) (by omega)).mono ?_
      rw [HTK.out]
      rintro e x4 ⟨f, er, A1, m1, c1, g1, hf, her, rfl, rfl, hrw, hb⟩
      have HDF := Lib.hid hf
      have HDE := Lib.hid her
      clear hf her
      have HU := Lib.hid (H4.out.step hb)
      have HLS := Lib.hid H3.out.le
      have hrow := (hb.block x3.heap.size (by simp)).trans HZ4.out
      have HP : Hid (Ch [x3.heap.size] x4 (put6 x4 x3.heap.size (.int .u8 (f.a : Int)) (.int .u8 (f.k : Int)) (.int .u8 (f.s : Int)) (.int .u8 (f.q : Int)) (.int .u8 (f.c : Int)) (.slice A1 f.b.length c1))) := ch6 x4 x3.heap.size _ _ _ _ _ _
      have H5 := Lib.hid (HU.out.far HP.out HLS.out)
      have HZ : Hid ((put6 x4 x3.heap.size (.int .u8 (f.a : Int)) (.int .u8 (f.k : Int)) (.int .u8 (f.s : Int)) (.int .u8 (f.q : Int)) (.int .u8 (f.c : Int)) (.slice A1 f.b.length c1)).heap[x3.heap.size]? = some (.cells #[.int .u8 (f.a : Int), .int .u8 (f.k : Int), .int .u8 (f.s : Int), .int .u8 (f.q : Int), .int .u8 (f.c : Int), .slice A1 f.b.length c1] 35 (0, 0))) := set6 hrow
      have HQ : Hid (0 < f.b.length → A1 = some ⟨g1, 0, none⟩ ∧ f.b.length ≤ c1 ∧ Row (put6 x4 x3.heap.size (.int .u8 (f.a : Int)) (.int .u8 (f.k : Int)) (.int .u8 (f.s : Int)) (.int .u8 (f.q : Int)) (.int .u8 (f.c : Int)) (.slice A1 f.b.length c1)) g1 f.b ∧ w.heap.size ≤ g1) := fun hp => by
        obtain ⟨q1, q2, q3, q4⟩ := hrw hp
        have q5 : x3.heap.size < g1 := by have : x3.heap.size + 1 ≤ g1 := by simpa using q4
                                          omega
        exact ⟨q1, q2, q3.keep HP.out (by simp; omega), by have := HLS.out; omega⟩
      refine hK.out _ _ _ (fun x hx => hx) ⟨HU.out.bx.size, HU.out.bx.len⟩ ?_
      clear hK K hb hrw H3 H4
      iterate 3 (refine Tree.take (v := ?_) rfl (by rfl) ?_ ?_; rotate_left 1; (focus (intro x hx; obtain ⟨hx1, hx2⟩ := hx; go_simp <;> (first | with_reducible rfl | rw [if_pos (by omega)]))); simp only [Act.put, List.setIfInBounds_toArray, List.set_cons_zero, List.set_cons_succ])
      obtain ⟨r0, r1, r2, r3, r4, r5, s0, s1, s2, s3, s4, s5⟩ := row6_facts hrow
      refine Tree.one rfl (fun K hK => ?_)
      go_simp
      refine hK.out _ _ _ (fun x hx => hx) ⟨H5.out.bx.size, H5.out.bx.len⟩ ?_
      clear hK K hrow r0 r1 r2 r3 r4 r5 s0 s1 s2 s3 s4 s5 HU HZ4
      (refine Tree.take (v := ?_) rfl (by rfl) ?_ ?_; rotate_left 1; (focus (intro x hx; obtain ⟨hx1, hx2⟩ := hx; go_simp <;> (first | with_reducible rfl | rw [if_pos (by omega)]))); simp only [Act.put, List.setIfInBounds_toArray, List.set_cons_zero, List.set_cons_succ])
      refine Tree.done ?_
      have HZL := Lib.hid HLS.out
      unfold put6 at H5 HZ HQ HP
      generalize ((((((x4.setCell ⟨x3.heap.size, 0, none⟩ (.int .u8 (f.a : Int))).setCell ⟨x3.heap.size, 1, none⟩ (.int .u8 (f.k : Int))).setCell ⟨x3.heap.size, 2, none⟩ (.int .u8 (f.s : Int))).setCell ⟨x3.heap.size, 3, none⟩ (.int .u8 (f.q : Int))).setCell ⟨x3.heap.size, 4, none⟩ (.int .u8 (f.c : Int))).setCell ⟨x3.heap.size, 5, none⟩ (.slice A1 f.b.length c1)) = x5 at *
      generalize x3.heap.size = Z at *
      go_upto_region 5 with fail
      have c4 := H5.out.bx.size
      have f4 := H5.out.bx.frozen 74
      go_upto_region 6 with fail
      have H6 := Lib.hid (H5.out.size 0)
      have HC6 : Hid (Ch [D] x5 (x5.setCell ⟨D, 74, none⟩ (.int .i64 ((0 : Nat) : Int)))) := (Ch.refl [D] x5).setCell (by simp) _
      have hDZ : D < w.heap.size := H5.out.lt
      have hZw : w.heap.size < Z := HZL.out
      have HZ6 := Lib.hid ((HC6.out.block Z (Array.getElem?_eq_some_iff.1 HZ.out).1 (by simp; omega)).trans HZ.out)
      have HQ6 : Hid (0 < f.b.length → A1 = some ⟨g1, 0, none⟩ ∧ f.b.length ≤ c1 ∧ Row (x5.setCell ⟨D, 74, none⟩ (.int .i64 ((0 : Nat) : Int))) g1 f.b ∧ w.heap.size ≤ g1) := fun hp => by
        obtain ⟨q1, q2, q3, q4⟩ := HQ.out hp
        exact ⟨q1, q2, q3.keep HC6.out (by simp; omega), q4⟩
      clear c4 f4 H5 HZ HQ HC6
      simp only [Int.natCast_zero] at H6 HZ6 HQ6
      generalize x5.setCell ⟨D, 74, none⟩ (.int .i64 0) = x6 at *
      have hne0 : w.heap.size ≠ Z := by omega
      by_cases he : er = 0
      · obtain ⟨z0, z1, z2, z3, z4, z5, -⟩ := row6_facts HZ6.out
        obtain ⟨r0, r1, r2, r3, r4, r5, s0, s1, s2, s3, s4, s5⟩ := row6_facts H6.out.box
        have he0 : ((er : Int) != 0) = false := by rw [he]; rfl
        have HE0 := Lib.hid he
        clear he
        go_wp2
        refine bodyPost_ret (results_row_tmp rfl _ _ w.heap.size 35 _ _ rfl (set6 H6.out.box) frame_struct frame_size) rfl ?_
        show EndPost w D _ _ _ _ _
        rw [HE.out, ← HDE.out, ← HDF.out, if_pos HE0.out]
        have HC7 := ch6 x6 w.heap.size (.int .u8 (f.a : Int)) (.int .u8 (f.k : Int)) (.int .u8 (f.s : Int)) (.int .u8 (f.q : Int)) (.int .u8 (f.c : Int)) (.slice A1 f.b.length c1)
        refine ⟨⟨f, A1, c1, g1⟩, true, rfl, rfl, ⟨fun hp => ?_⟩, ⟨⟨buf, H6.out.bx.keep HC7 (by simp; omega), rfl⟩, ⟨by simp, fun _ => rfl, by simp⟩, fun i => Nat.le_succ_of_le (HM.out i)⟩, H6.out.ch.join HC7 (by simp)⟩
        obtain ⟨q1, q2, q3, q4⟩ := HQ6.out hp
        refine ⟨q1, q2, q3.keep HC7 ?_, q4⟩
        simp
        rintro rfl
        have h1 := H6.out.box
        have h2 : x6.heap[w.heap.size]? = _ := q3
        rw [h1] at h2
        injection h2 with h2
        injection h2 with _ h2
        exact absurd h2 (by decide)
      · have he0 : ((er : Int) != 0) = true := by rw [bne_iff_ne]; omega
        have HE0 := Lib.hid he
        have her : er < 12 := by have := decE_le held; have := HDE.out; omega
        clear he
        go_wp2_with fail
        refine (count_on H6.out.bx her (Nat.le_trans (HM.out er) (by omega))).mono ?_
        rintro e x7 ⟨rfl, hb7, hc7⟩
        have H7 := Lib.hid (H6.out.turn hc7 hb7)
        clear hb7 hc7 H6 HZ6 HQ6
        obtain ⟨r0, r1, r2, r3, r4, r5, s0, s1, s2, s3, s4, s5⟩ := row6_facts H7.out.box
        go_wp2
        refine bodyPost_ret (results_row_tmp rfl _ _ w.heap.size 35 _ _ rfl (set6 H7.out.box) frame_struct frame_size) rfl ?_
        show EndPost w D _ _ _ _ _
        rw [HE.out, ← HDE.out, if_neg HE0.out]
        exact end_none H7.out rfl (bump_le HM.out) rfl

end Go.Proofs.YtalolefggihloaaDoor
