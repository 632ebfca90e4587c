/-
  frame.Decode, as it landed: what it answers.
-/
import Derived.Test.YtalolefggihloaaDoorFrameE
import Derived.Test.YtalolefggihloaaDoorFrameF
import Derived.Test.YtalolefggihloaaDoorFStuffCodeB
namespace Go.Proofs.YtalolefggihloaaDoor
set_option linter.unusedVariables false
set_option linter.unusedSimpArgs false
open Go.RowKit

abbrev noFrame : Array Value := #[.int .u8 0, .int .u8 0, .int .u8 0, .int .u8 0, .int .u8 0, .slice none 0 0]
/-- All six cells of a row, one behind the other. -/
abbrev put6 (x : World) (B : Nat) (v0 v1 v2 v3 v4 v5 : Value) : World := (((((x.setCell ⟨B, 0, none⟩ v0).setCell ⟨B, 1, none⟩ v1).setCell ⟨B, 2, none⟩ v2).setCell ⟨B, 3, none⟩ v3).setCell ⟨B, 4, none⟩ v4).setCell ⟨B, 5, none⟩ v5
theorem set6 {x : World} {B : Nat} {t : TypeId} {u0 u1 u2 u3 u4 u5 v0 v1 v2 v3 v4 v5 : Value} (h : x.heap[B]? = some (.cells #[u0, u1, u2, u3, u4, u5] t (0, 0))) : (put6 x B v0 v1 v2 v3 v4 v5).heap[B]? = some (.cells #[v0, v1, v2, v3, v4, v5] t (0, 0)) := by
  have h0 := heap_setCell_same _ B 0 _ _ v0 h
  simp only [List.setIfInBounds_toArray, List.set_cons_zero, List.set_cons_succ] at h0
  have h1 := heap_setCell_same _ B 1 _ _ v1 h0
  simp only [List.setIfInBounds_toArray, List.set_cons_zero, List.set_cons_succ] at h1
  have h2 := heap_setCell_same _ B 2 _ _ v2 h1
  simp only [List.setIfInBounds_toArray, List.set_cons_zero, List.set_cons_succ] at h2
  have h3 := heap_setCell_same _ B 3 _ _ v3 h2
  simp only [List.setIfInBounds_toArray, List.set_cons_zero, List.set_cons_succ] at h3
  have h4 := heap_setCell_same _ B 4 _ _ v4 h3
  simp only [List.setIfInBounds_toArray, List.set_cons_zero, List.set_cons_succ] at h4
  have h5 := heap_setCell_same _ B 5 _ _ v5 h4
  simp only [List.setIfInBounds_toArray, List.set_cons_zero, List.set_cons_succ] at h5
  exact h5
theorem ch6 (x : World) (B : Nat) (v0 v1 v2 v3 v4 v5 : Value) : Ch [B] x (put6 x B v0 v1 v2 v3 v4 v5) :=
  ((((((Ch.refl _ x).setCell (p := ⟨B, 0, none⟩) (by simp) _).setCell (p := ⟨B, 1, none⟩) (by simp) _).setCell (p := ⟨B, 2, none⟩) (by simp) _).setCell (p := ⟨B, 3, none⟩) (by simp) _).setCell (p := ⟨B, 4, none⟩) (by simp) _).setCell (p := ⟨B, 5, none⟩) (by simp) _
theorem below6 {w x : World} {v0 v1 v2 v3 v4 v5 : Value} (h : Below w.heap.size w x) : Below w.heap.size w (put6 x w.heap.size v0 v1 v2 v3 v4 v5) :=
  h.trans ((ch6 x _ _ _ _ _ _ _).belowAt (by simp) h.size)
theorem Se.frozen {w x : World} {g B : Nat} {A : Option Addr} {L : List UInt8} {cs : Array Value} (h : Se w g A L B cs x) (i : Nat) : x.frozen? ⟨B, i, none⟩ = false := frozen_of_row _ _ _ _ _ h.box
/-- Of another slice that is held by then. -/
theorem Se.hold {w x : World} {g g' B : Nat} {A A' : Option Addr} {L L' : List UInt8} {cs : Array Value} (h : Se w g A L B cs x) (h' : Holds x g' A' (bcs L')) : Se w g' A' L' B cs x := ⟨h.tab, h', h.below, h.box⟩

/-- What Decode answers. -/
def DecPost (w : World) (l : List UInt8) (e : Ending) (w' : World) : Prop :=
  ∃ (f : Fr) (er : Nat) (A' : Option Addr) (m c' g' : Nat), f = decF l ∧ er = decE l ∧ m = f.b.length ∧ e = .returned (.tuple #[.agg #[.int .u8 (f.a : Int), .int .u8 (f.k : Int), .int .u8 (f.s : Int), .int .u8 (f.q : Int), .int .u8 (f.c : Int), .slice A' m c'], .int .i64 (er : Int)]) ∧
    Holds w' g' A' (bcs f.b) ∧ (0 < m → w.heap.size ≤ g') ∧ Below w.heap.size w w'
/-- The same, and that the bytes are a row of their own. -/
def DecRow (w : World) (l : List UInt8) (e : Ending) (w' : World) : Prop :=
  ∃ (f : Fr) (er : Nat) (A' : Option Addr) (m c' g' : Nat), f = decF l ∧ er = decE l ∧ m = f.b.length ∧ e = .returned (.tuple #[.agg #[.int .u8 (f.a : Int), .int .u8 (f.k : Int), .int .u8 (f.s : Int), .int .u8 (f.q : Int), .int .u8 (f.c : Int), .slice A' m c'], .int .i64 (er : Int)]) ∧
    (0 < m → A' = some ⟨g', 0, none⟩ ∧ m ≤ c' ∧ Row w' g' f.b ∧ w.heap.size ≤ g') ∧ Below w.heap.size w w'
theorem DecRow.post {w w' : World} {l : List UInt8} {e : Ending} (h : DecRow w l e w') : DecPost w l e w' := by
  obtain ⟨f, er, A', m, c', g', h1, h2, h3, h4, h5, h6⟩ := h
  refine ⟨f, er, A', m, c', g', h1, h2, h3, h4, ?_, fun hp => (h5 hp).2.2.2, h6⟩
  intro hp
  rw [bcs_length, ← h3] at hp
  obtain ⟨rfl, _, hr, _⟩ := h5 hp
  exact hr.holds (by rw [bcs_length, ← h3]; exact hp)

theorem dec_none {w x : World} {g : Nat} {A : Option Addr} {L l : List UInt8} {er : Nat} {e : Ending} (h : Se w g A L w.heap.size noFrame x) (he : er = decE l) (hf : decF l = Fr.none)
    (hr : e = .returned (.tuple #[.agg noFrame, .int .i64 (er : Int)])) : DecRow w l e (put6 x w.heap.size (.int .u8 0) (.int .u8 0) (.int .u8 0) (.int .u8 0) (.int .u8 0) (.slice none 0 0)) :=
  ⟨Fr.none, er, none, 0, 0, 0, hf.symm, he, rfl, hr, fun h => absurd h (by omega), below6 h.below⟩

theorem say_cons (b0 b1 b2 b3 b4 : UInt8) (l : List UInt8) : sayF (b0 :: b1 :: b2 :: b3 :: b4 :: l) = ⟨b0.toNat, b1.toNat, b2.toNat, b3.toNat % 2, b3.toNat / 2, l⟩ := rfl
theorem agrees_cons (b0 b1 b2 b3 b4 : UInt8) (l : List UInt8) : agrees (b0 :: b1 :: b2 :: b3 :: b4 :: l) = (rightB b0.toNat b1.toNat (b3.toNat % 2) (b3.toNat / 2) l.length && decide (b4.toNat = l.length)) := rfl
theorem five_of (p : List UInt8) (h : 5 ≤ p.length) : ∃ b0 b1 b2 b3 b4 l, p = b0 :: b1 :: b2 :: b3 :: b4 :: l := by
  match p, h with
  | b0 :: b1 :: b2 :: b3 :: b4 :: l, _ => exact ⟨b0, b1, b2, b3, b4, l, rfl⟩

set_option maxHeartbeats 4000000 in
set_option maxRecDepth 100000 in
theorem decode_row {g n c : Nat} {A : Option Addr} {l : List UInt8} {w : World} (ht : Tab w) (h : Holds w g A (bcs l)) (hn : l.length = n) (hc : n ≤ c) (hl : n ≤ 1000000) :
    Calls Tryd.prog 18 #[.slice A n c] w (DecRow w l) := by
  have HN := Lib.hid hn
  have H0 := Lib.hid (Se.start noFrame ht h)
  clear h ht hn
  go_enter Tryd.func18, Tryd.ntmps18
  go_wp2_with fail
  refine (unstuff_on _ _ _ _ _ _ H0.out.holds HN.out hc hl).mono ?_
  rintro e x1 ⟨A1, n1, c1, rfl, ho1, hb1⟩
  have H1 := Lib.hid (H0.out.step hb1)
  clear H0 hb1
  have HU := Lib.hid (Eq.refl (uErr l))
  have r0 := (H1.out.cell 0).trans rfl
  have r1 := (H1.out.cell 1).trans rfl
  have r2 := (H1.out.cell 2).trans rfl
  have r3 := (H1.out.cell 3).trans rfl
  have r4 := (H1.out.cell 4).trans rfl
  have r5 := (H1.out.cell 5).trans rfl
  have f0 := H1.out.frozen 0
  have f1 := H1.out.frozen 1
  have f2 := H1.out.frozen 2
  have f3 := H1.out.frozen 3
  have f4 := H1.out.frozen 4
  have f5 := H1.out.frozen 5
  by_cases hu : uErr l = 0
  · rw [hu]
    have HU0 := Lib.hid hu
    have HL1 := Lib.hid ho1.len
    have hcap := ho1.cap
    obtain ⟨g1, hg1, _⟩ := ho1.holds
    have hul : (uOut l).length ≤ l.length := uOut_le l
    have hn1 : n1 ≤ 1000000 := by
      have h1 := HL1.out
      have h2 := HN.out
      omega
    have HD : Hid (decE l = tellE (uOut l)) := by show _ = _; simp [decE, hu]
    have HDF : Hid (decF l = tellF (uOut l)) := by show _ = _; simp [decF, hu]
    clear hu hul
    generalize hu' : uOut l = u at *
    have HG1 := Lib.hid hg1
    clear hg1 ho1 hu'
    by_cases h7 : n1 < 7
    · have HT : Hid (tellE u = 2) := by show _ = _; rw [tellE, if_pos (by rw [HL1.out]; exact h7)]
      go_wp2
      refine bodyPost_ret (results_row_tmp rfl _ _ w.heap.size 35 _ _ rfl (set6 H1.out.box) frame_struct frame_size) rfl ?_
      exact dec_none (er := 2) H1.out (by rw [HD.out, HT.out]) (by rw [HDF.out, tellF, HT.out]; rfl) rfl
    · obtain ⟨m, rfl⟩ : ∃ m, n1 = m + 2 := ⟨n1 - 2, by omega⟩
      have e1 : ((m + 2 : Nat) : Int) - 2 = (m : Int) := by omega
      have hm5 : 5 ≤ m := by omega
      cases hv : validB u
      · have HV := Lib.hid hv
        clear hv
        have HT : Hid (tellE u = 4) := by show _ = _; rw [tellE, if_neg (by rw [HL1.out]; exact h7), if_pos HV.out]
        clear r0 r1 r2 r3 r4 r5 f0 f1 f2 f3 f4 f5
        go_wp2_with fail
        refine (valid_on H1.out.tab HG1.out HL1.out hcap (by omega) false HV.out).mono ?_
        rintro e x2 ⟨rfl, hb2⟩
        have H2 := Lib.hid (H1.out.step hb2)
        clear hb2 H1
        have r0 := (H2.out.cell 0).trans rfl
        have r1 := (H2.out.cell 1).trans rfl
        have r2 := (H2.out.cell 2).trans rfl
        have r3 := (H2.out.cell 3).trans rfl
        have r4 := (H2.out.cell 4).trans rfl
        have r5 := (H2.out.cell 5).trans rfl
        have f0 := H2.out.frozen 0
        have f1 := H2.out.frozen 1
        have f2 := H2.out.frozen 2
        have f3 := H2.out.frozen 3
        have f4 := H2.out.frozen 4
        have f5 := H2.out.frozen 5
        go_wp2
        refine bodyPost_ret (results_row_tmp rfl _ _ w.heap.size 35 _ _ rfl (set6 H2.out.box) frame_struct frame_size) rfl ?_
        exact dec_none (er := 4) H2.out (by rw [HD.out, HT.out]) (by rw [HDF.out, tellF, HT.out]; rfl) rfl
      · have HV := Lib.hid hv
        clear hv
        have HT : Hid (tellE u = if agrees (u.take m) then 0 else 3) := by
          show _ = _
          rw [tellE, if_neg (by rw [HL1.out]; exact h7), if_neg (by rw [HV.out]; decide), HL1.out]
          rfl
        have HTF : Hid (tellE u = 0 → tellF u = sayF (u.take m)) := by
          intro h0
          rw [tellF, if_pos h0, HL1.out]
          rfl
        clear r0 r1 r2 r3 r4 r5 f0 f1 f2 f3 f4 f5
        go_wp2_with fail
        refine (valid_on H1.out.tab HG1.out HL1.out hcap (by omega) true HV.out).mono ?_
        rintro e x2 ⟨rfl, hb2⟩
        have H2 := Lib.hid (H1.out.step hb2)
        have HG2 : Hid (Holds x2 g1 A1 (bcs (u.take m))) := by
          show Holds _ _ _ _
          rw [bcs_take]
          exact (HG1.out.take m).keep (Ch.of_below hb2) (by simp)
        have HLm : Hid ((u.take m).length = m) := by show _ = _; rw [List.length_take, HL1.out]; omega
        clear hb2 H1 HG1 HL1
        generalize u.take m = p at *
        obtain ⟨b0, b1, b2, b3, b4, q, rfl⟩ := five_of p (by rw [HLm.out]; exact hm5)
        have hb4 := b4.toNat_lt
        have hmc : m ≤ c1 := by omega
        go_wp2_with fail
        refine (from_on HG2.out HLm.out (by omega)).mono ?_
        rintro e x3 ⟨X, k, hX, hk, rfl, hrow, hb3⟩
        have H3 := Lib.hid (H2.out.step hb3)
        have HX : Hid (w.heap.size < X) := Nat.lt_of_lt_of_le (Array.getElem?_eq_some_iff.1 H2.out.box).1 hX
        have HW := Lib.hid hrow
        have HK := Lib.hid hk
        clear hb3 H2 hX hrow hk HG2
        have HAG := Lib.hid (agrees_cons b0 b1 b2 b3 b4 q)
        have HSY := Lib.hid (say_cons b0 b1 b2 b3 b4 q)
        rw [← HK.out] at HAG
        generalize b3.toNat % 2 = q3 at *
        generalize b3.toNat / 2 = rr at *
        cases ha : (rightB b0.toNat b1.toNat q3 rr k && decide (b4.toNat = k))
        · have HA := Lib.hid ha.symm
          rw [HAG.out, ha] at HT
          clear ha
          go_wp2_with fail
          refine (agrees_on false HA.out hb4).mono ?_
          rintro e x4 ⟨rfl, hb4⟩
          have H4 := Lib.hid ((H3.out.alloc _).step hb4)
          clear hb4 H3
          have r0 := (H4.out.cell 0).trans rfl
          have r1 := (H4.out.cell 1).trans rfl
          have r2 := (H4.out.cell 2).trans rfl
          have r3 := (H4.out.cell 3).trans rfl
          have r4 := (H4.out.cell 4).trans rfl
          have r5 := (H4.out.cell 5).trans rfl
          have f0 := H4.out.frozen 0
          have f1 := H4.out.frozen 1
          have f2 := H4.out.frozen 2
          have f3 := H4.out.frozen 3
          have f4 := H4.out.frozen 4
          have f5 := H4.out.frozen 5
          go_wp2
          refine bodyPost_ret (results_row_tmp rfl _ _ w.heap.size 35 _ _ rfl (set6 H4.out.box) frame_struct frame_size) rfl ?_
          exact dec_none (er := 3) H4.out (by rw [HD.out, HT.out]; rfl) (by rw [HDF.out, tellF, HT.out]; rfl) rfl
        · have HA := Lib.hid ha.symm
          rw [HAG.out, ha] at HT
          clear ha
          go_wp2_with fail
          refine (agrees_on true HA.out hb4).mono ?_
          rintro e x4 ⟨rfl, hb4⟩
          have H4 := Lib.hid ((H3.out.alloc _).step hb4)
          replace HW := Lib.hid (HW.out.keep ((Ch.refl [] x3).alloc (.cells #[.int .u8 (b0.toNat : Int), .int .u8 (b1.toNat : Int), .int .u8 (b2.toNat : Int), .int .u8 (q3 : Int), .int .u8 (rr : Int), .slice (some ⟨X, 0, none⟩) k k, .int .u8 (b3.toNat : Int), .int .u8 (b4.toNat : Int)] 67)) (by simp))
          replace HW := Lib.hid (HW.out.keep (Ch.of_below hb4) (by simp))
          have s0 := (hb4.cell (p := ⟨x3.heap.size, 0, none⟩) (by simp)).trans ((cell_alloc_new x3 _ _ _ _ rfl).trans rfl)
          have s1 := (hb4.cell (p := ⟨x3.heap.size, 1, none⟩) (by simp)).trans ((cell_alloc_new x3 _ _ _ _ rfl).trans rfl)
          have s2 := (hb4.cell (p := ⟨x3.heap.size, 2, none⟩) (by simp)).trans ((cell_alloc_new x3 _ _ _ _ rfl).trans rfl)
          have s3 := (hb4.cell (p := ⟨x3.heap.size, 3, none⟩) (by simp)).trans ((cell_alloc_new x3 _ _ _ _ rfl).trans rfl)
          have s4 := (hb4.cell (p := ⟨x3.heap.size, 4, none⟩) (by simp)).trans ((cell_alloc_new x3 _ _ _ _ rfl).trans rfl)
          have s5 := (hb4.cell (p := ⟨x3.heap.size, 5, none⟩) (by simp)).trans ((cell_alloc_new x3 _ _ _ _ rfl).trans rfl)
          have hne : x3.heap.size ≠ w.heap.size := by
            have := (Array.getElem?_eq_some_iff.1 H3.out.box).1
            omega
          have HXl := Lib.hid HW.out.lt
          clear hb4
          have r0 := (H4.out.cell 0).trans rfl
          have r1 := (H4.out.cell 1).trans rfl
          have r2 := (H4.out.cell 2).trans rfl
          have r3 := (H4.out.cell 3).trans rfl
          have r4 := (H4.out.cell 4).trans rfl
          have r5 := (H4.out.cell 5).trans rfl
          have f0 := H4.out.frozen 0
          have f1 := H4.out.frozen 1
          have f2 := H4.out.frozen 2
          have f3 := H4.out.frozen 3
          have f4 := H4.out.frozen 4
          have f5 := H4.out.frozen 5
          go_wp2
          refine bodyPost_ret (results_row_tmp rfl _ _ w.heap.size 35 _ _ rfl (set6 H4.out.box) frame_struct frame_size) rfl ?_
          have hF : decF l = ⟨b0.toNat, b1.toNat, b2.toNat, q3, rr, q⟩ := by rw [HDF.out, HTF.out HT.out, HSY.out]
          have hne2 : X ≠ w.heap.size := by have := HX.out; omega
          refine ⟨_, 0, some ⟨X, 0, none⟩, k, k, X, hF.symm, by rw [HD.out, HT.out]; rfl, HK.out, rfl, fun _ => ⟨rfl, Nat.le_refl _, HW.out.keep (ch6 x4 w.heap.size _ _ _ _ _ _) (by simpa using hne2), Nat.le_of_lt HX.out⟩, below6 H4.out.below⟩
  · have HU0 := Lib.hid hu
    clear ho1
    have HE : Hid (decE l = uErr l) := by show _ = _; simp [decE, hu]
    have HF : Hid (decF l = Fr.none) := by show _ = _; simp [decF, hu]
    have hne : ((uErr l : Int) != 0) = true := by rw [bne_iff_ne]; omega
    generalize uErr l = er at *
    go_wp2
    refine bodyPost_ret (results_row_tmp rfl _ _ w.heap.size 35 _ _ rfl (set6 H1.out.box) frame_struct frame_size) rfl ?_
    exact dec_none H1.out HE.out.symm HF.out rfl
theorem decode_on {g n c : Nat} {A : Option Addr} {l : List UInt8} {w : World} (ht : Tab w) (h : Holds w g A (bcs l)) (hn : l.length = n) (hc : n ≤ c) (hl : n ≤ 1000000) :
    Calls Tryd.prog 18 #[.slice A n c] w (DecPost w l) := (decode_row ht h hn hc hl).mono fun _ _ h => h.post

end Go.Proofs.YtalolefggihloaaDoor
