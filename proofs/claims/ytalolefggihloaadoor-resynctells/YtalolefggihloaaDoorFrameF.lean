/-
  frame.fromBytes, as it landed: what it answers.
-/
import Derived.Test.YtalolefggihloaaDoorFrameA
import Derived.Laws.Tables
namespace Go.Proofs.YtalolefggihloaaDoor
set_option linter.unusedVariables false
set_option linter.unusedSimpArgs false
open Go.RowKit

theorem Ch.setRow {F : List Nat} {a w : World} (h : Ch F a w) {g : Nat} (hp : g < a.heap.size → g ∈ F) (cs : Array Value) : Ch F a (w.setRow g cs) :=
  ⟨h.os, h.tape, h.output, by simpa using h.size, fun k hk hf => (setRow_other w g k cs (fun e => hf (by subst e; exact hp hk))).trans (h.block k hk hf)⟩
theorem Below.setRow' {B : Nat} {a w : World} (h : Below B a w) {g : Nat} (hp : B ≤ g) (cs : Array Value) : Below B a (w.setRow g cs) :=
  ⟨h.os, h.tape, h.output, by simpa using h.size, fun k hk => (setRow_other w g k cs (by omega)).trans (h.block k hk)⟩

/-- The next byte, if there is one. -/
theorem u8_head {R g : Nat} {b : UInt8} {l : List UInt8} {w : World} (h : Rdr w R g (b :: l)) :
    Calls Tryd.prog 41 #[.pointer (some ⟨R, 0, none⟩)] w fun e w' => e = .returned (.tuple #[.int .u8 (b.toNat : Int), .int .i64 0]) ∧ Rdr w' R g l ∧ Ch [R] w w' := by
  refine (u8_ok R g (b :: l) w h (by simp)).mono ?_
  rintro e w' ⟨he, hr, hc⟩
  exact ⟨by simpa [num] using he, by simpa using hr, hc⟩

abbrev noSent : Array Value := #[.int .u8 0, .int .u8 0, .int .u8 0, .int .u8 0, .int .u8 0, .slice none 0 0, .int .u8 0, .int .u8 0]
/-- While it is read: the reader; what is sent, in the block behind the first new one; the result, in the first. -/
structure Sf (w : World) (R g : Nat) (p : List UInt8) (cs : Array Value) (x : World) : Prop where
  rdr : Rdr x R g p
  row : x.heap[w.heap.size + 1]? = some (.cells cs 67 (0, 0))
  res : x.heap[w.heap.size]? = some (.cells noSent 67 (0, 0))
  below : Below w.heap.size w x
  leR : w.heap.size + 2 ≤ R
  leg : w.heap.size + 2 ≤ g
theorem Sf.take {w x y : World} {R g : Nat} {p p' : List UInt8} {cs : Array Value} (h : Sf w R g p cs x) (hr : Rdr y R g p') (hc : Ch [R] x y) : Sf w R g p' cs y := by
  have h1 := h.leR
  have h2 := h.leg
  have h3 := (Array.getElem?_eq_some_iff.1 h.row).1
  exact ⟨hr, (hc.block _ h3 (by simp; omega)).trans h.row, (hc.block _ (by omega) (by simp; omega)).trans h.res, h.below.trans (hc.belowAt (by simp; omega) (by omega)), h1, h2⟩
theorem Sf.set {w x : World} {R g : Nat} {p : List UInt8} {cs : Array Value} (h : Sf w R g p cs x) (i : Nat) (v : Value) : Sf w R g p (cs.setIfInBounds i v) (x.setCell ⟨w.heap.size + 1, i, none⟩ v) := by
  have h1 := h.leR
  have h2 := h.leg
  have hc : Ch [w.heap.size + 1] x (x.setCell ⟨w.heap.size + 1, i, none⟩ v) := (Ch.refl _ x).setCell (by simp) v
  exact ⟨h.rdr.keep hc (by simp; omega) (by simp; omega), heap_setCell_same x _ i cs _ v h.row, (hc.block _ (Array.getElem?_eq_some_iff.1 h.res).1 (by simp)).trans h.res, h.below.setCell (by show w.heap.size ≤ w.heap.size + 1; omega) v, h1, h2⟩
theorem Sf.cell {w x : World} {R g : Nat} {p : List UInt8} {cs : Array Value} (h : Sf w R g p cs x) (i : Nat) : x.cell? ⟨w.heap.size + 1, i, none⟩ = cs[i]? := cell_of_row x _ i cs _ _ h.row
theorem Sf.frozen {w x : World} {R g : Nat} {p : List UInt8} {cs : Array Value} (h : Sf w R g p cs x) (i : Nat) : x.frozen? ⟨w.heap.size + 1, i, none⟩ = false := frozen_of_row _ _ _ _ _ h.row

/-- All eight cells of a row, one behind the other. -/
theorem set8 {x : World} {B : Nat} {t : TypeId} {u0 u1 u2 u3 u4 u5 u6 u7 v0 v1 v2 v3 v4 v5 v6 v7 : Value} (h : x.heap[B]? = some (.cells #[u0, u1, u2, u3, u4, u5, u6, u7] t (0, 0))) :
    ((((((((x.setCell ⟨B, 0, none⟩ v0).setCell ⟨B, 1, none⟩ v1).setCell ⟨B, 2, none⟩ v2).setCell ⟨B, 3, none⟩ v3).setCell ⟨B, 4, none⟩ v4).setCell ⟨B, 5, none⟩ v5).setCell ⟨B, 6, none⟩ v6).setCell ⟨B, 7, none⟩ v7).heap[B]? = some (.cells #[v0, v1, v2, v3, v4, v5, v6, v7] t (0, 0)) := by
  have h0 := heap_setCell_same _ B 0 _ _ v0 h
  simp only [List.setIfInBounds_toArray, List.set_cons_zero, List.set_cons_succ] at h0
  have h1 := heap_setCell_same _ B 1 _ _ v1 h0
  simp only [List.setIfInBounds_toArray, List.set_cons_zero, List.set_cons_succ] at h1
  have h2 := heap_setCell_same _ B 2 _ _ v2 h1
  simp only [List.setIfInBounds_toArray, List.set_cons_zero, List.set_cons_succ] at h2
  have h3 := heap_setCell_same _ B 3 _ _ v3 h2
  simp only [List.setIfInBounds_toArray, List.set_cons_zero, List.set_cons_succ] at h3
  have h4 := heap_setCell_same _ B 4 _ _ v4 h3
  simp only [List.setIfInBounds_toArray, List.set_cons_zero, List.set_cons_succ] at h4
  have h5 := heap_setCell_same _ B 5 _ _ v5 h4
  simp only [List.setIfInBounds_toArray, List.set_cons_zero, List.set_cons_succ] at h5
  have h6 := heap_setCell_same _ B 6 _ _ v6 h5
  simp only [List.setIfInBounds_toArray, List.set_cons_zero, List.set_cons_succ] at h6
  have h7 := heap_setCell_same _ B 7 _ _ v7 h6
  simp only [List.setIfInBounds_toArray, List.set_cons_zero, List.set_cons_succ] at h7
  exact h7
theorem below8 {w x : World} {B : Nat} {v0 v1 v2 v3 v4 v5 v6 v7 : Value} (h : Below B w x) :
    Below B w ((((((((x.setCell ⟨B, 0, none⟩ v0).setCell ⟨B, 1, none⟩ v1).setCell ⟨B, 2, none⟩ v2).setCell ⟨B, 3, none⟩ v3).setCell ⟨B, 4, none⟩ v4).setCell ⟨B, 5, none⟩ v5).setCell ⟨B, 6, none⟩ v6).setCell ⟨B, 7, none⟩ v7) :=
  (((((((h.setCell (Nat.le_refl _) _).setCell (Nat.le_refl _) _).setCell (Nat.le_refl _) _).setCell (Nat.le_refl _) _).setCell (Nat.le_refl _) _).setCell (Nat.le_refl _) _).setCell (Nat.le_refl _) _).setCell (Nat.le_refl _) _
theorem row8 {x : World} {X B : Nat} {l : List UInt8} {v0 v1 v2 v3 v4 v5 v6 v7 : Value} (h : Row x X l) (hX : X ≠ B) :
    Row ((((((((x.setCell ⟨B, 0, none⟩ v0).setCell ⟨B, 1, none⟩ v1).setCell ⟨B, 2, none⟩ v2).setCell ⟨B, 3, none⟩ v3).setCell ⟨B, 4, none⟩ v4).setCell ⟨B, 5, none⟩ v5).setCell ⟨B, 6, none⟩ v6).setCell ⟨B, 7, none⟩ v7) X l :=
  h.keep (F := [B]) (((((((((Ch.refl _ x).setCell (p := ⟨B, 0, none⟩) (by simp) _).setCell (p := ⟨B, 1, none⟩) (by simp) _).setCell (p := ⟨B, 2, none⟩) (by simp) _).setCell (p := ⟨B, 3, none⟩) (by simp) _).setCell (p := ⟨B, 4, none⟩) (by simp) _).setCell (p := ⟨B, 5, none⟩) (by simp) _).setCell (p := ⟨B, 6, none⟩) (by simp) _).setCell (p := ⟨B, 7, none⟩) (by simp) _) (by simp [hX])

theorem and_one (n : Nat) (h : n < 256) : bits .and .u8 (n : Int) 1 = ((n % 2 : Nat) : Int) := by
  have := u8_and_nat n 1 h (by omega)
  rw [Nat.and_one_is_mod] at this
  exact this

set_option maxHeartbeats 4000000 in
set_option maxRecDepth 100000 in
theorem from_on {gs n cap : Nat} {A : Option Addr} {b0 b1 b2 b3 b4 : UInt8} {l : List UInt8} {w : World} (h : Holds w gs A (bcs (b0 :: b1 :: b2 :: b3 :: b4 :: l))) (hn : (b0 :: b1 :: b2 :: b3 :: b4 :: l).length = n) (hl : n ≤ 1000000) :
    Calls Tryd.prog 29 #[.slice A n cap] w
      fun e w' => ∃ X m, w.heap.size ≤ X ∧ m = l.length ∧ e = .returned (.agg #[.int .u8 (b0.toNat : Int), .int .u8 (b1.toNat : Int), .int .u8 (b2.toNat : Int), .int .u8 ((b3.toNat % 2 : Nat) : Int), .int .u8 ((b3.toNat / 2 : Nat) : Int), .slice (some ⟨X, 0, none⟩) m m, .int .u8 (b3.toNat : Int), .int .u8 (b4.toNat : Int)]) ∧ Row w' X l ∧ Below w.heap.size w w' := by
  have hlen : l.length ≤ 1000000 := by simp at hn; omega
  have HH := Lib.hid h
  have HN := Lib.hid hn
  clear h hn
  have h3 := b3.toNat_lt
  go_enter Tryd.func29, Tryd.ntmps29
  go_wp2_with fail
  have hch := ((Ch.refl [] w).alloc (.cells noSent 67)).alloc (.cells noSent 67)
  have hold := heap_alloc2_old w (.cells noSent 67) (.cells noSent 67)
  have hnew := heap_alloc2_new w (.cells noSent 67) (.cells noSent 67)
  have hsz : ((w.alloc (.cells noSent 67)).alloc (.cells noSent 67)).heap.size = w.heap.size + 2 := by simp
  generalize ((w.alloc (.cells noSent 67)).alloc (.cells noSent 67)) = x0 at *
  rw [← HN.out]
  refine (read_any _ A cap _ x0 (HH.out.keep hch (by simp)) (by rw [HN.out]; omega)).mono ?_
  rintro e x1 ⟨R, g, hR, hg, rfl, hrd, hb⟩
  have H0 : Hid (Sf w R g (b0 :: b1 :: b2 :: b3 :: b4 :: l) noSent x1) := ⟨hrd, (hb.block _ (by omega)).trans hnew, (hb.block _ (by omega)).trans hold, (hch.below (by simp)).trans (hb.mono (by omega)), by omega, by omega⟩
  clear hrd hb hR hg hch hold hnew hsz HH HN
  go_wp2_with fail
  refine (u8_head H0.out.rdr).mono ?_
  rintro e y0 ⟨rfl, hr, hc⟩
  have G0 := Lib.hid (H0.out.take hr hc)
  clear hr hc H0
  have hcl := G0.out.cell 0
  have hfz := G0.out.frozen 0
  replace hcl := hcl.trans rfl
  go_upto_region 4 with fail
  have H1 : Hid (Sf w R g (b1 :: b2 :: b3 :: b4 :: l) #[.int .u8 (b0.toNat : Int), .int .u8 0, .int .u8 0, .int .u8 0, .int .u8 0, .slice none 0 0, .int .u8 0, .int .u8 0] (y0.setCell ⟨w.heap.size + 1, 0, none⟩ (.int .u8 (b0.toNat : Int)))) := G0.out.set 0 _
  clear hcl hfz G0
  generalize (y0.setCell ⟨w.heap.size + 1, 0, none⟩ (.int .u8 (b0.toNat : Int))) = z0 at *
  go_wp2_with fail
  refine (u8_head H1.out.rdr).mono ?_
  rintro e y1 ⟨rfl, hr, hc⟩
  have G1 := Lib.hid (H1.out.take hr hc)
  clear hr hc H1
  have hcl := G1.out.cell 1
  have hfz := G1.out.frozen 1
  replace hcl := hcl.trans rfl
  go_upto_region 5 with fail
  have H2 : Hid (Sf w R g (b2 :: b3 :: b4 :: l) #[.int .u8 (b0.toNat : Int), .int .u8 (b1.toNat : Int), .int .u8 0, .int .u8 0, .int .u8 0, .slice none 0 0, .int .u8 0, .int .u8 0] (y1.setCell ⟨w.heap.size + 1, 1, none⟩ (.int .u8 (b1.toNat : Int)))) := G1.out.set 1 _
  clear hcl hfz G1
  generalize (y1.setCell ⟨w.heap.size + 1, 1, none⟩ (.int .u8 (b1.toNat : Int))) = z1 at *
  go_wp2_with fail
  refine (u8_head H2.out.rdr).mono ?_
  rintro e y2 ⟨rfl, hr, hc⟩
  have G2 := Lib.hid (H2.out.take hr hc)
  clear hr hc H2
  have hcl := G2.out.cell 2
  have hfz := G2.out.frozen 2
  replace hcl := hcl.trans rfl
  go_upto_region 6 with fail
  have H3 : Hid (Sf w R g (b3 :: b4 :: l) #[.int .u8 (b0.toNat : Int), .int .u8 (b1.toNat : Int), .int .u8 (b2.toNat : Int), .int .u8 0, .int .u8 0, .slice none 0 0, .int .u8 0, .int .u8 0] (y2.setCell ⟨w.heap.size + 1, 2, none⟩ (.int .u8 (b2.toNat : Int)))) := G2.out.set 2 _
  clear hcl hfz G2
  generalize (y2.setCell ⟨w.heap.size + 1, 2, none⟩ (.int .u8 (b2.toNat : Int))) = z2 at *
  go_wp2_with fail
  refine (u8_head H3.out.rdr).mono ?_
  rintro e y3 ⟨rfl, hr, hc⟩
  have G3 := Lib.hid (H3.out.take hr hc)
  clear hr hc H3
  have hcl := G3.out.cell 6
  have hfz := G3.out.frozen 6
  replace hcl := hcl.trans rfl
  go_upto_region 7 with fail
  have H4 : Hid (Sf w R g (b4 :: l) #[.int .u8 (b0.toNat : Int), .int .u8 (b1.toNat : Int), .int .u8 (b2.toNat : Int), .int .u8 0, .int .u8 0, .slice none 0 0, .int .u8 (b3.toNat : Int), .int .u8 0] (y3.setCell ⟨w.heap.size + 1, 6, none⟩ (.int .u8 (b3.toNat : Int)))) := G3.out.set 6 _
  clear hcl hfz G3
  generalize (y3.setCell ⟨w.heap.size + 1, 6, none⟩ (.int .u8 (b3.toNat : Int))) = z3 at *
  go_wp2_with fail
  refine (u8_head H4.out.rdr).mono ?_
  rintro e y4 ⟨rfl, hr, hc⟩
  have G4 := Lib.hid (H4.out.take hr hc)
  clear hr hc H4
  have hcl := G4.out.cell 7
  have hfz := G4.out.frozen 7
  replace hcl := hcl.trans rfl
  go_upto_region 8 with fail
  have H5 : Hid (Sf w R g (l) #[.int .u8 (b0.toNat : Int), .int .u8 (b1.toNat : Int), .int .u8 (b2.toNat : Int), .int .u8 0, .int .u8 0, .slice none 0 0, .int .u8 (b3.toNat : Int), .int .u8 (b4.toNat : Int)] (y4.setCell ⟨w.heap.size + 1, 7, none⟩ (.int .u8 (b4.toNat : Int)))) := G4.out.set 7 _
  clear hcl hfz G4
  generalize (y4.setCell ⟨w.heap.size + 1, 7, none⟩ (.int .u8 (b4.toNat : Int))) = z4 at *
  have hcl := H5.out.cell 6
  replace hcl := hcl.trans rfl
  have hc3 := (H5.out.cell 3).trans rfl
  have hf3 := H5.out.frozen 3
  have hc4 := (H5.out.cell 4).trans rfl
  have hf4 := H5.out.frozen 4
  have HA : Hid (bits .and .u8 (b3.toNat : Int) 1 = ((b3.toNat % 2 : Nat) : Int)) := and_one _ h3
  have hA : bits .and .u8 (b3.toNat : Int) 1 = ((b3.toNat % 2 : Nat) : Int) := and_one _ h3
  have hD : (b3.toNat : Int) / 2 = ((b3.toNat / 2 : Nat) : Int) := by omega
  generalize hq : b3.toNat % 2 = q3 at *
  generalize hr : b3.toNat / 2 = r3 at *
  have HQ := Lib.hid hq
  have HR := Lib.hid hr
  clear hq hr
  go_upto_region 9 with fail
  have H6 : Hid (Sf w R g l #[.int .u8 (b0.toNat : Int), .int .u8 (b1.toNat : Int), .int .u8 (b2.toNat : Int), .int .u8 (q3 : Int), .int .u8 (r3 : Int), .slice none 0 0, .int .u8 (b3.toNat : Int), .int .u8 (b4.toNat : Int)] ((z4.setCell ⟨w.heap.size + 1, 3, none⟩ (.int .u8 (q3 : Int))).setCell ⟨w.heap.size + 1, 4, none⟩ (.int .u8 (r3 : Int)))) := (H5.out.set 3 _).set 4 _
  clear hcl hc3 hf3 hc4 hf4 H5 hA hD HA
  generalize ((z4.setCell ⟨w.heap.size + 1, 3, none⟩ (.int .u8 (q3 : Int))).setCell ⟨w.heap.size + 1, 4, none⟩ (.int .u8 (r3 : Int))) = z5 at *
  go_wp2_with fail
  refine (rest_any R g l z5 H6.out.rdr).mono ?_
  rintro e y5 ⟨X, hX, rfl, hrow, hr, hc⟩
  have G6 := Lib.hid (H6.out.take hr hc)
  have HX : Hid (w.heap.size + 2 ≤ X) := by
    have h1 := (Array.getElem?_eq_some_iff.1 H6.out.row).1
    show _ ≤ _
    omega
  have HW := Lib.hid hrow
  clear hr hc H6 hX hrow
  have hcl := (G6.out.cell 5).trans rfl
  have hfz := G6.out.frozen 5
  generalize hM : l.length = M at *
  have HM := Lib.hid hM
  clear hM
  go_upto_region 10 with fail
  have H7 : Hid (Sf w R g [] #[.int .u8 (b0.toNat : Int), .int .u8 (b1.toNat : Int), .int .u8 (b2.toNat : Int), .int .u8 (q3 : Int), .int .u8 (r3 : Int), .slice (some ⟨X, 0, none⟩) M M, .int .u8 (b3.toNat : Int), .int .u8 (b4.toNat : Int)] (y5.setCell ⟨w.heap.size + 1, 5, none⟩ (.slice (some ⟨X, 0, none⟩) M M))) := G6.out.set 5 _
  replace HW := Lib.hid (HW.out.keep ((Ch.refl [w.heap.size + 1] y5).setCell (p := ⟨w.heap.size + 1, 5, none⟩) (by simp) (.slice (some ⟨X, 0, none⟩) M M)) (by have := HX.out; simp; omega))
  clear hcl hfz G6
  generalize (y5.setCell ⟨w.heap.size + 1, 5, none⟩ (.slice (some ⟨X, 0, none⟩) M M)) = z6 at *
  have k0 := (H7.out.cell 0).trans rfl
  have k1 := (H7.out.cell 1).trans rfl
  have k2 := (H7.out.cell 2).trans rfl
  have k3 := (H7.out.cell 3).trans rfl
  have k4 := (H7.out.cell 4).trans rfl
  have k5 := (H7.out.cell 5).trans rfl
  have k6 := (H7.out.cell 6).trans rfl
  have k7 := (H7.out.cell 7).trans rfl
  have r0 := (cell_of_row _ _ 0 _ _ _ H7.out.res).trans rfl
  have f0 : z6.frozen? ⟨w.heap.size, 0, none⟩ = false := frozen_of_row _ _ _ _ _ H7.out.res
  have r1 := (cell_of_row _ _ 1 _ _ _ H7.out.res).trans rfl
  have f1 : z6.frozen? ⟨w.heap.size, 1, none⟩ = false := frozen_of_row _ _ _ _ _ H7.out.res
  have r2 := (cell_of_row _ _ 2 _ _ _ H7.out.res).trans rfl
  have f2 : z6.frozen? ⟨w.heap.size, 2, none⟩ = false := frozen_of_row _ _ _ _ _ H7.out.res
  have r3 := (cell_of_row _ _ 3 _ _ _ H7.out.res).trans rfl
  have f3 : z6.frozen? ⟨w.heap.size, 3, none⟩ = false := frozen_of_row _ _ _ _ _ H7.out.res
  have r4 := (cell_of_row _ _ 4 _ _ _ H7.out.res).trans rfl
  have f4 : z6.frozen? ⟨w.heap.size, 4, none⟩ = false := frozen_of_row _ _ _ _ _ H7.out.res
  have r5 := (cell_of_row _ _ 5 _ _ _ H7.out.res).trans rfl
  have f5 : z6.frozen? ⟨w.heap.size, 5, none⟩ = false := frozen_of_row _ _ _ _ _ H7.out.res
  have r6 := (cell_of_row _ _ 6 _ _ _ H7.out.res).trans rfl
  have f6 : z6.frozen? ⟨w.heap.size, 6, none⟩ = false := frozen_of_row _ _ _ _ _ H7.out.res
  have r7 := (cell_of_row _ _ 7 _ _ _ H7.out.res).trans rfl
  have f7 : z6.frozen? ⟨w.heap.size, 7, none⟩ = false := frozen_of_row _ _ _ _ _ H7.out.res
  go_wp2
  refine bodyPost_ret (results_row rfl _ _ w.heap.size 67 _ _ rfl (set8 H7.out.res) sent_struct sent_size) rfl ?_
  refine ⟨X, M, by have := HX.out; omega, HM.out.symm, ?_, row8 HW.out (by have := HX.out; omega), below8 H7.out.below⟩
  rw [HQ.out, HR.out]

end Go.Proofs.YtalolefggihloaaDoor
