/-
  lamplightref05.All and lamplightlaw05.same: what they answer.
-/
import Derived.Test.YtalolefggihloaaDoorResyncPortionsWalk
import Derived.Test.YtalolefggihloaaDoorFrameRef
import Derived.Laws.DeepStrings4
namespace Go.Proofs.YtalolefggihloaaDoor
set_option linter.unusedVariables false
set_option linter.unusedSimpArgs false
open Go.RowKit

/-- The cells of what is told of a text: a slice of frames, counts, how many are held. -/
def acs (v : Value) (f : Nat → Nat) (h : Nat) : List Value := v :: (ecs f ++ [.int .i64 (h : Int)])
theorem acs_lit (v : Value) (f : Nat → Nat) (h : Nat) : (acs v f h).toArray = #[v, .int .i64 (f 0 : Int), .int .i64 (f 1 : Int), .int .i64 (f 2 : Int), .int .i64 (f 3 : Int), .int .i64 (f 4 : Int), .int .i64 (f 5 : Int), .int .i64 (f 6 : Int), .int .i64 (f 7 : Int), .int .i64 (f 8 : Int), .int .i64 (f 9 : Int), .int .i64 (f 10 : Int), .int .i64 (f 11 : Int), .int .i64 (h : Int)] := rfl
/-- All fourteen cells of a row, one behind the other. -/
abbrev put14 (x : World) (B : Nat) (v0 v1 v2 v3 v4 v5 v6 v7 v8 v9 v10 v11 v12 v13 : Value) : World := ((((((((((((((x).setCell ⟨B, 0, none⟩ v0).setCell ⟨B, 1, none⟩ v1).setCell ⟨B, 2, none⟩ v2).setCell ⟨B, 3, none⟩ v3).setCell ⟨B, 4, none⟩ v4).setCell ⟨B, 5, none⟩ v5).setCell ⟨B, 6, none⟩ v6).setCell ⟨B, 7, none⟩ v7).setCell ⟨B, 8, none⟩ v8).setCell ⟨B, 9, none⟩ v9).setCell ⟨B, 10, none⟩ v10).setCell ⟨B, 11, none⟩ v11).setCell ⟨B, 12, none⟩ v12).setCell ⟨B, 13, none⟩ v13
theorem set14 {x : World} {B : Nat} {t : TypeId} {u0 u1 u2 u3 u4 u5 u6 u7 u8 u9 u10 u11 u12 u13 v0 v1 v2 v3 v4 v5 v6 v7 v8 v9 v10 v11 v12 v13 : Value} (h : x.heap[B]? = some (.cells #[u0, u1, u2, u3, u4, u5, u6, u7, u8, u9, u10, u11, u12, u13] t (0, 0))) : (put14 x B v0 v1 v2 v3 v4 v5 v6 v7 v8 v9 v10 v11 v12 v13).heap[B]? = some (.cells #[v0, v1, v2, v3, v4, v5, v6, v7, v8, v9, v10, v11, v12, v13] t (0, 0)) := by
  have h0 := heap_setCell_same _ B 0 _ _ v0 h
  simp only [List.setIfInBounds_toArray, List.set_cons_zero, List.set_cons_succ] at h0
  have h1 := heap_setCell_same _ B 1 _ _ v1 h0
  simp only [List.setIfInBounds_toArray, List.set_cons_zero, List.set_cons_succ] at h1
  have h2 := heap_setCell_same _ B 2 _ _ v2 h1
  simp only [List.setIfInBounds_toArray, List.set_cons_zero, List.set_cons_succ] at h2
  have h3 := heap_setCell_same _ B 3 _ _ v3 h2
  simp only [List.setIfInBounds_toArray, List.set_cons_zero, List.set_cons_succ] at h3
  have h4 := heap_setCell_same _ B 4 _ _ v4 h3
  simp only [List.setIfInBounds_toArray, List.set_cons_zero, List.set_cons_succ] at h4
  have h5 := heap_setCell_same _ B 5 _ _ v5 h4
  simp only [List.setIfInBounds_toArray, List.set_cons_zero, List.set_cons_succ] at h5
  have h6 := heap_setCell_same _ B 6 _ _ v6 h5
  simp only [List.setIfInBounds_toArray, List.set_cons_zero, List.set_cons_succ] at h6
  have h7 := heap_setCell_same _ B 7 _ _ v7 h6
  simp only [List.setIfInBounds_toArray, List.set_cons_zero, List.set_cons_succ] at h7
  have h8 := heap_setCell_same _ B 8 _ _ v8 h7
  simp only [List.setIfInBounds_toArray, List.set_cons_zero, List.set_cons_succ] at h8
  have h9 := heap_setCell_same _ B 9 _ _ v9 h8
  simp only [List.setIfInBounds_toArray, List.set_cons_zero, List.set_cons_succ] at h9
  have h10 := heap_setCell_same _ B 10 _ _ v10 h9
  simp only [List.setIfInBounds_toArray, List.set_cons_zero, List.set_cons_succ] at h10
  have h11 := heap_setCell_same _ B 11 _ _ v11 h10
  simp only [List.setIfInBounds_toArray, List.set_cons_zero, List.set_cons_succ] at h11
  have h12 := heap_setCell_same _ B 12 _ _ v12 h11
  simp only [List.setIfInBounds_toArray, List.set_cons_zero, List.set_cons_succ] at h12
  have h13 := heap_setCell_same _ B 13 _ _ v13 h12
  simp only [List.setIfInBounds_toArray, List.set_cons_zero, List.set_cons_succ] at h13
  exact h13
theorem ch14 (x : World) (B : Nat) (v0 v1 v2 v3 v4 v5 v6 v7 v8 v9 v10 v11 v12 v13 : Value) : Ch [B] x (put14 x B v0 v1 v2 v3 v4 v5 v6 v7 v8 v9 v10 v11 v12 v13) := (((((((((((((((Ch.refl _ x).setCell (p := ⟨B, 0, none⟩) (by simp) _).setCell (p := ⟨B, 1, none⟩) (by simp) _).setCell (p := ⟨B, 2, none⟩) (by simp) _).setCell (p := ⟨B, 3, none⟩) (by simp) _).setCell (p := ⟨B, 4, none⟩) (by simp) _).setCell (p := ⟨B, 5, none⟩) (by simp) _).setCell (p := ⟨B, 6, none⟩) (by simp) _).setCell (p := ⟨B, 7, none⟩) (by simp) _).setCell (p := ⟨B, 8, none⟩) (by simp) _).setCell (p := ⟨B, 9, none⟩) (by simp) _).setCell (p := ⟨B, 10, none⟩) (by simp) _).setCell (p := ⟨B, 11, none⟩) (by simp) _).setCell (p := ⟨B, 12, none⟩) (by simp) _).setCell (p := ⟨B, 13, none⟩) (by simp) _)
theorem row14 {x : World} {B : Nat} {t : TypeId} {u0 u1 u2 u3 u4 u5 u6 u7 u8 u9 u10 u11 u12 u13 : Value} (h : x.heap[B]? = some (.cells #[u0, u1, u2, u3, u4, u5, u6, u7, u8, u9, u10, u11, u12, u13] t (0, 0))) : x.cell? ⟨B, 0, none⟩ = some u0 ∧ x.cell? ⟨B, 1, none⟩ = some u1 ∧ x.cell? ⟨B, 2, none⟩ = some u2 ∧ x.cell? ⟨B, 3, none⟩ = some u3 ∧ x.cell? ⟨B, 4, none⟩ = some u4 ∧ x.cell? ⟨B, 5, none⟩ = some u5 ∧ x.cell? ⟨B, 6, none⟩ = some u6 ∧ x.cell? ⟨B, 7, none⟩ = some u7 ∧ x.cell? ⟨B, 8, none⟩ = some u8 ∧ x.cell? ⟨B, 9, none⟩ = some u9 ∧ x.cell? ⟨B, 10, none⟩ = some u10 ∧ x.cell? ⟨B, 11, none⟩ = some u11 ∧ x.cell? ⟨B, 12, none⟩ = some u12 ∧ x.cell? ⟨B, 13, none⟩ = some u13 ∧ x.frozen? ⟨B, 0, none⟩ = false ∧ x.frozen? ⟨B, 1, none⟩ = false ∧ x.frozen? ⟨B, 2, none⟩ = false ∧ x.frozen? ⟨B, 3, none⟩ = false ∧ x.frozen? ⟨B, 4, none⟩ = false ∧ x.frozen? ⟨B, 5, none⟩ = false ∧ x.frozen? ⟨B, 6, none⟩ = false ∧ x.frozen? ⟨B, 7, none⟩ = false ∧ x.frozen? ⟨B, 8, none⟩ = false ∧ x.frozen? ⟨B, 9, none⟩ = false ∧ x.frozen? ⟨B, 10, none⟩ = false ∧ x.frozen? ⟨B, 11, none⟩ = false ∧ x.frozen? ⟨B, 12, none⟩ = false ∧ x.frozen? ⟨B, 13, none⟩ = false :=
  ⟨(cell_of_row _ _ 0 _ _ _ h).trans rfl, (cell_of_row _ _ 1 _ _ _ h).trans rfl, (cell_of_row _ _ 2 _ _ _ h).trans rfl, (cell_of_row _ _ 3 _ _ _ h).trans rfl, (cell_of_row _ _ 4 _ _ _ h).trans rfl, (cell_of_row _ _ 5 _ _ _ h).trans rfl, (cell_of_row _ _ 6 _ _ _ h).trans rfl, (cell_of_row _ _ 7 _ _ _ h).trans rfl, (cell_of_row _ _ 8 _ _ _ h).trans rfl, (cell_of_row _ _ 9 _ _ _ h).trans rfl, (cell_of_row _ _ 10 _ _ _ h).trans rfl, (cell_of_row _ _ 11 _ _ _ h).trans rfl, (cell_of_row _ _ 12 _ _ _ h).trans rfl, (cell_of_row _ _ 13 _ _ _ h).trans rfl, frozen_of_row _ _ _ _ _ h, frozen_of_row _ _ _ _ _ h, frozen_of_row _ _ _ _ _ h, frozen_of_row _ _ _ _ _ h, frozen_of_row _ _ _ _ _ h, frozen_of_row _ _ _ _ _ h, frozen_of_row _ _ _ _ _ h, frozen_of_row _ _ _ _ _ h, frozen_of_row _ _ _ _ _ h, frozen_of_row _ _ _ _ _ h, frozen_of_row _ _ _ _ _ h, frozen_of_row _ _ _ _ _ h, frozen_of_row _ _ _ _ _ h, frozen_of_row _ _ _ _ _ h⟩

theorem info_ref : (Tryd.prog.info? 45).map (fun i => (i.zero, i.size, i.bytes)) = some (some (.agg noRef), 6, 24) := by kernel_rfl

/-- The document's frames as cells. -/
def Fr.rcells (F : Fr) : List Value := [.int .u8 (F.a : Int), .int .u8 (F.k : Int), .int .u8 (F.s : Int), .int .u8 (F.q : Int), .int .u8 (F.c : Int), .string ⟨F.b.toArray⟩]
def rcs (fs : List Fr) : List Value := fs.flatMap Fr.rcells
theorem rcs_append (a b : List Fr) : rcs (a ++ b) = rcs a ++ rcs b := by simp [rcs]
theorem rcs_one (F : Fr) : rcs [F] = F.rcells := by simp [rcs]
theorem rcs_oneCell (fs : List Fr) : ∀ u ∈ rcs fs, u.oneCell' = true := by
  intro u hu
  simp only [rcs, List.mem_flatMap] at hu
  obtain ⟨t, _, ht⟩ := hu
  simp only [Fr.rcells, List.mem_cons, List.not_mem_nil, or_false] at ht
  rcases ht with rfl | rfl | rfl | rfl | rfl | rfl <;> rfl
theorem rcs_get (fs : List Fr) (k j : Nat) (hk : k < fs.length) (hj : j < 6) : (rcs fs)[k * 6 + j]? = (fs[k]).rcells[j]? := by
  induction fs generalizing k with
  | nil => simp at hk
  | cons t ts ih =>
    have hc : rcs (t :: ts) = t.rcells ++ rcs ts := by simp [rcs]
    have hl : t.rcells.length = 6 := rfl
    rw [hc]
    cases k with
    | zero =>
      rw [List.getElem?_append_left (by omega)]
      simp
    | succ k =>
      rw [List.getElem?_append_right (by omega), hl, show (k + 1) * 6 + j - 6 = k * 6 + j by omega, ih k (by simpa using hk)]
      rfl

/-- Pieces, byte by byte. -/
theorem run_snoc : ∀ (a : List UInt8) (b : UInt8) (t : Pc) (own : List UInt8), t.run own (a ++ [b]) = if b = 126 then ((t.run own a).1.piece (t.run own a).2, []) else ((t.run own a).1, (t.run own a).2 ++ [b])
  | [], b, t, own => by
    have e : Pc.run t own [b] = if b = 126 then (t.piece own, []) else (t, own ++ [b]) := rfl
    exact e
  | x :: a, b, t, own => by
    rw [List.cons_append]
    show Pc.run t own (x :: (a ++ [b])) = _
    rw [Pc.run]
    have e : Pc.run t own (x :: a) = if x = 126 then Pc.run (t.piece own) [] a else Pc.run t (own ++ [x]) a := rfl
    rw [e]
    by_cases hx : x = 126
    · rw [if_pos hx, if_pos hx]
      exact run_snoc a b _ _
    · rw [if_neg hx, if_neg hx]
      exact run_snoc a b _ _
theorem run_le : ∀ (a : List UInt8) (t : Pc) (own : List UInt8), (t.run own a).2.length ≤ own.length + a.length
  | [], _, _ => Nat.le_refl _
  | x :: a, t, own => by
    have e : Pc.run t own (x :: a) = if x = 126 then Pc.run (t.piece own) [] a else Pc.run t (own ++ [x]) a := rfl
    rw [e]
    split
    · have := run_le a (t.piece own) []
      simp at this ⊢
      omega
    · have := run_le a t (own ++ [x])
      simp at this ⊢
      omega

/-- Where All stands behind k bytes: whole pieces, from where on the last one goes. -/
structure Sa (l : List UInt8) (k from_ : Nat) (t : Pc) (own : List UInt8) : Prop where
  run : Pc.zero.run [] (l.take k) = (t, own)
  own : (l.take k).drop from_ = own
  le : from_ ≤ k
theorem Sa.zero (l : List UInt8) : Sa l 0 0 Pc.zero [] := ⟨rfl, rfl, Nat.le_refl _⟩
theorem Sa.len {l : List UInt8} {k from_ : Nat} {t : Pc} {own : List UInt8} (h : Sa l k from_ t own) (hk : k ≤ l.length) : own.length = k - from_ := by
  rw [← h.own, List.length_drop, List.length_take]
  omega
theorem Sa.byte {l : List UInt8} {k from_ : Nat} {t : Pc} {own : List UInt8} (h : Sa l k from_ t own) (hk : k < l.length) (hb : l[k] ≠ 126) : Sa l (k + 1) from_ t (own ++ [l[k]]) := by
  refine ⟨?_, ?_, by have := h.le; omega⟩
  · rw [List.take_succ_eq_append_getElem hk, run_snoc, if_neg hb, h.run]
  · rw [List.take_succ_eq_append_getElem hk, List.drop_append_of_le_length (by rw [List.length_take]; have := h.le; omega), h.own]
theorem Sa.flag {l : List UInt8} {k from_ : Nat} {t : Pc} {own : List UInt8} (h : Sa l k from_ t own) (hk : k < l.length) (hb : l[k] = 126) : Sa l (k + 1) (k + 1) (t.piece own) [] := by
  refine ⟨?_, ?_, Nat.le_refl _⟩
  · rw [List.take_succ_eq_append_getElem hk, run_snoc, if_pos hb, h.run]
  · rw [List.drop_eq_nil_of_le (by rw [List.length_take]; omega)]
theorem extract_both (l : List UInt8) (a b : Nat) : (ByteArray.mk l.toArray).extract a b = ByteArray.mk ((l.take b).drop a).toArray := by
  apply ByteArray.ext
  rw [ByteArray.data_extract]
  simp [List.drop_take]

/-- What stays known in All. -/
structure Al (w : World) (f : Nat → Nat) (fs : List Fr) (h : Nat) (A : Option Addr) (n c : Nat) (x : World) : Prop where
  box : x.heap[w.heap.size + 1]? = some (.cells (acs (.slice A n c) f h).toArray 38 (0, 0))
  res : x.heap[w.heap.size]? = some (.cells (acs (.slice none 0 0) (fun _ => 0) 0).toArray 38 (0, 0))
  own : x.ownsRow (w.heap.size + 2) 45 6 (.slice A n c) n (rcs fs)
  len : fs.length = n
  below : Below w.heap.size w x
  sz : w.heap.size + 2 ≤ x.heap.size
theorem Al.step {w x y : World} {f : Nat → Nat} {fs : List Fr} {h n c : Nat} {A : Option Addr} (a : Al w f fs h A n c x) (hb : Below x.heap.size x y) : Al w f fs h A n c y :=
  ⟨(hb.block _ (by have := a.sz; omega)).trans a.box, (hb.block _ (by have := a.sz; omega)).trans a.res, ownB_ch a.own (Ch.of_below hb) (by simp), a.len, a.below.trans (hb.mono a.below.size), Nat.le_trans a.sz hb.size⟩
/-- Its own cells turned. -/
theorem Al.turn {w x y : World} {f f' : Nat → Nat} {fs : List Fr} {h h' n c : Nat} {A : Option Addr} (a : Al w f fs h A n c x) (hc : Ch [w.heap.size + 1] x y) (hb : y.heap[w.heap.size + 1]? = some (.cells (acs (.slice A n c) f' h').toArray 38 (0, 0))) : Al w f' fs h' A n c y :=
  ⟨hb, (hc.block _ (by have := a.sz; omega) (by simp)).trans a.res, ownB_ch a.own hc (fun g hg => by have := (a.own.lt g hg).1; simp; omega), a.len, a.below.trans (hc.belowAt (by simp) a.below.size), Nat.le_trans a.sz hc.size⟩
theorem Al.err {w x : World} {f : Nat → Nat} {fs : List Fr} {h n c e : Nat} {A : Option Addr} (a : Al w f fs h A n c x) (he : e < 12) : Al w (bump f e) fs h A n c (x.setCell ⟨w.heap.size + 1, 1 + e, none⟩ (.int .i64 ((f e + 1 : Nat) : Int))) := by
  refine a.turn ((Ch.refl _ x).setCell (by simp) _) ?_
  rw [heap_setCell_same _ _ _ _ _ _ a.box, List.setIfInBounds_toArray, acs, Nat.add_comm 1 e, List.set_cons_succ, List.set_append_left _ _ (by rw [ecs_length]; exact he), ecs_set _ _ he]
  rfl
theorem Al.held {w x : World} {f : Nat → Nat} {fs : List Fr} {h n c : Nat} {A : Option Addr} (a : Al w f fs h A n c x) (m : Nat) : Al w f fs m A n c (x.setCell ⟨w.heap.size + 1, 13, none⟩ (.int .i64 (m : Int))) := by
  refine a.turn ((Ch.refl _ x).setCell (by simp) _) ?_
  rw [heap_setCell_same _ _ _ _ _ _ a.box]
  rfl
theorem Al.cellE {w x : World} {f : Nat → Nat} {fs : List Fr} {h n c : Nat} {A : Option Addr} (a : Al w f fs h A n c x) (e : Nat) (he : e < 12) : x.cell? ⟨w.heap.size + 1, 1 + e, none⟩ = some (.int .i64 (f e : Int)) := by
  rw [cell_of_row _ _ _ _ _ _ a.box, List.getElem?_toArray, acs, Nat.add_comm 1 e, List.getElem?_cons_succ, List.getElem?_append_left (by rw [ecs_length]; exact he), ecs_get _ _ he]
theorem Al.frozen {w x : World} {f : Nat → Nat} {fs : List Fr} {h n c : Nat} {A : Option Addr} (a : Al w f fs h A n c x) (i : Nat) : x.frozen? ⟨w.heap.size + 1, i, none⟩ = false := frozen_of_row _ _ _ _ _ a.box
theorem Al.cell0 {w x : World} {f : Nat → Nat} {fs : List Fr} {h n c : Nat} {A : Option Addr} (a : Al w f fs h A n c x) : x.cell? ⟨w.heap.size + 1, 0, none⟩ = some (.slice A n c) := (cell_of_row _ _ _ _ _ _ a.box).trans rfl
theorem Al.cell13 {w x : World} {f : Nat → Nat} {fs : List Fr} {h n c : Nat} {A : Option Addr} (a : Al w f fs h A n c x) : x.cell? ⟨w.heap.size + 1, 13, none⟩ = some (.int .i64 (h : Int)) := (cell_of_row _ _ _ _ _ _ a.box).trans rfl
/-- One frame more. -/
theorem Al.more {w x y : World} {f : Nat → Nat} {fs : List Fr} {h n c c' : Nat} {A A' : Option Addr} {F : Fr} (a : Al w f fs h A n c x) (ho : y.ownsRow (w.heap.size + 2) 45 6 (.slice A' (n + 1) c') (n + 1) (rcs fs ++ rcs [F])) (hg : x.grownBy y (Value.slice A n c).ownBlock) :
    Al w f (fs ++ [F]) h A' (n + 1) c' (y.setCell ⟨w.heap.size + 1, 0, none⟩ (.slice A' (n + 1) c')) := by
  have hne : ∀ q, some q = (Value.slice A n c).ownBlock → w.heap.size + 2 ≤ q := fun q hq => (a.own.lt q hq.symm).1
  have hsz := a.sz
  have hb1 : y.heap[w.heap.size + 1]? = x.heap[w.heap.size + 1]? := hg.block _ (by omega) (fun hq => by have := hne _ hq; omega)
  have hb0 : y.heap[w.heap.size]? = x.heap[w.heap.size]? := hg.block _ (by omega) (fun hq => by have := hne _ hq; omega)
  have hc : Ch [w.heap.size + 1] y (y.setCell ⟨w.heap.size + 1, 0, none⟩ (.slice A' (n + 1) c')) := (Ch.refl _ y).setCell (by simp) _
  have hwy : Below w.heap.size w y := a.below.grown hg a.below.size (fun k hk => by have := hne k hk.symm; omega)
  refine ⟨?_, ?_, ?_, by rw [List.length_append, a.len]; rfl, hwy.trans (hc.belowAt (by simp) hwy.size), Nat.le_trans hsz (Nat.le_trans hg.size hc.size)⟩
  · rw [heap_setCell_same _ _ _ _ _ _ (hb1.trans a.box)]
    rfl
  · exact (hc.block _ (by have := hg.size; omega) (by simp)).trans (hb0.trans a.res)
  · rw [rcs_append]
    exact ownB_ch ho hc (fun g hg' => by have := (ho.lt g hg').1; simp; omega)

theorem Al.after {w x y : World} {f : Nat → Nat} {fs : List Fr} {h n c : Nat} {A : Option Addr} (a : Al w f fs h A n c x) (hg : x.grownBy y (Value.slice A n c).ownBlock) : y.cell? ⟨w.heap.size + 1, 0, none⟩ = some (.slice A n c) ∧ y.frozen? ⟨w.heap.size + 1, 0, none⟩ = false := by
  have hsz := a.sz
  have hb1 : y.heap[w.heap.size + 1]? = x.heap[w.heap.size + 1]? := hg.block _ (by omega) (fun hq => by have := (a.own.lt _ hq.symm).1; omega)
  exact ⟨(World.cell?_of_block hb1).trans a.cell0, (World.frozen?_of_block hb1).trans (a.frozen 0)⟩
theorem told_struct : ∃ fs, Tryd.prog.underlying 38 = some (.struct fs) := ⟨_, Tryd.underlying38⟩
theorem told_size : (Tryd.prog.info? 38).map (·.size) = some 14 := by kernel_rfl

/-- What All answers. -/
def AllPost (w : World) (l : List UInt8) (e : Ending) (w' : World) : Prop :=
  ∃ (A : Option Addr) (n c : Nat), e = .returned (.agg (acs (.slice A n c) (Dc.zero.feed l).1.errs (Dc.zero.feed l).1.held.length).toArray) ∧ w'.ownsRow w.heap.size 45 6 (.slice A n c) n (rcs (Dc.zero.feed l).2) ∧ (Dc.zero.feed l).2.length = n ∧ Below w.heap.size w w'

/-- How far All has come, and what it knows. -/
def Stg (l : List UInt8) (k from_ : Nat) (f : Nat → Nat) (fs : List Fr) (h : Nat) : Prop :=
  (k ≤ l.length ∧ h = 0 ∧ ∃ t own, Sa l k from_ t own ∧ f = t.errs ∧ fs = t.fr) ∨ (k = l.length + 1 ∧ f = (Dc.zero.feed l).1.errs ∧ fs = (Dc.zero.feed l).2 ∧ h = (Dc.zero.feed l).1.held.length)
theorem Stg.last {l : List UInt8} {from_ : Nat} {t : Pc} {own : List UInt8} (h : Sa l l.length from_ t own) : (Dc.zero.feed l).1.errs = (if 62 < own.length then bump t.errs 10 else t.errs) ∧ (Dc.zero.feed l).2 = t.fr ∧ (Dc.zero.feed l).1.held.length = (if 62 < own.length then 0 else own.length) := by
  have hm := feed_pieces l
  have hr := h.run
  rw [List.take_length] at hr
  rw [hr] at hm
  refine ⟨hm.errs, hm.fr, ?_⟩
  rw [hm.held]
  split <;> rfl

set_option maxHeartbeats 8000000 in
set_option maxRecDepth 100000 in
theorem all_on (l : List UInt8) (w : World) (hl : l.length ≤ 10000) : Calls Tryd.prog 11 #[.string ⟨l.toArray⟩] w (AllPost w l) := by
  obtain ⟨i0, hi, hz0, hz1, hz2⟩ := info_parts info_ref
  obtain ⟨L, hL⟩ : ∃ L, l.length = L := ⟨_, rfl⟩
  have HL := Lib.hid hL
  have hsz : (ByteArray.mk l.toArray).size = L := by rw [← hL]; simp [ByteArray.size]
  rw [hL] at hl
  clear hL
  go_enter Tryd.func11, Tryd.ntmps11
  go_upto_region 2 with fail
  have H0 : Hid (Al w (fun _ => 0) [] 0 none 0 0 ((w.alloc (.cells #[.slice none 0 0, .int .i64 0, .int .i64 0, .int .i64 0, .int .i64 0, .int .i64 0, .int .i64 0, .int .i64 0, .int .i64 0, .int .i64 0, .int .i64 0, .int .i64 0, .int .i64 0, .int .i64 0] 38)).alloc (.cells #[.slice none 0 0, .int .i64 0, .int .i64 0, .int .i64 0, .int .i64 0, .int .i64 0, .int .i64 0, .int .i64 0, .int .i64 0, .int .i64 0, .int .i64 0, .int .i64 0, .int .i64 0, .int .i64 0] 38))) :=
    ⟨heap_alloc2_new w _ _, heap_alloc2_old w _ _, World.ownsRow_nil _ _ _ _, rfl, new_below2 w _ _, by simp⟩
  generalize (w.alloc (.cells #[.slice none 0 0, .int .i64 0, .int .i64 0, .int .i64 0, .int .i64 0, .int .i64 0, .int .i64 0, .int .i64 0, .int .i64 0, .int .i64 0, .int .i64 0, .int .i64 0, .int .i64 0, .int .i64 0] 38)).alloc (.cells #[.slice none 0 0, .int .i64 0, .int .i64 0, .int .i64 0, .int .i64 0, .int .i64 0, .int .i64 0, .int .i64 0, .int .i64 0, .int .i64 0, .int .i64 0, .int .i64 0, .int .i64 0, .int .i64 0] 38) = x1 at *
  go_wp2
  go_loopw [4, 5] (fun v i wr => ∃ (k from_ n c h : Nat) (A : Option Addr) (f : Nat → Nat) (fs : List Fr), i = .int .i64 k ∧ v = .int .i64 from_ ∧ k ≤ L + 1 ∧ from_ ≤ k ∧ n ≤ k ∧ Hid (∀ e, f e ≤ k) ∧ Hid (Al w f fs h A n c wr) ∧ Hid (Stg l k from_ f fs h)) (fun _ i _ => L + 1 - (intOf i).toNat)
  case atStart => exact ⟨0, 0, 0, 0, 0, none, fun _ => 0, [], rfl, rfl, Nat.zero_le _, Nat.le_refl _, Nat.le_refl _, fun _ => Nat.le_refl _, H0, .inl ⟨Nat.zero_le _, rfl, Pc.zero, [], Sa.zero l, rfl, rfl⟩⟩
  case round =>
    clear H0
    obtain ⟨k, from_, n, c, h, A, f, fs, rfl, rfl, hk, hfk, hnk, HM, HA, HS⟩ := hrel
    rcases HS.out with ⟨hkl, rfl, t, own, hsa, rfl, rfl⟩ | ⟨hkl, rfl, rfl, rfl⟩
    · rw [HL.out] at hkl
      have i0' : (k : Int) ≤ (L : Int) := by omega
      have hex : (ByteArray.mk l.toArray).extract from_ k = ByteArray.mk own.toArray := by rw [extract_both, hsa.own]
      obtain ⟨no, hno⟩ : ∃ no, own.length = no := ⟨_, rfl⟩
      have HNO := Lib.hid hno
      have hso : (ByteArray.mk own.toArray).size = no := by rw [← hno]; simp [ByteArray.size]
      have hnoL : no ≤ k := by have := hsa.len (by rw [HL.out]; exact hkl); omega
      have HSA := Lib.hid hsa
      have h10 := HM.out 10
      clear hsa hno HS
      by_cases hlt : k < L
      · have i1 : (k : Int) < (L : Int) := by omega
        have hkl' : k < l.length := by rw [HL.out]; exact hlt
        obtain ⟨b, hb⟩ : ∃ b, l[k]'hkl' = b := ⟨_, rfl⟩
        have HB := Lib.hid hb
        have hidx : ∀ h : k < (ByteArray.mk l.toArray).size, ((ByteArray.mk l.toArray)[k]'h).toNat = b.toNat := fun h => by rw [← hb]; rfl
        clear hb
        by_cases h126 : b = 126
        · subst h126
          have hbn : (126 : UInt8).toNat = 126 := rfl
          have HNX := Lib.hid (HSA.out.flag hkl' HB.out)
          have ifr : (from_ : Int) ≤ (k : Int) := by omega
          have ikL : (k : Int) ≤ (L : Int) := by omega
          have ineq : ((k : Int) == (L : Int)) = false := by rw [beq_eq_false_iff_ne]; omega
          by_cases h62 : 62 < no
          · have i62 : (62 : Int) < (no : Int) := by omega
            have HPC : Hid (t.piece own = ⟨bump t.errs 10, t.fr⟩) := by show _ = _; unfold Pc.piece; rw [if_pos (by rw [HNO.out]; exact h62)]
            have c10 := HA.out.cellE 10 (by decide)
            have f10 := HA.out.frozen 11
            have HA1 := Lib.hid (HA.out.err (e := 10) (by decide))
            generalize t.errs 10 = e10 at *
            go_wp2
            go_roundw
            case rel => exact ⟨k + 1, k + 1, n, c, 0, A, bump t.errs 10, t.fr, by go_num, by go_num, by omega, Nat.le_refl _, by omega, bump_le HM.out, HA1, .inl ⟨by rw [HL.out]; omega, rfl, _, _, HNX.out, by rw [HPC.out], by rw [HPC.out]⟩⟩
            case measure => simp [intOf]; omega
          · have i62 : ¬ (62 : Int) < (no : Int) := by omega
            by_cases h0 : own = []
            · subst h0
              have HPC : Hid (t.piece [] = t) := by show _ = _; unfold Pc.piece; rw [if_neg (by simp), if_pos rfl]
              have hno0 : no = 0 := by rw [← HNO.out]; rfl
              subst hno0
              go_wp2
              go_roundw
              case rel => exact ⟨k + 1, k + 1, n, c, 0, A, t.errs, t.fr, by go_num, by go_num, by omega, Nat.le_refl _, by omega, fun e => Nat.le_succ_of_le (HM.out e), HA, .inl ⟨by rw [HL.out]; omega, rfl, _, _, HNX.out, by rw [HPC.out], by rw [HPC.out]⟩⟩
              case measure => simp [intOf]; omega
            · have hne : (own == []) = false := by rw [beq_eq_false_iff_ne]; exact h0
              have HH0 := Lib.hid h0
              clear h0
              go_wp2_with fail
              refine (refdecode_on own wr (by rw [HNO.out]; omega)).mono ?_
              rintro e y1 ⟨ff, er, hff, her, rfl, hb⟩
              have HFF := Lib.hid hff
              have HER := Lib.hid her
              have HA1 := Lib.hid ((HA.out.step hb).step (new_below y1 (.cells #[.int .u8 (ff.a : Int), .int .u8 (ff.k : Int), .int .u8 (ff.s : Int), .int .u8 (ff.q : Int), .int .u8 (ff.c : Int), .string ⟨ff.b.toArray⟩] 45)))
              clear hff her hb HA
              by_cases he : er = 0
              · subst he
                have HPC : Hid (t.piece own = ⟨t.errs, t.fr ++ [ff]⟩) := by show _ = _; unfold Pc.piece; rw [if_neg (by rw [HNO.out]; exact h62), if_neg HH0.out, if_pos HER.out.symm, HFF.out]
                go_upto_region 16 with fail
                obtain ⟨y3, hy3⟩ : ∃ y, y = (y1.alloc (.cells #[.int .u8 (ff.a : Int), .int .u8 (ff.k : Int), .int .u8 (ff.s : Int), .int .u8 (ff.q : Int), .int .u8 (ff.c : Int), .string ⟨ff.b.toArray⟩] 45)).alloc (.cells #[.int .u8 (ff.a : Int), .int .u8 (ff.k : Int), .int .u8 (ff.s : Int), .int .u8 (ff.q : Int), .int .u8 (ff.c : Int), .string ⟨ff.b.toArray⟩] 45) := ⟨_, rfl⟩
                have HA3 : Hid (Al w t.errs t.fr 0 A n c y3) := by rw [hy3]; exact HA1.out.step (new_below _ _)
                have HH3 : Hid (Holds y3 (y1.heap.size + 1) (some ⟨y1.heap.size + 1, 0, none⟩) (rcs [ff])) := by
                  rw [hy3]
                  exact Holds.of_row (heap_alloc2_new y1 (.cells #[.int .u8 (ff.a : Int), .int .u8 (ff.k : Int), .int .u8 (ff.s : Int), .int .u8 (ff.q : Int), .int .u8 (ff.c : Int), .string ⟨ff.b.toArray⟩] 45) (.cells #[.int .u8 (ff.a : Int), .int .u8 (ff.k : Int), .int .u8 (ff.s : Int), .int .u8 (ff.q : Int), .int .u8 (ff.c : Int), .string ⟨ff.b.toArray⟩] 45))
                have c0 := HA1.out.cell0
                have f0 := HA1.out.frozen 0
                go_wp2_with (at_builtin; rw [← hy3]; refine wpList_append_wide rfl (.tmp 58) (.tmp 60) 36 rfl (w.heap.size + 2) 45 i0 (.agg noRef) 6 24 Tryd.underlying36 hi hz0 hz1 hz2 rfl (by decide) (.slice A n c) n (rcs t.fr) rfl HA3.out.own (y1.heap.size + 1) (some ⟨y1.heap.size + 1, 0, none⟩) 1 1 (rcs [ff]) rfl rfl HH3.out (rcs_oneCell _) (by unfold maxLen; omega) (by omega) HA3.out.sz ?_; intro A4 c4 y4 hown4 hgr4; have HA4 := Lib.hid (HA3.out.more hown4 hgr4); have c4' := (HA3.out.after hgr4).1; have f4' := (HA3.out.after hgr4).2; clear hown4 hgr4)
                go_roundw
                case rel => exact ⟨k + 1, k + 1, n + 1, c4, 0, A4, t.errs, t.fr ++ [ff], by go_num, by go_num, by omega, Nat.le_refl _, by omega, fun e => Nat.le_succ_of_le (HM.out e), HA4, .inl ⟨by rw [HL.out]; omega, rfl, _, _, HNX.out, by rw [HPC.out], by rw [HPC.out]⟩⟩
                case measure => simp [intOf]; omega
              · have hne0 : ((er : Int) == 0) = false := by rw [beq_eq_false_iff_ne]; omega
                have her : er < 12 := by have := decE_le own; have := HER.out; omega
                have HPC : Hid (t.piece own = ⟨bump t.errs er, t.fr⟩) := by show _ = _; unfold Pc.piece; rw [if_neg (by rw [HNO.out]; exact h62), if_neg HH0.out, if_neg (by rw [← HER.out]; exact he), HER.out]
                have hme := HM.out er
                go_upto_region 17 with fail
                generalize y1.alloc (.cells #[.int .u8 (ff.a : Int), .int .u8 (ff.k : Int), .int .u8 (ff.s : Int), .int .u8 (ff.q : Int), .int .u8 (ff.c : Int), .string ⟨ff.b.toArray⟩] 45) = y2 at *
                have ce := HA1.out.cellE er her
                have fe := HA1.out.frozen (1 + er)
                have HA2 := Lib.hid (HA1.out.err her)
                have her' : (er : Int) < 12 := by omega
                generalize t.errs er = ee at *
                go_wp2
                go_roundw
                case rel => exact ⟨k + 1, k + 1, n, c, 0, A, bump t.errs er, t.fr, by go_num, by go_num, by omega, Nat.le_refl _, by omega, bump_le HM.out, HA2, .inl ⟨by rw [HL.out]; omega, rfl, _, _, HNX.out, by rw [HPC.out], by rw [HPC.out]⟩⟩
                case measure => simp [intOf]; omega
        · have hbn : ((b.toNat : Int) != 126) = true := u8_bne (n := 126) (by omega) h126
          have HNX := Lib.hid (HSA.out.byte hkl' (by rw [HB.out]; exact h126))
          go_wp2
          go_roundw
          case rel => exact ⟨k + 1, from_, n, c, 0, A, t.errs, t.fr, by go_num, rfl, by omega, by omega, by omega, fun e => Nat.le_succ_of_le (HM.out e), HA, .inl ⟨by rw [HL.out]; omega, rfl, _, _, HNX.out, rfl, rfl⟩⟩
          case measure => simp [intOf]; omega
      · have hkL : k = L := by omega
        subst hkL
        have i1 : ¬ (k : Int) < (k : Int) := by omega
        have ifr : (from_ : Int) ≤ (k : Int) := by omega
        have HST : Hid ((Dc.zero.feed l).1.errs = (if 62 < own.length then bump t.errs 10 else t.errs) ∧ (Dc.zero.feed l).2 = t.fr ∧ (Dc.zero.feed l).1.held.length = (if 62 < own.length then 0 else own.length)) := Stg.last (from_ := from_) (by rw [HL.out]; exact HSA.out)
        rw [HNO.out] at HST
        by_cases h62 : 62 < no
        · rw [if_pos h62, if_pos h62] at HST
          have i62 : (62 : Int) < (no : Int) := by omega
          have c10 := HA.out.cellE 10 (by decide)
          have f10 := HA.out.frozen 11
          have HA1 := Lib.hid (HA.out.err (e := 10) (by decide))
          generalize t.errs 10 = e10 at *
          go_wp2
          go_roundw
          case rel => exact ⟨k + 1, k + 1, n, c, 0, A, bump t.errs 10, t.fr, by go_num, by go_num, by omega, Nat.le_refl _, by omega, bump_le HM.out, HA1, .inr ⟨by rw [HL.out], HST.out.1.symm, HST.out.2.1.symm, HST.out.2.2.symm⟩⟩
          case measure => simp [intOf]
        · rw [if_neg h62, if_neg h62] at HST
          have i62 : ¬ (62 : Int) < (no : Int) := by omega
          have ieq : ((k : Int) == (k : Int)) = true := by simp
          have c13 := HA.out.cell13
          have f13 := HA.out.frozen 13
          have HA1 := Lib.hid (HA.out.held no)
          go_wp2
          go_roundw
          case rel => exact ⟨k + 1, k + 1, n, c, no, A, t.errs, t.fr, by go_num, by go_num, by omega, Nat.le_refl _, by omega, fun e => Nat.le_succ_of_le (HM.out e), HA1, .inr ⟨by rw [HL.out], HST.out.1.symm, HST.out.2.1.symm, HST.out.2.2.symm⟩⟩
          case measure => simp [intOf]
    · rw [HL.out] at hkl
      subst hkl
      have i1 : ¬ ((L + 1 : Nat) : Int) ≤ (L : Int) := by omega
      have hbox := HA.out.box
      have hres := HA.out.res
      rw [acs_lit] at hbox hres
      obtain ⟨q0, q1, q2, q3, q4, q5, q6, q7, q8, q9, q10, q11, q12, q13, -⟩ := row14 hbox
      obtain ⟨r0, r1, r2, r3, r4, r5, r6, r7, r8, r9, r10, r11, r12, r13, s0, s1, s2, s3, s4, s5, s6, s7, s8, s9, s10, s11, s12, s13⟩ := row14 hres
      have HBX := Lib.hid hbox
      have HRS := Lib.hid hres
      clear hbox hres HS
      go_wp2
      refine bodyPost_ret (results_row rfl _ _ w.heap.size 38 _ _ rfl (set14 HRS.out) told_struct told_size) rfl ?_
      have hc14 := ch14 wr w.heap.size (.slice A n c) (.int .i64 ((Dc.zero.feed l).1.errs 0 : Int)) (.int .i64 ((Dc.zero.feed l).1.errs 1 : Int)) (.int .i64 ((Dc.zero.feed l).1.errs 2 : Int)) (.int .i64 ((Dc.zero.feed l).1.errs 3 : Int)) (.int .i64 ((Dc.zero.feed l).1.errs 4 : Int)) (.int .i64 ((Dc.zero.feed l).1.errs 5 : Int)) (.int .i64 ((Dc.zero.feed l).1.errs 6 : Int)) (.int .i64 ((Dc.zero.feed l).1.errs 7 : Int)) (.int .i64 ((Dc.zero.feed l).1.errs 8 : Int)) (.int .i64 ((Dc.zero.feed l).1.errs 9 : Int)) (.int .i64 ((Dc.zero.feed l).1.errs 10 : Int)) (.int .i64 ((Dc.zero.feed l).1.errs 11 : Int)) (.int .i64 ((Dc.zero.feed l).1.held.length : Int))
      have ho := ownB_ch HA.out.own hc14 (fun g hg => by have := (HA.out.own.lt g hg).1; simp; omega)
      refine ⟨A, n, c, rfl, ⟨ho.1, ?_⟩, HA.out.len, HA.out.below.trans (hc14.belowAt (by simp) HA.out.below.size)⟩
      rcases ho.2 with hn | ⟨g, cap, cur, hv, hb, r⟩
      · exact .inl hn
      · exact .inr ⟨g, cap, cur, hv, by omega, r⟩

/-- Frames in a row of one's own, whose bytes are held. -/
structure Gt (x : World) (B : Nat) (v : Value) (n : Nat) (ts : List Tf) : Prop where
  own : x.ownsRow B 35 6 v n (tcs ts)
  len : ts.length = n
  hold : ∀ t ∈ ts, Holds x t.g t.A (bcs t.f.b)
  from_ : ∀ t ∈ ts, 0 < t.f.b.length → B ≤ t.g
  apo : ∀ t ∈ ts, 0 < t.f.b.length → ∀ g, v.ownBlock = some g → t.g ≠ g
theorem Gt.nil (x : World) (B : Nat) : Gt x B (.slice none 0 0) 0 [] := ⟨World.ownsRow_nil x B _ 6, rfl, by simp, by simp, by simp⟩
theorem Gt.keep {F : List Nat} {x y : World} {B n : Nat} {v : Value} {ts : List Tf} (h : Gt x B v n ts) (hc : Ch F x y) (ho : ∀ g, v.ownBlock = some g → g ∉ F) (hF : ∀ t ∈ ts, 0 < t.f.b.length → t.g ∉ F) : Gt y B v n ts :=
  ⟨ownB_ch h.own hc ho, h.len, fun t ht => (h.hold t ht).keep hc (fun hp => hF t ht (by rw [bcs_length] at hp; exact hp)), h.from_, h.apo⟩
theorem Gt.step {x y : World} {B n : Nat} {v : Value} {ts : List Tf} (h : Gt x B v n ts) (hb : Below x.heap.size x y) : Gt y B v n ts := h.keep (Ch.of_below hb) (by simp) (by simp)
theorem Gt.lt {x : World} {B n : Nat} {v : Value} {ts : List Tf} (h : Gt x B v n ts) : ∀ t ∈ ts, 0 < t.f.b.length → t.g < x.heap.size := fun t ht hp => (h.hold t ht (by rw [bcs_length]; exact hp)).1
theorem own_cell6 {w : World} {B n c : Nat} {A : Option Addr} {ts : List Tf} (ho : w.ownsRow B 35 6 (.slice A n c) n (tcs ts)) (hn : ts.length = n) (k : Nat) (hk : k < ts.length) : ∃ g, A = some ⟨g, 0, none⟩ ∧ B ≤ g ∧ g < w.heap.size ∧ (w.cell? ⟨g, k * 6, none⟩ = some (.int .u8 ((ts[k]).f.a : Int)) ∧ w.cell? ⟨g, k * 6 + 1, none⟩ = some (.int .u8 ((ts[k]).f.k : Int)) ∧ w.cell? ⟨g, k * 6 + 2, none⟩ = some (.int .u8 ((ts[k]).f.s : Int)) ∧ w.cell? ⟨g, k * 6 + 3, none⟩ = some (.int .u8 ((ts[k]).f.q : Int)) ∧ w.cell? ⟨g, k * 6 + 4, none⟩ = some (.int .u8 ((ts[k]).f.c : Int)) ∧ w.cell? ⟨g, k * 6 + 5, none⟩ = some (.slice (ts[k]).A (ts[k]).f.b.length (ts[k]).c)) := by
  rcases ho.2 with ⟨_, h0⟩ | ⟨g, cap, cur, hv, hb, hh, h1, h2, h3, h4⟩
  · omega
  · injection hv with hA _ _
    subst hA
    have key : ∀ j, j < 6 → w.cell? ⟨g, k * 6 + j, none⟩ = (ts[k]).cells[j]? := by
      intro j hj
      have h5 := tcs_get ts k j hk hj
      have h6 : (tcs ts)[k * 6 + j]? = some ((ts[k]).cells[j]'(by show j < 6; exact hj)) := by rw [h5, List.getElem?_eq_getElem]
      have h7 := ho.cells (g := g) rfl _ _ h6
      rw [addr_add, Nat.zero_add] at h7
      rw [h7, List.getElem?_eq_getElem]
    exact ⟨g, rfl, hb, (Array.getElem?_eq_some_iff.1 hh).1, key 0 (by decide), key 1 (by decide), key 2 (by decide), key 3 (by decide), key 4 (by decide), key 5 (by decide)⟩
theorem Gt.fa {w : World} {B n c : Nat} {A : Option Addr} {ts : List Tf} (h : Gt w B (.slice A n c) n ts) (k : Nat) (hk : k < ts.length) (F : Fr) (hf : (ts[k]).f = F) : ∃ (g : Nat) (A' : Option Addr) (c' gb : Nat), A = some ⟨g, 0, none⟩ ∧ Fa g k A' c' gb F w := by
  obtain ⟨g, h1, _, h3, h4⟩ := own_cell6 h.own h.len k hk
  have hh := h.hold ts[k] (List.getElem_mem hk)
  rw [hf] at h4 hh
  exact ⟨g, (ts[k]).A, (ts[k]).c, (ts[k]).g, h1, ⟨h4, hh, h3⟩⟩
theorem Gt.holds {w : World} {B n c : Nat} {A : Option Addr} {ts : List Tf} (h : Gt w B (.slice A n c) n ts) : n * 6 = (tcs ts).length := by rw [tcs_length, h.len]

/-- The document's frames in a row: the cells of one. -/
structure Ra (g k : Nat) (F : Fr) (x : World) : Prop where
  cells : x.cell? ⟨g, k * 6, none⟩ = some (.int .u8 (F.a : Int)) ∧ x.cell? ⟨g, k * 6 + 1, none⟩ = some (.int .u8 (F.k : Int)) ∧ x.cell? ⟨g, k * 6 + 2, none⟩ = some (.int .u8 (F.s : Int)) ∧ x.cell? ⟨g, k * 6 + 3, none⟩ = some (.int .u8 (F.q : Int)) ∧ x.cell? ⟨g, k * 6 + 4, none⟩ = some (.int .u8 (F.c : Int)) ∧ x.cell? ⟨g, k * 6 + 5, none⟩ = some (.string ⟨F.b.toArray⟩)
  lt : g < x.heap.size
theorem Ra.step {g k : Nat} {F : Fr} {x y : World} (h : Ra g k F x) (hb : Below x.heap.size x y) : Ra g k F y := by
  obtain ⟨h0, h1, h2, h3, h4, h5⟩ := h.cells
  exact ⟨⟨(hb.cell (p := ⟨g, k * 6, none⟩) h.lt).trans h0, (hb.cell (p := ⟨g, k * 6 + 1, none⟩) h.lt).trans h1, (hb.cell (p := ⟨g, k * 6 + 2, none⟩) h.lt).trans h2, (hb.cell (p := ⟨g, k * 6 + 3, none⟩) h.lt).trans h3, (hb.cell (p := ⟨g, k * 6 + 4, none⟩) h.lt).trans h4, (hb.cell (p := ⟨g, k * 6 + 5, none⟩) h.lt).trans h5⟩, Nat.lt_of_lt_of_le h.lt hb.size⟩
theorem ref_cell {w : World} {B n c : Nat} {A : Option Addr} {fs : List Fr} (ho : w.ownsRow B 45 6 (.slice A n c) n (rcs fs)) (hn : fs.length = n) (k : Nat) (hk : k < fs.length) (F : Fr) (hf : fs[k] = F) : ∃ g, A = some ⟨g, 0, none⟩ ∧ Ra g k F w := by
  rcases ho.2 with ⟨_, h0⟩ | ⟨g, cap, cur, hv, hb, hh, h1, h2, h3, h4⟩
  · omega
  · injection hv with hA _ _
    subst hA
    have key : ∀ j, j < 6 → w.cell? ⟨g, k * 6 + j, none⟩ = F.rcells[j]? := by
      intro j hj
      have h5 := rcs_get fs k j hk hj
      rw [hf] at h5
      have h6 : (rcs fs)[k * 6 + j]? = some (F.rcells[j]'(by show j < 6; exact hj)) := by rw [h5, List.getElem?_eq_getElem]
      have h7 := ho.cells (g := g) rfl _ _ h6
      rw [addr_add, Nat.zero_add] at h7
      rw [h7, List.getElem?_eq_getElem]
    exact ⟨g, rfl, ⟨⟨key 0 (by decide), key 1 (by decide), key 2 (by decide), key 3 (by decide), key 4 (by decide), key 5 (by decide)⟩, (Array.getElem?_eq_some_iff.1 hh).1⟩⟩

/-- What is known in same. -/
structure Sm (w : World) (B : Nat) (A : Option Addr) (n c : Nat) (ts : List Tf) (B' : Nat) (A' : Option Addr) (c' : Nat) (fs : List Fr) (x : World) : Prop where
  got : Gt x B (.slice A n c) n ts
  ref : x.ownsRow B' 45 6 (.slice A' n c') n (rcs fs)
  below : Below w.heap.size w x
theorem Sm.step {w x y : World} {B n c B' c' : Nat} {A A' : Option Addr} {ts : List Tf} {fs : List Fr} (h : Sm w B A n c ts B' A' c' fs x) (hb : Below x.heap.size x y) : Sm w B A n c ts B' A' c' fs y :=
  ⟨h.got.step hb, ownB_ch h.ref (Ch.of_below hb) (by simp), h.below.trans (hb.mono h.below.size)⟩
/-- .. while one of each is looked at. -/
structure Sv (w : World) (B : Nat) (A : Option Addr) (n c : Nat) (ts : List Tf) (B' : Nat) (A' : Option Addr) (c' : Nat) (fs : List Fr) (q g1 : Nat) (B1 : Option Addr) (b1 h1 g2 : Nat) (F : Fr) (x : World) : Prop where
  m : Sm w B A n c ts B' A' c' fs x
  f1 : Fa g1 q B1 b1 h1 F x
  f2 : Ra g2 q F x
theorem Sv.step {w x y : World} {B n c B' c' q g1 b1 h1 g2 : Nat} {A A' B1 : Option Addr} {ts : List Tf} {fs : List Fr} {F : Fr} (h : Sv w B A n c ts B' A' c' fs q g1 B1 b1 h1 g2 F x) (hb : Below x.heap.size x y) : Sv w B A n c ts B' A' c' fs q g1 B1 b1 h1 g2 F y := ⟨h.m.step hb, h.f1.step hb, h.f2.step hb⟩
theorem Sv.cells {w x : World} {B n c B' c' q g1 b1 h1 g2 : Nat} {A A' B1 : Option Addr} {ts : List Tf} {fs : List Fr} {F : Fr} (h : Sv w B A n c ts B' A' c' fs q g1 B1 b1 h1 g2 F x) : (x.cell? ⟨g1, q * 6, none⟩ = some (.int .u8 (F.a : Int)) ∧ x.cell? ⟨g1, q * 6 + 1, none⟩ = some (.int .u8 (F.k : Int)) ∧ x.cell? ⟨g1, q * 6 + 2, none⟩ = some (.int .u8 (F.s : Int)) ∧ x.cell? ⟨g1, q * 6 + 3, none⟩ = some (.int .u8 (F.q : Int)) ∧ x.cell? ⟨g1, q * 6 + 4, none⟩ = some (.int .u8 (F.c : Int)) ∧ x.cell? ⟨g1, q * 6 + 5, none⟩ = some (.slice B1 F.b.length b1)) ∧ (x.cell? ⟨g2, q * 6, none⟩ = some (.int .u8 (F.a : Int)) ∧ x.cell? ⟨g2, q * 6 + 1, none⟩ = some (.int .u8 (F.k : Int)) ∧ x.cell? ⟨g2, q * 6 + 2, none⟩ = some (.int .u8 (F.s : Int)) ∧ x.cell? ⟨g2, q * 6 + 3, none⟩ = some (.int .u8 (F.q : Int)) ∧ x.cell? ⟨g2, q * 6 + 4, none⟩ = some (.int .u8 (F.c : Int)) ∧ x.cell? ⟨g2, q * 6 + 5, none⟩ = some (.string ⟨F.b.toArray⟩)) := ⟨h.f1.cells, h.f2.cells⟩

set_option maxHeartbeats 4000000 in
set_option maxRecDepth 100000 in
theorem same_on {B n c B' c' : Nat} {A A' : Option Addr} {ts : List Tf} {fs : List Fr} {w : World} (h : Gt w B (.slice A n c) n ts) (h' : w.ownsRow B' 45 6 (.slice A' n c') n (rcs fs)) (hf : ts.map (·.f) = fs) (hn : n ≤ 100000) :
    Calls Tryd.prog 12 #[.slice A n c, .slice A' n c'] w fun e w' => e = .returned (.bool true) ∧ Below w.heap.size w w' := by
  have H0 : Hid (Sm w B A n c ts B' A' c' fs w) := ⟨h, h', Below.refl _ _⟩
  have HF := Lib.hid hf
  have HFL : Hid (fs.length = n) := by show _ = _; rw [← hf, List.length_map, h.len]
  clear h h' hf
  go_enter Tryd.func12, Tryd.ntmps12
  go_wp2
  go_loopw [5] (fun i wr => ∃ q : Nat, q ≤ n ∧ i = .int .i64 q ∧ Hid (Sm w B A n c ts B' A' c' fs wr)) (fun i _ => n - (intOf i).toNat)
  case atStart => exact ⟨0, Nat.zero_le _, rfl, H0⟩
  case round =>
    clear H0
    obtain ⟨q, hq, rfl, HA⟩ := hrel
    by_cases hlt : q < n
    · have hq1 : q < ts.length := by rw [HA.out.got.len]; exact hlt
      have hqf : q < fs.length := by rw [HFL.out]; exact hlt
      have hlt' : (q : Int) < (n : Int) := by omega
      go_upto_region 6 with fail
      obtain ⟨F, hF⟩ : ∃ F, fs[q]'hqf = F := ⟨_, rfl⟩
      have he1 : (ts[q]'hq1).f = F := by rw [← hF]; simp only [← HF.out, List.getElem_map]
      obtain ⟨g1, B1, b1, h1, rfl, hf1⟩ := HA.out.got.fa q hq1 F he1
      obtain ⟨g2, rfl, hf2⟩ := ref_cell HA.out.ref HFL.out q hqf F hF
      have HV : Hid (Sv w B (some ⟨g1, 0, none⟩) n c ts B' (some ⟨g2, 0, none⟩) c' fs q g1 B1 b1 h1 g2 F wr.drew) := Sv.step ⟨HA.out, hf1, hf2⟩ (drew_below wr)
      clear HA hf1 hf2 he1 hF hq1 hqf
      refine region_plan [(true, 0), (true, 1), (true, 2), (true, 3), (true, 5), (true, 6), (true, 7), (true, 8), (false, 4), (true, 9)]
        (fun x => (x.cell? ⟨g1, q * 6, none⟩ = some (.int .u8 (F.a : Int)) ∧ x.cell? ⟨g1, q * 6 + 1, none⟩ = some (.int .u8 (F.k : Int)) ∧ x.cell? ⟨g1, q * 6 + 2, none⟩ = some (.int .u8 (F.s : Int)) ∧ x.cell? ⟨g1, q * 6 + 3, none⟩ = some (.int .u8 (F.q : Int)) ∧ x.cell? ⟨g1, q * 6 + 4, none⟩ = some (.int .u8 (F.c : Int)) ∧ x.cell? ⟨g1, q * 6 + 5, none⟩ = some (.slice B1 F.b.length b1)) ∧ (x.cell? ⟨g2, q * 6, none⟩ = some (.int .u8 (F.a : Int)) ∧ x.cell? ⟨g2, q * 6 + 1, none⟩ = some (.int .u8 (F.k : Int)) ∧ x.cell? ⟨g2, q * 6 + 2, none⟩ = some (.int .u8 (F.s : Int)) ∧ x.cell? ⟨g2, q * 6 + 3, none⟩ = some (.int .u8 (F.q : Int)) ∧ x.cell? ⟨g2, q * 6 + 4, none⟩ = some (.int .u8 (F.c : Int)) ∧ x.cell? ⟨g2, q * 6 + 5, none⟩ = some (.string ⟨F.b.toArray⟩)))
        (by kernel_rfl) (by kernel_rfl) (by kernel_rfl) rfl HV.out.cells ?_
      iterate 8 (refine Plan.take (v := ?_) rfl (by rfl) ?_ ?_; rotate_left 1; (focus (intro x hx; go_simp <;> (first | with_reducible rfl | rw [if_pos (by omega)]))); simp only [Act.put, List.setIfInBounds_toArray, List.set_cons_zero, List.set_cons_succ])
      generalize wr.drew = y0 at *
      refine Plan.loud rfl (fun K hK => ?_)
      go_simp
      refine (of_on HV.out.f1.hold rfl).mono ?_
      rintro e1 y1 ⟨rfl, hb⟩
      replace HV := Lib.hid (HV.out.step hb)
      clear hb
      refine hK.out _ _ _ (fun x hx => hx) HV.out.cells ?_
      clear hK K
      iterate 1 (refine Plan.take (v := ?_) rfl (by rfl) ?_ ?_; rotate_left 1; (focus (intro x hx; go_simp <;> (first | with_reducible rfl | rw [if_pos (by omega)]))); simp only [Act.put, List.setIfInBounds_toArray, List.set_cons_zero, List.set_cons_succ])
      refine Plan.done ?_
      go_wp2
      go_roundw
      case rel => exact ⟨q + 1, by omega, by go_num, HV.out.m⟩
      case measure => simp [intOf]; omega
    · go_wp2
      go_ret
      exact ⟨rfl, HA.out.below⟩

end Go.Proofs.YtalolefggihloaaDoor
