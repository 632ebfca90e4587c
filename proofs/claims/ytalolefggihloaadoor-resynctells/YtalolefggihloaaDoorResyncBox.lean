/-
  A decoder's cells: how often each error was counted, sixty-two bytes, how many of them are held, and whether it waits; frames that were told, in a row of their own. Of the program its types alone.
-/
import Derived.Test.YtalolefggihloaaDoorFrameO
import Derived.Test.YtalolefggihloaaDoorResyncMath
namespace Go.Proofs.YtalolefggihloaaDoor
set_option linter.unusedVariables false
set_option linter.unusedSimpArgs false
open Go.RowKit

/-- Counts as cells. -/
def ecs (f : Nat → Nat) : List Value := (List.range 12).map fun i => .int .i64 (f i : Int)
theorem ecs_length (f : Nat → Nat) : (ecs f).length = 12 := by simp [ecs]
theorem ecs_get (f : Nat → Nat) (i : Nat) (h : i < 12) : (ecs f)[i]? = some (.int .i64 (f i : Int)) := by simp [ecs, h]
theorem ecs_set (f : Nat → Nat) (e : Nat) (h : e < 12) : (ecs f).set e (.int .i64 ((f e + 1 : Nat) : Int)) = ecs (bump f e) := by
  apply List.ext_getElem?
  intro i
  rw [List.getElem?_set, ecs_length]
  by_cases hi : i < 12
  · rw [ecs_get _ _ hi, ecs_get _ _ hi]
    by_cases he : e = i
    · subst he
      rw [if_pos rfl, if_pos hi, bump_same]
    · rw [if_neg he, bump_other _ _ _ (Ne.symm he)]
  · rw [if_neg (by omega), List.getElem?_eq_none (by rw [ecs_length]; omega), List.getElem?_eq_none (by rw [ecs_length]; omega)]
/-- All cells of a decoder. -/
def dcs (f : Nat → Nat) (buf : List UInt8) (n : Nat) (o : Bool) : List Value := ecs f ++ (bcs buf ++ [.int .i64 (n : Int), .bool o])
structure Bx (w : World) (D : Nat) (f : Nat → Nat) (buf : List UInt8) (n : Nat) (o : Bool) : Prop where
  box : w.heap[D]? = some (.cells (dcs f buf n o).toArray 30 (0, 0))
  len : buf.length = 62
theorem Bx.lt {w : World} {D : Nat} {f : Nat → Nat} {buf : List UInt8} {n : Nat} {o : Bool} (h : Bx w D f buf n o) : D < w.heap.size := (Array.getElem?_eq_some_iff.1 h.box).1
theorem Bx.keep {F : List Nat} {w w' : World} {D : Nat} {f : Nat → Nat} {buf : List UInt8} {n : Nat} {o : Bool} (h : Bx w D f buf n o) (hc : Ch F w w') (hF : D ∉ F) : Bx w' D f buf n o := ⟨(hc.block D h.lt hF).trans h.box, h.len⟩
theorem Bx.frozen {w : World} {D : Nat} {f : Nat → Nat} {buf : List UInt8} {n : Nat} {o : Bool} (h : Bx w D f buf n o) (i : Nat) : w.frozen? ⟨D, i, none⟩ = false := frozen_of_row _ _ _ _ _ h.box
theorem Bx.err {w : World} {D : Nat} {f : Nat → Nat} {buf : List UInt8} {n : Nat} {o : Bool} (h : Bx w D f buf n o) (e : Nat) (he : e < 12) : w.cell? ⟨D, e, none⟩ = some (.int .i64 (f e : Int)) := by
  rw [cell_of_row _ _ _ _ _ _ h.box, List.getElem?_toArray, dcs, List.getElem?_append_left (by rw [ecs_length]; exact he), ecs_get _ _ he]
theorem Bx.byte {w : World} {D : Nat} {f : Nat → Nat} {buf : List UInt8} {n : Nat} {o : Bool} (h : Bx w D f buf n o) (j : Nat) (hj : j < buf.length) : w.cell? ⟨D, 12 + j, none⟩ = some (.int .u8 (buf[j].toNat : Int)) := by
  rw [cell_of_row _ _ _ _ _ _ h.box, List.getElem?_toArray, dcs, List.getElem?_append_right (by rw [ecs_length]; omega), ecs_length, Nat.add_sub_cancel_left, List.getElem?_append_left (by rw [bcs_length]; exact hj), bcs_get _ _ hj]
theorem Bx.size {w : World} {D : Nat} {f : Nat → Nat} {buf : List UInt8} {n : Nat} {o : Bool} (h : Bx w D f buf n o) : w.cell? ⟨D, 74, none⟩ = some (.int .i64 (n : Int)) := by
  rw [cell_of_row _ _ _ _ _ _ h.box, List.getElem?_toArray, dcs, List.getElem?_append_right (by rw [ecs_length]; omega), ecs_length, List.getElem?_append_right (by rw [bcs_length, h.len]; omega), bcs_length, h.len]
  rfl
theorem Bx.lost {w : World} {D : Nat} {f : Nat → Nat} {buf : List UInt8} {n : Nat} {o : Bool} (h : Bx w D f buf n o) : w.cell? ⟨D, 75, none⟩ = some (.bool o) := by
  rw [cell_of_row _ _ _ _ _ _ h.box, List.getElem?_toArray, dcs, List.getElem?_append_right (by rw [ecs_length]; omega), ecs_length, List.getElem?_append_right (by rw [bcs_length, h.len]; omega), bcs_length, h.len]
  rfl
theorem Bx.setErr {w : World} {D : Nat} {f : Nat → Nat} {buf : List UInt8} {n : Nat} {o : Bool} (h : Bx w D f buf n o) (e : Nat) (he : e < 12) : Bx (w.setCell ⟨D, e, none⟩ (.int .i64 ((f e + 1 : Nat) : Int))) D (bump f e) buf n o := by
  refine ⟨?_, h.len⟩
  rw [heap_setCell_same _ _ _ _ _ _ h.box, List.setIfInBounds_toArray, dcs, List.set_append_left _ _ (by rw [ecs_length]; exact he), ecs_set _ _ he]
  rfl
theorem Bx.setByte {w : World} {D : Nat} {f : Nat → Nat} {buf : List UInt8} {n : Nat} {o : Bool} (h : Bx w D f buf n o) (j : Nat) (hj : j < 62) (c : UInt8) : Bx (w.setCell ⟨D, 12 + j, none⟩ (.int .u8 (c.toNat : Int))) D f (buf.set j c) n o := by
  refine ⟨?_, by rw [List.length_set]; exact h.len⟩
  rw [heap_setCell_same _ _ _ _ _ _ h.box, List.setIfInBounds_toArray, dcs, List.set_append_right _ _ (by rw [ecs_length]; omega), ecs_length, Nat.add_sub_cancel_left, List.set_append_left _ _ (by rw [bcs_length, h.len]; exact hj), show (bcs buf).set j (.int .u8 (c.toNat : Int)) = bcs (buf.set j c) by simp [bcs, List.map_set]]
  rfl
theorem Bx.setSize {w : World} {D : Nat} {f : Nat → Nat} {buf : List UInt8} {n : Nat} {o : Bool} (h : Bx w D f buf n o) (m : Nat) : Bx (w.setCell ⟨D, 74, none⟩ (.int .i64 (m : Int))) D f buf m o := by
  refine ⟨?_, h.len⟩
  rw [heap_setCell_same _ _ _ _ _ _ h.box, List.setIfInBounds_toArray, dcs, List.set_append_right _ _ (by rw [ecs_length]; omega), ecs_length, List.set_append_right _ _ (by rw [bcs_length, h.len]; omega), bcs_length, h.len]
  rfl
theorem Bx.setLost {w : World} {D : Nat} {f : Nat → Nat} {buf : List UInt8} {n : Nat} {o : Bool} (h : Bx w D f buf n o) (b : Bool) : Bx (w.setCell ⟨D, 75, none⟩ (.bool b)) D f buf n b := by
  refine ⟨?_, h.len⟩
  rw [heap_setCell_same _ _ _ _ _ _ h.box, List.setIfInBounds_toArray, dcs, List.set_append_right _ _ (by rw [ecs_length]; omega), ecs_length, List.set_append_right _ _ (by rw [bcs_length, h.len]; omega), bcs_length, h.len]
  rfl
/-- The first bytes that it has, as a slice. -/
theorem Bx.holds {w : World} {D : Nat} {f : Nat → Nat} {buf : List UInt8} {n : Nat} {o : Bool} (h : Bx w D f buf n o) (k : Nat) : Holds w D (some ⟨D, 12, none⟩) (bcs (buf.take k)) := by
  intro _
  refine ⟨h.lt, 12, rfl, fun j u hu => ?_⟩
  rw [bcs_take, List.getElem?_take] at hu
  split at hu
  · by_cases hj : j < buf.length
    · rw [bcs_get _ _ hj] at hu
      rw [← hu]
      exact h.byte j hj
    · rw [List.getElem?_eq_none (by rw [bcs_length]; omega)] at hu
      cases hu
  · cases hu

/-- A decoder in block D that knows d; no error was counted more than N times. -/
structure Dec (w : World) (D : Nat) (d : Dc) (N : Nat) : Prop where
  box : ∃ buf : List UInt8, Bx w D d.errs buf d.held.length d.over ∧ buf.take d.held.length = d.held
  ok : d.Ok
  most : ∀ i, d.errs i ≤ N
theorem Dec.lt {w : World} {D : Nat} {d : Dc} {N : Nat} (h : Dec w D d N) : D < w.heap.size := by
  obtain ⟨buf, hb, _⟩ := h.box
  exact hb.lt
theorem Dec.keep {F : List Nat} {w w' : World} {D : Nat} {d : Dc} {N : Nat} (h : Dec w D d N) (hc : Ch F w w') (hF : D ∉ F) : Dec w' D d N := by
  obtain ⟨buf, hb, ht⟩ := h.box
  exact ⟨⟨buf, hb.keep hc hF, ht⟩, h.ok, h.most⟩
theorem Dec.mono {w : World} {D : Nat} {d : Dc} {N M : Nat} (h : Dec w D d N) (hN : N ≤ M) : Dec w D d M := ⟨h.box, h.ok, fun i => Nat.le_trans (h.most i) hN⟩
theorem bump_le {f : Nat → Nat} {e N : Nat} (h : ∀ i, f i ≤ N) : ∀ i, bump f e i ≤ N + 1 := by
  intro i
  have := h i
  unfold bump
  split <;> omega

/-- A frame that was told: where its bytes lie. -/
structure Tf where
  f : Fr
  A : Option Addr
  c : Nat
  g : Nat
def Tf.cells (t : Tf) : List Value := [.int .u8 (t.f.a : Int), .int .u8 (t.f.k : Int), .int .u8 (t.f.s : Int), .int .u8 (t.f.q : Int), .int .u8 (t.f.c : Int), .slice t.A t.f.b.length t.c]
def tcs (ts : List Tf) : List Value := ts.flatMap Tf.cells
theorem tcs_length (ts : List Tf) : (tcs ts).length = ts.length * 6 := by
  induction ts with
  | nil => rfl
  | cons t ts ih =>
    have : tcs (t :: ts) = t.cells ++ tcs ts := by simp [tcs]
    rw [this, List.length_append, ih]
    simp [Tf.cells]
    omega
theorem tcs_append (a b : List Tf) : tcs (a ++ b) = tcs a ++ tcs b := by simp [tcs]
theorem tcs_one (t : Tf) : tcs [t] = t.cells := by simp [tcs]
theorem tcs_oneCell (ts : List Tf) : ∀ u ∈ tcs ts, u.oneCell' = true := by
  intro u hu
  simp only [tcs, List.mem_flatMap] at hu
  obtain ⟨t, _, ht⟩ := hu
  simp only [Tf.cells, List.mem_cons, List.not_mem_nil, or_false] at ht
  rcases ht with rfl | rfl | rfl | rfl | rfl | rfl <;> rfl
theorem tcs_get (ts : List Tf) (k j : Nat) (hk : k < ts.length) (hj : j < 6) : (tcs ts)[k * 6 + j]? = (ts[k]).cells[j]? := by
  induction ts generalizing k with
  | nil => simp at hk
  | cons t ts ih =>
    have hc : tcs (t :: ts) = t.cells ++ tcs ts := by simp [tcs]
    have hl : t.cells.length = 6 := rfl
    rw [hc]
    cases k with
    | zero =>
      rw [List.getElem?_append_left (by omega)]
      simp
    | succ k =>
      rw [List.getElem?_append_right (by omega), hl, show (k + 1) * 6 + j - 6 = k * 6 + j by omega, ih k (by simpa using hk)]
      rfl
/-- Its bytes, in a row of their own, at B or behind. -/
structure Tf.In (w : World) (B : Nat) (t : Tf) : Prop where
  row : 0 < t.f.b.length → t.A = some ⟨t.g, 0, none⟩ ∧ t.f.b.length ≤ t.c ∧ Row w t.g t.f.b ∧ B ≤ t.g
theorem Tf.In.keep {F : List Nat} {w w' : World} {B : Nat} {t : Tf} (h : t.In w B) (hc : Ch F w w') (hF : 0 < t.f.b.length → t.g ∉ F) : t.In w' B :=
  ⟨fun hp => by obtain ⟨h1, h2, h3, h4⟩ := h.row hp; exact ⟨h1, h2, h3.keep hc (hF hp), h4⟩⟩
theorem Tf.In.mono {w : World} {B B' : Nat} {t : Tf} (h : t.In w B) (hB : B' ≤ B) : t.In w B' :=
  ⟨fun hp => by obtain ⟨h1, h2, h3, h4⟩ := h.row hp; exact ⟨h1, h2, h3, Nat.le_trans hB h4⟩⟩
theorem Tf.In.holds {w : World} {B : Nat} {t : Tf} (h : t.In w B) : Holds w t.g t.A (bcs t.f.b) := by
  intro hp
  rw [bcs_length] at hp
  obtain ⟨h1, _, h3, _⟩ := h.row hp
  rw [h1]
  exact h3.holds (by rw [bcs_length]; exact hp)
/-- No two have their bytes in one block. -/
def Tf.Apart (a b : Tf) : Prop := 0 < a.f.b.length → 0 < b.f.b.length → a.g ≠ b.g
/-- Frames in a row of a call's own, at B or behind. -/
structure Told (w : World) (B : Nat) (v : Value) (n : Nat) (ts : List Tf) : Prop where
  own : w.ownsRow B 35 6 v n (tcs ts)
  len : ts.length = n
  in_ : ∀ t ∈ ts, t.In w B
  apart : ts.Pairwise Tf.Apart
theorem Told.nil (w : World) (B : Nat) : Told w B (.slice none 0 0) 0 [] := ⟨World.ownsRow_nil w B _ 6, rfl, by simp, List.Pairwise.nil⟩
theorem ownB_ch {F : List Nat} {w w' : World} {v : Value} {B n size : Nat} {xs : List Value} {e : TypeId} (h : w.ownsRow B e size v n xs) (hc : Ch F w w') (hF : ∀ g, v.ownBlock = some g → g ∉ F) : w'.ownsRow B e size v n xs := by
  refine ⟨h.1, ?_⟩
  rcases h.2 with hn | ⟨g, cap, cur, rfl, hb, hh, r⟩
  · exact .inl hn
  · exact .inr ⟨g, cap, cur, rfl, hb, (hc.block g (Array.getElem?_eq_some_iff.1 hh).1 (hF g rfl)).trans hh, r⟩
theorem ownB_form {w : World} {B n size : Nat} {e : TypeId} {v : Value} {xs : List Value} (h : w.ownsRow B e size v n xs) : ∃ A c, v = .slice A n c := by
  rcases h.2 with ⟨rfl, rfl⟩ | ⟨g, cap, cur, rfl, _⟩
  · exact ⟨none, 0, rfl⟩
  · exact ⟨_, cap, rfl⟩
/-- Nothing of its own is in F. -/
theorem Told.keep {F : List Nat} {w w' : World} {B : Nat} {v : Value} {n : Nat} {ts : List Tf} (h : Told w B v n ts) (hc : Ch F w w') (hF : ∀ g, B ≤ g → g ∉ F) : Told w' B v n ts :=
  ⟨ownB_ch h.own hc (fun g hg => hF g (h.own.lt g hg).1), h.len, fun t ht => (h.in_ t ht).keep hc (fun hp => hF _ ((h.in_ t ht).row hp).2.2.2), h.apart⟩
theorem Told.step {w w' : World} {B : Nat} {v : Value} {n : Nat} {ts : List Tf} (h : Told w B v n ts) (hb : Below w.heap.size w w') : Told w' B v n ts := h.keep (Ch.of_below hb) (by simp)

end Go.Proofs.YtalolefggihloaaDoor
