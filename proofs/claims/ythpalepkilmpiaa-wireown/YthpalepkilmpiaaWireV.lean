/-
  What lamplightlaw06.WireOwn keeps in memory: rows of bytes of one's own that are written over; rows that came out, one behind the other.
-/
import Derived.Test.YthpalepkilmpiaaWireZ
namespace Go.Proofs.Ythpalepkilmpiaa
set_option linter.unusedVariables false
set_option linter.unusedSimpArgs false
open Go.RowKit

/-- A row of bytes of one's own, whatever bytes. -/
def OwnU (z : World) (B : Nat) (v : Value) (m : Nat) : Prop := ∃ l : List UInt8, l.length = m ∧ z.ownsRow B 5 1 v m (bcs l)
theorem OwnU.step {z y : World} {B m : Nat} {v : Value} (h : OwnU z B v m) (hb : Below z.heap.size z y) : OwnU y B v m := by
  obtain ⟨l, h1, h2⟩ := h
  exact ⟨l, h1, own_ft (B := 0) (T := []) h2 (Ft.of_below hb) (by simp)⟩
theorem OwnU.ft {z y : World} {B B' m : Nat} {T : List TypeId} {v : Value} (h : OwnU z B v m) (hf : Ft B' T z y) (hT : 5 ∉ T) : OwnU y B v m := by
  obtain ⟨l, h1, h2⟩ := h
  exact ⟨l, h1, own_ft h2 hf hT⟩
/-- A byte is written, in it or elsewhere. -/
theorem OwnU.set {z : World} {B m : Nat} {v : Value} (h : OwnU z B v m) (g k : Nat) (b : UInt8) : OwnU (z.setCell ⟨g, k, none⟩ (.int .u8 (b.toNat : Int))) B v m := by
  obtain ⟨l, h1, h2⟩ := h
  have hc : Ch [g] z (z.setCell ⟨g, k, none⟩ (.int .u8 (b.toNat : Int))) := (Ch.refl _ z).setCell (by simp) _
  by_cases hg : v.ownBlock = some g
  · rcases h2.2 with ⟨rfl, _⟩ | ⟨g', cap, cur, rfl, _⟩
    · simp [Value.ownBlock] at hg
    · simp [Value.ownBlock] at hg
      subst hg
      have := (h2.stored k (.int .u8 (b.toNat : Int))).1
      rw [show (bcs l).set k (.int .u8 (b.toNat : Int)) = bcs (l.set k b) by simp [bcs, List.map_set]] at this
      exact ⟨l.set k b, by rw [List.length_set]; exact h1, this⟩
  · exact ⟨l, h1, ownB_ch h2 hc (fun j hj hm => by simp at hm; subst hm; exact hg hj)⟩
/-- Where it lies. -/
theorem OwnU.at {z : World} {B m c : Nat} {A : Option Addr} (h : OwnU z B (.slice A m c) m) (k : Nat) (hk : k < m) : ∃ g b, A = some ⟨g, 0, none⟩ ∧ B ≤ g ∧ BlockIn z g [5] ∧ z.cell? ⟨g, k, none⟩ = some (.int .u8 ((b : UInt8).toNat : Int)) ∧ z.frozen? ⟨g, k, none⟩ = false := by
  obtain ⟨l, h1, h2⟩ := h
  rcases h2.2 with ⟨_, h0⟩ | ⟨g, cap, cur, hv, hb, hh, _⟩
  · omega
  · injection hv with hA _ hc
    subst hA
    exact ⟨g, l[k]'(by omega), rfl, hb, ⟨_, _, _, hh, by simp⟩, by rw [h2.cellAt k (by omega), bcs_get l k (by omega)], h2.frozenAt k⟩

/-- Rows that were told, to be written over. -/
structure Rq (z : World) (B : Nat) (V : Option Addr) (n c : Nat) (vs : List Value) : Prop where
  outer : z.ownsRow B 28 1 (.slice V n c) n vs
  rows : ∀ (j : Nat) (v : Value), vs[j]? = some v → ∃ A m c', v = .slice A m c' ∧ OwnU z B v m
theorem Rp.rq {w : World} {B n c : Nat} {V : Option Addr} {vs : List Value} {ps : List (List UInt8)} (h : Rp w B V n c vs ps) : Rq w B V n c vs := by
  refine ⟨h.outer, fun j v hv => ?_⟩
  have hj : j < vs.length := by
    rcases Nat.lt_or_ge j vs.length with h | h
    · exact h
    · rw [List.getElem?_eq_none h] at hv; cases hv
  have hjp : j < ps.length := by rw [← h.rows.len]; exact hj
  have ho := h.rows.own j v ps[j] hv (List.getElem?_eq_getElem hjp)
  obtain ⟨A, c', hf⟩ := ownB_form ho
  exact ⟨A, _, c', hf, ps[j], rfl, ho⟩
theorem Rq.set {z : World} {B n c : Nat} {V : Option Addr} {vs : List Value} (h : Rq z B V n c vs) (g k : Nat) (b : UInt8) (hg : BlockIn z g [5]) : Rq (z.setCell ⟨g, k, none⟩ (.int .u8 (b.toNat : Int))) B V n c vs := by
  refine ⟨own_ft (B := 0) (T := [5]) h.outer (Ft.of_ch ((Ch.refl [g] z).setCell (by simp) _) (fun x hx _ => by simp at hx; subst hx; exact ⟨Nat.zero_le _, hg⟩)) (by decide), fun j v hv => ?_⟩
  obtain ⟨A, m, c', h1, h2⟩ := h.rows j v hv
  exact ⟨A, m, c', h1, h2.set g k b⟩
theorem Rq.at {z : World} {B n c : Nat} {V : Option Addr} {vs : List Value} (h : Rq z B V n c vs) (j : Nat) (hj : j < n) : ∃ g A m c', V = some ⟨g, 0, none⟩ ∧ vs[j]? = some (.slice A m c') ∧ z.cell? ⟨g, j, none⟩ = some (.slice A m c') ∧ OwnU z B (.slice A m c') m := by
  have hjv : j < vs.length := by have := h.outer.1; omega
  obtain ⟨A, m, c', h1, h2⟩ := h.rows j vs[j] (List.getElem?_eq_getElem hjv)
  rcases h.outer.2 with ⟨_, h0⟩ | ⟨g, cap, cur, hV, hb, hh, _⟩
  · omega
  · injection hV with hV _ hc
    subst hV
    refine ⟨g, A, m, c', rfl, by rw [List.getElem?_eq_getElem hjv, h1], ?_, by rw [← h1]; exact h2⟩
    rw [h.outer.cellAt j (by omega), List.getElem?_eq_getElem hjv, h1]

/-- Two lists of rows, one behind the other. -/
theorem Rs.append {w : World} {B : Nat} {vs us : List Value} {ps qs : List (List UInt8)} (h : Rs w B vs ps) (k : Rs w B us qs) : Rs w B (vs ++ us) (ps ++ qs) := by
  refine ⟨by simp [h.len, k.len], fun j u m hu hm => ?_⟩
  rcases Nat.lt_or_ge j vs.length with hj | hj
  · rw [List.getElem?_append_left hj] at hu
    rw [List.getElem?_append_left (by rw [← h.len]; exact hj)] at hm
    exact h.own j u m hu hm
  · rw [List.getElem?_append_right hj] at hu
    rw [List.getElem?_append_right (by rw [← h.len]; exact hj)] at hm
    rw [h.len] at hu
    exact k.own _ u m hu hm
theorem Rs.one {w : World} {B : Nat} {vs : List Value} {ps : List (List UInt8)} (h : Rs w B vs ps) : ∀ u ∈ vs, u.oneCell' = true := by
  intro u hu
  obtain ⟨j, hj⟩ := List.mem_iff_getElem?.1 hu
  have hjl : j < vs.length := by
    rcases Nat.lt_or_ge j vs.length with h | h
    · exact h
    · rw [List.getElem?_eq_none h] at hj; cases hj
  have ho := h.own j u (ps[j]'(by rw [← h.len]; exact hjl)) hj (List.getElem?_eq_getElem _)
  obtain ⟨A, c', rfl⟩ := ownB_form ho
  rfl
/-- What came out, one Take more. -/
theorem Rp.more {w x y : World} {B n c n' c' c2 : Nat} {V V' A : Option Addr} {vs vs' : List Value} {ps ps' : List (List UInt8)} (h : Rp x B V n c vs ps) (k : Rp x B V' n' c' vs' ps') (hB : B ≤ x.heap.size)
    (ho : y.ownsRow B 28 1 (.slice A (n + n') c2) (n + n') (vs ++ vs')) (hg : x.grownBy y (Value.slice V n c).ownBlock) : Rp y B A (n + n') c2 (vs ++ vs') (ps ++ ps') ∧ Ft B [28] x y := by
  have hc : Ch (Value.slice V n c).ownBlock.toList x y := ⟨hg.os, hg.tape, hg.output, hg.size, fun j hj hm => hg.block j hj (fun he => hm (by rw [← he]; simp))⟩
  have hft : Ft B [28] x y := Ft.of_ch hc (fun g h1 _ => by
    have h2 : (Value.slice V n c).ownBlock = some g := by simpa using h1
    refine ⟨(h.outer.lt g h2).1, ?_⟩
    rcases h.outer.2 with ⟨hv, _⟩ | ⟨g', cap, cur, hv, _, hh, _⟩
    · rw [hv] at h2; simp [Value.ownBlock] at h2
    · rw [hv] at h2
      simp [Value.ownBlock] at h2
      subst h2
      exact ⟨_, _, _, hh, by simp⟩)
  exact ⟨⟨ho, by rw [List.length_append, h.len, k.len], (h.rows.ft hft (by decide)).append (k.rows.ft hft (by decide))⟩, hft⟩

/-- All of it. -/
structure Wo (w : World) (D F : Nat) (room : Int) (qs : List Rw) (Vw : Option Addr) (m cw : Nat) (ps : List (List UInt8)) (Ab : Option Addr) (n cb : Nat) (fk fn : Int) (y : UInt8) (Af : Option Addr) (nf cf : Nat) (z : World) : Prop where
  lw : Lw w D room qs z
  want : z.ownsRow w.heap.size 9 1 (.slice Vw m cw) m (scs ps)
  b : OwnU z w.heap.size (.slice Ab n cb) n
  bD : ∀ g, (Value.slice Ab n cb).ownBlock = some g → g < D
  fb : OwnU z w.heap.size (.slice Af nf cf) nf
  fD : ∀ g, (Value.slice Af nf cf).ownBlock = some g → g < D
  box : z.heap[F]? = some (.cells #[.int .i64 fk, .int .i64 fn, .int .u8 (y.toNat : Int), .slice Af nf cf] 30 (0, 0))
theorem Wo.step {w z z' : World} {D F m cw n cb nf cf : Nat} {room fk fn : Int} {qs : List Rw} {Vw Ab Af : Option Addr} {ps : List (List UInt8)} {y : UInt8} (h : Wo w D F room qs Vw m cw ps Ab n cb fk fn y Af nf cf z) (hb : Below z.heap.size z z') : Wo w D F room qs Vw m cw ps Ab n cb fk fn y Af nf cf z' :=
  ⟨h.lw.step hb, own_ft (B := 0) (T := []) h.want (Ft.of_below hb) (by simp), h.b.step hb, h.bD, h.fb.step hb, h.fD, (hb.block _ (Array.getElem?_eq_some_iff.1 h.box).1).trans h.box⟩
theorem Wo.set {w z : World} {D F m cw n cb nf cf : Nat} {room fk fn : Int} {qs : List Rw} {Vw Ab Af : Option Addr} {ps : List (List UInt8)} {y : UInt8} (h : Wo w D F room qs Vw m cw ps Ab n cb fk fn y Af nf cf z) (g k : Nat) (b : UInt8) (h1 : w.heap.size ≤ g) (h2 : g < D) (hg : BlockIn z g [5]) :
    Wo w D F room qs Vw m cw ps Ab n cb fk fn y Af nf cf (z.setCell ⟨g, k, none⟩ (.int .u8 (b.toNat : Int))) := by
  have hc : Ch [g] z (z.setCell ⟨g, k, none⟩ (.int .u8 (b.toNat : Int))) := (Ch.refl _ z).setCell (by simp) _
  have hft : Ft w.heap.size [5] z (z.setCell ⟨g, k, none⟩ (.int .u8 (b.toNat : Int))) := Ft.of_ch hc (fun x hx _ => by simp at hx; subst hx; exact ⟨h1, hg⟩)
  obtain ⟨rs, h3, h4⟩ := h.lw.wire
  refine ⟨⟨⟨rs, h3.ch hc (fun x hx => by simp at hx; subst hx; exact h2), h4⟩, h.lw.below.trans (hft.below h.lw.below.size), h.lw.le⟩, own_ft h.want hft (by decide), h.b.set g k b, h.bD, h.fb.set g k b, h.fD, hft.keep h.box (by decide)⟩

end Go.Proofs.Ythpalepkilmpiaa
