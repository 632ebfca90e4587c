/-
  Two frames in memory, as lamplightlaw04.FrameTwo has them; a row of ints of one's own.
-/
import Derived.Test.YtimahjgmapdjdaaDoorFrameCutsWalk
import Derived.Test.YtimahjgmapdjdaaDoorFrameTwoMath
namespace Go.Proofs.YtimahjgmapdjdaaDoor
set_option linter.unusedVariables false
set_option linter.unusedSimpArgs false
open Go.RowKit

/-- The two frames' cells, in the first two new blocks; the bytes of each; the table. -/
structure T2 (w : World) (cs0 cs1 : Array Value) (g0 : Nat) (A0 : Option Addr) (L0 : List UInt8) (g1 : Nat) (A1 : Option Addr) (L1 : List UInt8) (x : World) : Prop where
  tab : Tab x
  below : Below w.heap.size w x
  box0 : x.heap[w.heap.size]? = some (.cells cs0 24 (0, 0))
  box1 : x.heap[w.heap.size + 1]? = some (.cells cs1 24 (0, 0))
  h0 : Holds x g0 A0 (bcs L0)
  h1 : Holds x g1 A1 (bcs L1)
  far0 : 0 < L0.length → g0 ≠ w.heap.size ∧ g0 ≠ w.heap.size + 1
  far1 : 0 < L1.length → g1 ≠ w.heap.size ∧ g1 ≠ w.heap.size + 1
  pos : 0 < w.heap.size
section
variable {w x y : World} {cs0 cs1 : Array Value} {g0 g1 : Nat} {A0 A1 : Option Addr} {L0 L1 : List UInt8}
theorem T2.step (h : T2 w cs0 cs1 g0 A0 L0 g1 A1 L1 x) (hb : Below x.heap.size x y) : T2 w cs0 cs1 g0 A0 L0 g1 A1 L1 y :=
  ⟨h.tab.keep (Ch.of_below hb) (by simp), h.below.trans (hb.mono h.below.size), (hb.block _ (Array.getElem?_eq_some_iff.1 h.box0).1).trans h.box0, (hb.block _ (Array.getElem?_eq_some_iff.1 h.box1).1).trans h.box1,
   h.h0.keep (Ch.of_below hb) (by simp), h.h1.keep (Ch.of_below hb) (by simp), h.far0, h.far1, h.pos⟩
theorem T2.alloc (h : T2 w cs0 cs1 g0 A0 L0 g1 A1 L1 x) (o : Obj) : T2 w cs0 cs1 g0 A0 L0 g1 A1 L1 (x.alloc o) := h.step (new_below _ _)
theorem T2.lt (h : T2 w cs0 cs1 g0 A0 L0 g1 A1 L1 x) : w.heap.size + 1 < x.heap.size := (Array.getElem?_eq_some_iff.1 h.box1).1
theorem T2.start (ht : Tab w) (h0 : Holds w g0 A0 (bcs L0)) (h1 : Holds w g1 A1 (bcs L1)) : T2 w cs0 cs1 g0 A0 L0 g1 A1 L1 ((w.alloc (.cells cs0 24)).alloc (.cells cs1 24)) :=
  ⟨ht.keep (((Ch.refl [] w).alloc _).alloc _) (by simp), new_below2 _ _ _, heap_alloc2_old w _ _, heap_alloc2_new w _ _, h0.keep (((Ch.refl [] w).alloc _).alloc _) (by simp), h1.keep (((Ch.refl [] w).alloc _).alloc _) (by simp),
   fun hp => by have := (h0 (by rw [bcs_length]; exact hp)).1; omega, fun hp => by have := (h1 (by rw [bcs_length]; exact hp)).1; omega, ht.1⟩
/-- The first frame's cells written over. -/
theorem T2.set0 {u0 u1 u2 u3 u4 u5 v0 v1 v2 v3 v4 v5 : Value} {g2 : Nat} {A2 : Option Addr} {L2 : List UInt8} (h : T2 w #[u0, u1, u2, u3, u4, u5] cs1 g0 A0 L0 g1 A1 L1 x) (h2 : Holds x g2 A2 (bcs L2)) (hg : 0 < L2.length → w.heap.size + 1 < g2) :
    T2 w #[v0, v1, v2, v3, v4, v5] cs1 g2 A2 L2 g1 A1 L1 (put6 x w.heap.size v0 v1 v2 v3 v4 v5) := by
  have hch := ch6 x w.heap.size v0 v1 v2 v3 v4 v5
  have h0 := h.pos
  refine ⟨h.tab.keep hch (by simp; omega), below6 h.below, set6 h.box0, (hch.block _ h.lt (by simp)).trans h.box1, h2.keep hch (fun hp => ?_), h.h1.keep hch (fun hp => ?_), fun hp => by have := hg hp; omega, h.far1, h0⟩
  · have := hg (by simpa [bcs] using hp); simp; omega
  · have := h.far1 (by simpa [bcs] using hp); simp; omega
/-- The second's. -/
theorem T2.set1 {u0 u1 u2 u3 u4 u5 v0 v1 v2 v3 v4 v5 : Value} {g2 : Nat} {A2 : Option Addr} {L2 : List UInt8} (h : T2 w cs0 #[u0, u1, u2, u3, u4, u5] g0 A0 L0 g1 A1 L1 x) (h2 : Holds x g2 A2 (bcs L2)) (hg : 0 < L2.length → w.heap.size + 1 < g2) :
    T2 w cs0 #[v0, v1, v2, v3, v4, v5] g0 A0 L0 g2 A2 L2 (put6 x (w.heap.size + 1) v0 v1 v2 v3 v4 v5) := by
  have hch := ch6 x (w.heap.size + 1) v0 v1 v2 v3 v4 v5
  have h0 := h.pos
  have hl := h.lt
  refine ⟨h.tab.keep hch (by simp), h.below.trans (hch.belowAt (by simp) h.below.size), (hch.block _ (by omega) (by simp)).trans h.box0, set6 h.box1, h.h0.keep hch (fun hp => ?_), h2.keep hch (fun hp => ?_), h.far0, fun hp => by have := hg hp; omega, h0⟩
  · have := h.far0 (by simpa [bcs] using hp); simp; omega
  · have := hg (by simpa [bcs] using hp); simp; omega
end

theorem info_int : (Tryd.prog.info? 3).map (fun i => (i.zero, i.size, i.bytes)) = some (some (.int .i64 0), 1, 8) := by kernel_rfl
/-- Ints as the cells of a row. -/
def ics (l : List Nat) : List Value := l.map fun (n : Nat) => Value.int .i64 (n : Int)
theorem ics_length (l : List Nat) : (ics l).length = l.length := by simp [ics]
theorem ics_one (l : List Nat) : ∀ v ∈ ics l, v.oneCell' = true := by
  intro v hv
  simp only [ics, List.mem_map] at hv
  obtain ⟨b, _, rfl⟩ := hv
  rfl
/-- A slice of ints in a row of one's own, at B or behind; all that was there at B is as it was. -/
structure OwnI (B : Nat) (x0 : World) (V : Option Addr) (n c : Nat) (l : List Nat) (x : World) : Prop where
  own : x.ownsRow 0 3 1 (.slice V n c) n (ics l)
  from_ : ∀ h, (Value.slice V n c).ownBlock = some h → B ≤ h
  len : l.length = n
  below : Below B x0 x
  le : B ≤ x.heap.size
theorem OwnI.empty (x : World) : OwnI x.heap.size x Option.none 0 0 [] x := ⟨⟨by simp [ics], .inl ⟨rfl, rfl⟩⟩, by intro h hh; simp [Value.ownBlock] at hh, rfl, Below.refl _ _, Nat.le_refl _⟩
theorem OwnI.grown {B : Nat} {x0 x y : World} {V V' : Option Addr} {n c c' j : Nat} {l : List Nat} (h : OwnI B x0 V n c l x) (tmp : Obj) (hown : y.ownsRow 0 3 1 (.slice V' (n + 1) c') (n + 1) (ics l ++ ics [j])) (hg : (x.alloc tmp).grownBy y (Value.slice V n c).ownBlock)
    (hat : (Value.slice V' (n + 1) c').ownBlock = (Value.slice V n c).ownBlock ∨ (Value.slice V' (n + 1) c').ownBlock = some (x.alloc tmp).heap.size) : OwnI B x0 V' (n + 1) c' (l ++ [j]) y := by
  have hb1 := h.below.alloc h.le tmp
  have hsz : B ≤ (x.alloc tmp).heap.size := Nat.le_trans h.le (by simp)
  refine ⟨by rw [show ics (l ++ [j]) = ics l ++ ics [j] by simp [ics]]; exact hown, fun g hgg => ?_, by simp [h.len], hb1.grown hg hsz (fun g hg => h.from_ g hg), Nat.le_trans hsz hg.size⟩
  rcases hat with h1 | h1
  · exact h.from_ g (by rw [← h1]; exact hgg)
  · rw [h1] at hgg
    injection hgg with hgg
    omega
/-- Its cells. -/
theorem OwnI.cells {B : Nat} {x0 x : World} {V : Option Addr} {c p0 p1 p2 p3 : Nat} (h : OwnI B x0 V 4 c [p0, p1, p2, p3] x) : ∃ G, V = some ⟨G, 0, none⟩ ∧ G < x.heap.size ∧ 4 ≤ c ∧ x.cell? ⟨G, 0, none⟩ = some (.int .i64 (p0 : Int)) ∧ x.cell? ⟨G, 1, none⟩ = some (.int .i64 (p1 : Int)) ∧ x.cell? ⟨G, 2, none⟩ = some (.int .i64 (p2 : Int)) ∧ x.cell? ⟨G, 3, none⟩ = some (.int .i64 (p3 : Int)) := by
  have hc := own_cap h.own
  rcases h.own.2 with ⟨_, h0⟩ | ⟨g, cap, cur, hv, _⟩
  · cases h0
  · injection hv with hA _ _
    subst hA
    exact ⟨g, rfl, (h.own.lt g rfl).2, hc, (h.own.cellAt 0 (by omega)).trans rfl, (h.own.cellAt 1 (by omega)).trans rfl, (h.own.cellAt 2 (by omega)).trans rfl, (h.own.cellAt 3 (by omega)).trans rfl⟩

theorem drew_below2 (x : World) : Below x.heap.size x x.drew := (Ch.refl [] x).drew.below (by simp)
/-- Beside the two frames: all bytes, in block Ga; the places of the flags, in block Gf. -/
structure U2 (w : World) (cs0 cs1 : Array Value) (g0 : Nat) (A0 : Option Addr) (L0 : List UInt8) (g1 : Nat) (A1 : Option Addr) (L1 : List UInt8) (Ga Gf : Nat) (al : List UInt8) (p1 p2 p3 : Nat) (x : World) : Prop where
  t : T2 w cs0 cs1 g0 A0 L0 g1 A1 L1 x
  al : Holds x Ga (some ⟨Ga, 0, none⟩) (bcs al)
  fl : x.cell? ⟨Gf, 1, none⟩ = some (.int .i64 (p1 : Int)) ∧ x.cell? ⟨Gf, 2, none⟩ = some (.int .i64 (p2 : Int)) ∧ x.cell? ⟨Gf, 3, none⟩ = some (.int .i64 (p3 : Int))
  gf : Gf < x.heap.size
theorem U2.step {w x y : World} {cs0 cs1 : Array Value} {g0 g1 Ga Gf p1 p2 p3 : Nat} {A0 A1 : Option Addr} {L0 L1 al : List UInt8} (h : U2 w cs0 cs1 g0 A0 L0 g1 A1 L1 Ga Gf al p1 p2 p3 x) (hb : Below x.heap.size x y) : U2 w cs0 cs1 g0 A0 L0 g1 A1 L1 Ga Gf al p1 p2 p3 y :=
  ⟨h.t.step hb, h.al.keep (Ch.of_below hb) (by simp), ⟨(hb.cell (p := ⟨Gf, 1, none⟩) h.gf).trans h.fl.1, (hb.cell (p := ⟨Gf, 2, none⟩) h.gf).trans h.fl.2.1, (hb.cell (p := ⟨Gf, 3, none⟩) h.gf).trans h.fl.2.2⟩, Nat.lt_of_lt_of_le h.gf hb.size⟩
/-- A part of all bytes. -/
theorem U2.part {w x : World} {cs0 cs1 : Array Value} {g0 g1 Ga Gf p1 p2 p3 : Nat} {A0 A1 : Option Addr} {L0 L1 al : List UInt8} (h : U2 w cs0 cs1 g0 A0 L0 g1 A1 L1 Ga Gf al p1 p2 p3 x) (i n : Nat) (hi : i ≤ al.length) : Holds x Ga (some ⟨Ga, i, none⟩) (bcs ((al.drop i).take n)) := by
  have h1 := h.al.drop i (al.length + 1) (by rw [bcs_length]; exact hi) (by rw [bcs_length]; omega)
  rw [if_neg (by omega), Option.map_some, addr_add, Nat.zero_add, ← bcs_drop] at h1
  rw [bcs_take]
  exact h1.take n
/-- A frame that was told: its cells in block Z, its bytes. -/
structure Tf (Z g : Nat) (A : Option Addr) (L : List UInt8) (cs : Array Value) (x : World) : Prop where
  row : x.heap[Z]? = some (.cells cs 24 (0, 0))
  holds : Holds x g A (bcs L)
theorem Tf.step {x y : World} {Z g : Nat} {A : Option Addr} {L : List UInt8} {cs : Array Value} (h : Tf Z g A L cs x) (hb : Below x.heap.size x y) : Tf Z g A L cs y :=
  ⟨(hb.block _ (Array.getElem?_eq_some_iff.1 h.row).1).trans h.row, h.holds.keep (Ch.of_below hb) (by simp)⟩
theorem Tf.start {x : World} {g : Nat} {A : Option Addr} {L : List UInt8} {cs : Array Value} (h : Holds x g A (bcs L)) : Tf x.heap.size g A L cs (x.alloc (.cells cs 24)) :=
  ⟨heap_alloc_new x _, h.keep ((Ch.refl [] x).alloc _) (by simp)⟩
/-- Laid ahead of the call: its cells are written then. -/
theorem Tf.late {x y : World} {g : Nat} {A : Option Addr} {L : List UInt8} {v0 v1 v2 v3 v4 v5 : Value} (hb : Below (x.alloc (.cells noFrame 24)).heap.size (x.alloc (.cells noFrame 24)) y) (h : Holds y g A (bcs L)) (hg : 0 < L.length → (x.alloc (.cells noFrame 24)).heap.size ≤ g) :
    Tf x.heap.size g A L #[v0, v1, v2, v3, v4, v5] (put6 y x.heap.size v0 v1 v2 v3 v4 v5) ∧ Below x.heap.size x (put6 y x.heap.size v0 v1 v2 v3 v4 v5) ∧ y.heap[x.heap.size]? = some (.cells noFrame 24 (0, 0)) := by
  have hrow : y.heap[x.heap.size]? = some (.cells noFrame 24 (0, 0)) := (hb.block _ (by simp)).trans (heap_alloc_new x _)
  have hsz : (x.alloc (.cells noFrame 24)).heap.size = x.heap.size + 1 := by simp
  have hb1 : Below x.heap.size x y := (new_below x _).trans (hb.mono (by omega))
  refine ⟨⟨set6 hrow, h.keep (ch6 _ _ _ _ _ _ _ _) (fun hp => ?_)⟩, hb1.trans ((ch6 _ _ _ _ _ _ _ _).belowAt (by simp) hb1.size), hrow⟩
  have := hg (by simpa [bcs] using hp)
  simp
  omega

theorem row6_cells {x : World} {B : Nat} {t : TypeId} {u0 u1 u2 u3 u4 u5 : Value} (h : x.heap[B]? = some (.cells #[u0, u1, u2, u3, u4, u5] t (0, 0))) :
    x.cell? ⟨B, 0, none⟩ = some u0 ∧ x.cell? ⟨B, 1, none⟩ = some u1 ∧ x.cell? ⟨B, 2, none⟩ = some u2 ∧ x.cell? ⟨B, 3, none⟩ = some u3 ∧ x.cell? ⟨B, 4, none⟩ = some u4 ∧ x.cell? ⟨B, 5, none⟩ = some u5 :=
  let ⟨a, b, c, d, e, f, _⟩ := row6_facts h
  ⟨a, b, c, d, e, f⟩

end Go.Proofs.YtimahjgmapdjdaaDoor
