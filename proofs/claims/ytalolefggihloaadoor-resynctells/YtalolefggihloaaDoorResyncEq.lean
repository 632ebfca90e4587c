/-
  Two rows of counts that are the same are the same.
-/
import Derived.Test.YtalolefggihloaaDoorResyncBoundsWalk
namespace Go.Proofs.YtalolefggihloaaDoor
set_option linter.unusedVariables false
set_option linter.unusedSimpArgs false
open Go.RowKit

set_option maxHeartbeats 4000000 in
set_option maxRecDepth 100000 in
theorem eq_twelve (n0 n1 n2 n3 n4 n5 n6 n7 n8 n9 n10 n11 : Int) (x : World) :
    (Op.equalIn 10000 25 (.agg #[.int .i64 n0, .int .i64 n1, .int .i64 n2, .int .i64 n3, .int .i64 n4, .int .i64 n5, .int .i64 n6, .int .i64 n7, .int .i64 n8, .int .i64 n9, .int .i64 n10, .int .i64 n11]) (.agg #[.int .i64 n0, .int .i64 n1, .int .i64 n2, .int .i64 n3, .int .i64 n4, .int .i64 n5, .int .i64 n6, .int .i64 n7, .int .i64 n8, .int .i64 n9, .int .i64 n10, .int .i64 n11])).run Tryd.prog x = .ok true x := by
  have hs : (Tryd.prog.info? 3).map (·.size) = some 1 := by kernel_rfl
  cases hi : Tryd.prog.info? 3 with
  | none => rw [hi] at hs; cases hs
  | some i =>
    rw [hi] at hs
    have h1 : i.size = 1 := by simpa using hs
    have heq : ∀ (a : Int) (w : World), (Op.equalIn 9999 3 (.int .i64 a) (.int .i64 a)).run Tryd.prog w = .ok true w := by
      intro a w
      rw [run_equalIn_int w 9998 3 .i64 .i64 a a Tryd.underlying3]
      simp
    rw [show (10000 : Nat) = 9999 + 1 from rfl]
    unfold Op.equalIn
    simp [run_underlying Tryd.underlying25, sizeOf, typeInfo, hi, h1, Std.Legacy.Range.forIn_eq_forIn_range', List.range', part, isAgg, run_underlying Tryd.underlying3, heq]

/-- One frame of a row of frames: its six cells, and its bytes. -/
structure Fa (g k : Nat) (A : Option Addr) (c gb : Nat) (F : Fr) (x : World) : Prop where
  cells : x.cell? ⟨g, k * 6, none⟩ = some (.int .u8 (F.a : Int)) ∧ x.cell? ⟨g, k * 6 + 1, none⟩ = some (.int .u8 (F.k : Int)) ∧ x.cell? ⟨g, k * 6 + 2, none⟩ = some (.int .u8 (F.s : Int)) ∧ x.cell? ⟨g, k * 6 + 3, none⟩ = some (.int .u8 (F.q : Int)) ∧ x.cell? ⟨g, k * 6 + 4, none⟩ = some (.int .u8 (F.c : Int)) ∧ x.cell? ⟨g, k * 6 + 5, none⟩ = some (.slice A F.b.length c)
  hold : Holds x gb A (bcs F.b)
  lt : g < x.heap.size
theorem Fa.step {g k c gb : Nat} {A : Option Addr} {F : Fr} {x y : World} (h : Fa g k A c gb F x) (hb : Below x.heap.size x y) : Fa g k A c gb F y := by
  obtain ⟨h0, h1, h2, h3, h4, h5⟩ := h.cells
  exact ⟨⟨(hb.cell (p := ⟨g, k * 6, none⟩) h.lt).trans h0, (hb.cell (p := ⟨g, k * 6 + 1, none⟩) h.lt).trans h1, (hb.cell (p := ⟨g, k * 6 + 2, none⟩) h.lt).trans h2, (hb.cell (p := ⟨g, k * 6 + 3, none⟩) h.lt).trans h3, (hb.cell (p := ⟨g, k * 6 + 4, none⟩) h.lt).trans h4, (hb.cell (p := ⟨g, k * 6 + 5, none⟩) h.lt).trans h5⟩, h.hold.keep (Ch.of_below hb) (by simp), Nat.lt_of_lt_of_le h.lt hb.size⟩
theorem Told.fa {w : World} {B n c : Nat} {A : Option Addr} {ts : List Tf} (h : Told w B (.slice A n c) n ts) (k : Nat) (hk : k < ts.length) (F : Fr) (hf : (ts[k]).f = F) : ∃ (g : Nat) (A' : Option Addr) (c' gb : Nat), A = some ⟨g, 0, none⟩ ∧ Fa g k A' c' gb F w := by
  obtain ⟨g, h1, _, h3, h4⟩ := h.cell k hk
  have hi := h.in_ ts[k] (List.getElem_mem hk)
  have hh := hi.holds
  rw [hf] at h4 hh
  exact ⟨g, (ts[k]).A, (ts[k]).c, (ts[k]).g, h1, ⟨h4, hh, h3⟩⟩

end Go.Proofs.YtalolefggihloaaDoor
