/-
  lamplightref04.Of: what it answers; the six cells of a frame's row.
-/
import Derived.Test.YtalolefggihloaaDoorFrameD
namespace Go.Proofs.YtalolefggihloaaDoor
set_option linter.unusedVariables false
set_option linter.unusedSimpArgs false
open Go.RowKit

theorem row6_facts {x : World} {B : Nat} {t : TypeId} {u0 u1 u2 u3 u4 u5 : Value} (h : x.heap[B]? = some (.cells #[u0, u1, u2, u3, u4, u5] t (0, 0))) :
    x.cell? ⟨B, 0, none⟩ = some u0 ∧ x.cell? ⟨B, 1, none⟩ = some u1 ∧ x.cell? ⟨B, 2, none⟩ = some u2 ∧ x.cell? ⟨B, 3, none⟩ = some u3 ∧ x.cell? ⟨B, 4, none⟩ = some u4 ∧ x.cell? ⟨B, 5, none⟩ = some u5 ∧
      x.frozen? ⟨B, 0, none⟩ = false ∧ x.frozen? ⟨B, 1, none⟩ = false ∧ x.frozen? ⟨B, 2, none⟩ = false ∧ x.frozen? ⟨B, 3, none⟩ = false ∧ x.frozen? ⟨B, 4, none⟩ = false ∧ x.frozen? ⟨B, 5, none⟩ = false :=
  ⟨(cell_of_row _ _ 0 _ _ _ h).trans rfl, (cell_of_row _ _ 1 _ _ _ h).trans rfl, (cell_of_row _ _ 2 _ _ _ h).trans rfl, (cell_of_row _ _ 3 _ _ _ h).trans rfl, (cell_of_row _ _ 4 _ _ _ h).trans rfl, (cell_of_row _ _ 5 _ _ _ h).trans rfl, frozen_of_row _ _ _ _ _ h, frozen_of_row _ _ _ _ _ h, frozen_of_row _ _ _ _ _ h, frozen_of_row _ _ _ _ _ h, frozen_of_row _ _ _ _ _ h, frozen_of_row _ _ _ _ _ h⟩

theorem ref_struct : ∃ fs, Tryd.prog.underlying 45 = some (.struct fs) := ⟨_, Tryd.underlying45⟩
theorem ref_size : (Tryd.prog.info? 45).map (·.size) = some 6 := by kernel_rfl

theorem of_on {g a k s q c n cap : Nat} {A : Option Addr} {l : List UInt8} {w : World} (h : Holds w g A (bcs l)) (hn : l.length = n) :
    Calls Tryd.prog 15 #[.agg #[.int .u8 a, .int .u8 k, .int .u8 s, .int .u8 q, .int .u8 c, .slice A n cap]] w
      fun e w' => e = .returned (.agg #[.int .u8 a, .int .u8 k, .int .u8 s, .int .u8 q, .int .u8 c, .string ⟨l.toArray⟩]) ∧ Below w.heap.size w w' := by
  have hcv := convert_holds (c := cap) (h.keep (((Ch.refl [] w).alloc (.cells #[.int .u8 a, .int .u8 k, .int .u8 s, .int .u8 q, .int .u8 c, .slice A n cap] 35)).alloc (.cells #[.int .u8 0, .int .u8 0, .int .u8 0, .int .u8 0, .int .u8 0, .string ⟨#[]⟩] 45)) (by simp)) hn
  clear h hn
  go_enter Tryd.func15, Tryd.ntmps15
  go_wp2
  exact bodyPost_ret (results_row rfl _ _ (w.heap.size + 1) 45 _ _ rfl (heap_alloc2_new w _ _) ref_struct ref_size) rfl ⟨rfl, new_below2 _ _ _⟩

end Go.Proofs.YtalolefggihloaaDoor
