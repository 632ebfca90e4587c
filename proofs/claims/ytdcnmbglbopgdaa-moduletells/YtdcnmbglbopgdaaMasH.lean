/-
  lamplightref07.Of and lamplightlaw07.frame: what they answer.
-/
import Derived.Test.YtdcnmbglbopgdaaMasY
namespace Go.Proofs.Ytdcnmbglbopgdaa
set_option linter.unusedVariables false
set_option linter.unusedSimpArgs false
open Go.RowKit

theorem new_below2 (w : World) (o p : Obj) : Below w.heap.size w ((w.alloc o).alloc p) := (((Ch.refl [] w).alloc o).alloc p).below (by simp)
theorem ref_struct : ∃ fs, Try.prog.underlying 42 = some (.struct fs) := ⟨_, Try.underlying42⟩
theorem ref_size : (Try.prog.info? 42).map (·.size) = some 6 := by kernel_rfl
/-- A frame of the document's, by its cells. -/
abbrev rcs (f : Fr) : Array Value := #[.int .u8 (f.a : Int), .int .u8 (f.k : Int), .int .u8 (f.s : Int), .int .u8 (f.q : Int), .int .u8 (f.c : Int), .string ⟨f.b.toArray⟩]

theorem of_on {w : World} {f : Fr} {g c n : Nat} {A : Option Addr} (h : Holds w g A (bcs f.b)) (hn : f.b.length = n) :
    Calls Try.prog 14 #[.agg (fcs f (.slice A n c))] w fun e w' => e = .returned (.agg (rcs f)) ∧ Below w.heap.size w w' := by
  obtain ⟨a, k, s, q, cc, l⟩ := f
  have hcv := convert_holds (c := c) (h.keep (((Ch.refl [] w).alloc (.cells #[.int .u8 (a : Int), .int .u8 (k : Int), .int .u8 (s : Int), .int .u8 (q : Int), .int .u8 (cc : Int), .slice A n c] 36)).alloc (.cells #[.int .u8 0, .int .u8 0, .int .u8 0, .int .u8 0, .int .u8 0, .string ⟨#[]⟩] 42)) (by simp)) hn
  clear h hn
  go_enter Try.func14, Try.ntmps14
  go_wp2
  exact bodyPost_ret (results_row rfl _ _ (w.heap.size + 1) 42 _ _ rfl (heap_alloc2_new w _ _) ref_struct ref_size) rfl ⟨rfl, new_below2 _ _ _⟩
theorem of_own {w : World} {f : Fr} {B c : Nat} {A : Option Addr} (h : w.ownsRow B 5 1 (.slice A f.b.length c) f.b.length (bcs f.b)) :
    Calls Try.prog 14 #[.agg (fcs f (.slice A f.b.length c))] w fun e w' => e = .returned (.agg (rcs f)) ∧ Below w.heap.size w w' := by
  obtain ⟨g, h1, _⟩ := (Own1.mk (own_zero h) (B := 0) (fun _ _ => Nat.zero_le _) rfl).holds
  exact of_on h1 rfl

end Go.Proofs.Ytdcnmbglbopgdaa
