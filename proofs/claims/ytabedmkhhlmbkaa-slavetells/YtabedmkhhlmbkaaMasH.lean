/-
  lamplightref07.Of and lamplightlaw07.frame: what they answer.
-/
import Derived.Test.YtabedmkhhlmbkaaMasY
namespace Go.Proofs.Ytabedmkhhlmbkaa
set_option linter.unusedVariables false
set_option linter.unusedSimpArgs false
open Go.RowKit

theorem new_below2 (w : World) (o p : Obj) : Below w.heap.size w ((w.alloc o).alloc p) := (((Ch.refl [] w).alloc o).alloc p).below (by simp)
theorem ref_struct : ∃ fs, Try.prog.underlying 44 = some (.struct fs) := ⟨_, Try.underlying44⟩
theorem ref_size : (Try.prog.info? 44).map (·.size) = some 6 := by kernel_rfl
/-- A frame of the document's, by its cells. -/
abbrev rcs (f : Fr) : Array Value := #[.int .u8 (f.a : Int), .int .u8 (f.k : Int), .int .u8 (f.s : Int), .int .u8 (f.q : Int), .int .u8 (f.c : Int), .string ⟨f.b.toArray⟩]

theorem of_on {w : World} {f : Fr} {g c n : Nat} {A : Option Addr} (h : Holds w g A (bcs f.b)) (hn : f.b.length = n) :
    Calls Try.prog 18 #[.agg (fcs f (.slice A n c))] w fun e w' => e = .returned (.agg (rcs f)) ∧ Below w.heap.size w w' := by
  obtain ⟨a, k, s, q, cc, l⟩ := f
  have hcv := convert_holds (c := c) (h.keep (((Ch.refl [] w).alloc (.cells #[.int .u8 (a : Int), .int .u8 (k : Int), .int .u8 (s : Int), .int .u8 (q : Int), .int .u8 (cc : Int), .slice A n c] 30)).alloc (.cells #[.int .u8 0, .int .u8 0, .int .u8 0, .int .u8 0, .int .u8 0, .string ⟨#[]⟩] 44)) (by simp)) hn
  clear h hn
  go_enter Try.func18, Try.ntmps18
  go_wp2
  exact bodyPost_ret (results_row rfl _ _ (w.heap.size + 1) 44 _ _ rfl (heap_alloc2_new w _ _) ref_struct ref_size) rfl ⟨rfl, new_below2 _ _ _⟩
theorem of_own {w : World} {f : Fr} {B c : Nat} {A : Option Addr} (h : w.ownsRow B 5 1 (.slice A f.b.length c) f.b.length (bcs f.b)) :
    Calls Try.prog 18 #[.agg (fcs f (.slice A f.b.length c))] w fun e w' => e = .returned (.agg (rcs f)) ∧ Below w.heap.size w w' := by
  obtain ⟨g, h1, _⟩ := (Own1.mk (own_zero h) (B := 0) (fun _ _ => Nat.zero_le _) rfl).holds
  exact of_on h1 rfl

/-- The frame of a step, as a master hears it. -/
def frM (s : St7) (a : Nat) (m : Ma) : Fr := if s.own then ⟨a, s.f.k, m.ses, s.f.q, s.f.c, s.f.b.take 40⟩ else { s.f with b := s.f.b.take 40 }
theorem nextM_ses (m : Ma) : (nextM m).s = m.ses := by
  unfold nextM
  split
  · rfl
  · split <;> rfl
theorem frM_b (s : St7) (a : Nat) (m : Ma) : (frM s a m).b = s.f.b.take 40 := by unfold frM; split <;> rfl
theorem frM_len (s : St7) (a : Nat) (m : Ma) : (frM s a m).b.length ≤ 40 := by rw [frM_b, List.length_take]; omega

abbrev stepc (s : St7) (V : Value) : Array Value := #[.int .i64 s.k, .int .u8 (s.f.a : Int), .int .u8 (s.f.k : Int), .int .u8 (s.f.s : Int), .int .u8 (s.f.q : Int), .int .u8 (s.f.c : Int), V, .bool s.own]
theorem field_two (a k s q c : Int) (V : Value) (w : World) : (Instr.field 30 (.agg #[.int .u8 a, .int .u8 k, .int .u8 s, .int .u8 q, .int .u8 c, V]) 2).run Try.prog w = .ok (.int .u8 s) w := field_ses a k s q c V w

end Go.Proofs.Ytabedmkhhlmbkaa
