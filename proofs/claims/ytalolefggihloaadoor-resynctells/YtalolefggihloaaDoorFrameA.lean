/-
  frame.Right, frame.toSend, the method agrees of what is sent, as they landed: what they answer.
-/
import Derived.Test.YtalolefggihloaaDoorFrameMath
import Derived.Test.YtalolefggihloaaDoorFWtr
import Derived.Laws.ResultCell
import Derived.Laws.Rows
namespace Go.Proofs.YtalolefggihloaaDoor
set_option linter.unusedVariables false
set_option linter.unusedSimpArgs false
open Go.RowKit

theorem new_below (w : World) (o : Obj) : Below w.heap.size w (w.alloc o) := ((Ch.refl [] w).alloc o).below (by simp)
theorem new_below2 (w : World) (o p : Obj) : Below w.heap.size w ((w.alloc o).alloc p) := (((Ch.refl [] w).alloc o).alloc p).below (by simp)
theorem frame_struct : ∃ fs, Tryd.prog.underlying 35 = some (.struct fs) := ⟨_, Tryd.underlying35⟩
theorem frame_size : (Tryd.prog.info? 35).map (·.size) = some 6 := by kernel_rfl
theorem sent_struct : ∃ fs, Tryd.prog.underlying 67 = some (.struct fs) := ⟨_, Tryd.underlying67⟩
theorem sent_size : (Tryd.prog.info? 67).map (·.size) = some 8 := by kernel_rfl

/-- A struct and a number, as a call hands them back: the struct lies in a row of its own. -/
theorem results_row_tmp {P : Program} {fn : Func} {p u : Tmp} {ty : TypeId} (h : fn.results = #[.cell p ty, .tmp u]) (tmps : Array Value) (w : World) (g : Nat) (t : TypeId) (cs : Array Value) (fr : Nat × Nat)
    (hp : tmps.getD p undef = .pointer (some ⟨g, 0, none⟩)) (hg : w.heap[g]? = some (.cells cs t fr))
    (hu : ∃ fs, P.underlying ty = some (.struct fs)) (hi : (P.info? ty).map (·.size) = some cs.size) :
    (results fn tmps).run P w = .ok (.tuple #[.agg cs, tmps.getD u undef]) w := by
  obtain ⟨fs, hu⟩ := hu
  rw [results_cell_tmp h, hp]
  simp [asAddr, Result.andThen, run_loadVar_row w g t ty cs fr _ hg hu rfl hi]
theorem results_row {P : Program} {fn : Func} {p : Tmp} {ty : TypeId} (h : fn.results = #[.cell p ty]) (tmps : Array Value) (w : World) (g : Nat) (t : TypeId) (cs : Array Value) (fr : Nat × Nat)
    (hp : tmps.getD p undef = .pointer (some ⟨g, 0, none⟩)) (hg : w.heap[g]? = some (.cells cs t fr))
    (hu : ∃ fs, P.underlying ty = some (.struct fs)) (hi : (P.info? ty).map (·.size) = some cs.size) :
    (results fn tmps).run P w = .ok (.agg cs) w := by
  obtain ⟨fs, hu⟩ := hu
  exact results_cell_row h tmps w g t cs fr _ hp hg hu rfl hi

set_option maxHeartbeats 800000 in
theorem right_walk {a k s q c n cap : Nat} {A : Option Addr} {w : World} (v : Int) (hv : v = if rightB a k q c n then 0 else 1) :
    Calls Tryd.prog 16 #[.agg #[.int .u8 a, .int .u8 k, .int .u8 s, .int .u8 q, .int .u8 c, .slice A n cap]] w fun e w' => e = .returned (.int .i64 v) ∧ Below w.heap.size w w' := by
  have HV := Lib.hid hv
  clear hv
  go_enter Tryd.func16, Tryd.ntmps16
  go_wp2
  all_goals go_ret
  all_goals refine ⟨?_, new_below _ _⟩
  all_goals first
    | (show Ending.returned (Value.int .i64 1) = _; rw [HV.out, if_neg (by rw [rightB_iff]; omega)])
    | (show Ending.returned (Value.int .i64 0) = _; rw [HV.out, if_pos (by rw [rightB_iff]; omega)])
theorem right_yes {a k s q c n cap : Nat} {A : Option Addr} {w : World} (h : rightB a k q c n = true) : Calls Tryd.prog 16 #[.agg #[.int .u8 a, .int .u8 k, .int .u8 s, .int .u8 q, .int .u8 c, .slice A n cap]] w fun e w' => e = .returned (.int .i64 0) ∧ Below w.heap.size w w' :=
  right_walk 0 (by rw [h]; rfl)
theorem right_no {a k s q c n cap : Nat} {A : Option Addr} {w : World} (h : rightB a k q c n = false) : Calls Tryd.prog 16 #[.agg #[.int .u8 a, .int .u8 k, .int .u8 s, .int .u8 q, .int .u8 c, .slice A n cap]] w fun e w' => e = .returned (.int .i64 1) ∧ Below w.heap.size w w' :=
  right_walk 1 (by rw [h]; rfl)

theorem tosend_on {a k s q c n cap : Nat} {A : Option Addr} {w : World} (hq : q ≤ 1) (hc : c ≤ 1) (hn : n ≤ 24) :
    Calls Tryd.prog 25 #[.agg #[.int .u8 a, .int .u8 k, .int .u8 s, .int .u8 q, .int .u8 c, .slice A n cap]] w fun e w' => e = .returned (.agg #[.int .u8 a, .int .u8 k, .int .u8 s, .int .u8 q, .int .u8 c, .slice A n cap, .int .u8 ((q : Int) + 2 * (c : Int)), .int .u8 (n : Int)]) ∧ Below w.heap.size w w' := by
  go_enter Tryd.func25, Tryd.ntmps25
  go_wp2
  exact bodyPost_ret (results_row rfl _ _ (w.heap.size + 1) 67 _ _ rfl (heap_alloc2_new w _ _) sent_struct sent_size) rfl ⟨rfl, new_below2 _ _ _⟩

theorem agrees_on {a k s q c n cap t m : Nat} {A : Option Addr} {w : World} (b : Bool) (hb : b = (rightB a k q c n && decide (m = n))) (hm : m < 256) :
    Calls Tryd.prog 30 #[.agg #[.int .u8 a, .int .u8 k, .int .u8 s, .int .u8 q, .int .u8 c, .slice A n cap, .int .u8 t, .int .u8 m]] w fun e w' => e = .returned (.bool b) ∧ Below w.heap.size w w' := by
  have HB := Lib.hid hb
  clear hb
  cases hr : rightB a k q c n
  · have HR := Lib.hid hr
    clear hr
    go_enter Tryd.func30, Tryd.ntmps30
    go_wp2_with fail
    refine (right_no HR.out).mono ?_
    rintro e x ⟨rfl, hb1⟩
    go_wp2
    go_ret
    exact ⟨by rw [HB.out, HR.out]; rfl, (new_below _ _).trans (hb1.mono (by simp))⟩
  · have HR := Lib.hid hr
    clear hr
    go_enter Tryd.func30, Tryd.ntmps30
    go_wp2_with fail
    refine (right_yes HR.out).mono ?_
    rintro e x ⟨rfl, hb1⟩
    have c2 := (hb1.cell (p := ⟨w.heap.size, 5, none⟩) (by simp)).trans (cell_alloc_new w _ _ _ _ rfl)
    have c3 := (hb1.cell (p := ⟨w.heap.size, 7, none⟩) (by simp)).trans (cell_alloc_new w _ _ _ _ rfl)
    simp at c2 c3
    go_wp2
    go_ret
    refine ⟨?_, (new_below _ _).trans (hb1.mono (by simp))⟩
    rw [HB.out, HR.out, Bool.true_and]
    show Ending.returned (.bool ((m : Int) == (n : Int))) = _
    congr 2
    rw [Bool.eq_iff_iff, beq_iff_eq, decide_eq_true_iff]
    omega

end Go.Proofs.YtalolefggihloaaDoor
