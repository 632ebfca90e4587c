/-
  The closure that goes round the program's poll's row: how it is made, what it answers.
-/
import Derived.Test.YtkghbdikbbeoaaaPolKb
namespace Go.Proofs.Ytkghbdikbbeoaaa
set_option linter.unusedVariables false
set_option linter.unusedSimpArgs false
open Go.RowKit

/-- The two variables that the closure holds: where it stands, and the poll. -/
structure Rv (w : World) (G D : Nat) (v : Int) : Prop where
  p : w.heap[G]? = some (.cells #[.pointer (some ⟨D, 0, none⟩)] 25 (0, 0))
  a : w.heap[G + 1]? = some (.cells #[.int .i64 v] 3 (0, 0))
theorem Rv.step {w w' : World} {G D : Nat} {v : Int} (h : Rv w G D v) (hb : Below w.heap.size w w') : Rv w' G D v :=
  ⟨(hb.block _ (Array.getElem?_eq_some_iff.1 h.p).1).trans h.p, (hb.block _ (Array.getElem?_eq_some_iff.1 h.a).1).trans h.a⟩
set_option maxRecDepth 20000 in
set_option maxHeartbeats 1600000 in
theorem kround_on {w : World} {L U D g c : Nat} {q : Po} {A : Option Addr} (h : Ko w L U D q A g c) : Calls Try.prog 25 #[.pointer (some ⟨D, 0, none⟩)] w fun e w' =>
    e = .returned (.func (.func 28) #[] #[.pointer (some ⟨w.heap.size + 1, 0, none⟩), .pointer (some ⟨w.heap.size, 0, none⟩)]) ∧ Rv w' w.heap.size D ((q.nx : Int) - 1) ∧ Below w.heap.size w w' := by
  have hmf : ∀ (fn : Fn) (first cap : Array Value) (w : World), (Instr.makeFunc fn first cap).run Try.prog w = .ok (.func fn first cap) w := fun _ _ _ _ => rfl
  have c1 := h.c1
  have hlt : D < w.heap.size := Nat.lt_of_lt_of_le h.hi h.us
  clear h
  generalize (q.nx : Int) - 1 = v at *
  have c2 : ((w.alloc (.cells #[.pointer (some ⟨D, 0, none⟩)] 25 (0, 0)))).cell? ⟨D, 1, none⟩ = some (.int .i64 v) := by rw [World.cell?_alloc_lt _ _ _ hlt]; exact c1
  go_enter Try.func25, Try.ntmps25
  go_wp2
  go_ret
  refine ⟨rfl, ⟨?_, ?_⟩, ((Ch.refl [] w).alloc _ |>.alloc _).below (by simp)⟩
  · have h1 := heap_alloc_new w (.cells #[.pointer (some ⟨D, 0, none⟩)] 25 (0, 0))
    rw [(new_below (w.alloc (.cells #[.pointer (some ⟨D, 0, none⟩)] 25 (0, 0))) _).block _ (by simp)]
    exact h1
  · have h1 := heap_alloc_new (w.alloc (.cells #[.pointer (some ⟨D, 0, none⟩)] 25 (0, 0))) (.cells #[.int .i64 v] 3 (0, 0))
    simpa using h1

set_option maxRecDepth 20000 in
set_option maxHeartbeats 1600000 in
theorem kstep_on {w : World} {L U D g c G m n : Nat} {q : Po} {A : Option Addr} (h : Ko w L U D q A g c) (hr : Rv w G D ((m : Int) - 1)) (hn : q.l.length = n) (h0 : 0 < n) (hm : m ≤ 40) :
    Calls Try.prog 28 #[.pointer (some ⟨G + 1, 0, none⟩), .pointer (some ⟨G, 0, none⟩)] w fun e w' =>
    e = .returned (.int .i64 ((m % n : Nat) : Int)) ∧ Rv w' G D (((m % n + 1 : Nat) : Int) - 1) ∧ Ch [G + 1] w w' := by
  have HR := Lib.hid hr
  have c0 := h.c0
  rw [hn] at c0
  have hD : D < w.heap.size := Nat.lt_of_lt_of_le h.hi h.us
  have a0 : w.cell? ⟨G + 1, 0, none⟩ = some (.int .i64 ((m : Int) - 1)) := by simp [World.cell?, hr.a]
  have p0 : w.cell? ⟨G, 0, none⟩ = some (.pointer (some ⟨D, 0, none⟩)) := by simp [World.cell?, hr.p]
  replace a0 : w.drew.cell? ⟨G + 1, 0, none⟩ = some (.int .i64 ((m : Int) - 1)) := a0
  replace p0 : w.drew.cell? ⟨G, 0, none⟩ = some (.pointer (some ⟨D, 0, none⟩)) := p0
  have c1 : w.drew.cell? ⟨D, 0, none⟩ = some (.slice A n c) := c0
  obtain ⟨r, hrr⟩ : ∃ r, m % n = r := ⟨_, rfl⟩
  have hrem : (m : Int).tmod (n : Int) = (r : Int) := by rw [← hrr]; rfl
  have hq : (IntKind.i64.wrap ((m : Int) - 1 + 1)).tmod (n : Int) = (r : Int) := by
    rw [show IntKind.i64.wrap ((m : Int) - 1 + 1) = (m : Int) by rw [IntKind.wrap_i64]; omega]; exact hrem
  rw [hrr]
  have hnz : ¬ n = 0 := by omega
  have HCH : Hid (Ch [G + 1] w w.drew) := Lib.hid ((Ch.refl _ w).drew)
  have HRD : Hid (Rv w.drew G D ((m : Int) - 1)) := Lib.hid (hr.step (drew_below w))
  clear h hr hrr c0 hD HR
  obtain ⟨v, hv⟩ : ∃ v, (m : Int) - 1 = v := ⟨_, rfl⟩
  rw [hv] at a0 hq HRD
  clear hv hrem
  go_enter Try.func28, Try.ntmps28
  go_upto_region 1 with fail
  refine region_last 8 (.take 0 (.take 1 (.take 2 (.take 3 (.take 4 (.take 5 (.take 6 (.take 7 (.one 8 .done)))))))))
    (fun z => z.cell? ⟨G + 1, 0, none⟩ = some (.int .i64 v) ∧ z.cell? ⟨G, 0, none⟩ = some (.pointer (some ⟨D, 0, none⟩)) ∧ z.cell? ⟨D, 0, none⟩ = some (.slice A n c)) (by kernel_rfl) (by kernel_rfl) (by kernel_rfl) (by kernel_rfl) ⟨a0, p0, c1⟩ ?_
  generalize w.drew = x at *
  iterate 8 (refine TreeL.take (v := ?_) (by kernel_rfl) rfl (by rfl) ?_ ?_; rotate_left 1; (focus (intro x hx; go_simp <;> (first | with_reducible rfl | rw [if_pos (by omega)]))); simp only [Act.put, List.setIfInBounds_toArray, List.set_cons_zero, List.set_cons_succ])
  have f0 : x.frozen? ⟨G + 1, 0, none⟩ = false := by simp [World.frozen?, HRD.out.a]
  clear p0 c1
  refine TreeL.last rfl (fun K hK => ?_)
  go_simp
  obtain ⟨s1, s2⟩ := put_row (i := 0) (v := .int .i64 (r : Int)) HRD.out.a
  have HS1 : Hid ((x.setCell ⟨G + 1, 0, none⟩ (.int .i64 (r : Int))).heap[G + 1]? = some (.cells #[.int .i64 (r : Int)] 3 (0, 0))) := Lib.hid s1
  have HX : Hid (Rv (x.setCell ⟨G + 1, 0, none⟩ (.int .i64 (r : Int))) G D (r : Int)) := Lib.hid ⟨(s2.block G (Array.getElem?_eq_some_iff.1 HRD.out.p).1 (by simp)).trans HRD.out.p, s1⟩
  have HC := Lib.hid (HCH.out.trans s2)
  have hc : (x.setCell ⟨G + 1, 0, none⟩ (.int .i64 (r : Int))).cell? ⟨G + 1, 0, none⟩ = some (.int .i64 (r : Int)) := by simp [World.cell?, HS1.out]
  clear s1 s2 a0 f0 hq
  generalize x.setCell ⟨G + 1, 0, none⟩ (.int .i64 (r : Int)) = y at *
  refine hK.out _ _ (NoPanic.normal ?_)
  clear hK K
  go_wp2
  go_ret
  refine ⟨rfl, ?_, HC.out⟩
  have := HX.out
  rw [show (((r + 1 : Nat) : Int) - 1) = (r : Int) by omega]
  exact this
end Go.Proofs.Ytkghbdikbbeoaaa
