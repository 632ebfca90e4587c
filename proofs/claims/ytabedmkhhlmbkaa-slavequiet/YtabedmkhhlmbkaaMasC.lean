/-
  slices.Delete of the first of a slice of slices of bytes; master's settle, fresh, Send, as they landed: what they answer.
-/
import Derived.Test.YtabedmkhhlmbkaaMasB
import Derived.Test.YtabedmkhhlmbkaaFLast
namespace Go.Proofs.Ytabedmkhhlmbkaa
set_option linter.unusedVariables false
set_option linter.unusedSimpArgs false
open Go.RowKit

theorem zero_bytes (w : World) : (zeroValue 28).run Try.prog w = .ok (.slice none 0 0) w := by
  obtain ⟨i0, hi, hz0, _, _⟩ := info_parts info_bytes
  simp [zeroValue, typeInfo, hi, hz0]

theorem wp_append_run {P : Program} {w w' : World} {o : Oper} {a : Act} {K : Act → World → Prop} {Q : Exit → Act → World → Prop} (s x : Operand) (t : TypeId)
    (ho : o.op = .call { callee := .builtin .append, args := #[s, x], argTypes := #[t, t] }) {v u z : Value} (hs : a.eval s = u) (hx : a.eval x = z) (hr : (Builtin.append_ #[t, t] o.type #[u, z]).run P w = .ok v w') (hK : K (a.put o.dst v) w') : o.wp P a w K Q := by
  unfold Oper.wp
  simp [execOp, ho, resolve, invoke, builtin, hs, hx, hr, Result.andThen]
  exact hK

set_option maxRecDepth 20000 in
set_option maxHeartbeats 1600000 in
theorem delete_on {w : World} {B n c : Nat} {A : Option Addr} {vs : List Value} (h : Que w B 28 1 A n c vs) (hn : 0 < n) (hn8 : n ≤ 8) (h1 : ∀ v ∈ vs, v.oneCell' = true) :
    Calls Try.prog 45 #[.slice A n c, .int .i64 0, .int .i64 1] w fun e w' => e = .returned (.slice A (n - 1) c) ∧ Que w' B 28 1 A (n - 1) c (vs.drop 1) ∧ Ft B [28] w w' := by
  obtain ⟨i0, hi, hz0, hz1, hz2⟩ := info_parts info_bytes
  obtain ⟨hnc, hcm⟩ := h.cap
  have hcm' : c ≤ 9223372036854775807 := by unfold maxLen at hcm; omega
  replace h := h.ft (B := 0) (T := []) (Ft.of_below (drew_below w)) (by simp)
  obtain ⟨g, o, rfl, hBg, hgl, hbi, hcell, hfz, _⟩ := h.at hn
  have hvl : vs.length = n := by have := h.1; omega
  obtain ⟨k, hk⟩ : ∃ k, k + 1 = n := ⟨n - 1, by omega⟩
  have hcap : ∃ cur : Array Value, w.drew.heap[g]? = some (.cells cur 28 (0, 0)) ∧ o + c ≤ cur.size := by
    rcases h.2 with ⟨h1, _⟩ | ⟨g', o', cur, h1, h2, h3, h4, h5, h6, h7⟩
    · cases h1
    · injection h1 with h1
      injection h1 with hg ho
      subst hg ho
      exact ⟨cur, h3, by omega⟩
  obtain ⟨cur, hcur, hcs⟩ := hcap
  have hdl : (vs.drop 1).length = k := by rw [List.length_drop, hvl]; omega
  have hrun : Hid (∀ ty c2 ad, (∀ j u, (vs.drop 1)[j]? = some u → w.drew.cell? (ad.add j) = some u) → (Builtin.append_ #[78, 78] ty #[.slice (some ⟨g, o, none⟩) 0 c, .slice (some ad) k c2]).run Try.prog w.drew = .ok (.slice (some ⟨g, o, none⟩) k c) (w.drew.setCells g o (vs.drop 1))) := fun ty c2 ad hnews => by
    have := run_append_room_cells (P := Try.prog) w.drew 78 ty 28 i0 Try.underlying78 hi g o 0 c ad k c2 (vs.drop 1) (by rw [hdl, hz1]; omega) hnews (fun u hu => h1 u (List.mem_of_mem_drop hu)) (by omega) (fun j hj => by
        rw [Nat.zero_mul, Nat.add_zero]
        have : o + j < cur.size := by omega
        simp [World.cell?, hcur, this]) (fun j hj => by simp [World.frozen?, hcur])
    simpa using this
  obtain ⟨ad, had, hnews⟩ : ∃ ad, (if c = 1 then some (Addr.mk g o none) else some ⟨g, o + 1, none⟩) = some ad ∧ ∀ j u, (vs.drop 1)[j]? = some u → w.drew.cell? (ad.add j) = some u := by
    split
    · refine ⟨_, rfl, fun j u hu => ?_⟩
      have h0 : vs.drop 1 = [] := List.eq_nil_of_length_eq_zero (by omega)
      rw [h0] at hu
      cases hu
    · refine ⟨_, rfl, fun j u hu => ?_⟩
      rw [List.getElem?_drop] at hu
      rw [addr_add, Nat.add_assoc]
      exact hcell _ u hu
  have HR := Lib.hid (fun ty c2 => hrun.out ty c2 ad hnews)
  obtain ⟨zs, hzl, hclr⟩ := run_clear_wide (P := Try.prog) (w.drew.setCells g o (vs.drop 1)) 78 28 0 (.slice none 0 0) Try.underlying78 zero_bytes (by intro u hu; simp [Value.cells] at hu; subst hu; rfl) g (o + k) 1 (c - k) (by omega) (fun j hj => by
      simp [Value.cells] at hj
      obtain ⟨_, cur1, k2, k3, _⟩ := setCells_heap (vs.drop 1) o w.drew cur hcur
      have : o + k + j < cur1.size := by omega
      rw [cell_of_row _ _ _ _ _ _ k2]
      simp [this]) (fun j hj => by
      obtain ⟨_, cur1, k2, k3, _⟩ := setCells_heap (vs.drop 1) o w.drew cur hcur
      exact frozen_of_row _ _ _ _ _ k2)
  simp [Value.cells] at hzl
  have HF := Lib.hid (h.delete (vs := zs) hn hzl)
  have HAD := Lib.hid had
  have hnk : n - 1 = k := by omega
  have hck : ¬ c = k := by omega
  have hnk2 : n - k = 1 := by omega
  have j1 : (1 : Int) ≤ (n : Int) := by omega
  have j2 : (n : Int) ≤ (c : Int) := by omega
  have j3 : (1 : Int) ≤ (c : Int) := by omega
  have j4 : (k : Int) ≤ (n : Int) := by omega
  rw [hnk] at HF ⊢
  clear h hcell hfz hcur hcs hbi h1 hvl hdl hk hi hrun had hnews hzl
  go_enter Try.func45, Try.ntmps45
  go_upto_region 5 with fail
  refine region_plan [(true, 0), (true, 1), (true, 2), (true, 3), (true, 4), (true, 5), (false, 6), (true, 7)] (fun y => True) (by kernel_rfl) (by kernel_rfl) (by kernel_rfl) rfl trivial ?_
  iterate 6 (refine Plan.take (v := ?_) rfl (by rfl) ?_ ?_; rotate_left 1; (focus (intro x hx; go_simp <;> (first | with_reducible rfl | rw [if_pos (by omega)]))); simp only [Act.put, List.setIfInBounds_toArray, List.set_cons_zero, List.set_cons_succ])
  rw [HAD.out]
  refine Plan.loud rfl (fun K hK => ?_)
  rw [if_pos (by rfl)]
  refine wp_append_run (.tmp 22) (.tmp 25) 78 rfl rfl rfl (HR.out _ _) ?_
  refine hK.out _ _ _ (fun x hx => hx) trivial ?_
  clear hK K
  generalize w.drew.setCells g o (vs.drop 1) = x1 at *
  simp only [Act.put, List.setIfInBounds_toArray, List.set_cons_zero, List.set_cons_succ]
  iterate 1 (refine Plan.take (v := ?_) rfl (by rfl) ?_ ?_; rotate_left 1; (focus (intro x hx; go_simp <;> (first | with_reducible rfl | rw [if_pos (by omega)]))); simp only [Act.put, List.setIfInBounds_toArray, List.set_cons_zero, List.set_cons_succ])
  refine Plan.done ?_
  clear HR HAD
  go_wp2
  go_ret
  exact ⟨rfl, HF.out.1, (Ft.of_below (drew_below w)).trans HF.out.2⟩

end Go.Proofs.Ytabedmkhhlmbkaa
