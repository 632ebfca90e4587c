/-
  The ops of lamplightlaw08.line: Offer, and none.
-/
import Derived.Test.YtabedmkhhlmbkaaSlaD
namespace Go.Proofs.Ytabedmkhhlmbkaa
set_option linter.unusedVariables false
set_option linter.unusedSimpArgs false
open Go.RowKit

set_option maxRecDepth 20000 in
set_option maxHeartbeats 3200000 in
theorem does_offer (C : SlaCond) {w x : World} {L D S N cd cu : Nat} {l : Ln} {Ad Au : Option Addr} {td tu : List Kf} (h : Lx w L D S N l Ad Au cd cu td tu x) (hN : N ≤ 100000) :
    Calls Try.prog 22 #[.pointer (some ⟨L, 0, none⟩), .agg #[.int .i64 1]] x (DoesPost w L D S N l 1) := by
  have HP : Hid (∀ y l', (offerL l).1 = l' → Lxx w L D S (N + 1) l' y → DoesPost w L D S N l 1 (.returned (.bool true)) y) := fun y l' he hh => ⟨rfl, by show Lxx _ _ _ _ _ (offerL l).1 _; rw [he]; exact hh⟩
  have HX := Lib.hid (h.step (new_below x (.cells #[.int .i64 1] 56)))
  have hns := h.nums.2.2.1
  clear h
  generalize DoesPost w L D S N l 1 = Q at *
  go_enter Try.func22, Try.ntmps22
  go_upto_region 6 with fail
  generalize x.alloc (.cells #[.int .i64 1] 56) = x1 at *
  have HX1 := Lib.hid (HX.out.step (drew_below x1))
  have hc := HX1.out.lc
  refine region_plan [(true, 0), (true, 1), (true, 2), (true, 3), (true, 4), (true, 5), (true, 6), (true, 7), (true, 8), (false, 9), (false, 10), (true, 11)]
    (fun y => y.cell? ⟨L, 1, none⟩ = some (.pointer (some ⟨S, 0, none⟩)) ∧ y.cell? ⟨L, 6, none⟩ = some (.int .i64 (l.offered : Int))) (by kernel_rfl) (by kernel_rfl) (by kernel_rfl) rfl ⟨hc.c1, hc.c6⟩ ?_
  clear hc HX
  generalize x1.drew = x2 at *
  obtain ⟨u, hu⟩ : ∃ u, l.offered % 256 = u := ⟨_, rfl⟩
  have hwr : IntKind.u8.wrap (l.offered : Int) = (u : Int) := by rw [IntKind.wrap_u8]; omega
  have HHB : Hid (Hb (x2.alloc (.cells #[.int .u8 (u : Int), .int .u8 2] 5)) 0 (some ⟨x2.heap.size, 0, none⟩) (itmB l.offered)) := two_row x2 l.offered u 2 hu
  have HB2 := Lib.hid (new_below x2 (.cells #[.int .u8 (u : Int), .int .u8 2] 5))
  have hmm : (l.offered : Int) % 256 = (u : Int) := by omega
  clear hu
  iterate 9 (refine Plan.take (v := ?_) rfl (by rfl) ?_ ?_; rotate_left 1; (focus (intro x hx; go_simp <;> (first | with_reducible rfl | rw [if_pos (by omega)]))); simp only [Act.put, List.setIfInBounds_toArray, List.set_cons_zero, List.set_cons_succ])
  refine Plan.loud rfl (fun K hK => ?_)
  go_simp
  have HX3 := Lib.hid (HX1.out.step HB2.out)
  have hc := HX3.out.lc
  refine hK.out _ _ _ (fun x hx => hx) ⟨hc.c1, hc.c6⟩ ?_
  clear hK K hc HX1 HB2
  generalize x2.alloc (.cells #[.int .u8 (u : Int), .int .u8 2] 5) = x3 at *
  generalize x2.heap.size = G at *
  refine Plan.loud rfl (fun K hK => ?_)
  go_simp
  refine (C.offer HX3.out.s HHB.out.wide rfl).mono ?_
  rintro e x4 ⟨rfl, h4, hf4⟩
  have HX4 : Hid (Lx w L D S N { l with s := (offerS l.s (itmB l.offered)).1 } Ad Au cd cu td tu x4) := HX3.out.sla h4 hf4
  have hc := HX4.out.lc
  refine hK.out _ _ _ (fun x hx => hx) ⟨hc.c1, hc.c6⟩ ?_
  clear hK K h4 hf4 HX3
  have c4 : x4.cell? ⟨L, 6, none⟩ = some (.int .i64 (l.offered : Int)) := hc.c6
  have f4 := hc.fz 6
  clear hc
  have HSE : Hid ((offerL l).1 = { l with s := (offerS l.s (itmB l.offered)).1, offered := if (offerS l.s (itmB l.offered)).2 = 0 then l.offered + 1 else l.offered }) := rfl
  generalize (offerS l.s (itmB l.offered)).1 = m' at *
  generalize (offerS l.s (itmB l.offered)).2 = er at *
  by_cases her : er = 0
  · subst her
    have HX5 := Lib.hid (HX4.out.set (l' := { l with s := m', offered := l.offered + 1 }) (M := N + 1) [(6, .int .i64 ((l.offered : Int) + 1))] rfl rfl (Nat.le_succ _) (by simp [setsA]) HX4.out.dn HX4.out.up HX4.out.ne ⟨Nat.le_succ_of_le HX4.out.nums.1, Nat.le_succ_of_le HX4.out.nums.2.1, Nat.succ_le_succ HX4.out.nums.2.2.1, Nat.le_succ_of_le HX4.out.nums.2.2.2⟩)
    iterate 1 (refine Plan.take (v := ?_) rfl (by rfl) ?_ ?_; rotate_left 1; (focus (intro x hx; go_simp <;> (first | with_reducible rfl | rw [if_pos (by omega)]))); simp only [Act.put, List.setIfInBounds_toArray, List.set_cons_zero, List.set_cons_succ])
    refine Plan.done ?_
    go_wp2
    exact HP.out _ _ (HSE.out.trans (by simp)) ⟨_, _, _, _, _, _, HX5.out⟩
  · have her' : (er == 0) = false := by simpa using her
    have HX5 := Lib.hid (HX4.out.more (Nat.le_succ N))
    have HNE := Lib.hid her
    clear her
    iterate 1 (refine Plan.take (v := ?_) rfl (by rfl) ?_ ?_; rotate_left 1; (focus (intro x hx; go_simp <;> (first | with_reducible rfl | rw [if_pos (by omega)]))); simp only [Act.put, List.setIfInBounds_toArray, List.set_cons_zero, List.set_cons_succ])
    refine Plan.done ?_
    go_wp2
    exact HP.out _ _ (HSE.out.trans (by simp [HNE.out])) ⟨_, _, _, _, _, _, HX5.out⟩

set_option maxRecDepth 20000 in
set_option maxHeartbeats 3200000 in
theorem does_none {w x : World} {L D S N cd cu : Nat} {l : Ln} {Ad Au : Option Addr} {td tu : List Kf} (h : Lx w L D S N l Ad Au cd cu td tu x) (k : Int) (hk : k < 0 ∨ 13 < k) :
    Calls Try.prog 22 #[.pointer (some ⟨L, 0, none⟩), .agg #[.int .i64 k]] x (DoesPost w L D S N l k) := by
  have HP : Hid (∀ y, Lxx w L D S (N + 1) l y → DoesPost w L D S N l k (.returned (.bool true)) y) := fun y hh => ⟨rfl, by
    have e : (doesL l k).1 = l := by unfold doesL; rw [if_neg (by omega), if_neg (by omega), if_neg (by omega), if_neg (by omega), if_neg (by omega), if_neg (by omega), if_neg (by omega), if_neg (by omega), if_neg (by omega)]
    rw [e]; exact hh⟩
  have HX := Lib.hid ((h.step (new_below x (.cells #[.int .i64 k] 56))).more (Nat.le_succ N))
  have q0 : (k == 0) = false := by simp; omega
  have q1 : (k == 1) = false := by simp; omega
  have q2 : (k == 2) = false := by simp; omega
  have q3 : (k == 3) = false := by simp; omega
  have q4 : (k == 4) = false := by simp; omega
  have q5 : (k == 5) = false := by simp; omega
  have q6 : (k == 6) = false := by simp; omega
  have q7 : (k == 7) = false := by simp; omega
  have q8 : (k == 8) = false := by simp; omega
  have q9 : (k == 9) = false := by simp; omega
  have q10 : (k == 10) = false := by simp; omega
  have q11 : (k == 11) = false := by simp; omega
  have q12 : (k == 12) = false := by simp; omega
  have q13 : (k == 13) = false := by simp; omega
  clear h hk
  generalize DoesPost w L D S N l k = Q at *
  go_enter Try.func22, Try.ntmps22
  go_wp2
  exact HP.out _ ⟨_, _, _, _, _, _, HX.out⟩

end Go.Proofs.Ytabedmkhhlmbkaa
