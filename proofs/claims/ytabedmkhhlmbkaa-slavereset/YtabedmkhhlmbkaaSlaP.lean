/-
  The ops of lamplightlaw08.line: the first one is lost.
-/
import Derived.Test.YtabedmkhhlmbkaaSlaN
import Derived.StillTailTactics
import Derived.Deep.DeepCutAuto
namespace Go.Proofs.Ytabedmkhhlmbkaa
set_option linter.unusedVariables false
set_option linter.unusedSimpArgs false
open Go.RowKit

set_option maxRecDepth 20000 in
set_option maxHeartbeats 3200000 in
theorem does_drop10 {w x : World} {L D S N cd cu : Nat} {l : Ln} {Ad Au : Option Addr} {td tu : List Kf} (h : Lx w L D S N l Ad Au cd cu td tu x) :
    Calls Try.prog 22 #[.pointer (some ⟨L, 0, none⟩), .agg #[.int .i64 10]] x (DoesPost w L D S N l 10) := by
  have HP : Hid (∀ y l', ({ l with down := l.down.drop 1 } : Ln) = l' → Lxx w L D S (N + 1) l' y → DoesPost w L D S N l 10 (.returned (.bool true)) y) := fun y l' he hh => ⟨rfl, by
    have e : (doesL l 10).1 = l' := he
    rw [e]; exact hh⟩
  have HX := Lib.hid (h.step (new_below x (.cells #[.int .i64 10] 56)))
  clear h
  generalize DoesPost w L D S N l 10 = Q at *
  go_enter Try.func22, Try.ntmps22
  go_upto_region 40 with fail
  generalize x.alloc (.cells #[.int .i64 10] 56) = x1 at *
  replace HX := Lib.hid (HX.out.step (drew_below x1))
  have hc := HX.out.lc
  have c2 := hc.c2
  have f2 := hc.fz 2
  clear hc
  cases hu : l.down with
  | nil =>
    have HE : Hid (({ l with down := l.down.drop 1 } : Ln) = l) := by show _ = _; rw [show l.down.drop 1 = l.down by rw [hu]; rfl]
    have HK := Lib.hid (HX.out.set (l' := l) (M := N) [(2, .slice Ad 0 cd)] rfl rfl (Nat.le_refl _) (by rw [hu]; rfl) HX.out.dn HX.out.up HX.out.ne HX.out.nums)
    have hA : (Ad = none ∧ cd = 0) ∨ ∃ g o, Ad = some ⟨g, o, none⟩ := by
      rcases HX.out.dn.que.2 with ⟨h1, _, h2⟩ | ⟨g, o, _, h1, _⟩
      · exact .inl ⟨h1, h2⟩
      · exact .inr ⟨g, o, h1⟩
    rw [hu] at c2
    simp only [List.length_nil] at c2
    clear hu
    rcases hA with ⟨hA, hcz⟩ | ⟨g, o, hA⟩
    · subst hA hcz
      go_still_tail 14, (by kernel_rfl)
      change wpList _ _ _ _ _ x1.drew
      generalize x1.drew = x2 at *
      simp only [sets, List.foldl] at HK
      go_wp2
      exact HP.out _ _ HE.out ⟨_, _, _, _, _, _, HK.out.more (Nat.le_succ N)⟩
    · subst hA
      go_still_tail 14, (by kernel_rfl)
      change wpList _ _ _ _ _ x1.drew
      generalize x1.drew = x2 at *
      simp only [sets, List.foldl] at HK
      go_wp2
      exact HP.out _ _ HE.out ⟨_, _, _, _, _, _, HK.out.more (Nat.le_succ N)⟩
  | cons f u =>
    have HE : Hid (({ l with down := l.down.drop 1 } : Ln) = { l with down := u }) := by show _ = _; rw [hu]; rfl
    have hq := HX.out.dn
    rw [hu] at hq
    obtain ⟨g, o, t, r, htu, -, -, hA, -, hcap, -, -⟩ := hq.head
    subst hA htu
    have K := HX.out.cutDown (f := f) (u := u) hu
    rw [hu] at c2
    simp only [List.length_cons] at c2
    have h1 : ¬ ((u.length + 1 : Nat) : Int) < 1 := by omega
    clear hq hu
    generalize u.length = un at *
    obtain ⟨c', hc'⟩ : ∃ c', cd = c' + 1 := ⟨cd - 1, by omega⟩
    subst hc'
    by_cases hz : c' = 0
    · subst hz
      have hun : un = 0 := by omega
      subst hun
      have KK := Lib.hid K
      simp only [Nat.zero_add, ↓reduceIte, Nat.sub_self] at KK
      clear K
      go_still_tail 14, (by kernel_rfl)
      change wpList _ _ _ _ _ x1.drew
      generalize x1.drew = x2 at *
      simp only [sets, List.foldl] at KK
      go_wp2
      exact HP.out _ _ HE.out ⟨_, _, _, _, _, _, KK.out.more (Nat.le_succ N)⟩
    · have e : ¬ c' + 1 = 1 := by omega
      have KK := Lib.hid K
      simp only [e, ↓reduceIte, Nat.add_sub_cancel] at KK
      clear K
      have hmin : (if ((un + 1 : Nat) : Int) < 1 then ((un + 1 : Nat) : Int) else 1) = 1 := by rw [if_neg h1]
      refine region_last 14 (.take 0 (.take 1 (.take 2 (.take 3 (.take 4 (.take 5 (.take 6 (.take 7 (.take 8 (.take 9 (.take 10 (.take 11 (.one 12 (.take 13 (.one 14 .done)))))))))))))))
        (fun y => y.cell? ⟨L, 2, none⟩ = some (.slice (some ⟨g, o, none⟩) (un + 1) (c' + 1))) (by kernel_rfl) (by kernel_rfl) (by kernel_rfl) (by kernel_rfl) c2 ?_
      generalize x1.drew = x2 at *
      iterate 10 (refine TreeL.take (v := ?_) (by kernel_rfl) rfl (by rfl) ?_ ?_; rotate_left 1; (focus (intro x hx; go_simp <;> (first | with_reducible rfl | rw [if_pos (by omega)]))); simp only [Act.put, List.setIfInBounds_toArray, List.set_cons_zero, List.set_cons_succ])
      iterate 2 (refine TreeL.take (v := ?_) (by kernel_rfl) rfl (by rfl) ?_ ?_; rotate_left 1; (focus (intro x hx; go_simp <;> (first | with_reducible rfl | rw [if_pos (by omega)]))); simp only [Act.put, List.setIfInBounds_toArray, List.set_cons_zero, List.set_cons_succ])
      refine TreeL.one (by decide) rfl (fun K hK => ?_)
      go_simp
      refine hK.out _ _ _ (fun x hx => hx) c2 ?_
      clear hK K
      iterate 1 (refine TreeL.take (v := ?_) (by kernel_rfl) rfl (by rfl) ?_ ?_; rotate_left 1; (focus (intro x hx; go_simp <;> (first | with_reducible rfl | rw [if_pos (by omega)]))); simp only [Act.put, List.setIfInBounds_toArray, List.set_cons_zero, List.set_cons_succ])
      refine TreeL.last rfl (fun K hK => ?_)
      go_simp
      refine hK.out _ _ (NoPanic.normal ?_)
      simp only [sets, List.foldl] at KK
      go_wp2
      exact HP.out _ _ HE.out ⟨_, _, _, _, _, _, KK.out.more (Nat.le_succ N)⟩

set_option maxRecDepth 20000 in
set_option maxHeartbeats 3200000 in
theorem does_drop11 {w x : World} {L D S N cd cu : Nat} {l : Ln} {Ad Au : Option Addr} {td tu : List Kf} (h : Lx w L D S N l Ad Au cd cu td tu x) :
    Calls Try.prog 22 #[.pointer (some ⟨L, 0, none⟩), .agg #[.int .i64 11]] x (DoesPost w L D S N l 11) := by
  have HP : Hid (∀ y l', ({ l with up := l.up.drop 1 } : Ln) = l' → Lxx w L D S (N + 1) l' y → DoesPost w L D S N l 11 (.returned (.bool true)) y) := fun y l' he hh => ⟨rfl, by
    have e : (doesL l 11).1 = l' := he
    rw [e]; exact hh⟩
  have HX := Lib.hid (h.step (new_below x (.cells #[.int .i64 11] 56)))
  clear h
  generalize DoesPost w L D S N l 11 = Q at *
  go_enter Try.func22, Try.ntmps22
  go_upto_region 42 with fail
  generalize x.alloc (.cells #[.int .i64 11] 56) = x1 at *
  replace HX := Lib.hid (HX.out.step (drew_below x1))
  have hc := HX.out.lc
  have c2 := hc.c3
  have f2 := hc.fz 3
  clear hc
  cases hu : l.up with
  | nil =>
    have HE : Hid (({ l with up := l.up.drop 1 } : Ln) = l) := by show _ = _; rw [show l.up.drop 1 = l.up by rw [hu]; rfl]
    have HK := Lib.hid (HX.out.set (l' := l) (M := N) [(3, .slice Au 0 cu)] rfl rfl (Nat.le_refl _) (by rw [hu]; rfl) HX.out.dn HX.out.up HX.out.ne HX.out.nums)
    have hA : (Au = none ∧ cu = 0) ∨ ∃ g o, Au = some ⟨g, o, none⟩ := by
      rcases HX.out.up.que.2 with ⟨h1, _, h2⟩ | ⟨g, o, _, h1, _⟩
      · exact .inl ⟨h1, h2⟩
      · exact .inr ⟨g, o, h1⟩
    rw [hu] at c2
    simp only [List.length_nil] at c2
    clear hu
    rcases hA with ⟨hA, hcz⟩ | ⟨g, o, hA⟩
    · subst hA hcz
      go_still_tail 14, (by kernel_rfl)
      change wpList _ _ _ _ _ x1.drew
      generalize x1.drew = x2 at *
      simp only [sets, List.foldl] at HK
      go_wp2
      exact HP.out _ _ HE.out ⟨_, _, _, _, _, _, HK.out.more (Nat.le_succ N)⟩
    · subst hA
      go_still_tail 14, (by kernel_rfl)
      change wpList _ _ _ _ _ x1.drew
      generalize x1.drew = x2 at *
      simp only [sets, List.foldl] at HK
      go_wp2
      exact HP.out _ _ HE.out ⟨_, _, _, _, _, _, HK.out.more (Nat.le_succ N)⟩
  | cons f u =>
    have HE : Hid (({ l with up := l.up.drop 1 } : Ln) = { l with up := u }) := by show _ = _; rw [hu]; rfl
    have hq := HX.out.up
    rw [hu] at hq
    obtain ⟨g, o, t, r, htu, -, -, hA, -, hcap, -, -⟩ := hq.head
    subst hA htu
    have K := HX.out.cutUp (f := f) (u := u) hu
    rw [hu] at c2
    simp only [List.length_cons] at c2
    have h1 : ¬ ((u.length + 1 : Nat) : Int) < 1 := by omega
    clear hq hu
    generalize u.length = un at *
    obtain ⟨c', hc'⟩ : ∃ c', cu = c' + 1 := ⟨cu - 1, by omega⟩
    subst hc'
    by_cases hz : c' = 0
    · subst hz
      have hun : un = 0 := by omega
      subst hun
      have KK := Lib.hid K
      simp only [Nat.zero_add, ↓reduceIte, Nat.sub_self] at KK
      clear K
      go_still_tail 14, (by kernel_rfl)
      change wpList _ _ _ _ _ x1.drew
      generalize x1.drew = x2 at *
      simp only [sets, List.foldl] at KK
      go_wp2
      exact HP.out _ _ HE.out ⟨_, _, _, _, _, _, KK.out.more (Nat.le_succ N)⟩
    · have e : ¬ c' + 1 = 1 := by omega
      have KK := Lib.hid K
      simp only [e, ↓reduceIte, Nat.add_sub_cancel] at KK
      clear K
      have hmin : (if ((un + 1 : Nat) : Int) < 1 then ((un + 1 : Nat) : Int) else 1) = 1 := by rw [if_neg h1]
      refine region_last 14 (.take 0 (.take 1 (.take 2 (.take 3 (.take 4 (.take 5 (.take 6 (.take 7 (.take 8 (.take 9 (.take 10 (.take 11 (.one 12 (.take 13 (.one 14 .done)))))))))))))))
        (fun y => y.cell? ⟨L, 3, none⟩ = some (.slice (some ⟨g, o, none⟩) (un + 1) (c' + 1))) (by kernel_rfl) (by kernel_rfl) (by kernel_rfl) (by kernel_rfl) c2 ?_
      generalize x1.drew = x2 at *
      iterate 10 (refine TreeL.take (v := ?_) (by kernel_rfl) rfl (by rfl) ?_ ?_; rotate_left 1; (focus (intro x hx; go_simp <;> (first | with_reducible rfl | rw [if_pos (by omega)]))); simp only [Act.put, List.setIfInBounds_toArray, List.set_cons_zero, List.set_cons_succ])
      iterate 2 (refine TreeL.take (v := ?_) (by kernel_rfl) rfl (by rfl) ?_ ?_; rotate_left 1; (focus (intro x hx; go_simp <;> (first | with_reducible rfl | rw [if_pos (by omega)]))); simp only [Act.put, List.setIfInBounds_toArray, List.set_cons_zero, List.set_cons_succ])
      refine TreeL.one (by decide) rfl (fun K hK => ?_)
      go_simp
      refine hK.out _ _ _ (fun x hx => hx) c2 ?_
      clear hK K
      iterate 1 (refine TreeL.take (v := ?_) (by kernel_rfl) rfl (by rfl) ?_ ?_; rotate_left 1; (focus (intro x hx; go_simp <;> (first | with_reducible rfl | rw [if_pos (by omega)]))); simp only [Act.put, List.setIfInBounds_toArray, List.set_cons_zero, List.set_cons_succ])
      refine TreeL.last rfl (fun K hK => ?_)
      go_simp
      refine hK.out _ _ (NoPanic.normal ?_)
      simp only [sets, List.foldl] at KK
      go_wp2
      exact HP.out _ _ HE.out ⟨_, _, _, _, _, _, KK.out.more (Nat.le_succ N)⟩

end Go.Proofs.Ytabedmkhhlmbkaa
