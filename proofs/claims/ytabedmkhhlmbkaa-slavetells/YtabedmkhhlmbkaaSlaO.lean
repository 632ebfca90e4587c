/-
  What the slave's turn on a line leans on: its two ways; a frame's own row that is set.
-/
import Derived.Test.YtabedmkhhlmbkaaSlaN
import Derived.Great.BuildSlice
namespace Go.Proofs.Ytabedmkhhlmbkaa
set_option linter.unusedVariables false
set_option linter.unusedSimpArgs false
open Go.RowKit

theorem takeL_cases {l : Ln} {f : Fr} {d : List Fr} (hd : l.down = f :: d) (hu : l.up.length < 20) (h : (takeL l).2 = true) : (takeS l.s f).2.2.2 = true ∧
    (((takeS l.s f).2.2.1 = [] ∧ (takeL l).1 = { l with s := (takeS l.s f).1, down := d, up := l.up ++ [(takeS l.s f).2.1] }) ∨ (l.came < l.sent ∧ (takeS l.s f).2.2.1 = cmdB l.came ∧ (takeL l).1 = { l with s := (takeS l.s f).1, down := d, up := l.up ++ [(takeS l.s f).2.1], came := l.came + 1 })) := by
  unfold takeL at h ⊢
  rw [hd] at h ⊢
  simp only at h ⊢
  rw [if_neg (by omega)] at h ⊢
  split at h
  · cases h
  · rename_i h1
    simp only [h1, ↓reduceIte]
    refine ⟨by cases hb : (takeS l.s f).2.2.2 with
      | false => exact absurd hb h1
      | true => simp, ?_⟩
    split at h
    · rename_i h2
      split at h
      · cases h
      · rename_i h3
        rw [if_pos h2, if_neg h3]
        exact .inr ⟨by omega, Classical.byContradiction fun hh => h3 (.inr hh), rfl⟩
    · rename_i h2
      rw [if_neg h2]
      exact .inl ⟨List.eq_nil_of_length_eq_zero (by omega), rfl⟩

theorem takeL_parts {l : Ln} {f : Fr} {d : List Fr} (hd : l.down = f :: d) (hu : l.up.length < 20) (h : (takeL l).2 = true) : ∃ s1 an out, takeS l.s f = (s1, an, out, true) ∧
    ((out = [] ∧ (takeL l).1 = { l with s := s1, down := d, up := l.up ++ [an] }) ∨ (l.came < l.sent ∧ out = cmdB l.came ∧ (takeL l).1 = { l with s := s1, down := d, up := l.up ++ [an], came := l.came + 1 })) := by
  obtain ⟨h1, h2⟩ := takeL_cases hd hu h
  exact ⟨_, _, _, Prod.ext rfl (Prod.ext rfl (Prod.ext rfl h1)), h2⟩
theorem take_at (C : SlaCond) {w x : World} {D c : Nat} {s s1 : Sl} {f an : Fr} {out : List UInt8} {ok : Bool} {A : Option Addr} (h : Ls w D s x) (hb : Hb x D A f.b) (hfl : f.b.length ≤ 1000000) (hs : f.s < 256) (ht : takeS s f = (s1, an, out, ok)) :
    Calls Try.prog 16 #[.pointer (some ⟨D, 0, none⟩), .agg (fcs f (.slice A f.b.length c))] x fun e y =>
      ∃ A1 c1 A2 c2, e = .returned (.tuple #[.agg (fcs an (.slice A1 an.b.length c1)), .slice A2 out.length c2, .bool ok]) ∧ y.ownsRow x.heap.size 5 1 (.slice A1 an.b.length c1) an.b.length (bcs an.b) ∧
        y.ownsRow x.heap.size 5 1 (.slice A2 out.length c2) out.length (bcs out) ∧ Ls w D s1 y ∧ Ft D [37] x y := by
  have k := C.take (c := c) h hb hfl hs
  rw [ht] at k
  exact k

/-- A frame's row of a call's own is set. -/
theorem Lx.frameSet {w x : World} {L D S N cd cu G : Nat} {l : Ln} {Ad Au : Option Addr} {td tu : List Kf} {f : Fr} {V : Value} (h : Lx w L D S N l Ad Au cd cu td tu x) (hg : Fx x G f V) (hG : w.heap.size ≤ G)
    (hd : ∀ b ∈ ablk Ad, b ∉ [G]) (hu : ∀ b ∈ ablk Au, b ∉ [G]) (ls : List (Nat × Value)) (f' : Fr) (V' : Value) (hc : setsA ls (fcs f V) = fcs f' V') :
    Lx w L D S N l Ad Au cd cu td tu (sets G ls x) ∧ Fx (sets G ls x) G f' V' ∧ Ft 0 [30] x (sets G ls x) := by
  obtain ⟨h1, h2⟩ := sets_row ls hg
  rw [hc] at h1
  have hbi : ∀ b ∈ [G], BlockIn x b [30] := fun b hb => by simp at hb; subst hb; exact ⟨_, _, _, hg, by simp⟩
  have hft : Ft w.heap.size [30] x (sets G ls x) := Ft.of_ch h2 (fun b hb _ => ⟨by simp at hb; omega, hbi b hb⟩)
  exact ⟨⟨h.m.ft hft (Nat.le_refl _) (by decide) (by decide) (by decide), h.s.ft hft (Nat.le_refl _) (by decide) (by decide), hft.keep h.row (by decide), h.dn.other h2 hbi hd, h.up.other h2 hbi hu, h.ne, h.le, h.nums⟩, h1, hft.mono (Nat.zero_le _) (fun _ h => h)⟩

/-- A slice of one frame. -/
theorem wp_oneFrame {w : World} {o : Oper} {a : Act} {K : Act → World → Prop} {Q : Exit → Act → World → Prop} (x : Operand) (ho : o.op = .buildSlice 58 1 #[(0, x)]) {f : Fr} {V : Value} (hx : a.eval x = .agg (fcs f V))
    (h : K (a.put o.dst (.slice (some ⟨w.heap.size, 0, none⟩) 1 1)) (w.alloc (.cells (fcs f V) 30))) : o.wp Try.prog a w K Q := by
  obtain ⟨i0, hi, hz0, hz1, hz2⟩ := info_parts info_frame
  refine wp_buildSlice 58 30 1 #[(0, x)] ho (fcs f V) i0 _ Try.underlying58 hi hz0 (by rw [hz1]; decide) (by rw [hz1]; decide) ?_ h
  rw [hz1]
  simp only [List.map_toArray, List.map_cons, List.map_nil, hx]
  first
    | kernel_rfl
    | (simp [go_sem]; done)
    | (simp [Instr.fill]; done)

end Go.Proofs.Ytabedmkhhlmbkaa
