/-
  What the ops of lamplightlaw08.line lean on: the first frame of a row, and that row without it.
-/
import Derived.Test.YtabedmkhhlmbkaaSlaE
import Derived.Deep.DeepCutAuto
namespace Go.Proofs.Ytabedmkhhlmbkaa
set_option linter.unusedVariables false
set_option linter.unusedSimpArgs false
open Go.RowKit

theorem ivx_up {l : Ln} (h : Ivx l) : ∀ f ∈ l.up, f.b.length ≤ 24 ∧ f.s < 256 := by
  obtain ⟨A, T, ds, us, h⟩ := h
  intro f hf
  rw [h.up, List.mem_map] at hf
  obtain ⟨x, _, rfl⟩ := hf
  refine ⟨?_, by show 1 < 256; omega⟩
  unfold ufr
  simp only
  split <;> simp [itmB]
theorem ivx_down {l : Ln} (h : Ivx l) : ∀ f ∈ l.down, f.b.length ≤ 24 ∧ f.s < 256 := by
  obtain ⟨A, T, ds, us, h⟩ := h
  intro f hf
  rw [h.dn, List.mem_map] at hf
  obtain ⟨x, _, rfl⟩ := hf
  refine ⟨?_, by show 1 < 256; omega⟩
  unfold dfr
  simp only
  split <;> simp [cmdB]
theorem heardL_cases {l : Ln} {f : Fr} {u : List Fr} (hu : l.up = f :: u) (h : (heardL l).2 = true) : (heardM l.m f).2.2 = true ∧
    (((heardM l.m f).2.1 = [] ∧ (heardL l).1 = { l with m := (heardM l.m f).1, up := u }) ∨ (l.heard < l.offered ∧ (heardM l.m f).2.1 = itmB l.heard ∧ (heardL l).1 = { l with m := (heardM l.m f).1, up := u, heard := l.heard + 1 })) := by
  unfold heardL at h ⊢
  rw [hu] at h ⊢
  simp only at h ⊢
  split at h
  · cases h
  · rename_i h1
    simp only [h1, ↓reduceIte]
    refine ⟨by cases hb : (heardM l.m f).2.2 with
      | false => exact absurd hb h1
      | true => simp, ?_⟩
    split at h
    · rename_i h2
      split at h
      · cases h
      · rename_i h3
        rw [if_pos h2, if_neg h3]
        exact .inr ⟨by omega, Classical.byContradiction fun hh => h3 (.inr hh), rfl⟩
    · rename_i h2
      rw [if_neg h2]
      exact .inl ⟨List.eq_nil_of_length_eq_zero (by omega), rfl⟩
/-- The cells of the first of a row of frames. -/
def Six (w : World) (g o : Nat) (f : Fr) (V : Value) : Prop := w.cell? ⟨g, o, none⟩ = some (.int .u8 (f.a : Int)) ∧ w.cell? ⟨g, o + 1, none⟩ = some (.int .u8 (f.k : Int)) ∧ w.cell? ⟨g, o + 2, none⟩ = some (.int .u8 (f.s : Int)) ∧ w.cell? ⟨g, o + 3, none⟩ = some (.int .u8 (f.q : Int)) ∧ w.cell? ⟨g, o + 4, none⟩ = some (.int .u8 (f.c : Int)) ∧ w.cell? ⟨g, o + 5, none⟩ = some V
theorem Fq.six {w : World} {B c g o : Nat} {t : Kf} {r : List Kf} {f : Fr} {fs : List Fr} (h : Fq w B (some ⟨g, o, none⟩) c (t :: r) (f :: fs)) : Six w g o f (.slice t.A f.b.length t.c) ∧ Hb w 0 t.A f.b := by
  obtain ⟨g', o', t', r', ht, -, -, hA, -, -, hc, hb⟩ := h.head
  injection hA with hA
  injection hA with hA1 hA2
  injection ht with ht1 ht2
  subst hA1 hA2 ht1
  exact ⟨hc, hb⟩
/-- The first one up is left out. -/
theorem Lx.cutUp {w x : World} {L D S N cd cu g o : Nat} {l : Ln} {f : Fr} {u : List Fr} {Ad : Option Addr} {td tu : List Kf} (h : Lx w L D S N l Ad (some ⟨g, o, none⟩) cd cu td tu x) (hu : l.up = f :: u) :
    Lx w L D S N { l with up := u } Ad (if cu = 1 then some ⟨g, o, none⟩ else some ⟨g, o + 6, none⟩) cd (cu - 1) td (tu.drop 1) (sets L [(3, .slice (if cu = 1 then some ⟨g, o, none⟩ else some ⟨g, o + 6, none⟩) u.length (cu - 1))] x) := by
  have hq := h.up
  rw [hu] at hq
  exact h.set (l' := { l with up := u }) _ rfl rfl (Nat.le_refl _) (by simp [setsA]) h.dn hq.tail (by rw [ablk_tail]; exact h.ne) h.nums
theorem Lx.cutDown {w x : World} {L D S N cd cu g o : Nat} {l : Ln} {f : Fr} {u : List Fr} {Au : Option Addr} {td tu : List Kf} (h : Lx w L D S N l (some ⟨g, o, none⟩) Au cd cu td tu x) (hu : l.down = f :: u) :
    Lx w L D S N { l with down := u } (if cd = 1 then some ⟨g, o, none⟩ else some ⟨g, o + 6, none⟩) Au (cd - 1) cu (td.drop 1) tu (sets L [(2, .slice (if cd = 1 then some ⟨g, o, none⟩ else some ⟨g, o + 6, none⟩) u.length (cd - 1))] x) := by
  have hq := h.dn
  rw [hu] at hq
  exact h.set (l' := { l with down := u }) _ rfl rfl (Nat.le_refl _) (by simp [setsA]) hq.tail h.up (by rw [ablk_tail]; exact h.ne) h.nums

end Go.Proofs.Ytabedmkhhlmbkaa
