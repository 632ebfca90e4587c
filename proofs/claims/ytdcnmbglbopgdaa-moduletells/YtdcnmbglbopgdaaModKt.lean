/-
  No block of the landed module, or of buttons, is of the types that the document's module is made of.
-/
import Derived.Test.YtdcnmbglbopgdaaModK
import Derived.Test.YtdcnmbglbopgdaaModW
namespace Go.Proofs.Ytdcnmbglbopgdaa
set_option linter.unusedVariables false
set_option linter.unusedSimpArgs false
open Go.RowKit

theorem mod_ty : ModTy Mp := by
  intro w F D m h k hk hb
  obtain ⟨cs, t, fz, hb1, hb2⟩ := hb
  obtain ⟨A, c, q, h1, h2, rfl, h4, h5⟩ := h.ex
  rcases List.mem_cons.1 hk with rfl | hk
  · rw [h1] at hb1
    injection hb1 with hb1
    injection hb1 with _ ht _
    subst ht
    exact absurd hb2 (by decide)
  · rcases h2.2 with ⟨hn, _⟩ | ⟨g, cap, cur, hv, _, hr, _⟩
    · injection hn with hn _ _
      subst hn
      simp [ablk] at hk
    · injection hv with hA _ _
      subst hA
      simp [ablk] at hk
      subst hk
      rw [hr] at hb1
      injection hb1 with hb1
      injection hb1 with _ ht _
      subst ht
      exact absurd hb2 (by decide)
theorem but_ty : ButTy Bx := by
  intro w D f h hb
  obtain ⟨cs, t, fz, hb1, hb2⟩ := hb
  obtain ⟨q, h1, _⟩ := h.ex
  obtain ⟨cur, k1, _⟩ := h1.ex
  rw [k1] at hb1
  injection hb1 with hb1
  injection hb1 with _ ht _
  subst ht
  exact absurd hb2 (by decide)
end Go.Proofs.Ytdcnmbglbopgdaa
