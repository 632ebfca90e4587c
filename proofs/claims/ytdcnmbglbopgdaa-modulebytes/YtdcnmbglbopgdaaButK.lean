/-
  The landed buttons keep to what the laws' walks of layer 10 want (ButC). They forget the time of one that was told: what lies there is alike.
-/
import Derived.Test.YtdcnmbglbopgdaaButKb
namespace Go.Proofs.Ytdcnmbglbopgdaa
set_option linter.unusedVariables false
set_option linter.unusedSimpArgs false
open Go.RowKit

/-- a is as b, as far as it is told. -/
structure Alk (a b : Bt) : Prop where
  d : a.d = b.d
  t : b.d = true → a.t = b.t
  s : b.d = true → b.t = false → a.s = b.s
theorem Alk.refl (b : Bt) : Alk b b := ⟨rfl, fun _ => rfl, fun _ _ => rfl⟩
theorem Alk.due {a b : Bt} (h : Alk a b) (now : Int) : a.due now = b.due now := by
  unfold Bt.due
  rw [h.d]
  cases hd : b.d with
  | false => rfl
  | true =>
    rw [h.t hd]
    cases ht : b.t with
    | true => rfl
    | false => rw [h.s hd ht]
theorem Alk.set {a b : Bt} (h : Alk a b) (d : Bool) (now : Int) : Alk (a.set d now) (b.set d now) := by
  unfold Bt.set
  rw [h.d]
  cases d with
  | false => exact Alk.refl _
  | true =>
    cases hd : b.d with
    | false => exact Alk.refl _
    | true => exact h
theorem Alk.tell {a b : Bt} (h : Alk a b) (now : Int) : Alk (tellQ a now) (b.tell now) := by
  unfold tellQ Bt.tell
  rw [h.due]
  cases hd : b.due now with
  | false => exact h
  | true =>
    have h1 : b.d = true := by unfold Bt.due at hd; simp at hd; exact hd.1.1
    exact ⟨h1.symm, fun _ => rfl, fun _ h2 => by cases h2⟩
/-- In w buttons that are as f, as far as they are told, lie at D. -/
structure Bx (w : World) (D : Nat) (f : Bs) : Prop where
  ex : ∃ q, Kb w D q ∧ BOk q ∧ ∀ k, k < 4 → Alk (q k) (f k)
theorem tellQ_ok {e : Bt} (h : BI e.s) (now : Int) : BI (tellQ e now).s := by
  unfold tellQ
  split
  · exact bi0
  · exact h
theorem kdueL_congr {f h : Bs} {now : Int} {n : Nat} (hk : ∀ k, k < n → Alk (f k) (h k)) : dueL f now n = dueL h now n := dueL_congr fun k hl => (hk k hl).due now

theorem but_cond : ButCond Bx where
  keep := by
    intro w w' D f h hb
    obtain ⟨q, h1, h2⟩ := h.ex
    exact ⟨q, h1.of_eq hb, h2⟩
  lt := by
    intro w D f h
    obtain ⟨q, h1, _⟩ := h.ex
    exact h1.lt
  zero := fun w => ⟨zeroB, Kb.zero w, zeroB_ok, fun _ _ => Alk.refl _⟩
  set := by
    intro x D f b now d h hf hb hn
    obtain ⟨q, h1, h2, h3⟩ := h.ex
    refine (kset_on h1 hb).mono ?_
    rintro e y ⟨rfl, h4, h5⟩
    by_cases hr : 0 ≤ b ∧ b ≤ 3
    · rw [setB_in hr.1 hr.2] at h4 ⊢
      rw [setB_in hr.1 hr.2]
      refine ⟨rfl, ⟨_, h4, upB_ok h2 (Bt.set_ok (h2 _) hn), fun k hk => ?_⟩, h5⟩
      show Alk (upB q _ _ k) (upB f _ _ k)
      unfold upB
      split
      · exact (h3 _ (by omega)).set d now
      · exact h3 k hk
    · rw [setB_out hr] at h4 ⊢
      rw [setB_out hr]
      exact ⟨rfl, ⟨q, h4, h2, h3⟩, h5⟩
  pressed := by
    intro x D f now h hf hn
    obtain ⟨q, h1, h2, h3⟩ := h.ex
    refine (kpressed_on h1 h2 hn).mono ?_
    rintro e y ⟨A, c, rfl, h4, h5, h6⟩
    have e1 : dueL q now 4 = (pressB f now).2 := kdueL_congr h3
    rw [e1] at h4 ⊢
    refine ⟨A, c, rfl, h4, ⟨_, h5, fun k => ?_, fun k hk => ?_⟩, h6⟩
    · unfold midQ
      show BI (if k < 4 then tellQ (q k) now else q k).s
      split
      · exact tellQ_ok (h2 k) now
      · exact h2 k
    · show Alk (if k < 4 then tellQ (q k) now else q k) ((f k).tell now)
      rw [if_pos hk]
      exact (h3 k hk).tell now
  reset := by
    intro x D f h hf
    obtain ⟨q, h1, h2, h3⟩ := h.ex
    refine (kreset_on h1).mono ?_
    rintro e y ⟨rfl, h4, h5⟩
    exact ⟨rfl, ⟨zeroB, h4, zeroB_ok, fun _ _ => Alk.refl _⟩, h5⟩
end Go.Proofs.Ytdcnmbglbopgdaa
