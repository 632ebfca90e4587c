/-
  The landed module keeps to what the laws' walks of layer 11 want (ModC): its slave and its buttons by value in one block, what is pending in another.
-/
import Derived.Test.YtdcnmbglbopgdaaModKe
namespace Go.Proofs.Ytdcnmbglbopgdaa
set_option linter.unusedVariables false
set_option linter.unusedSimpArgs false
open Go.RowKit

/-- A module m at D, its blocks F. -/
structure Mp (w : World) (F : List Nat) (D : Nat) (m : Mo) : Prop where
  ex : ∃ A c q, w.heap[D]? = some (.cells (mall m q (.slice A m.s.pend.length c)) 90 (0, 0)) ∧ w.ownsRow 0 5 1 (.slice A m.s.pend.length c) m.s.pend.length (bcs m.s.pend) ∧ F = D :: ablk A ∧ BOk q ∧ ∀ k, k < 4 → Alk (q k) (m.f k)
theorem Mp.mv {w : World} {F : List Nat} {D : Nat} {m : Mo} (h : Mp w F D m) : ∃ q, Mv w (fun b => b ∈ F ∨ w.heap.size ≤ b) D m q ∧ BOk q ∧ (∀ k, k < 4 → Alk (q k) (m.f k)) ∧ D ∈ F := by
  obtain ⟨A, c, q, h1, h2, rfl, h4, h5⟩ := h.ex
  exact ⟨q, ⟨A, c, h1, h2, fun b hb => .inl (by simp [hb])⟩, h4, h5, by simp⟩
theorem Mv.mq {x y : World} {F : List Nat} {D : Nat} {m : Mo} {q : Bs} (h : Mv y (fun b => b ∈ F ∨ x.heap.size ≤ b) D m q) (hq : BOk q) (ha : ∀ k, k < 4 → Alk (q k) (m.f k)) (hD : D ∈ F) (hc : Ch [D] x y) : Mq Mp F x y D m := by
  obtain ⟨A, c, h1, h2, h3⟩ := h.at_
  refine ⟨D :: ablk A, ⟨A, c, q, h1, h2, rfl, hq, ha⟩, hc.mono (by intro z hz _; simp at hz; exact hz ▸ hD), fun k hk => ?_⟩
  rcases List.mem_cons.1 hk with rfl | hk
  · exact .inl hD
  · exact h3 k hk
theorem ablk_own {w : World} {A : Option Addr} {n c : Nat} {xs : List Value} (h : w.ownsRow 0 5 1 (.slice A n c) n xs) : ∀ b ∈ ablk A, b < w.heap.size ∧ ∀ w' : World, w'.heap[b]? = w.heap[b]? → w'.ownsRow 0 5 1 (.slice A n c) n xs := by
  intro b hb
  rcases h.2 with ⟨hn, _⟩ | ⟨g, cap, cur, hv, h1, h2, h3⟩
  · injection hn with hn _ _
    subst hn
    simp [ablk] at hb
  · injection hv with hA hn hc
    subst hA
    simp [ablk] at hb
    subst hb
    refine ⟨(Array.getElem?_eq_some_iff.1 h2).1, fun w' hw => ⟨h.1, .inr ⟨_, cap, cur, by rw [hc], h1, hw.trans h2, h3⟩⟩⟩
theorem own_none {w w' : World} {n c : Nat} {xs : List Value} (h : w.ownsRow 0 5 1 (.slice none n c) n xs) : w'.ownsRow 0 5 1 (.slice none n c) n xs := by
  refine ⟨h.1, ?_⟩
  rcases h.2 with hn | ⟨g, cap, cur, hv, _⟩
  · exact .inl hn
  · injection hv with hA; cases hA
theorem kfoldMo_f : ∀ (l : List Nat) (m : Mo), (l.foldl pressMo m).f = m.f
  | [], _ => rfl
  | b :: l, m => by
    rw [List.foldl_cons, kfoldMo_f l, pressMo_f]
theorem tickMo_f (m : Mo) (now : Int) : (tickMo m now).f = (pressB m.f now).1 := by
  unfold tickMo
  rw [kfoldMo_f]

theorem mod_cond : ModCond Mp where
  keep := by
    intro w w' F D m h hF
    obtain ⟨A, c, q, h1, h2, rfl, h4, h5⟩ := h.ex
    refine ⟨A, c, q, (hF D (by simp)).trans h1, ?_, rfl, h4, h5⟩
    cases A with
    | none => exact own_none h2
    | some a => exact (ablk_own h2 a.block (by simp [ablk])).2 w' (hF a.block (by simp [ablk]))
  lt := by
    intro w F D m h k hk
    obtain ⟨A, c, q, h1, h2, rfl, h4, h5⟩ := h.ex
    rcases List.mem_cons.1 hk with rfl | hk
    · exact (Array.getElem?_eq_some_iff.1 h1).1
    · exact (ablk_own h2 k hk).1
  new := by
    intro x a ha
    refine (knew_on (P := fun _ => False)).mono ?_
    rintro e y ⟨D, rfl, h1, h2, h3⟩
    obtain ⟨A, c, k1, k2, k3⟩ := h1.at_
    refine ⟨D, D :: ablk A, rfl, ⟨A, c, zeroB, k1, k2, rfl, zeroB_ok, fun _ _ => Alk.refl _⟩, h2, fun k hk => ?_⟩
    rcases List.mem_cons.1 hk with rfl | hk
    · exact h3
    · exact absurd (k3 k hk) id
  take := by
    intro x F D g c m f A h hok hh hg hf hc hm hl
    obtain ⟨q, h1, h2, h3, h4⟩ := h.mv
    refine (ktake_m (c := c) h1 hok ⟨g, hh, ?_⟩ hl).mono ?_
    · rcases hg with hg | hg
      · exact .inl hg
      · exact .inr (fun he => hg (he ▸ h4))
    · rintro e y ⟨A1, c1, rfl, k1, k2, k3⟩
      refine ⟨A1, c1, rfl, k1, k2.mq h2 ?_ h4 k3⟩
      rw [show (takeMo m f).1.f = m.f from (cmd_f _ _).1]
      exact h3
  set := by
    intro x F D m b now d h hok hb hn
    obtain ⟨q, h1, h2, h3, h4⟩ := h.mv
    refine (kset_m h1 hb (setB m.f b d now).1).mono ?_
    rintro e y ⟨rfl, k1, k2⟩
    by_cases hr : 0 ≤ b ∧ b ≤ 3
    · have e1 : setB q b d now = (upB q b.toNat ((q b.toNat).set d now), 0) := setB_in hr.1 hr.2 d now
      have e2 : setB m.f b d now = (upB m.f b.toNat ((m.f b.toNat).set d now), 0) := setB_in hr.1 hr.2 d now
      have e3 : (setB q b d now).2 = (setB m.f b d now).2 := by rw [e1, e2]
      rw [e3]
      refine ⟨rfl, k1.mq ?_ (fun k hk => ?_) h4 k2⟩
      · rw [e1]
        exact upB_ok h2 (Bt.set_ok (h2 _) hn)
      · show Alk ((setB q b d now).1 k) ((setB m.f b d now).1 k)
        rw [e1, e2]
        show Alk (upB q _ _ k) (upB m.f _ _ k)
        unfold upB
        split
        · exact (h3 _ (by omega)).set d now
        · exact h3 k hk
    · have e1 : setB q b d now = (q, 1) := setB_out hr d now
      have e2 : setB m.f b d now = (m.f, 1) := setB_out hr d now
      have e3 : (setB q b d now).2 = (setB m.f b d now).2 := by rw [e1, e2]
      rw [e3]
      refine ⟨rfl, k1.mq ?_ (fun k hk => ?_) h4 k2⟩
      · rw [e1]
        exact h2
      · show Alk ((setB q b d now).1 k) ((setB m.f b d now).1 k)
        rw [e1, e2]
        exact h3 k hk
  tick := by
    intro x F D m now h hok hn
    obtain ⟨q, h1, h2, h3, h4⟩ := h.mv
    refine (ktick_m h1 (fun b hb => .inr hb) h2 hok hn (kdueL_congr h3)).mono ?_
    rintro e y ⟨rfl, k1, k2⟩
    refine ⟨rfl, k1.mq (fun k => ?_) (fun k hk => ?_) h4 k2⟩
    · unfold midQ
      show BI (if k < 4 then tellQ (q k) now else q k).s
      split
      · exact tellQ_ok (h2 k) now
      · exact h2 k
    · have hf : (tickMo m now).f = (pressB m.f now).1 := tickMo_f m now
      rw [hf]
      show Alk (if k < 4 then tellQ (q k) now else q k) ((m.f k).tell now)
      rw [if_pos hk]
      exact (h3 k hk).tell now
  show_ := by
    intro x F D m h hok
    obtain ⟨q, h1, _⟩ := h.mv
    exact kshow_on h1
  reset := by
    intro x F D m h hok
    obtain ⟨q, h1, h2, h3, h4⟩ := h.mv
    refine (kreset_m h1).mono ?_
    rintro e y ⟨rfl, k1, k2⟩
    exact ⟨rfl, k1.mq zeroB_ok (fun _ _ => Alk.refl _) h4 k2⟩
  cbytes := by
    intro x k t q hk ht hq
    exact kcbytes_on hk ht hq
  ebytes := by
    intro x k t q hk ht hq
    exact kebytes_on hk ht hq
  cparse := by
    intro x g n c A l hh hn hc hm hl
    exact kpcommand_on hh hn
  eparse := by
    intro x g n c A l hh hn hc hm hl
    exact kpevent_on hh hn
end Go.Proofs.Ytdcnmbglbopgdaa
