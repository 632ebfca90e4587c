/-
  A region that draws its order and ends with one store that waits for all others: as by a tree (FTrees), but behind that last one nothing need hold that its store has turned.
-/
import Derived.Test.YtdcnmbglbopgdaaFTrees
namespace Go.Proofs.Ytdcnmbglbopgdaa
set_option linter.unusedVariables false
set_option linter.unusedSimpArgs false

section
variable {P : Program} {ops : Array Oper} {Q : Exit → Act → World → Prop} {md : Region.Mode} {z : Nat}

/-- Number z waits for number i itself. -/
def waitsB (md : Region.Mode) (ops : Array Oper) (z i : Nat) : Bool := match ops[z]? with
  | none => false
  | some o => o.after.toList.any fun e => Region.binds md e && e.on == i
theorem waitsB_spec {i : Nat} (h : waitsB md ops z i = true) {o : Oper} (ho : ops[z]? = some o) : ∃ e ∈ o.after, Region.binds md e = true ∧ e.on = i := by
  unfold waitsB at h
  rw [ho] at h
  simp only [List.any_eq_true, Bool.and_eq_true, beq_iff_eq] at h
  obtain ⟨e, he, h2, h3⟩ := h
  exact ⟨e, by simpa using he, h2, h3⟩

/-- Whatever order is picked from here on, and S holds behind every operation but number z. -/
def wpAnyL (P : Program) (md : Region.Mode) (ops : Array Oper) (Q : Exit → Act → World → Prop) (z : Nat) (S : World → Prop) : Nat → Array Bool → Act → World → Prop
  | 0, listed, a, w => Region.ready md ops listed = [] ∧ Q .normal a w
  | fuel + 1, listed, a, w =>
    (Region.ready md ops listed = [] → Q .normal a w) ∧
    ∀ i ∈ Region.ready md ops listed, wpOp P ops Q i (fun a' w' => (i ≠ z → S w') ∧ wpAnyL P md ops Q z S fuel (listed.setIfInBounds i true) a' w') a w
theorem wpAnyL_weaken {S T : World → Prop} (hST : ∀ w, T w → S w) : ∀ (fuel : Nat) (listed : Array Bool) (a : Act) (w : World), wpAnyL P md ops Q z T fuel listed a w → wpAnyL P md ops Q z S fuel listed a w
  | 0, _, _, _, h => h
  | fuel + 1, _, _, _, h => ⟨h.1, fun i hi => wpOp_mono (fun a' w' h' => ⟨fun hz => hST _ (h'.1 hz), wpAnyL_weaken hST fuel _ a' w' h'.2⟩) (h.2 i hi)⟩

theorem wpAnyL_first {S : World → Prop} {i : Nat} {oi : Oper} {v : Value} (hi : ops[i]? = some oi) (hl : waitsB md ops z i = true) (hsel : ∀ (j : Nat) (o : Oper) cs b, ops[j]? = some o → o.op ≠ .select cs b)
    (hQ : ∀ c a w, Q (.panic c) (a.put oi.dst v) w → Q (.panic c) a w) :
    ∀ (fuel : Nat) (listed : Array Bool) (a : Act) (w : World),
      (∀ j oj, ops[j]? = some oj → j ≠ i → listed.getD j true = false → (∀ e ∈ oj.after, Region.binds md e = true → e.on ≠ i) → oi.apart ops oj = true) →
      i ∈ Region.ready md ops listed → YieldsIf P ops S oi v a → S w →
      wpAnyL P md ops Q z S fuel (listed.setIfInBounds i true) (a.put oi.dst v) w → wpAnyL P md ops Q z S (fuel + 1) listed a w := by
  intro fuel
  induction fuel with
  | zero =>
    intro listed a w _ hr hy hS H
    refine ⟨fun h => (by rw [h] at hr; cases hr), fun j hj => ?_⟩
    by_cases hji : j = i
    · subst hji; exact hy.wpOp hi hS ⟨fun _ => hS, H⟩
    · have := ready_mono hj hji
      rw [H.1] at this
      cases this
  | succ fuel ih =>
    intro listed a w hfree hr hy hS H
    refine ⟨fun h => (by rw [h] at hr; cases hr), fun j hj => ?_⟩
    by_cases hji : j = i
    · subst hji; exact hy.wpOp hi hS ⟨fun _ => hS, H⟩
    · have h1 := H.2 j (ready_mono hj hji)
      obtain ⟨hjun, oj, hoj, hall⟩ := mem_ready.1 hj
      have hnot : ∀ e ∈ oj.after, Region.binds md e = true → e.on ≠ i := fun e he hb heq => by
        have h1 := hall e he hb
        have h0 := (mem_ready.1 hr).1
        rw [heq] at h1
        rcases Nat.lt_or_ge i listed.size with h' | h'
        · simp [h'] at h0 h1; rw [h0] at h1; cases h1
        · simp [Array.getElem?_eq_none h'] at h1
      have hjz : j ≠ z := by
        rintro rfl
        obtain ⟨e, he, hb, heq⟩ := waitsB_spec hl hoj
        exact hnot e he hb heq
      have h2 := wpOp_putIf hoj (hfree j oj hoj hji hjun hnot) (fun cs b => hsel i oi cs b hi) (fun cs b => hsel j oj cs b hoj) hQ hy h1
      have hfree' : ∀ k ok, ops[k]? = some ok → k ≠ i → (listed.setIfInBounds j true).getD k true = false →
          (∀ e ∈ ok.after, Region.binds md e = true → e.on ≠ i) → oi.apart ops ok = true := fun k ok hk hki hun hno => by
        refine hfree k ok hk hki ?_ hno
        by_cases hjk : j = k
        · subst hjk; exact hjun
        · rw [getD_set_ne true hjk] at hun; exact hun
      refine wpOp_mono (fun a' w' h3 => ⟨h3.2.1, ih (listed.setIfInBounds j true) a' w' hfree' (ready_mono hr (Ne.symm hji)) h3.1 (h3.2.1 hjz) ?_⟩) h2
      rw [Array.setIfInBounds_comm _ _ hji]
      exact h3.2.2
theorem wpAnyL_take {S : World → Prop} {i : Nat} {oi : Oper} {v : Value} {fuel : Nat} {listed : Array Bool} {a : Act} {w : World} (hi : ops[i]? = some oi) (hl : waitsB md ops z i = true)
    (hs : Region.noSelect ops = true) (hf : Region.free md ops listed i = true) (hr : (Region.ready md ops listed).contains i = true)
    (hQ : ∀ c a w, Q (.panic c) (a.put oi.dst v) w → Q (.panic c) a w) (hy : YieldsIf P ops S oi v a) (hS : S w)
    (h : wpAnyL P md ops Q z S fuel (listed.setIfInBounds i true) (a.put oi.dst v) w) : wpAnyL P md ops Q z S (fuel + 1) listed a w :=
  wpAnyL_first hi hl (Region.noSelect_spec hs) hQ fuel listed a w (Region.free_spec hi hf) (by simpa using hr) hy hS h
theorem wpAnyL_all {S : World → Prop} {rs : List Nat} {fuel : Nat} {listed : Array Bool} {a : Act} {w : World} (hr : Region.ready md ops listed = rs) (hne : rs ≠ [])
    (h : ∀ i ∈ rs, wpOp P ops Q i (fun a' w' => (i ≠ z → S w') ∧ wpAnyL P md ops Q z S fuel (listed.setIfInBounds i true) a' w') a w) : wpAnyL P md ops Q z S (fuel + 1) listed a w :=
  ⟨fun h0 => absurd (hr ▸ h0) hne, hr ▸ h⟩
theorem wpAnyL_done {S : World → Prop} {listed : Array Bool} {a : Act} {w : World} (hr : Region.ready md ops listed = []) (h : Q .normal a w) : ∀ fuel, wpAnyL P md ops Q z S fuel listed a w
  | 0 => ⟨hr, h⟩
  | _ + 1 => ⟨fun _ => h, by rw [hr]; simp⟩

/-- The steps that are left; number z comes last. -/
def TreeL (P : Program) (ops : Array Oper) (Q : Exit → Act → World → Prop) (z : Nat) : PT → (World → Prop) → Act → World → Prop
  | .done, _, _, _ => False
  | .take i r, S, a, w => waitsB .any ops z i = true ∧ ∃ o v, ops[i]? = some o ∧ YieldsIf P ops S o v a ∧ TreeL P ops Q z r S (a.put o.dst v) w
  | .one i r, S, a, w => if i = z then r = .done ∧ wpOp P ops Q i (fun a' w' => Q .normal a' w') a w else wpOp P ops Q i (fun a' w' => ∃ T : World → Prop, (∀ x, T x → S x) ∧ T w' ∧ TreeL P ops Q z r T a' w') a w
  | .two i r j s, S, a, w => i ≠ z ∧ j ≠ z ∧ wpOp P ops Q i (fun a' w' => ∃ T : World → Prop, (∀ x, T x → S x) ∧ T w' ∧ TreeL P ops Q z r T a' w') a w ∧ wpOp P ops Q j (fun a' w' => ∃ T : World → Prop, (∀ x, T x → S x) ∧ T w' ∧ TreeL P ops Q z s T a' w') a w

theorem TreeL.held (hs : Region.noSelect ops = true) (hQ : ∀ c a w, ¬ Q (.panic c) a w) :
    ∀ (t : PT) (S : World → Prop) (fuel : Nat) (listed : Array Bool) (a : Act) (w : World), t.size ≤ fuel → treeOk .any ops t listed = true → S w → TreeL P ops Q z t S a w → wpAnyL P .any ops Q z S fuel listed a w
  | .done, S, fuel, listed, a, w, _, hok, _, h => h.elim
  | .take i r, S, 0, _, _, _, hl, _, _, _ => by simp [PT.size] at hl
  | .one i r, S, 0, _, _, _, hl, _, _, _ => by simp [PT.size] at hl
  | .two i r j s, S, 0, _, _, _, hl, _, _, _ => by simp [PT.size] at hl
  | .take i r, S, fuel + 1, listed, a, w, hfu, hok, hS, h => by
    simp only [treeOk, Bool.and_eq_true] at hok
    obtain ⟨hl, o, v, ho, hy, hp⟩ := h
    exact wpAnyL_take ho hl hs hok.1.2 hok.1.1 (fun c a w hc => absurd hc (hQ c _ w)) hy hS (TreeL.held hs hQ r S fuel _ _ w (by simpa [PT.size] using hfu) hok.2 hS hp)
  | .one i r, S, fuel + 1, listed, a, w, hfu, hok, _, h => by
    simp only [treeOk, Bool.and_eq_true, beq_iff_eq] at hok
    refine wpAnyL_all hok.1 (by simp) (fun j hj => ?_)
    simp only [List.mem_singleton] at hj
    subst hj
    unfold TreeL at h
    by_cases hz : j = z
    · rw [if_pos hz] at h
      obtain ⟨rfl, h⟩ := h
      exact wpOp_mono (fun a' w' h' => ⟨fun hn => absurd hz hn, wpAnyL_done (by simpa [treeOk] using hok.2) h' fuel⟩) h
    · rw [if_neg hz] at h
      refine wpOp_mono (fun a' w' h' => ?_) h
      obtain ⟨T, hTS, hT, hp⟩ := h'
      exact ⟨fun _ => hTS _ hT, wpAnyL_weaken hTS _ _ _ _ (TreeL.held hs hQ r T fuel _ a' w' (by simpa [PT.size] using hfu) hok.2 hT hp)⟩
  | .two i r j s, S, fuel + 1, listed, a, w, hfu, hok, _, h => by
    simp only [treeOk, Bool.and_eq_true, beq_iff_eq] at hok
    simp only [PT.size] at hfu
    obtain ⟨_, _, h1, h2⟩ := h
    refine wpAnyL_all hok.1.1 (by simp) (fun k hk => ?_)
    simp only [List.mem_cons, List.not_mem_nil, or_false] at hk
    rcases hk with rfl | rfl
    · refine wpOp_mono (fun a' w' h' => ?_) h1
      obtain ⟨T, hTS, hT, hp⟩ := h'
      exact ⟨fun _ => hTS _ hT, wpAnyL_weaken hTS _ _ _ _ (TreeL.held hs hQ r T fuel _ a' w' (by omega) hok.1.2 hT hp)⟩
    · refine wpOp_mono (fun a' w' h' => ?_) h2
      obtain ⟨T, hTS, hT, hp⟩ := h'
      exact ⟨fun _ => hTS _ hT, wpAnyL_weaken hTS _ _ _ _ (TreeL.held hs hQ s T fuel _ a' w' (by omega) hok.2 hT hp)⟩

theorem TreeL.take {i : Nat} {r : PT} {S : World → Prop} {a : Act} {w : World} {o : Oper} {v : Value} (hz : waitsB .any ops z i = true) (ho : ops.toList[i]? = some o) (hw : Region.wanted o (yielded ops a.tmps) = true)
    (hv : ∀ x, S x → (execOp a.eval o).run P x = .ok (.value v) x) (h : TreeL P ops Q z r S (a.put o.dst v) w) : TreeL P ops Q z (.take i r) S a w := ⟨hz, o, v, by simpa using ho, .inl ⟨hw, hv⟩, h⟩
theorem TreeL.one {i : Nat} {r : PT} {S : World → Prop} {a : Act} {w : World} {o : Oper} (hz : i ≠ z) (ho : ops.toList[i]? = some o)
    (h : ∀ K : Act → World → Prop, Shut (∀ (T : World → Prop) a w, (∀ x, T x → S x) → T w → TreeL P ops Q z r T a w → K a w) → if Region.wanted o (yielded ops a.tmps) = true then Oper.wp P o a w K Q else K (a.put o.dst undef) w) :
    TreeL P ops Q z (.one i r) S a w := by
  unfold TreeL
  rw [if_neg hz]
  exact wpOp_step (by simpa using ho) fun K hK => h K (fun T a w h1 h2 h3 => hK a w ⟨T, h1, h2, h3⟩)
theorem TreeL.two {i j : Nat} {r s : PT} {S : World → Prop} {a : Act} {w : World} {o u : Oper} (hi : i ≠ z) (hj : j ≠ z) (ho : ops.toList[i]? = some o) (hu : ops.toList[j]? = some u)
    (h : ∀ K : Act → World → Prop, Shut (∀ (T : World → Prop) a w, (∀ x, T x → S x) → T w → TreeL P ops Q z r T a w → K a w) → if Region.wanted o (yielded ops a.tmps) = true then Oper.wp P o a w K Q else K (a.put o.dst undef) w)
    (h' : ∀ K : Act → World → Prop, Shut (∀ (T : World → Prop) a w, (∀ x, T x → S x) → T w → TreeL P ops Q z s T a w → K a w) → if Region.wanted u (yielded ops a.tmps) = true then Oper.wp P u a w K Q else K (a.put u.dst undef) w) :
    TreeL P ops Q z (.two i r j s) S a w :=
  ⟨hi, hj, wpOp_step (by simpa using ho) fun K hK => h K (fun T a w h1 h2 h3 => hK a w ⟨T, h1, h2, h3⟩), wpOp_step (by simpa using hu) fun K hK => h' K (fun T a w h1 h2 h3 => hK a w ⟨T, h1, h2, h3⟩)⟩
end

attribute [irreducible] TreeL

end Go.Proofs.Ytdcnmbglbopgdaa
