/-
  A region that draws its order, by a tree: as by a plan (Eager), but where two operations that turn the world may come up, either is carried out first.
-/
import Derived.Test.YtdcnmbglbopgdaaFEager
namespace Go.Proofs.Ytdcnmbglbopgdaa
set_option linter.unusedVariables false
set_option linter.unusedSimpArgs false

inductive PT where
  | done
  | take (i : Nat) (r : PT)
  | one (i : Nat) (r : PT)
  | two (i : Nat) (r : PT) (j : Nat) (s : PT)

section
variable {P : Program} {ops : Array Oper} {Q : Exit → Act → World → Prop} {md : Region.Mode}

def PT.size : PT → Nat
  | .done => 0
  | .take _ r => r.size + 1
  | .one _ r => r.size + 1
  | .two _ r _ s => max r.size s.size + 1

def Tree (P : Program) (ops : Array Oper) (Q : Exit → Act → World → Prop) : PT → (World → Prop) → Act → World → Prop
  | .done, _, a, w => Q .normal a w
  | .take i r, S, a, w => ∃ o v, ops[i]? = some o ∧ YieldsIf P ops S o v a ∧ Tree P ops Q r S (a.put o.dst v) w
  | .one i r, S, a, w => wpOp P ops Q i (fun a' w' => ∃ T : World → Prop, (∀ x, T x → S x) ∧ T w' ∧ Tree P ops Q r T a' w') a w
  | .two i r j s, S, a, w => wpOp P ops Q i (fun a' w' => ∃ T : World → Prop, (∀ x, T x → S x) ∧ T w' ∧ Tree P ops Q r T a' w') a w ∧ wpOp P ops Q j (fun a' w' => ∃ T : World → Prop, (∀ x, T x → S x) ∧ T w' ∧ Tree P ops Q s T a' w') a w

def treeOk (md : Region.Mode) (ops : Array Oper) : PT → Array Bool → Bool
  | .done, listed => (Region.ready md ops listed).isEmpty
  | .take i r, listed => (Region.ready md ops listed).contains i && Region.free md ops listed i && treeOk md ops r (listed.setIfInBounds i true)
  | .one i r, listed => (Region.ready md ops listed == [i]) && treeOk md ops r (listed.setIfInBounds i true)
  | .two i r j s, listed => (Region.ready md ops listed == [i, j]) && treeOk md ops r (listed.setIfInBounds i true) && treeOk md ops s (listed.setIfInBounds j true)

theorem Tree.held (hs : Region.noSelect ops = true) (hQ : ∀ c a w, ¬ Q (.panic c) a w) :
    ∀ (t : PT) (S : World → Prop) (fuel : Nat) (listed : Array Bool) (a : Act) (w : World), t.size ≤ fuel → treeOk md ops t listed = true → S w → Tree P ops Q t S a w → wpAnyH P md ops Q S fuel listed a w
  | .done, S, fuel, listed, a, w, _, hok, _, h => wpAnyH_done (by simpa [treeOk] using hok) h fuel
  | .take i r, S, 0, _, _, _, hl, _, _, _ => by simp [PT.size] at hl
  | .one i r, S, 0, _, _, _, hl, _, _, _ => by simp [PT.size] at hl
  | .two i r j s, S, 0, _, _, _, hl, _, _, _ => by simp [PT.size] at hl
  | .take i r, S, fuel + 1, listed, a, w, hl, hok, hS, h => by
    simp only [treeOk, Bool.and_eq_true] at hok
    obtain ⟨o, v, ho, hy, hp⟩ := h
    exact wpAnyH_take ho hs hok.1.2 hok.1.1 (fun c a w hc => absurd hc (hQ c _ w)) hy hS (Tree.held hs hQ r S fuel _ _ w (by simpa [PT.size] using hl) hok.2 hS hp)
  | .one i r, S, fuel + 1, listed, a, w, hl, hok, _, h => by
    simp only [treeOk, Bool.and_eq_true, beq_iff_eq] at hok
    refine wpAnyH_all hok.1 (by simp) (fun j hj => ?_)
    simp only [List.mem_singleton] at hj
    subst hj
    refine wpOp_mono (fun a' w' h' => ?_) h
    obtain ⟨T, hTS, hT, hp⟩ := h'
    exact ⟨hTS _ hT, wpAnyH_weaken hTS _ _ _ _ (Tree.held hs hQ r T fuel _ a' w' (by simpa [PT.size] using hl) hok.2 hT hp)⟩
  | .two i r j s, S, fuel + 1, listed, a, w, hl, hok, _, h => by
    simp only [treeOk, Bool.and_eq_true, beq_iff_eq] at hok
    simp only [PT.size] at hl
    refine wpAnyH_all hok.1.1 (by simp) (fun k hk => ?_)
    simp only [List.mem_cons, List.not_mem_nil, or_false] at hk
    rcases hk with rfl | rfl
    · refine wpOp_mono (fun a' w' h' => ?_) h.1
      obtain ⟨T, hTS, hT, hp⟩ := h'
      exact ⟨hTS _ hT, wpAnyH_weaken hTS _ _ _ _ (Tree.held hs hQ r T fuel _ a' w' (by omega) hok.1.2 hT hp)⟩
    · refine wpOp_mono (fun a' w' h' => ?_) h.2
      obtain ⟨T, hTS, hT, hp⟩ := h'
      exact ⟨hTS _ hT, wpAnyH_weaken hTS _ _ _ _ (Tree.held hs hQ s T fuel _ a' w' (by omega) hok.2 hT hp)⟩

theorem region_tree {id : Nat} {a : Act} {w : World} (t : PT) (S : World → Prop) (hm : P.follows .mixedOrders = true) (hs : Region.noSelect ops = true)
    (hok : treeOk .any ops t (Array.replicate ops.size false) = true) (hl : decide (t.size ≤ ops.size) = true) (hS : S w.drew) (h : Tree P ops (NoPanic Q) t S a w.drew) : (Code.region id ops true).wp P Q a w :=
  wp_region_noPanic (wp_region_held_drew hm hS fun _ => Tree.held hs (fun _ _ _ h => h) t S _ _ a _ (of_decide_eq_true hl) hok hS h)

theorem Tree.take {i : Nat} {r : PT} {S : World → Prop} {a : Act} {w : World} {o : Oper} {v : Value} (ho : ops.toList[i]? = some o) (hw : Region.wanted o (yielded ops a.tmps) = true)
    (hv : ∀ x, S x → (execOp a.eval o).run P x = .ok (.value v) x) (h : Tree P ops Q r S (a.put o.dst v) w) : Tree P ops Q (.take i r) S a w := ⟨o, v, by simpa using ho, .inl ⟨hw, hv⟩, h⟩
theorem Tree.one {i : Nat} {r : PT} {S : World → Prop} {a : Act} {w : World} {o : Oper} (ho : ops.toList[i]? = some o)
    (h : ∀ K : Act → World → Prop, Shut (∀ (T : World → Prop) a w, (∀ x, T x → S x) → T w → Tree P ops Q r T a w → K a w) → if Region.wanted o (yielded ops a.tmps) = true then Oper.wp P o a w K Q else K (a.put o.dst undef) w) :
    Tree P ops Q (.one i r) S a w := wpOp_step (by simpa using ho) fun K hK => h K (fun T a w h1 h2 h3 => hK a w ⟨T, h1, h2, h3⟩)
theorem Tree.two {i j : Nat} {r s : PT} {S : World → Prop} {a : Act} {w : World} {o u : Oper} (ho : ops.toList[i]? = some o) (hu : ops.toList[j]? = some u)
    (h : ∀ K : Act → World → Prop, Shut (∀ (T : World → Prop) a w, (∀ x, T x → S x) → T w → Tree P ops Q r T a w → K a w) → if Region.wanted o (yielded ops a.tmps) = true then Oper.wp P o a w K Q else K (a.put o.dst undef) w)
    (h' : ∀ K : Act → World → Prop, Shut (∀ (T : World → Prop) a w, (∀ x, T x → S x) → T w → Tree P ops Q s T a w → K a w) → if Region.wanted u (yielded ops a.tmps) = true then Oper.wp P u a w K Q else K (a.put u.dst undef) w) :
    Tree P ops Q (.two i r j s) S a w :=
  ⟨wpOp_step (by simpa using ho) fun K hK => h K (fun T a w h1 h2 h3 => hK a w ⟨T, h1, h2, h3⟩), wpOp_step (by simpa using hu) fun K hK => h' K (fun T a w h1 h2 h3 => hK a w ⟨T, h1, h2, h3⟩)⟩
theorem Tree.done {S : World → Prop} {a : Act} {w : World} (h : Q .normal a w) : Tree P ops (NoPanic Q) .done S a w := NoPanic.normal h
end

attribute [irreducible] Tree

end Go.Proofs.Ytdcnmbglbopgdaa
