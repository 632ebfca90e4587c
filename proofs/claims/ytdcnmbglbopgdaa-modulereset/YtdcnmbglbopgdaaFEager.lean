/-
  A region that draws its order, by a plan: an operation that reads alone is taken as soon as it may come, under what is known of every world from here on (S); one that turns the world is carried out when nothing else may come up, AND BEHIND IT MORE MAY BE KNOWN (a stronger S).
  On OrdersHeld's 'wpAnyH', whose S stays one for the whole region.
-/
import Derived.Test.YtdcnmbglbopgdaaFBase
import Derived.Deep.RegionHeld3
namespace Go.Proofs.Ytdcnmbglbopgdaa
set_option linter.unusedVariables false
set_option linter.unusedSimpArgs false

section
variable {P : Program} {ops : Array Oper} {Q : Exit → Act → World → Prop} {md : Region.Mode}

theorem wpAnyH_weaken {S T : World → Prop} (hST : ∀ w, T w → S w) : ∀ (fuel : Nat) (listed : Array Bool) (a : Act) (w : World), wpAnyH P md ops Q T fuel listed a w → wpAnyH P md ops Q S fuel listed a w
  | 0, _, _, _, h => h
  | fuel + 1, _, _, _, h => ⟨h.1, fun i hi => wpOp_mono (fun a' w' h' => ⟨hST _ h'.1, wpAnyH_weaken hST fuel _ a' w' h'.2⟩) (h.2 i hi)⟩

/-- The steps that are left, one behind the other: (true, i): number i is taken; (false, i): number i is carried out. -/
def Plan (P : Program) (ops : Array Oper) (Q : Exit → Act → World → Prop) : List (Bool × Nat) → (World → Prop) → Act → World → Prop
  | [], _, a, w => Q .normal a w
  | (true, i) :: r, S, a, w => ∃ o v, ops[i]? = some o ∧ YieldsIf P ops S o v a ∧ Plan P ops Q r S (a.put o.dst v) w
  | (false, i) :: r, S, a, w => wpOp P ops Q i (fun a' w' => ∃ T : World → Prop, (∀ x, T x → S x) ∧ T w' ∧ Plan P ops Q r T a' w') a w

/-- The plan keeps to the region's edges. -/
def planOk (md : Region.Mode) (ops : Array Oper) : List (Bool × Nat) → Array Bool → Bool
  | [], listed => (Region.ready md ops listed).isEmpty
  | (true, i) :: r, listed => (Region.ready md ops listed).contains i && Region.free md ops listed i && planOk md ops r (listed.setIfInBounds i true)
  | (false, i) :: r, listed => (Region.ready md ops listed == [i]) && planOk md ops r (listed.setIfInBounds i true)

theorem Plan.held (hs : Region.noSelect ops = true) (hQ : ∀ c a w, ¬ Q (.panic c) a w) :
    ∀ (plan : List (Bool × Nat)) (S : World → Prop) (fuel : Nat) (listed : Array Bool) (a : Act) (w : World), plan.length ≤ fuel → planOk md ops plan listed = true → S w → Plan P ops Q plan S a w → wpAnyH P md ops Q S fuel listed a w
  | [], S, fuel, listed, a, w, _, hok, _, h => wpAnyH_done (by simpa [planOk] using hok) h fuel
  | (true, i) :: r, S, 0, _, _, _, hl, _, _, _ => by simp at hl
  | (false, i) :: r, S, 0, _, _, _, hl, _, _, _ => by simp at hl
  | (true, i) :: r, S, fuel + 1, listed, a, w, hl, hok, hS, h => by
    simp only [planOk, Bool.and_eq_true] at hok
    obtain ⟨o, v, ho, hy, hp⟩ := h
    exact wpAnyH_take ho hs hok.1.2 hok.1.1 (fun c a w hc => absurd hc (hQ c _ w)) hy hS (Plan.held hs hQ r S fuel _ _ w (by simpa using hl) hok.2 hS hp)
  | (false, i) :: r, S, fuel + 1, listed, a, w, hl, hok, _, h => by
    simp only [planOk, Bool.and_eq_true, beq_iff_eq] at hok
    refine wpAnyH_all hok.1 (by simp) (fun j hj => ?_)
    simp only [List.mem_singleton] at hj
    subst hj
    refine wpOp_mono (fun a' w' h' => ?_) h
    obtain ⟨T, hTS, hT, hp⟩ := h'
    exact ⟨hTS _ hT, wpAnyH_weaken hTS _ _ _ _ (Plan.held hs hQ r T fuel _ a' w' (by simpa using hl) hok.2 hT hp)⟩

/-- The beginning. -/
theorem region_plan {id : Nat} {a : Act} {w : World} (plan : List (Bool × Nat)) (S : World → Prop) (hm : P.follows .mixedOrders = true) (hs : Region.noSelect ops = true)
    (hok : planOk .any ops plan (Array.replicate ops.size false) = true) (hl : plan.length = ops.size) (hS : S w.drew) (h : Plan P ops (NoPanic Q) plan S a w.drew) : (Code.region id ops true).wp P Q a w :=
  wp_region_noPanic (wp_region_held_drew hm hS fun _ => Plan.held hs (fun _ _ _ h => h) plan S _ _ a _ (by omega) hok hS h)

/-- One that is taken. -/
theorem Plan.take {i : Nat} {r : List (Bool × Nat)} {S : World → Prop} {a : Act} {w : World} {o : Oper} {v : Value} (ho : ops.toList[i]? = some o) (hw : Region.wanted o (yielded ops a.tmps) = true)
    (hv : ∀ x, S x → (execOp a.eval o).run P x = .ok (.value v) x) (h : Plan P ops Q r S (a.put o.dst v) w) : Plan P ops Q ((true, i) :: r) S a w := ⟨o, v, by simpa using ho, .inl ⟨hw, hv⟩, h⟩
/-- One whose guard says no. -/
theorem Plan.skip {i : Nat} {r : List (Bool × Nat)} {S : World → Prop} {a : Act} {w : World} {o : Oper} (ho : ops.toList[i]? = some o) (hw : Region.wanted o (yielded ops a.tmps) = false)
    (h : Plan P ops Q r S (a.put o.dst undef) w) : Plan P ops Q ((true, i) :: r) S a w := ⟨o, undef, by simpa using ho, .inr ⟨hw, rfl⟩, h⟩
/-- One that is carried out: behind it the rest goes on, under whatever is known then. -/
theorem Plan.loud {i : Nat} {r : List (Bool × Nat)} {S : World → Prop} {a : Act} {w : World} {o : Oper} (ho : ops.toList[i]? = some o)
    (h : ∀ K : Act → World → Prop, Shut (∀ (T : World → Prop) a w, (∀ x, T x → S x) → T w → Plan P ops Q r T a w → K a w) → if Region.wanted o (yielded ops a.tmps) = true then Oper.wp P o a w K Q else K (a.put o.dst undef) w) :
    Plan P ops Q ((false, i) :: r) S a w := wpOp_step (by simpa using ho) fun K hK => h K (fun T a w h1 h2 h3 => hK a w ⟨T, h1, h2, h3⟩)
theorem Plan.done {S : World → Prop} {a : Act} {w : World} (h : Q .normal a w) : Plan P ops (NoPanic Q) [] S a w := NoPanic.normal h
end

attribute [irreducible] Plan

end Go.Proofs.Ytdcnmbglbopgdaa
