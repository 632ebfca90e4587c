/-
  Four buttons of the program beside the document's.
-/
import Derived.Test.YtgpgaeakioellaaButT
import Derived.Test.YtgpgaeakioellaaButQ
namespace Go.Proofs.Ytgpgaeakioellaa
set_option linter.unusedVariables false
set_option linter.unusedSimpArgs false
open Go.RowKit

theorem Bx10.ft {w y : World} {X B : Nat} {s : St10} {Ts : List TypeId} (h : Bx10 w X s) (hc : Ft B Ts w y) (hT : 35 ∉ Ts) : Bx10 y X s := hc.keep h hT
/-- The two of them. -/
structure Tr (Bl : World → Nat → Bs → Prop) (w : World) (D R : Nat) (f : Bs) (l : List Ev) (x : World) : Prop where
  a : Lb Bl w D f x
  b : R10 x R l
  te : Tells l f
  bi : ∀ v ∈ l, BI v.n
  lt : D < R
variable {Bl : World → Nat → Bs → Prop}
theorem Tr.step {w x y : World} {D R : Nat} {f : Bs} {l : List Ev} (BC : ButCond Bl) (h : Tr Bl w D R f l x) (hb : Below x.heap.size x y) : Tr Bl w D R f l y := ⟨h.a.step BC hb, h.b.step hb, h.te, h.bi, h.lt⟩
theorem Tr.start {w x : World} (BC : ButCond Bl) (hb : Below w.heap.size w x) : Tr Bl w x.heap.size (x.heap.size + 1) zeroB [] ((x.alloc (.cells bz 29)).alloc (.cells #[.slice none 0 0] 33)) := by
  have h1 := Lb.zero BC hb
  have h2 := R10.zero (x.alloc (.cells bz 29))
  have e : (x.alloc (.cells bz 29)).heap.size = x.heap.size + 1 := by simp
  rw [e] at h2
  exact ⟨h1.step BC (new_below _ _), h2, Tells.nil, (fun v hv => by cases hv), Nat.lt_succ_self _⟩
/-- Both were set. -/
theorem Tr.both {w x y : World} {D R : Nat} {f' : Bs} {l' : List Ev} (BC : ButCond Bl) (hD : D < R) (h1 : Lb Bl w D f' x) (hR : R < x.heap.size) (h2 : R10 y R l') (hf : Ft R Te10 x y) (ht : Tells l' f') (hi : ∀ v ∈ l', BI v.n) : Tr Bl w D R f' l' y :=
  ⟨h1.low BC hD (hf.below (Nat.le_of_lt hR)), h2, ht, hi, hD⟩
theorem bi_snoc {l : List Ev} {v : Ev} (h : ∀ u ∈ l, BI u.n) (hv : BI v.n) : ∀ u ∈ l ++ [v], BI u.n := by
  intro u hu
  rcases List.mem_append.1 hu with hu | hu
  · exact h u hu
  · simp at hu
    subst hu
    exact hv
theorem bi_told {l : List Ev} {f : Bs} {now : Int} (h : ∀ u ∈ l, BI u.n) : ∀ u ∈ l ++ toldE f now 4, BI u.n := by
  intro u hu
  rcases List.mem_append.1 hu with hu | hu
  · exact h u hu
  · exact toldE_bi u hu
theorem Tells.dueL {l : List Ev} {f : Bs} (h : Tells l f) (now : Int) : dueL (gE l) now 4 = Go.Proofs.Ytgpgaeakioellaa.dueL f now 4 := dueL_congr (fun k hk => (h.in_ k (by omega)).due now)
theorem Tells.toldE {l : List Ev} {f : Bs} (h : Tells l f) (now : Int) : toldE (gE l) now 4 = Go.Proofs.Ytgpgaeakioellaa.toldE f now 4 := by
  unfold Go.Proofs.Ytgpgaeakioellaa.toldE
  rw [h.dueL]
/-- A row of numbers of one's own, whatever numbers. -/
def IrU (z : World) (B : Nat) (A : Option Addr) (m c : Nat) : Prop := ∃ l : List Nat, Ir z B m A c l
theorem IrU.set {z : World} {B m c : Nat} {A : Option Addr} (h : IrU z B A m c) (g k v : Nat) (hA : A = some ⟨g, 0, none⟩) : IrU (z.setCell ⟨g, k, none⟩ (.int .i64 (v : Int))) B A m c := by
  obtain ⟨l, h1, h2⟩ := h
  subst hA
  rcases h1.2 with ⟨hh, _⟩ | ⟨g', cap, cur, hh, r⟩
  · cases hh
  · injection hh with hA _ hc
    injection hA with hA
    injection hA with hA
    subst hA hc
    have h1' : z.ownsRow B 3 1 (.slice (some ⟨g, 0, none⟩) m c) m (ics l) := ⟨h1.1, .inr ⟨g, c, cur, rfl, r⟩⟩
    have := (h1'.stored k (.int .i64 (v : Int))).1
    rw [show (ics l).set k (.int .i64 (v : Int)) = ics (l.set k v) by simp [ics, List.map_set]] at this
    exact ⟨l.set k v, this, by rw [List.length_set]; exact h2⟩
theorem IrU.at {z : World} {B m c : Nat} {A : Option Addr} (h : IrU z B A m c) (k : Nat) (hk : k < m) : ∃ g u, A = some ⟨g, 0, none⟩ ∧ B ≤ g ∧ BlockIn z g [3] ∧ z.cell? ⟨g, k, none⟩ = some (.int .i64 ((u : Nat) : Int)) ∧ z.frozen? ⟨g, k, none⟩ = false := by
  obtain ⟨l, h1⟩ := h
  obtain ⟨g, q1, q2, q3, q4⟩ := h1.at k hk
  refine ⟨g, _, q1, q2, ?_, q3, q4⟩
  rcases h1.own.2 with ⟨_, h0⟩ | ⟨g', cap, cur, hv, hb, hh, _⟩
  · omega
  · injection hv with hA _ hc
    rw [q1] at hA
    injection hA with hA
    injection hA with hA
    subst hA
    exact ⟨_, _, _, hh, by simp⟩
/-- A number is written into it. -/
theorem Tr.far {w x y : World} {D R g : Nat} {f : Bs} {l : List Ev} (BC : ButCond Bl) (h : Tr Bl w D R f l x) (hc : Ch [g] x y) (hg : R < g) (hb : BlockIn x g [3]) : Tr Bl w D R f l y := by
  have h1 := h.lt
  have h2 := h.a.le
  exact ⟨h.a.off BC hc (by omega) (by omega), h.b.ft (B := 0) (Ts := [3]) (Ft.of_ch hc (fun z hz _ => by simp at hz; subst hz; exact ⟨Nat.zero_le _, hb⟩)) (by decide) (by decide), h.te, h.bi, h.lt⟩
/-- All is up again. -/
theorem Tr.clear {w x : World} {D R : Nat} {l : List Ev} (BC : ButCond Bl) (h1 : Lb Bl w D zeroB x) (h2 : R10 x R l) (hD : D < R) : Tr Bl w D R zeroB [] (x.setCell ⟨R, 0, none⟩ (.slice none 0 0)) ∧ Ch [R] x (x.setCell ⟨R, 0, none⟩ (.slice none 0 0)) := by
  obtain ⟨A, c, k1, k2⟩ := h2.ex
  obtain ⟨q1, q2⟩ := but_put (i := 0) (v := .slice none 0 0) k1
  have h3 := h1.le
  exact ⟨⟨h1.off BC q2 (by omega) (by omega), ⟨none, 0, by rw [q1]; rfl, World.ownsRow_nil _ _ _ _⟩, Tells.nil, (fun v hv => by cases hv), hD⟩, q2⟩
end Go.Proofs.Ytgpgaeakioellaa
