/-
  A row of bytes of one's own, whatever it holds: what is written anywhere keeps it.
-/
import Derived.Test.YtgpgaeakioellaaWireMem
namespace Go.Proofs.Ytgpgaeakioellaa
set_option linter.unusedVariables false
set_option linter.unusedSimpArgs false
open Go.RowKit

/-- A row of bytes of one's own, whatever bytes. -/
def OwnU (z : World) (B : Nat) (v : Value) (m : Nat) : Prop := ∃ l : List UInt8, l.length = m ∧ z.ownsRow B 5 1 v m (bcs l)
theorem OwnU.step {z y : World} {B m : Nat} {v : Value} (h : OwnU z B v m) (hb : Below z.heap.size z y) : OwnU y B v m := by
  obtain ⟨l, h1, h2⟩ := h
  exact ⟨l, h1, own_ft (B := 0) (T := []) h2 (Ft.of_below hb) (by simp)⟩
theorem OwnU.ft {z y : World} {B B' m : Nat} {T : List TypeId} {v : Value} (h : OwnU z B v m) (hf : Ft B' T z y) (hT : 5 ∉ T) : OwnU y B v m := by
  obtain ⟨l, h1, h2⟩ := h
  exact ⟨l, h1, own_ft h2 hf hT⟩
/-- A byte is written, in it or elsewhere. -/
theorem OwnU.set {z : World} {B m : Nat} {v : Value} (h : OwnU z B v m) (g k : Nat) (b : UInt8) : OwnU (z.setCell ⟨g, k, none⟩ (.int .u8 (b.toNat : Int))) B v m := by
  obtain ⟨l, h1, h2⟩ := h
  have hc : Ch [g] z (z.setCell ⟨g, k, none⟩ (.int .u8 (b.toNat : Int))) := (Ch.refl _ z).setCell (by simp) _
  by_cases hg : v.ownBlock = some g
  · rcases h2.2 with ⟨rfl, _⟩ | ⟨g', cap, cur, rfl, _⟩
    · simp [Value.ownBlock] at hg
    · simp [Value.ownBlock] at hg
      subst hg
      have := (h2.stored k (.int .u8 (b.toNat : Int))).1
      rw [show (bcs l).set k (.int .u8 (b.toNat : Int)) = bcs (l.set k b) by simp [bcs, List.map_set]] at this
      exact ⟨l.set k b, by rw [List.length_set]; exact h1, this⟩
  · exact ⟨l, h1, ownB_ch h2 hc (fun j hj hm => by simp at hm; subst hm; exact hg hj)⟩
/-- Where it lies. -/
theorem OwnU.at {z : World} {B m c : Nat} {A : Option Addr} (h : OwnU z B (.slice A m c) m) (k : Nat) (hk : k < m) : ∃ g b, A = some ⟨g, 0, none⟩ ∧ B ≤ g ∧ BlockIn z g [5] ∧ z.cell? ⟨g, k, none⟩ = some (.int .u8 ((b : UInt8).toNat : Int)) ∧ z.frozen? ⟨g, k, none⟩ = false := by
  obtain ⟨l, h1, h2⟩ := h
  rcases h2.2 with ⟨_, h0⟩ | ⟨g, cap, cur, hv, hb, hh, _⟩
  · omega
  · injection hv with hA _ hc
    subst hA
    exact ⟨g, l[k]'(by omega), rfl, hb, ⟨_, _, _, hh, by simp⟩, by rw [h2.cellAt k (by omega), bcs_get l k (by omega)], h2.frozenAt k⟩

end Go.Proofs.Ytgpgaeakioellaa
