/-
  Arguments as layer 10's laws have them: a slice of steps, a slice of bools.
-/
import Derived.Test.YtgpgaeakioellaaButT
import Derived.Test.YtgpgaeakioellaaFArgs
import Derived.Deep.Slices
import Derived.Deep.Grids
namespace Go.Proofs.Ytgpgaeakioellaa
set_option linter.unusedVariables false
set_option linter.unusedSimpArgs false
open Go.RowKit Go.ChangeShapes Go.WideShapes Go.Deep

theorem add_add6 (a : Addr) (i j : Nat) : (a.add i).add j = a.add (i + j) := by
  obtain ⟨b, o, s⟩ := a
  by_cases hi : i = 0 <;> by_cases hj : j = 0 <;> simp [Addr.add, hi, hj, Nat.add_assoc]
theorem boolv_of_trod {H : Type} {enc : TypeId × Value → H} {W : World} {fuel : Nat} {v : Value} {x : DataW H × List MemPlace}
    (hf : DataW.trod enc Try.prog W 0 (fun _ => true) true fuel 4 [v] = some x) : ∃ b : Bool, v = .bool b := by
  obtain ⟨z, e, _⟩ := DataW.trod_bool Try.underlying4 hf
  simp at e
  exact ⟨z, e⟩
theorem int_of_trod {H : Type} {enc : TypeId × Value → H} {W : World} {fuel : Nat} {v : Value} {x : DataW H × List MemPlace}
    (hf : DataW.trod enc Try.prog W 0 (fun _ => true) true fuel 3 [v] = some x) : ∃ n : Int, v = .int .i64 n ∧ BI n := by
  obtain ⟨z, e, _, hw⟩ := DataW.trod_int Try.underlying3 hf
  have hb : BI z := bounds_i64 hw
  simp at e
  exact ⟨z, e, hb⟩
theorem bools_of_trod {H : Type} {enc : TypeId × Value → H} {W : World} {fuel : Nat} {A : Option Addr} {n c : Nat} {x : DataW H × List MemPlace}
    (hf : DataW.trod enc Try.prog W 0 (fun _ => true) true fuel 51 [.slice A n c] = some x) :
    ∃ (g : Nat) (l : List Bool), l.length = n ∧ Holds W g A (l.map Value.bool) ∧ n ≤ c ∧ c ≤ maxLen := by
  rcases open_bools Try.underlying51 Try.underlying4 (by kernel_rfl) hf with ⟨hcs, _⟩ | ⟨a, len, cap, B, hcs, _, hl, hm, _, hcell⟩
  · simp at hcs
    obtain ⟨rfl, rfl, rfl⟩ := hcs
    exact ⟨0, [], rfl, Holds.nil _ _ _, Nat.le_refl _, Nat.zero_le _⟩
  · simp at hcs
    obtain ⟨rfl, rfl, rfl⟩ := hcs
    refine ⟨a.block, (List.range n).map B, by simp, ?_, hl, hm⟩
    intro hp
    simp at hp
    have h0 := hcell 0 (by omega)
    obtain ⟨b, off, spot⟩ := a
    have hspot : spot = none := by simpa [Addr.add] using World.cell?_spot h0
    subst hspot
    have h0' : W.cell? ⟨b, off, none⟩ = some (.bool (B 0)) := by simpa [Addr.add] using h0
    refine ⟨World.block_lt_of_cell? W _ h0', off, rfl, fun j u hu => ?_⟩
    rw [List.map_map, List.getElem?_map] at hu
    by_cases hj : j < n
    · rw [List.getElem?_range hj] at hu
      have := hcell j (by omega)
      rw [addr_add] at this
      rw [this]
      simpa using hu
    · rw [List.getElem?_eq_none (by simpa using hj)] at hu
      cases hu

set_option maxRecDepth 20000 in
theorem st10_of_trod {H : Type} {enc : TypeId × Value → H} {W : World} {fuel : Nat} {cs : List Value} {x : DataW H × List MemPlace}
    (hf : DataW.trod enc Try.prog W 0 (fun _ => true) true fuel 35 cs = some x) : ∃ s : St10, cs = [.int .i64 s.k, .int .i64 s.b, .bool s.d, .int .i64 s.t] ∧ BI s.b ∧ BI s.t := by
  obtain ⟨ys, m, _, _, hcl, hlen, hfield⟩ := DataW.trod_struct Try.underlying35 hf
  have h4 : Try.prog.cellsOf 35 = 4 := by kernel_rfl
  have e0 : Try.prog.cellsOf 3 = 1 := by kernel_rfl
  have e1 : Try.prog.cellsOf 4 = 1 := by kernel_rfl
  match cs, hcl.trans h4 with
  | [v0, v1, v2, v3], _ =>
    match ys, hlen with
    | [y0, y1, y2, y3], _ =>
      have t0 := hfield 0 _ rfl
      have t1 := hfield 1 _ rfl
      have t2 := hfield 2 _ rfl
      have t3 := hfield 3 _ rfl
      simp [e0, e1] at t0 t1 t2 t3
      obtain ⟨k, rfl, _⟩ := int_of_trod t0
      obtain ⟨b, rfl, hb⟩ := int_of_trod t1
      obtain ⟨d, rfl⟩ := boolv_of_trod t2
      obtain ⟨t, rfl, ht⟩ := int_of_trod t3
      exact ⟨⟨k, b, d, t⟩, rfl, hb, ht⟩
theorem steps10_of_trod {H : Type} {enc : TypeId × Value → H} {W : World} {fuel : Nat} {P : Option Addr} {n c : Nat} {x : DataW H × List MemPlace}
    (hf : DataW.trod enc Try.prog W 0 (fun _ => true) true fuel 22 [.slice P n c] = some x) :
    ∃ ss : List St10, Steps10 W P ss ∧ ss.length = n ∧ n ≤ c ∧ c ≤ maxLen := by
  rcases open_slice Try.underlying22 hf with ⟨hcs, _⟩ | ⟨a, len, cap, m, k, D, Pl, hcs, _, hl, hm, hmm, _, hx⟩
  · simp at hcs
    obtain ⟨rfl, rfl, rfl⟩ := hcs
    exact ⟨[], fun k l hk => by simp at hk, rfl, Nat.le_refl _, Nat.zero_le _⟩
  · simp at hcs
    obtain ⟨rfl, rfl, rfl⟩ := hcs
    have hmm' : m = c := by simpa using hmm
    subst hmm'
    have ce : Try.prog.cellsOf 35 = 4 := by kernel_rfl
    have hex : ∀ i, i < n → ∃ s : St10, (W.cell? (a.add (i * 4)) = some (.int .i64 s.k) ∧ W.cell? (a.add (i * 4 + 1)) = some (.int .i64 s.b) ∧ W.cell? (a.add (i * 4 + 2)) = some (.bool s.d) ∧ W.cell? (a.add (i * 4 + 3)) = some (.int .i64 s.t)) ∧ BI s.b ∧ BI s.t := by
      intro i hi
      obtain ⟨cs', h1, h2⟩ := hx i (by omega)
      rw [ce] at h1
      obtain ⟨_, hlen, hcell⟩ := World.cells?_some h1
      obtain ⟨s, hcs, hr⟩ := st10_of_trod h2
      subst hcs
      have e0 := hcell 0 (by omega)
      have e1 := hcell 1 (by omega)
      have e2 := hcell 2 (by omega)
      have e3 := hcell 3 (by omega)
      rw [add_add6] at e0 e1 e2 e3
      exact ⟨s, ⟨by simpa using e0, by simpa using e1, by simpa using e2, by simpa using e3⟩, hr⟩
    haveI : Inhabited St10 := ⟨⟨0, 0, false, 0⟩⟩
    obtain ⟨f, hfx⟩ := choose_lt hex
    refine ⟨(List.range n).map f, fun k s hk => ?_, by simp, hl, hm⟩
    have hkn : k < n := by
      rcases Nat.lt_or_ge k n with h | h
      · exact h
      · rw [List.getElem?_eq_none (by simpa using h)] at hk; cases hk
    have hl' : s = f k := by
      rw [List.getElem?_map, List.getElem?_range hkn] at hk
      simpa using hk.symm
    subst hl'
    obtain ⟨⟨q1, q2, q3, q4⟩, hr⟩ := hfx k hkn
    obtain ⟨b, off, spot⟩ := a
    have hspot : spot = none := by
      obtain ⟨⟨h0, _⟩, _⟩ := hfx 0 (by omega)
      have := World.cell?_spot h0
      simpa [Addr.add] using this
    subst hspot
    simp only [addr_add] at q1 q2 q3 q4
    exact ⟨b, off, rfl, q1, by simpa [Nat.add_assoc] using q2, by simpa [Nat.add_assoc] using q3, by simpa [Nat.add_assoc] using q4, hr⟩

end Go.Proofs.Ytgpgaeakioellaa
