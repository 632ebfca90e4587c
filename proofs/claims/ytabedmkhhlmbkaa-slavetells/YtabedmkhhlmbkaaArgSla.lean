/-
  Arguments as layer 8's laws have them: a slice of ops, a slice of steps.
-/
import Derived.Test.YtabedmkhhlmbkaaArgMas
namespace Go.Proofs.Ytabedmkhhlmbkaa
set_option linter.unusedVariables false
set_option linter.unusedSimpArgs false
open Go.RowKit Go.ChangeShapes Go.WideShapes Go.Deep

def OpsAt (W : World) (P : Option Addr) (ks : List Int) : Prop := ∃ g, Holds W g P (ks.map (Value.int .i64))
set_option maxRecDepth 20000 in
theorem ocells_of_trod {H : Type} {enc : TypeId × Value → H} {W : World} {fuel : Nat} {cs : List Value} {x : DataW H × List MemPlace}
    (hf : DataW.trod enc Try.prog W 0 (fun _ => true) true fuel 56 cs = some x) : ∃ k : Int, cs = [.int .i64 k] := by
  obtain ⟨ys, m, _, _, hcl, hlen, hfield⟩ := DataW.trod_struct Try.underlying56 hf
  have h1 : Try.prog.cellsOf 56 = 1 := by kernel_rfl
  have e0 : Try.prog.cellsOf 3 = 1 := by kernel_rfl
  match cs, hcl.trans h1 with
  | [v0], _ =>
    match ys, hlen with
    | [y0], _ =>
      have t0 := hfield 0 _ rfl
      simp [e0] at t0
      obtain ⟨a, rfl⟩ := int_of_trod t0
      exact ⟨a, rfl⟩
theorem ops_of_trod {H : Type} {enc : TypeId × Value → H} {W : World} {fuel : Nat} {P : Option Addr} {n c : Nat} {x : DataW H × List MemPlace}
    (hf : DataW.trod enc Try.prog W 0 (fun _ => true) true fuel 51 [.slice P n c] = some x) :
    ∃ ks : List Int, OpsAt W P ks ∧ ks.length = n ∧ n ≤ c ∧ c ≤ maxLen := by
  rcases open_slice Try.underlying51 hf with ⟨hcs, _⟩ | ⟨a, len, cap, m, k, D, Pl, hcs, _, hl, hm, hmm, _, hx⟩
  · simp at hcs
    obtain ⟨rfl, rfl, rfl⟩ := hcs
    exact ⟨[], ⟨0, Holds.nil _ _ _⟩, rfl, Nat.le_refl _, Nat.zero_le _⟩
  · simp at hcs
    obtain ⟨rfl, rfl, rfl⟩ := hcs
    have hmm' : m = c := by simpa using hmm
    subst hmm'
    have ce : Try.prog.cellsOf 56 = 1 := by kernel_rfl
    have hex : ∀ i, i < n → ∃ k : Int, W.cell? (a.add i) = some (.int .i64 k) := by
      intro i hi
      obtain ⟨cs', h1, h2⟩ := hx i (by omega)
      rw [ce] at h1
      obtain ⟨_, hlen, hcell⟩ := World.cells?_some h1
      obtain ⟨k, hcs⟩ := ocells_of_trod h2
      subst hcs
      have e0 := hcell 0 (by omega)
      rw [add_add6] at e0
      exact ⟨k, by simpa using e0⟩
    obtain ⟨f, hfx⟩ := choose_lt hex
    refine ⟨(List.range n).map f, ⟨a.block, fun hp => ?_⟩, by simp, hl, hm⟩
    have hn : 0 < n := by simpa using hp
    obtain ⟨b, off, spot⟩ := a
    have hspot : spot = none := by
      have := World.cell?_spot (hfx 0 hn)
      simpa [Addr.add] using this
    subst hspot
    have h0 := hfx 0 hn
    rw [addr_add] at h0
    refine ⟨World.block_lt_of_cell? W _ h0, off, rfl, fun j u hu => ?_⟩
    have hj : j < n := by
      rcases Nat.lt_or_ge j n with h | h
      · exact h
      · rw [List.getElem?_eq_none (by simpa using h)] at hu; cases hu
    have hk := hfx j hj
    rw [addr_add] at hk
    rw [List.getElem?_map, List.getElem?_map, List.getElem?_range hj] at hu
    simp at hu
    rw [hk, ← hu]

set_option maxRecDepth 20000 in
theorem scells8_of_trod {H : Type} {enc : TypeId × Value → H} {W : World} {fuel : Nat} {cs : List Value} {x : DataW H × List MemPlace}
    (hf : DataW.trod enc Try.prog W 0 (fun _ => true) true fuel 32 cs = some x) :
    ∃ (s : St7) (g : Nat) (A : Option Addr) (c : Nat), cs = [.int .i64 s.k, .int .u8 (s.f.a : Int), .int .u8 (s.f.k : Int), .int .u8 (s.f.s : Int), .int .u8 (s.f.q : Int), .int .u8 (s.f.c : Int), .slice A s.f.b.length c, .bool s.own] ∧ s.f.Fits ∧ Holds W g A (bcs s.f.b) ∧ s.f.b.length ≤ c ∧ c ≤ maxLen := by
  obtain ⟨ys, m, _, _, hcl, hlen, hfield⟩ := DataW.trod_struct Try.underlying32 hf
  have h8 : Try.prog.cellsOf 32 = 8 := by kernel_rfl
  have e0 : Try.prog.cellsOf 3 = 1 := by kernel_rfl
  have e2 : Try.prog.cellsOf 4 = 1 := by kernel_rfl
  have e6 : Try.prog.cellsOf 30 = 6 := by kernel_rfl
  match cs, hcl.trans h8 with
  | [v0, v1, v2, v3, v4, v5, v6, v7], _ =>
    match ys, hlen with
    | [y0, y1, y2], _ =>
      have t0 := hfield 0 _ rfl
      have t1 := hfield 1 _ rfl
      have t2 := hfield 2 _ rfl
      simp [e0, e2, e6] at t0 t1 t2
      obtain ⟨a, rfl⟩ := int_of_trod t0
      obtain ⟨F, g, A, c, hcs, hr⟩ := cells_of_trod t1
      obtain ⟨b, rfl⟩ := bool_of_trod t2
      simp at hcs
      obtain ⟨rfl, rfl, rfl, rfl, rfl, rfl⟩ := hcs
      exact ⟨⟨a, F, b⟩, g, A, c, rfl, hr⟩

theorem steps8_of_trod {H : Type} {enc : TypeId × Value → H} {W : World} {fuel : Nat} {P : Option Addr} {n c : Nat} {x : DataW H × List MemPlace}
    (hf : DataW.trod enc Try.prog W 0 (fun _ => true) true fuel 22 [.slice P n c] = some x) :
    ∃ ss : List St7, StepsAt W P ss ∧ ss.length = n ∧ n ≤ c ∧ c ≤ maxLen := by
  rcases open_slice Try.underlying22 hf with ⟨hcs, _⟩ | ⟨a, len, cap, m, k, D, Pl, hcs, _, hl, hm, hmm, _, hx⟩
  · simp at hcs
    obtain ⟨rfl, rfl, rfl⟩ := hcs
    exact ⟨[], fun k l hk => by simp at hk, rfl, Nat.le_refl _, Nat.zero_le _⟩
  · simp at hcs
    obtain ⟨rfl, rfl, rfl⟩ := hcs
    have hmm' : m = c := by simpa using hmm
    subst hmm'
    have ce : Try.prog.cellsOf 32 = 8 := by kernel_rfl
    have hex : ∀ i, i < n → ∃ s : St7, ∃ (g : Nat) (A : Option Addr) (c : Nat), (W.cell? (a.add (i * 8)) = some (.int .i64 s.k) ∧ W.cell? (a.add (i * 8 + 1)) = some (.int .u8 (s.f.a : Int)) ∧ W.cell? (a.add (i * 8 + 2)) = some (.int .u8 (s.f.k : Int)) ∧ W.cell? (a.add (i * 8 + 3)) = some (.int .u8 (s.f.s : Int)) ∧ W.cell? (a.add (i * 8 + 4)) = some (.int .u8 (s.f.q : Int)) ∧ W.cell? (a.add (i * 8 + 5)) = some (.int .u8 (s.f.c : Int)) ∧ W.cell? (a.add (i * 8 + 6)) = some (.slice A s.f.b.length c) ∧ W.cell? (a.add (i * 8 + 7)) = some (.bool s.own)) ∧
        s.f.Fits ∧ Holds W g A (bcs s.f.b) ∧ s.f.b.length ≤ c ∧ c ≤ maxLen := by
      intro i hi
      obtain ⟨cs', h1, h2⟩ := hx i (by omega)
      rw [ce] at h1
      obtain ⟨_, hlen, hcell⟩ := World.cells?_some h1
      obtain ⟨s, g, A, c', hcs, hr⟩ := scells8_of_trod h2
      subst hcs
      have e0 := hcell 0 (by omega)
      have e1 := hcell 1 (by omega)
      have e2 := hcell 2 (by omega)
      have e3 := hcell 3 (by omega)
      have e4 := hcell 4 (by omega)
      have e5 := hcell 5 (by omega)
      have e6 := hcell 6 (by omega)
      have e7 := hcell 7 (by omega)
      rw [add_add6] at e0 e1 e2 e3 e4 e5 e6 e7
      exact ⟨s, g, A, c', ⟨by simpa using e0, by simpa using e1, by simpa using e2, by simpa using e3, by simpa using e4, by simpa using e5, by simpa using e6, by simpa using e7⟩, hr⟩
    haveI : Inhabited St7 := ⟨⟨0, ⟨0, 0, 0, 0, 0, []⟩, false⟩⟩
    obtain ⟨f, hfx⟩ := choose_lt hex
    refine ⟨(List.range n).map f, fun k s hk => ?_, by simp, hl, hm⟩
    have hkn : k < n := by
      rcases Nat.lt_or_ge k n with h | h
      · exact h
      · rw [List.getElem?_eq_none (by simpa using h)] at hk; cases hk
    have hl' : s = f k := by
      rw [List.getElem?_map, List.getElem?_range hkn] at hk
      simpa using hk.symm
    subst hl'
    obtain ⟨g, A, c', hc8, hr⟩ := hfx k hkn
    obtain ⟨b, off, spot⟩ := a
    have hspot : spot = none := by
      obtain ⟨g0, A0, c0, h0, _⟩ := hfx 0 (by omega)
      have := World.cell?_spot h0.1
      simpa [Addr.add] using this
    subst hspot
    simp only [addr_add] at hc8
    obtain ⟨q0, q1, q2, q3, q4, q5, q6, q7⟩ := hc8
    refine ⟨b, off, g, A, c', rfl, World.block_lt_of_cell? W _ q0, q0, ?_, by simpa [Nat.add_assoc] using q7, hr⟩
    unfold FrameAt
    simp only [Nat.add_assoc] at q1 q2 q3 q4 q5 q6 ⊢
    exact ⟨q1, q2, q3, q4, q5, q6⟩

end Go.Proofs.Ytabedmkhhlmbkaa
