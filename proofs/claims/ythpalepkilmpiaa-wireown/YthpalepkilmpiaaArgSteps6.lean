/-
  Arguments as they come in: a fault, by value; a slice of steps.
-/
import Derived.Test.YthpalepkilmpiaaArgWire
import Derived.Test.YthpalepkilmpiaaWireY
import Derived.Deep.Slices
namespace Go.Proofs.Ythpalepkilmpiaa
set_option linter.unusedVariables false
set_option linter.unusedSimpArgs false
open Go.RowKit Go.ChangeShapes Go.WideShapes Go.Deep

theorem add_add6 (a : Addr) (i j : Nat) : (a.add i).add j = a.add (i + j) := by
  obtain ⟨b, o, s⟩ := a
  by_cases hi : i = 0 <;> by_cases hj : j = 0 <;> simp [Addr.add, hi, hj, Nat.add_assoc]
theorem byte_of_trod {H : Type} {enc : TypeId × Value → H} {W : World} {fuel : Nat} {v : Value} {x : DataW H × List MemPlace}
    (hf : DataW.trod enc Try.prog W 0 (fun _ => true) true fuel 5 [v] = some x) : ∃ n : UInt8, v = .int .u8 (n.toNat : Int) := by
  obtain ⟨z, e, _, hw⟩ := DataW.trod_int Try.underlying5 hf
  have hb := bounds_u8 hw
  simp at e
  refine ⟨UInt8.ofNat z.toNat, ?_⟩
  rw [e, UInt8.toNat_ofNat_of_lt' (by show z.toNat < 256; omega), show ((z.toNat : Nat) : Int) = z by omega]
theorem int_of_trod {H : Type} {enc : TypeId × Value → H} {W : World} {fuel : Nat} {v : Value} {x : DataW H × List MemPlace}
    (hf : DataW.trod enc Try.prog W 0 (fun _ => true) true fuel 3 [v] = some x) : ∃ n : Int, v = .int .i64 n := by
  obtain ⟨z, e, _, _⟩ := DataW.trod_int Try.underlying3 hf
  simp at e
  exact ⟨z, e⟩

set_option maxRecDepth 20000 in
theorem fcells_of_trod {H : Type} {enc : TypeId × Value → H} {W : World} {fuel : Nat} {cs : List Value} {x : DataW H × List MemPlace}
    (hf : DataW.trod enc Try.prog W 0 (fun _ => true) true fuel 30 cs = some x) :
    ∃ (f : Fl) (g : Nat) (A : Option Addr) (c : Nat), cs = [.int .i64 f.k, .int .i64 f.n, .int .u8 (f.y.toNat : Int), .slice A f.b.length c] ∧ Holds W g A (bcs f.b) ∧ f.b.length ≤ c ∧ c ≤ maxLen := by
  obtain ⟨ys, m, _, _, hcl, hlen, hfield⟩ := DataW.trod_struct Try.underlying30 hf
  have h4 : Try.prog.cellsOf 30 = 4 := by kernel_rfl
  have e0 : Try.prog.cellsOf 3 = 1 := by kernel_rfl
  have e1 : Try.prog.cellsOf 5 = 1 := by kernel_rfl
  have e2 : Try.prog.cellsOf 28 = 1 := by kernel_rfl
  match cs, hcl.trans h4 with
  | [v0, v1, v2, v3], _ =>
    match ys, hlen with
    | [y0, y1, y2, y3], _ =>
      have t0 := hfield 0 _ rfl
      have t1 := hfield 1 _ rfl
      have t2 := hfield 2 _ rfl
      have t3 := hfield 3 _ rfl
      simp [e0, e1, e2] at t0 t1 t2 t3
      obtain ⟨a, rfl⟩ := int_of_trod t0
      obtain ⟨k, rfl⟩ := int_of_trod t1
      obtain ⟨s, rfl⟩ := byte_of_trod t2
      obtain ⟨l, g, A, c, rfl, hh, hn, hm⟩ := bytes_of_trod t3
      exact ⟨⟨a, k, s, l⟩, g, A, c, rfl, hh, hn, hm⟩

theorem fault_of_trod {H : Type} {enc : TypeId × Value → H} {W : World} {b0 : Nat} {v : Value} {d : DataW H} {p : List MemPlace} (hv : Value.okWide Try.prog W .any b0 30 v)
    (h : DataW.Trod enc Try.prog W 0 (fun _ => true) true 30 v d p) :
    ∃ (f : Fl) (g : Nat) (A : Option Addr) (c : Nat), v = .agg #[.int .i64 f.k, .int .i64 f.n, .int .u8 (f.y.toNat : Int), .slice A f.b.length c] ∧ Holds W g A (bcs f.b) ∧ f.b.length ≤ c ∧ c ≤ maxLen := by
  obtain ⟨cs, rfl, hsz⟩ := okWide_struct Try.underlying30 hv
  obtain ⟨fuel, hf⟩ := h
  obtain ⟨vs⟩ := cs
  obtain ⟨f, g, A, c, hcs, hh, hn, hm⟩ := fcells_of_trod (cs := vs) (by simpa [Value.cells] using hf)
  subst hcs
  exact ⟨f, g, A, c, rfl, hh, hn, hm⟩

set_option maxRecDepth 20000 in
theorem scells_of_trod {H : Type} {enc : TypeId × Value → H} {W : World} {fuel : Nat} {cs : List Value} {x : DataW H × List MemPlace}
    (hf : DataW.trod enc Try.prog W 0 (fun _ => true) true fuel 32 cs = some x) :
    ∃ (s : St6) (gB : Nat) (AB : Option Addr) (cB gF : Nat) (AF : Option Addr) (cF : Nat), cs = [.int .i64 s.k, .slice AB s.b.length cB, .int .i64 s.f.k, .int .i64 s.f.n, .int .u8 (s.f.y.toNat : Int), .slice AF s.f.b.length cF] ∧ s.b.length ≤ cB ∧ cB ≤ maxLen ∧ Holds W gB AB (bcs s.b) ∧ s.f.b.length ≤ cF ∧ cF ≤ maxLen ∧ Holds W gF AF (bcs s.f.b) := by
  obtain ⟨ys, m, _, _, hcl, hlen, hfield⟩ := DataW.trod_struct Try.underlying32 hf
  have h6 : Try.prog.cellsOf 32 = 6 := by kernel_rfl
  have e0 : Try.prog.cellsOf 3 = 1 := by kernel_rfl
  have e2 : Try.prog.cellsOf 28 = 1 := by kernel_rfl
  have e4 : Try.prog.cellsOf 30 = 4 := by kernel_rfl
  match cs, hcl.trans h6 with
  | [v0, v1, v2, v3, v4, v5], _ =>
    match ys, hlen with
    | [y0, y1, y2], _ =>
      have t0 := hfield 0 _ rfl
      have t1 := hfield 1 _ rfl
      have t2 := hfield 2 _ rfl
      simp [e0, e2, e4] at t0 t1 t2
      obtain ⟨a, rfl⟩ := int_of_trod t0
      obtain ⟨l, g, A, c, rfl, hh, hn, hm⟩ := bytes_of_trod t1
      obtain ⟨f, gF, AF, cF, hcs, hhF, hnF, hmF⟩ := fcells_of_trod t2
      simp at hcs
      obtain ⟨rfl, rfl, rfl, rfl⟩ := hcs
      exact ⟨⟨a, l, f⟩, g, A, c, gF, AF, cF, rfl, hn, hm, hh, hnF, hmF, hhF⟩

theorem steps_of_trod {H : Type} {enc : TypeId × Value → H} {W : World} {fuel : Nat} {P : Option Addr} {n c : Nat} {x : DataW H × List MemPlace}
    (hf : DataW.trod enc Try.prog W 0 (fun _ => true) true fuel 22 [.slice P n c] = some x) :
    ∃ ss : List St6, StepsAt W P ss ∧ ss.length = n ∧ n ≤ c ∧ c ≤ maxLen := by
  rcases open_slice Try.underlying22 hf with ⟨hcs, _⟩ | ⟨a, len, cap, m, k, D, Pl, hcs, _, hl, hm, hmm, _, hx⟩
  · simp at hcs
    obtain ⟨rfl, rfl, rfl⟩ := hcs
    exact ⟨[], fun k l hk => by simp at hk, rfl, Nat.le_refl _, Nat.zero_le _⟩
  · simp at hcs
    obtain ⟨rfl, rfl, rfl⟩ := hcs
    have hmm' : m = c := by simpa using hmm
    subst hmm'
    have ce : Try.prog.cellsOf 32 = 6 := by kernel_rfl
    have hex : ∀ i, i < n → ∃ s : St6, ∃ (gB : Nat) (AB : Option Addr) (cB gF : Nat) (AF : Option Addr) (cF : Nat), (W.cell? (a.add (i * 6)) = some (.int .i64 s.k) ∧ W.cell? (a.add (i * 6 + 1)) = some (.slice AB s.b.length cB) ∧ W.cell? (a.add (i * 6 + 2)) = some (.int .i64 s.f.k) ∧ W.cell? (a.add (i * 6 + 3)) = some (.int .i64 s.f.n) ∧ W.cell? (a.add (i * 6 + 4)) = some (.int .u8 (s.f.y.toNat : Int)) ∧ W.cell? (a.add (i * 6 + 5)) = some (.slice AF s.f.b.length cF)) ∧
        s.b.length ≤ cB ∧ cB ≤ maxLen ∧ Holds W gB AB (bcs s.b) ∧ s.f.b.length ≤ cF ∧ cF ≤ maxLen ∧ Holds W gF AF (bcs s.f.b) := by
      intro i hi
      obtain ⟨cs', h1, h2⟩ := hx i (by omega)
      rw [ce] at h1
      obtain ⟨_, hlen, hcell⟩ := World.cells?_some h1
      obtain ⟨s, gB, AB, cB, gF, AF, cF, hcs, r1, r2, r3, r4, r5, r6⟩ := scells_of_trod h2
      subst hcs
      have e0 := hcell 0 (by omega)
      have e1 := hcell 1 (by omega)
      have e2 := hcell 2 (by omega)
      have e3 := hcell 3 (by omega)
      have e4 := hcell 4 (by omega)
      have e5 := hcell 5 (by omega)
      rw [add_add6] at e0 e1 e2 e3 e4 e5
      exact ⟨s, gB, AB, cB, gF, AF, cF, ⟨by simpa using e0, by simpa using e1, by simpa using e2, by simpa using e3, by simpa using e4, by simpa using e5⟩, r1, r2, r3, r4, r5, r6⟩
    haveI : Inhabited St6 := ⟨⟨0, [], ⟨0, 0, 0, []⟩⟩⟩
    obtain ⟨f, hfx⟩ := choose_lt hex
    refine ⟨(List.range n).map f, fun k s hk => ?_, by simp, hl, hm⟩
    have hkn : k < n := by
      rcases Nat.lt_or_ge k n with h | h
      · exact h
      · rw [List.getElem?_eq_none (by simpa using h)] at hk; cases hk
    have hl' : s = f k := by
      rw [List.getElem?_map, List.getElem?_range hkn] at hk
      simpa using hk.symm
    subst hl'
    obtain ⟨gB, AB, cB, gF, AF, cF, hc6, r1, r2, r3, r4, r5, r6⟩ := hfx k hkn
    obtain ⟨b, off, spot⟩ := a
    have hspot : spot = none := by
      obtain ⟨_, _, _, _, _, _, h0, _⟩ := hfx 0 (by omega)
      have := World.cell?_spot h0.1
      simpa [Addr.add] using this
    subst hspot
    simp only [addr_add] at hc6
    refine ⟨b, off, gB, AB, cB, gF, AF, cF, rfl, World.block_lt_of_cell? W _ hc6.1, ?_, r1, r2, r3, r4, r5, r6⟩
    simpa [Nat.add_assoc] using hc6

end Go.Proofs.Ythpalepkilmpiaa
