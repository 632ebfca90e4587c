/-
  Arguments as layer 11's laws have them: a slice of steps; a command, an event, by value.
-/
import Derived.Test.YtdcnmbglbopgdaaArgMas
import Derived.Test.YtdcnmbglbopgdaaModV
namespace Go.Proofs.Ytdcnmbglbopgdaa
set_option linter.unusedVariables false
set_option linter.unusedSimpArgs false
open Go.RowKit Go.ChangeShapes Go.WideShapes Go.Deep

theorem int64_of_trod {H : Type} {enc : TypeId × Value → H} {W : World} {fuel : Nat} {v : Value} {x : DataW H × List MemPlace}
    (hf : DataW.trod enc Try.prog W 0 (fun _ => true) true fuel 3 [v] = some x) : ∃ n : Int, v = .int .i64 n ∧ (-9223372036854775808 ≤ n ∧ n ≤ 9223372036854775807) := by
  obtain ⟨z, e, _, hw⟩ := DataW.trod_int Try.underlying3 hf
  have hb := bounds_i64 hw
  simp at e
  exact ⟨z, e, hb⟩
set_option maxRecDepth 20000 in
theorem scells11_of_trod {H : Type} {enc : TypeId × Value → H} {W : World} {fuel : Nat} {cs : List Value} {x : DataW H × List MemPlace}
    (hf : DataW.trod enc Try.prog W 0 (fun _ => true) true fuel 38 cs = some x) :
    ∃ (s : St11) (g : Nat) (A : Option Addr) (c : Nat), cs = [.int .i64 s.k, .int .i64 s.n, .bool s.d, .int .u8 (s.f.a : Int), .int .u8 (s.f.k : Int), .int .u8 (s.f.s : Int), .int .u8 (s.f.q : Int), .int .u8 (s.f.c : Int), .slice A s.f.b.length c, .bool s.own] ∧ (-9223372036854775808 ≤ s.n ∧ s.n ≤ 9223372036854775807) ∧ s.f.Fits ∧ Holds W g A (bcs s.f.b) ∧ s.f.b.length ≤ c ∧ c ≤ maxLen := by
  obtain ⟨ys, m, _, _, hcl, hlen, hfield⟩ := DataW.trod_struct Try.underlying38 hf
  have h8 : Try.prog.cellsOf 38 = 10 := by kernel_rfl
  have e0 : Try.prog.cellsOf 3 = 1 := by kernel_rfl
  have e2 : Try.prog.cellsOf 4 = 1 := by kernel_rfl
  have e6 : Try.prog.cellsOf 36 = 6 := by kernel_rfl
  match cs, hcl.trans h8 with
  | [v0, v1, v2, v3, v4, v5, v6, v7, v8, v9], _ =>
    match ys, hlen with
    | [y0, y1, y2, y3, y4], _ =>
      have t0 := hfield 0 _ rfl
      have t1 := hfield 1 _ rfl
      have t2 := hfield 2 _ rfl
      have t3 := hfield 3 _ rfl
      have t4 := hfield 4 _ rfl
      simp [e0, e2, e6] at t0 t1 t2 t3 t4
      obtain ⟨a, rfl⟩ := int_of_trod t0
      obtain ⟨n, rfl, hn⟩ := int64_of_trod t1
      obtain ⟨d, rfl⟩ := bool_of_trod t2
      obtain ⟨F, g, A, c, hcs, hr⟩ := cells_of_trod t3
      obtain ⟨b, rfl⟩ := bool_of_trod t4
      simp at hcs
      obtain ⟨rfl, rfl, rfl, rfl, rfl, rfl⟩ := hcs
      exact ⟨⟨a, n, d, F, b⟩, g, A, c, rfl, hn, hr⟩

theorem steps11_of_trod {H : Type} {enc : TypeId × Value → H} {W : World} {fuel : Nat} {P : Option Addr} {n c : Nat} {x : DataW H × List MemPlace}
    (hf : DataW.trod enc Try.prog W 0 (fun _ => true) true fuel 22 [.slice P n c] = some x) :
    ∃ ss : List St11, Steps11 W P ss ∧ ss.length = n ∧ n ≤ c ∧ c ≤ maxLen := by
  rcases open_slice Try.underlying22 hf with ⟨hcs, _⟩ | ⟨a, len, cap, m, k, D, Pl, hcs, _, hl, hm, hmm, _, hx⟩
  · simp at hcs
    obtain ⟨rfl, rfl, rfl⟩ := hcs
    exact ⟨[], fun k l hk => by simp at hk, rfl, Nat.le_refl _, Nat.zero_le _⟩
  · simp at hcs
    obtain ⟨rfl, rfl, rfl⟩ := hcs
    have hmm' : m = c := by simpa using hmm
    subst hmm'
    have ce : Try.prog.cellsOf 38 = 10 := by kernel_rfl
    have hex : ∀ i, i < n → ∃ s : St11, ∃ (g : Nat) (A : Option Addr) (c : Nat), (W.cell? (a.add (i * 10)) = some (.int .i64 s.k) ∧ W.cell? (a.add (i * 10 + 1)) = some (.int .i64 s.n) ∧ W.cell? (a.add (i * 10 + 2)) = some (.bool s.d) ∧ W.cell? (a.add (i * 10 + 3)) = some (.int .u8 (s.f.a : Int)) ∧ W.cell? (a.add (i * 10 + 4)) = some (.int .u8 (s.f.k : Int)) ∧ W.cell? (a.add (i * 10 + 5)) = some (.int .u8 (s.f.s : Int)) ∧ W.cell? (a.add (i * 10 + 6)) = some (.int .u8 (s.f.q : Int)) ∧ W.cell? (a.add (i * 10 + 7)) = some (.int .u8 (s.f.c : Int)) ∧ W.cell? (a.add (i * 10 + 8)) = some (.slice A s.f.b.length c) ∧ W.cell? (a.add (i * 10 + 9)) = some (.bool s.own)) ∧
        (-9223372036854775808 ≤ s.n ∧ s.n ≤ 9223372036854775807) ∧ s.f.Fits ∧ Holds W g A (bcs s.f.b) ∧ s.f.b.length ≤ c ∧ c ≤ maxLen := by
      intro i hi
      obtain ⟨cs', h1, h2⟩ := hx i (by omega)
      rw [ce] at h1
      obtain ⟨_, hlen, hcell⟩ := World.cells?_some h1
      obtain ⟨s, g, A, c', hcs, hr⟩ := scells11_of_trod h2
      subst hcs
      have e0 := hcell 0 (by omega)
      have e1 := hcell 1 (by omega)
      have e2 := hcell 2 (by omega)
      have e3 := hcell 3 (by omega)
      have e4 := hcell 4 (by omega)
      have e5 := hcell 5 (by omega)
      have e6 := hcell 6 (by omega)
      have e7 := hcell 7 (by omega)
      have e8 := hcell 8 (by omega)
      have e9 := hcell 9 (by omega)
      rw [add_add6] at e0 e1 e2 e3 e4 e5 e6 e7 e8 e9
      exact ⟨s, g, A, c', ⟨by simpa using e0, by simpa using e1, by simpa using e2, by simpa using e3, by simpa using e4, by simpa using e5, by simpa using e6, by simpa using e7, by simpa using e8, by simpa using e9⟩, hr⟩
    haveI : Inhabited St11 := ⟨⟨0, 0, false, ⟨0, 0, 0, 0, 0, []⟩, false⟩⟩
    obtain ⟨f, hfx⟩ := choose_lt hex
    refine ⟨(List.range n).map f, fun k s hk => ?_, by simp, hl, hm⟩
    have hkn : k < n := by
      rcases Nat.lt_or_ge k n with h | h
      · exact h
      · rw [List.getElem?_eq_none (by simpa using h)] at hk; cases hk
    have hl' : s = f k := by
      rw [List.getElem?_map, List.getElem?_range hkn] at hk
      simpa using hk.symm
    subst hl'
    obtain ⟨g, A, c', hc8, hr⟩ := hfx k hkn
    obtain ⟨b, off, spot⟩ := a
    have hspot : spot = none := by
      obtain ⟨g0, A0, c0, h0, _⟩ := hfx 0 (by omega)
      have := World.cell?_spot h0.1
      simpa [Addr.add] using this
    subst hspot
    simp only [addr_add] at hc8
    obtain ⟨q0, q1, q2, q3, q4, q5, q6, q7, q8, q9⟩ := hc8
    refine ⟨b, off, g, A, c', rfl, World.block_lt_of_cell? W _ q0, q0, by simpa [Nat.add_assoc] using q1, by simpa [Nat.add_assoc] using q2, ?_, by simpa [Nat.add_assoc] using q9, hr⟩
    unfold FrameAt
    simp only [Nat.add_assoc] at q3 q4 q5 q6 q7 q8 ⊢
    exact ⟨q3, q4, q5, q6, q7, q8⟩


theorem u16_of_trod {H : Type} {enc : TypeId × Value → H} {W : World} {fuel : Nat} {v : Value} {x : DataW H × List MemPlace}
    (hf : DataW.trod enc Try.prog W 0 (fun _ => true) true fuel 51 [v] = some x) : ∃ n : Nat, v = .int .u16 (n : Int) ∧ n < 65536 := by
  obtain ⟨z, e, _, hw⟩ := DataW.trod_int Try.underlying51 hf
  have hb := bounds_u16 hw
  simp at e
  exact ⟨z.toNat, by rw [e, show ((z.toNat : Nat) : Int) = z by omega], by omega⟩

set_option maxRecDepth 20000 in
theorem command_of_trod {H : Type} {enc : TypeId × Value → H} {W : World} {b0 : Nat} {v : Value} {d : DataW H} {p : List MemPlace} (hv : Value.okWide Try.prog W .any b0 60 v)
    (h : DataW.Trod enc Try.prog W 0 (fun _ => true) true 60 v d p) :
    ∃ k t q : Nat, v = .agg #[.int .u8 (k : Int), .int .u16 (t : Int), .int .u16 (q : Int)] ∧ k < 256 ∧ t < 65536 ∧ q < 65536 := by
  obtain ⟨cs, rfl, hsz⟩ := okWide_struct Try.underlying60 hv
  obtain ⟨fuel, hf⟩ := h
  obtain ⟨vs⟩ := cs
  have hf' := hf
  simp only [Value.cells] at hf'
  obtain ⟨ys, m, _, _, hcl, hlen, hfield⟩ := DataW.trod_struct Try.underlying60 hf'
  have h3 : Try.prog.cellsOf 60 = 3 := by kernel_rfl
  have e1 : Try.prog.cellsOf 5 = 1 := by kernel_rfl
  have e2 : Try.prog.cellsOf 51 = 1 := by kernel_rfl
  match vs, hcl.trans h3 with
  | [v0, v1, v2], _ =>
    match ys, hlen with
    | [y0, y1, y2], _ =>
      have t0 := hfield 0 _ rfl
      have t1 := hfield 1 _ rfl
      have t2 := hfield 2 _ rfl
      simp [e1, e2] at t0 t1 t2
      obtain ⟨k, rfl, hk⟩ := byte_of_trod t0
      obtain ⟨t, rfl, ht⟩ := u16_of_trod t1
      obtain ⟨q, rfl, hq⟩ := u16_of_trod t2
      exact ⟨k, t, q, rfl, hk, ht, hq⟩

set_option maxRecDepth 20000 in
theorem event_of_trod {H : Type} {enc : TypeId × Value → H} {W : World} {b0 : Nat} {v : Value} {d : DataW H} {p : List MemPlace} (hv : Value.okWide Try.prog W .any b0 61 v)
    (h : DataW.Trod enc Try.prog W 0 (fun _ => true) true 61 v d p) :
    ∃ k t q : Nat, v = .agg #[.int .u8 (k : Int), .int .u16 (t : Int), .int .u16 (q : Int)] ∧ k < 256 ∧ t < 65536 ∧ q < 65536 := by
  obtain ⟨cs, rfl, hsz⟩ := okWide_struct Try.underlying61 hv
  obtain ⟨fuel, hf⟩ := h
  obtain ⟨vs⟩ := cs
  have hf' := hf
  simp only [Value.cells] at hf'
  obtain ⟨ys, m, _, _, hcl, hlen, hfield⟩ := DataW.trod_struct Try.underlying61 hf'
  have h3 : Try.prog.cellsOf 61 = 3 := by kernel_rfl
  have e1 : Try.prog.cellsOf 5 = 1 := by kernel_rfl
  have e2 : Try.prog.cellsOf 51 = 1 := by kernel_rfl
  match vs, hcl.trans h3 with
  | [v0, v1, v2], _ =>
    match ys, hlen with
    | [y0, y1, y2], _ =>
      have t0 := hfield 0 _ rfl
      have t1 := hfield 1 _ rfl
      have t2 := hfield 2 _ rfl
      simp [e1, e2] at t0 t1 t2
      obtain ⟨k, rfl, hk⟩ := byte_of_trod t0
      obtain ⟨t, rfl, ht⟩ := u16_of_trod t1
      obtain ⟨q, rfl, hq⟩ := u16_of_trod t2
      exact ⟨k, t, q, rfl, hk, ht, hq⟩

end Go.Proofs.Ytdcnmbglbopgdaa
