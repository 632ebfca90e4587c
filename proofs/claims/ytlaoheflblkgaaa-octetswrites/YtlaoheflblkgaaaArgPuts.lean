/-
  Arguments as they come in: a slice of puts.
-/
import Derived.Test.YtlaoheflblkgaaaWritesWalk
import Derived.Test.YtlaoheflblkgaaaArgParts
import Derived.Deep.Strs
namespace Go.Proofs.Ytlaoheflblkgaaa
set_option linter.unusedVariables false
set_option linter.unusedSimpArgs false
open Go.RowKit Go.ChangeShapes Go.WideShapes Go.Deep

theorem parts_of_trod {H : Type} {enc : TypeId × Value → H} {W : World} {fuel : Nat} {v : Value} {x : DataW H × List MemPlace}
    (hf : DataW.trod enc Try.prog W 0 (fun _ => true) true fuel 56 [v] = some x) :
    ∃ (ps : List (List UInt8)) (P : Option Addr) (c : Nat), v = .slice P ps.length c ∧ InParts W P ps ∧ ps.length ≤ c ∧ c ≤ maxLen := by
  have hf' := hf
  rcases open_slice1 Try.underlying56 (by kernel_rfl) hf' with ⟨hcs, _⟩ | ⟨a, len, cap, m, k, V, D, Pl, hcs, _⟩
  · simp at hcs
    subst hcs
    obtain ⟨ps, h1, h2, h3, h4⟩ := inparts_of_trod hf
    exact ⟨ps, none, 0, by rw [h2], h1, by omega, h4⟩
  · simp at hcs
    subst hcs
    obtain ⟨ps, h1, h2, h3, h4⟩ := inparts_of_trod hf
    exact ⟨ps, some a, cap, by rw [h2], h1, by omega, h4⟩

theorem put_of_trod {H : Type} {enc : TypeId × Value → H} {W : World} {fuel : Nat} {cs : List Value} {x : DataW H × List MemPlace}
    (hf : DataW.trod enc Try.prog W 0 (fun _ => true) true fuel 58 cs = some x) :
    ∃ (p : Int × Nat × List (List UInt8)) (A : Option Addr) (c : Nat), cs = [.int .i64 p.1, .int .u32 (p.2.1 : Int), .slice A p.2.2.length c] ∧ p.2.1 < 4294967296 ∧ p.2.2.length ≤ 9223372036854775807 ∧ InParts W A p.2.2 := by
  obtain ⟨y0, y1, y2, n, _, hl, h0, h1, h2⟩ := trod_struct3 Try.underlying58 hf
  have hl3 : cs.length = 3 := hl.trans (by kernel_rfl)
  match cs, hl3 with
  | [v0, v1, v2], _ =>
    have g0 : DataW.trod enc Try.prog W 0 (fun _ => true) true n 3 [v0] = some y0 := by
      have e : Try.prog.cellsOf 3 = 1 := by kernel_rfl
      simpa [e] using h0
    have g1 : DataW.trod enc Try.prog W 0 (fun _ => true) true n 30 [v1] = some y1 := by
      have e : Try.prog.cellsOf 30 = 1 := by kernel_rfl
      simpa [e] using h1
    have g2 : DataW.trod enc Try.prog W 0 (fun _ => true) true n 56 [v2] = some y2 := by
      have e : Try.prog.cellsOf 56 = 1 := by kernel_rfl
      simpa [e] using h2
    obtain ⟨n0, e0, _, _⟩ := DataW.trod_int Try.underlying3 g0
    obtain ⟨n1, e1, _, w1⟩ := DataW.trod_int Try.underlying30 g1
    have hbd := bounds_u32 w1
    obtain ⟨ps, P, c, e2, hin, hlc, hm⟩ := parts_of_trod g2
    simp at e0 e1
    subst e0 e1 e2
    refine ⟨(n0, n1.toNat, ps), P, c, ?_, ?_, ?_, hin⟩
    · show [Value.int .i64 n0, Value.int .u32 n1, _] = [Value.int .i64 n0, Value.int .u32 ((n1.toNat : Nat) : Int), _]
      rw [show ((n1.toNat : Nat) : Int) = n1 by omega]
    · show n1.toNat < 4294967296
      omega
    · show ps.length ≤ 9223372036854775807
      unfold maxLen at hm
      omega

theorem puts_of_trod {H : Type} {enc : TypeId × Value → H} {W : World} {fuel : Nat} {P : Option Addr} {n c : Nat} {x : DataW H × List MemPlace}
    (hf : DataW.trod enc Try.prog W 0 (fun _ => true) true fuel 50 [.slice P n c] = some x) :
    ∃ st : List (Int × Nat × List (List UInt8)), PutsAt W P st ∧ st.length = n ∧ n ≤ c ∧ c ≤ maxLen := by
  rcases open_slice Try.underlying50 hf with ⟨hcs, _⟩ | ⟨a, len, cap, m, k, D, Pl, hcs, _, hl, hm, hmm, _, hx⟩
  · simp at hcs
    obtain ⟨rfl, rfl, rfl⟩ := hcs
    exact ⟨[], fun k l hk => by simp at hk, rfl, Nat.le_refl _, Nat.zero_le _⟩
  · simp at hcs
    obtain ⟨rfl, rfl, rfl⟩ := hcs
    have hmm' : m = c := by simpa using hmm
    subst hmm'
    have ce : Try.prog.cellsOf 58 = 3 := by kernel_rfl
    have hex : ∀ i, i < n → ∃ p : Int × Nat × List (List UInt8), ∃ (A : Option Addr) (c : Nat), W.cell? (a.add (i * 3)) = some (.int .i64 p.1) ∧ W.cell? (a.add (i * 3 + 1)) = some (.int .u32 (p.2.1 : Int)) ∧ W.cell? (a.add (i * 3 + 2)) = some (.slice A p.2.2.length c) ∧
        p.2.1 < 4294967296 ∧ p.2.2.length ≤ 9223372036854775807 ∧ InParts W A p.2.2 := by
      intro i hi
      obtain ⟨cs', h1, h2⟩ := hx i (by omega)
      rw [ce] at h1
      obtain ⟨_, hlen, hcell⟩ := World.cells?_some h1
      obtain ⟨p, A, c, hcs, hb1, hb2, hin⟩ := put_of_trod h2
      subst hcs
      have e0 := hcell 0 (by omega)
      have e1 := hcell 1 (by omega)
      have e2 := hcell 2 (by omega)
      rw [add_add] at e0 e1 e2
      exact ⟨p, A, c, by simpa using e0, by simpa using e1, by simpa using e2, hb1, hb2, hin⟩
    obtain ⟨f, hfx⟩ := choose_lt hex
    refine ⟨(List.range n).map f, fun k p hk => ?_, by simp, hl, hm⟩
    have hkn : k < n := by
      rcases Nat.lt_or_ge k n with h | h
      · exact h
      · rw [List.getElem?_eq_none (by simpa using h)] at hk; cases hk
    have hp' : p = f k := by
      rw [List.getElem?_map, List.getElem?_range hkn] at hk
      simpa using hk.symm
    subst hp'
    obtain ⟨A, c', e0, e1, e2, hb1, hb2, hin⟩ := hfx k hkn
    obtain ⟨b, off, spot⟩ := a
    have hspot : spot = none := by
      obtain ⟨_, _, z0, _⟩ := hfx 0 (by omega)
      have h0 := World.cell?_spot z0
      simpa [Addr.add] using h0
    subst hspot
    rw [addr_add] at e0
    rw [addr_add, ← Nat.add_assoc] at e1 e2
    exact ⟨b, off, A, c', rfl, World.block_lt_of_cell? W _ e0, e0, e1, hb1, e2, hb2, hin⟩

end Go.Proofs.Ytlaoheflblkgaaa
