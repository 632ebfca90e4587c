/-
  Arguments as they come in: a frame, by value; its bytes are held.
-/
import Derived.Test.YtimahjgmapdjdaaDoorFBase
import Derived.Test.YtimahjgmapdjdaaDoorFMem
import Derived.Test.YtimahjgmapdjdaaDoorFArgs
namespace Go.Proofs.YtimahjgmapdjdaaDoor
set_option linter.unusedVariables false
set_option linter.unusedSimpArgs false
open Go.RowKit Go.ChangeShapes Go.WideShapes

theorem bytes_of_trod {H : Type} {enc : TypeId × Value → H} {W : World} {fuel : Nat} {v : Value} {x : DataW H × List MemPlace}
    (hf : DataW.trod enc Tryd.prog W 0 (fun _ => true) true fuel 22 [v] = some x) :
    ∃ (g n cap : Nat) (A : Option Addr) (l : List UInt8), v = .slice A n cap ∧ l.length = n ∧ Holds W g A (bcs l) ∧ n ≤ cap ∧ cap ≤ maxLen := by
  rcases open_ints Tryd.underlying22 Tryd.underlying5 (by kernel_rfl) hf with ⟨hcs, _⟩ | ⟨x, l, c, zs, hcs, _, hl, hm, hz, _, hcell, hwz⟩
  · simp at hcs
    exact ⟨0, 0, 0, none, [], hcs, rfl, Holds.nil _ _ _, Nat.le_refl _, Nat.zero_le _⟩
  · simp at hcs
    have hz' : zs.length = c := by simpa using hz
    obtain ⟨g, l', hl', hh'⟩ := holds_of_ints (len := l) (by omega) hcell hwz
    exact ⟨g, l, c, some x, l', hcs, hl', hh', hl, hm⟩
theorem byte_of_trod {H : Type} {enc : TypeId × Value → H} {W : World} {fuel : Nat} {v : Value} {x : DataW H × List MemPlace}
    (hf : DataW.trod enc Tryd.prog W 0 (fun _ => true) true fuel 5 [v] = some x) : ∃ n : Nat, v = .int .u8 (n : Int) ∧ n < 256 := by
  obtain ⟨z, e, _, hw⟩ := DataW.trod_int Tryd.underlying5 hf
  have hb := bounds_u8 hw
  simp at e
  exact ⟨z.toNat, by rw [e, show ((z.toNat : Nat) : Int) = z by omega], by omega⟩

theorem frame_of_trod {H : Type} {enc : TypeId × Value → H} {W : World} {b0 : Nat} {v : Value} {d : DataW H} {p : List MemPlace} (hv : Value.okWide Tryd.prog W .any b0 24 v)
    (h : DataW.Trod enc Tryd.prog W 0 (fun _ => true) true 24 v d p) :
    ∃ (a k s q c g n cap : Nat) (A : Option Addr) (l : List UInt8), v = .agg #[.int .u8 a, .int .u8 k, .int .u8 s, .int .u8 q, .int .u8 c, .slice A n cap] ∧ (a < 256 ∧ k < 256 ∧ s < 256 ∧ q < 256 ∧ c < 256) ∧ l.length = n ∧ Holds W g A (bcs l) ∧ n ≤ cap ∧ cap ≤ maxLen := by
  obtain ⟨cs, rfl, hsz⟩ := okWide_struct Tryd.underlying24 hv
  obtain ⟨fuel, hf⟩ := h
  obtain ⟨ys, m, _, _, _, hlen, hfield⟩ := DataW.trod_struct Tryd.underlying24 hf
  have h6 : Tryd.prog.cellsOf 24 = 6 := by kernel_rfl
  have e1 : Tryd.prog.cellsOf 5 = 1 := by kernel_rfl
  have e2 : Tryd.prog.cellsOf 22 = 1 := by kernel_rfl
  obtain ⟨vs⟩ := cs
  match vs, hsz.trans h6 with
  | [v0, v1, v2, v3, v4, v5], _ =>
    match ys, hlen with
    | [y0, y1, y2, y3, y4, y5], _ =>
      have t0 := hfield 0 _ rfl
      have t1 := hfield 1 _ rfl
      have t2 := hfield 2 _ rfl
      have t3 := hfield 3 _ rfl
      have t4 := hfield 4 _ rfl
      have t5 := hfield 5 _ rfl
      simp [Value.cells, e1, e2] at t0 t1 t2 t3 t4 t5
      obtain ⟨a, rfl, ha⟩ := byte_of_trod t0
      obtain ⟨k, rfl, hk⟩ := byte_of_trod t1
      obtain ⟨s, rfl, hs⟩ := byte_of_trod t2
      obtain ⟨q, rfl, hq⟩ := byte_of_trod t3
      obtain ⟨c, rfl, hc⟩ := byte_of_trod t4
      obtain ⟨g, n, cap, A, l, rfl, hl, hh, hn, hm⟩ := bytes_of_trod t5
      exact ⟨a, k, s, q, c, g, n, cap, A, l, rfl, ⟨ha, hk, hs, hq, hc⟩, hl, hh, hn, hm⟩

end Go.Proofs.YtimahjgmapdjdaaDoor
