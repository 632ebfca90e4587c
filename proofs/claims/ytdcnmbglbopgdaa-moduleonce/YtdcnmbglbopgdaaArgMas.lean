/-
  Arguments as they come in: a frame, by value; a slice of frames; a slice of steps.
-/
import Derived.Test.YtdcnmbglbopgdaaMasY
import Derived.Test.YtdcnmbglbopgdaaFArgs
import Derived.Deep.Slices
namespace Go.Proofs.Ytdcnmbglbopgdaa
set_option linter.unusedVariables false
set_option linter.unusedSimpArgs false
open Go.RowKit Go.ChangeShapes Go.WideShapes Go.Deep

theorem add_add6 (a : Addr) (i j : Nat) : (a.add i).add j = a.add (i + j) := by
  obtain ⟨b, o, s⟩ := a
  by_cases hi : i = 0 <;> by_cases hj : j = 0 <;> simp [Addr.add, hi, hj, Nat.add_assoc]
theorem byte_of_trod {H : Type} {enc : TypeId × Value → H} {W : World} {fuel : Nat} {v : Value} {x : DataW H × List MemPlace}
    (hf : DataW.trod enc Try.prog W 0 (fun _ => true) true fuel 5 [v] = some x) : ∃ n : Nat, v = .int .u8 (n : Int) ∧ n < 256 := by
  obtain ⟨z, e, _, hw⟩ := DataW.trod_int Try.underlying5 hf
  have hb := bounds_u8 hw
  simp at e
  exact ⟨z.toNat, by rw [e, show ((z.toNat : Nat) : Int) = z by omega], by omega⟩
theorem int_of_trod {H : Type} {enc : TypeId × Value → H} {W : World} {fuel : Nat} {v : Value} {x : DataW H × List MemPlace}
    (hf : DataW.trod enc Try.prog W 0 (fun _ => true) true fuel 3 [v] = some x) : ∃ n : Int, v = .int .i64 n := by
  obtain ⟨z, e, _, _⟩ := DataW.trod_int Try.underlying3 hf
  simp at e
  exact ⟨z, e⟩
theorem bool_of_trod {H : Type} {enc : TypeId × Value → H} {W : World} {fuel : Nat} {v : Value} {x : DataW H × List MemPlace}
    (hf : DataW.trod enc Try.prog W 0 (fun _ => true) true fuel 4 [v] = some x) : ∃ b : Bool, v = .bool b := by
  obtain ⟨z, e, _⟩ := DataW.trod_bool Try.underlying4 hf
  simp at e
  exact ⟨z, e⟩
theorem bytes_of_trod {H : Type} {enc : TypeId × Value → H} {W : World} {fuel : Nat} {v : Value} {x : DataW H × List MemPlace}
    (hf : DataW.trod enc Try.prog W 0 (fun _ => true) true fuel 34 [v] = some x) :
    ∃ (l : List UInt8) (g : Nat) (A : Option Addr) (c : Nat), v = .slice A l.length c ∧ Holds W g A (bcs l) ∧ l.length ≤ c ∧ c ≤ maxLen := by
  rcases open_ints Try.underlying34 Try.underlying5 (by kernel_rfl) hf with ⟨hcs, _⟩ | ⟨a, len, c, zs, hcs, _, hl, hm, hz, _, hcell, hwz⟩
  · simp at hcs
    subst hcs
    exact ⟨[], 0, none, 0, rfl, Holds.nil _ _ _, Nat.le_refl _, Nat.zero_le _⟩
  · simp at hcs
    subst hcs
    have hz' : zs.length = c := by simpa using hz
    obtain ⟨g, l, hl', hh'⟩ := holds_of_ints (len := len) (by omega) hcell hwz
    subst hl'
    exact ⟨l, g, some a, c, rfl, hh', hl, hm⟩

/-- The cells of a frame that came in. -/
def CellsF (W : World) (cs : List Value) (F : Fr) (g : Nat) (A : Option Addr) (c : Nat) : Prop :=
  cs = [.int .u8 (F.a : Int), .int .u8 (F.k : Int), .int .u8 (F.s : Int), .int .u8 (F.q : Int), .int .u8 (F.c : Int), .slice A F.b.length c] ∧ F.Fits ∧ Holds W g A (bcs F.b) ∧ F.b.length ≤ c ∧ c ≤ maxLen
set_option maxRecDepth 20000 in
theorem cells_of_trod {H : Type} {enc : TypeId × Value → H} {W : World} {fuel : Nat} {cs : List Value} {x : DataW H × List MemPlace}
    (hf : DataW.trod enc Try.prog W 0 (fun _ => true) true fuel 36 cs = some x) : ∃ (F : Fr) (g : Nat) (A : Option Addr) (c : Nat), CellsF W cs F g A c := by
  obtain ⟨ys, m, _, _, hcl, hlen, hfield⟩ := DataW.trod_struct Try.underlying36 hf
  have h6 : Try.prog.cellsOf 36 = 6 := by kernel_rfl
  have e1 : Try.prog.cellsOf 5 = 1 := by kernel_rfl
  have e2 : Try.prog.cellsOf 34 = 1 := by kernel_rfl
  match cs, hcl.trans h6 with
  | [v0, v1, v2, v3, v4, v5], _ =>
    match ys, hlen with
    | [y0, y1, y2, y3, y4, y5], _ =>
      have t0 := hfield 0 _ rfl
      have t1 := hfield 1 _ rfl
      have t2 := hfield 2 _ rfl
      have t3 := hfield 3 _ rfl
      have t4 := hfield 4 _ rfl
      have t5 := hfield 5 _ rfl
      simp [e1, e2] at t0 t1 t2 t3 t4 t5
      obtain ⟨a, rfl, ha⟩ := byte_of_trod t0
      obtain ⟨k, rfl, hk⟩ := byte_of_trod t1
      obtain ⟨s, rfl, hs⟩ := byte_of_trod t2
      obtain ⟨q, rfl, hq⟩ := byte_of_trod t3
      obtain ⟨c, rfl, hc⟩ := byte_of_trod t4
      obtain ⟨l, g, A, cap, rfl, hh, hn, hm⟩ := bytes_of_trod t5
      exact ⟨⟨a, k, s, q, c, l⟩, g, A, cap, rfl, ⟨ha, hk, hs, hq, hc⟩, hh, hn, hm⟩

end Go.Proofs.Ytdcnmbglbopgdaa
