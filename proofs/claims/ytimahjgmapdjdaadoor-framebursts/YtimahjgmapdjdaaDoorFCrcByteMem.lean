/-
  A byte that is another one is told; what a row of one's own is while it is written.
-/
import Derived.Test.YtimahjgmapdjdaaDoorFCrcPlaces
namespace Go.Proofs.YtimahjgmapdjdaaDoor
set_option linter.unusedVariables false
set_option linter.unusedSimpArgs false
open Go.RowKit

theorem byteStep_zero (v : BitVec 16) : byteStep v 0 = Tn 8 v := by
  unfold byteStep
  rw [show up 0 = 0#16 by decide, BitVec.xor_zero]
theorem sumF_nought : ∀ (n : Nat) (v : BitVec 16), sumF v (List.replicate n 0) = 0#16 → v = 0#16
  | 0, _, h => h
  | n + 1, v, h => by
    have h2 : sumF (byteStep v 0) (List.replicate n 0) = 0#16 := h
    have := sumF_nought n _ h2
    rw [byteStep_zero] at this
    exact Tn_nought _ _ this
theorem zip_zero (q : List UInt8) : List.zipWith (· ^^^ ·) q (List.replicate q.length 0) = q := by
  induction q with
  | nil => rfl
  | cons b q ih => simp [List.replicate_succ, ih]
theorem sumF_off (u v : BitVec 16) (q : List UInt8) : sumF (u ^^^ v) q = sumF u q ^^^ sumF v (List.replicate q.length 0) := by
  have := sumF_xor q (List.replicate q.length 0) u v (by simp)
  rwa [zip_zero] at this
theorem byteStep_nought (b : UInt8) (h : byteStep 0#16 b = 0#16) : b = 0 := by
  unfold byteStep at h
  have h1 := Tn_nought _ _ h
  rw [BitVec.zero_xor] at h1
  have h2 := congrArg BitVec.toNat h1
  rw [up_nat] at h2
  apply UInt8.toNat_inj.1
  simp at h2 ⊢
  omega
/-- A byte that is another one. -/
theorem byte_told (s : BitVec 16) (p q : List UInt8) (b y : UInt8) (h0 : sumF s (p ++ b :: q) = 0#16) : sumF s (p ++ (b ^^^ y) :: q) = 0#16 ↔ y = 0 := by
  have e : sumF s (p ++ (b ^^^ y) :: q) = sumF s (p ++ b :: q) ^^^ sumF (byteStep 0#16 y) (List.replicate q.length 0) := by
    rw [sumF_append, sumF_append]
    show sumF (byteStep (sumF s p) (b ^^^ y)) q = sumF (byteStep (sumF s p) b) q ^^^ _
    rw [← sumF_off, ← byteStep_xor, BitVec.xor_zero]
  rw [e, h0, BitVec.zero_xor]
  constructor
  · intro h
    exact byteStep_nought y (sumF_nought _ _ h)
  · rintro rfl
    rw [byteStep_zero, Tn_zero]
    clear e h0
    induction q.length with
    | zero => rfl
    | succ n ih => show sumF (byteStep 0#16 0) (List.replicate n 0) = 0#16; rw [byteStep_zero, Tn_zero]; exact ih

theorem set_split (xs : List UInt8) (k : Nat) (hk : k < xs.length) (v : UInt8) : xs.set k v = xs.take k ++ v :: xs.drop (k + 1) := List.set_eq_take_append_cons_drop.trans (by rw [if_pos hk])
theorem get_split (xs : List UInt8) (k : Nat) (hk : k < xs.length) : xs = xs.take k ++ xs[k] :: xs.drop (k + 1) := by simp

theorem valid_byte (xs : List UInt8) (k : Nat) (hk : k < xs.length) (y : UInt8) (hv : validB xs = true) : validB (xs.set k (xs[k] ^^^ y)) = decide (y = 0) := by
  unfold validB at hv ⊢
  simp only [Bool.and_eq_true, decide_eq_true_eq] at hv
  rw [List.length_set, decide_eq_true hv.1, Bool.true_and, set_split xs k hk]
  refine decide_eq_decide.2 (byte_told _ _ _ _ _ ?_)
  rw [← get_split xs k hk]
  exact hv.2

/-- A row of one's own, while it is written. -/
structure Sx (w : World) (X : Nat) (xs : List UInt8) (x : World) : Prop where
  tab : Tab x
  row : Row x X xs
  below : Below w.heap.size w x
  le : w.heap.size ≤ X
  pos : 0 < w.heap.size
theorem Sx.step {w x y : World} {X : Nat} {xs : List UInt8} (h : Sx w X xs x) (hb : Below x.heap.size x y) : Sx w X xs y :=
  ⟨h.tab.keep (Ch.of_below hb) (by simp), h.row.keep (Ch.of_below hb) (by simp), h.below.trans (hb.mono h.below.size), h.le, h.pos⟩
theorem Sx.drew {w x : World} {X : Nat} {xs : List UInt8} (h : Sx w X xs x) : Sx w X xs x.drew := h.step (((Ch.refl [] x).drew).below (by simp))
theorem Sx.set {w x : World} {X : Nat} {xs : List UInt8} (h : Sx w X xs x) (k : Nat) (b : UInt8) (v : Int) (hv : v = (b.toNat : Int)) : Sx w X (xs.set k b) (x.setCell ⟨X, k, none⟩ (.int .u8 v)) := by
  subst hv
  have hx := h.le
  have hp := h.pos
  refine ⟨h.tab.keep (F := [X]) ((Ch.refl [X] x).setCell (fun _ => by simp) _) (by simp; omega), ?_, h.below.setCell h.le _, h.le, h.pos⟩
  have := heap_setCell_same x X k _ _ (.int .u8 (b.toNat : Int)) h.row
  refine this.trans ?_
  rw [List.setIfInBounds_toArray]
  congr 3
  simp [bcs, List.map_set]
theorem Sx.cell {w x : World} {X : Nat} {xs : List UInt8} (h : Sx w X xs x) (k : Nat) (hk : k < xs.length) : x.cell? ⟨X, k, none⟩ = some (.int .u8 (xs[k].toNat : Int)) := h.row.cell k hk
theorem Sx.frozen {w x : World} {X : Nat} {xs : List UInt8} (h : Sx w X xs x) (k : Nat) : x.frozen? ⟨X, k, none⟩ = false := frozen_of_row _ _ _ _ _ h.row

theorem xor_twice (a b : UInt8) : a ^^^ b ^^^ b = a := by rw [UInt8.xor_assoc, UInt8.xor_self, UInt8.xor_zero]
theorem set_back (xs : List UInt8) (k : Nat) (hk : k < xs.length) (v : UInt8) : (xs.set k v).set k xs[k] = xs := by simp

end Go.Proofs.YtimahjgmapdjdaaDoor
