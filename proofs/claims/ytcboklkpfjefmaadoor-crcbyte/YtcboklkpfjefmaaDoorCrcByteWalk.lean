/-
  lamplightlaw02.CrcByte answers true, and turns nothing that was there: the walk. Beside it: what a row of one's own is while it is written.
-/
import Derived.Test.YtcboklkpfjefmaaDoorCrcPlaces
namespace Go.Proofs.YtcboklkpfjefmaaDoor
set_option linter.unusedVariables false
set_option linter.unusedSimpArgs false
open Go.RowKit

theorem byteStep_zero (v : BitVec 16) : byteStep v 0 = Tn 8 v := by
  unfold byteStep
  rw [show up 0 = 0#16 by decide, BitVec.xor_zero]
theorem sumF_nought : ∀ (n : Nat) (v : BitVec 16), sumF v (List.replicate n 0) = 0#16 → v = 0#16
  | 0, _, h => h
  | n + 1, v, h => by
    have h2 : sumF (byteStep v 0) (List.replicate n 0) = 0#16 := h
    have := sumF_nought n _ h2
    rw [byteStep_zero] at this
    exact Tn_nought _ _ this
theorem zip_zero (q : List UInt8) : List.zipWith (· ^^^ ·) q (List.replicate q.length 0) = q := by
  induction q with
  | nil => rfl
  | cons b q ih => simp [List.replicate_succ, ih]
theorem sumF_off (u v : BitVec 16) (q : List UInt8) : sumF (u ^^^ v) q = sumF u q ^^^ sumF v (List.replicate q.length 0) := by
  have := sumF_xor q (List.replicate q.length 0) u v (by simp)
  rwa [zip_zero] at this
theorem byteStep_nought (b : UInt8) (h : byteStep 0#16 b = 0#16) : b = 0 := by
  unfold byteStep at h
  have h1 := Tn_nought _ _ h
  rw [BitVec.zero_xor] at h1
  have h2 := congrArg BitVec.toNat h1
  rw [up_nat] at h2
  apply UInt8.toNat_inj.1
  simp at h2 ⊢
  omega
/-- A byte that is another one. -/
theorem byte_told (s : BitVec 16) (p q : List UInt8) (b y : UInt8) (h0 : sumF s (p ++ b :: q) = 0#16) : sumF s (p ++ (b ^^^ y) :: q) = 0#16 ↔ y = 0 := by
  have e : sumF s (p ++ (b ^^^ y) :: q) = sumF s (p ++ b :: q) ^^^ sumF (byteStep 0#16 y) (List.replicate q.length 0) := by
    rw [sumF_append, sumF_append]
    show sumF (byteStep (sumF s p) (b ^^^ y)) q = sumF (byteStep (sumF s p) b) q ^^^ _
    rw [← sumF_off, ← byteStep_xor, BitVec.xor_zero]
  rw [e, h0, BitVec.zero_xor]
  constructor
  · intro h
    exact byteStep_nought y (sumF_nought _ _ h)
  · rintro rfl
    rw [byteStep_zero, Tn_zero]
    clear e h0
    induction q.length with
    | zero => rfl
    | succ n ih => show sumF (byteStep 0#16 0) (List.replicate n 0) = 0#16; rw [byteStep_zero, Tn_zero]; exact ih

theorem set_split (xs : List UInt8) (k : Nat) (hk : k < xs.length) (v : UInt8) : xs.set k v = xs.take k ++ v :: xs.drop (k + 1) := List.set_eq_take_append_cons_drop.trans (by rw [if_pos hk])
theorem get_split (xs : List UInt8) (k : Nat) (hk : k < xs.length) : xs = xs.take k ++ xs[k] :: xs.drop (k + 1) := by simp

theorem valid_byte (xs : List UInt8) (k : Nat) (hk : k < xs.length) (y : UInt8) (hv : validB xs = true) : validB (xs.set k (xs[k] ^^^ y)) = decide (y = 0) := by
  unfold validB at hv ⊢
  simp only [Bool.and_eq_true, decide_eq_true_eq] at hv
  rw [List.length_set, decide_eq_true hv.1, Bool.true_and, set_split xs k hk]
  refine decide_eq_decide.2 (byte_told _ _ _ _ _ ?_)
  rw [← get_split xs k hk]
  exact hv.2

/-- A row of one's own, while it is written. -/
structure Sx (w : World) (X : Nat) (xs : List UInt8) (x : World) : Prop where
  tab : Tab x
  row : Row x X xs
  below : Below w.heap.size w x
  le : w.heap.size ≤ X
  pos : 0 < w.heap.size
theorem Sx.step {w x y : World} {X : Nat} {xs : List UInt8} (h : Sx w X xs x) (hb : Below x.heap.size x y) : Sx w X xs y :=
  ⟨h.tab.keep (Ch.of_below hb) (by simp), h.row.keep (Ch.of_below hb) (by simp), h.below.trans (hb.mono h.below.size), h.le, h.pos⟩
theorem Sx.drew {w x : World} {X : Nat} {xs : List UInt8} (h : Sx w X xs x) : Sx w X xs x.drew := h.step (((Ch.refl [] x).drew).below (by simp))
theorem Sx.set {w x : World} {X : Nat} {xs : List UInt8} (h : Sx w X xs x) (k : Nat) (b : UInt8) (v : Int) (hv : v = (b.toNat : Int)) : Sx w X (xs.set k b) (x.setCell ⟨X, k, none⟩ (.int .u8 v)) := by
  subst hv
  have hx := h.le
  have hp := h.pos
  refine ⟨h.tab.keep (F := [X]) ((Ch.refl [X] x).setCell (fun _ => by simp) _) (by simp; omega), ?_, h.below.setCell h.le _, h.le, h.pos⟩
  have := heap_setCell_same x X k _ _ (.int .u8 (b.toNat : Int)) h.row
  refine this.trans ?_
  rw [List.setIfInBounds_toArray]
  congr 3
  simp [bcs, List.map_set]
theorem Sx.cell {w x : World} {X : Nat} {xs : List UInt8} (h : Sx w X xs x) (k : Nat) (hk : k < xs.length) : x.cell? ⟨X, k, none⟩ = some (.int .u8 (xs[k].toNat : Int)) := h.row.cell k hk
theorem Sx.frozen {w x : World} {X : Nat} {xs : List UInt8} (h : Sx w X xs x) (k : Nat) : x.frozen? ⟨X, k, none⟩ = false := frozen_of_row _ _ _ _ _ h.row

theorem xor_byte (a b : UInt8) : bits .xor .u8 (a.toNat : Int) (b.toNat : Int) = ((a ^^^ b).toNat : Int) := by
  rw [u8_xor_nat _ _ a.toNat_lt b.toNat_lt, UInt8.toNat_xor]

theorem xor_twice (a b : UInt8) : a ^^^ b ^^^ b = a := by rw [UInt8.xor_assoc, UInt8.xor_self, UInt8.xor_zero]
theorem set_back (xs : List UInt8) (k : Nat) (hk : k < xs.length) (v : UInt8) : (xs.set k v).set k xs[k] = xs := by simp

set_option maxHeartbeats 2000000 in
set_option maxRecDepth 100000 in
theorem byte_walk (g : Nat) (A : Option Addr) (l0 : List UInt8) (len cap : Nat) (x : Int) (y : Nat) (w : World) (ht : Tab w) (h : Holds w g A (bcs l0)) (hlen : l0.length = len) (hcap : len ≤ cap) (hmx : cap ≤ 9223372036854775807) (hy : y < 256) :
    Calls Tryd.prog 10 #[.slice A len cap, .int .i64 x, .int .u8 (y : Int)] w fun e w' => e = .returned (.bool true) ∧ Below w.heap.size w w' := by
  obtain ⟨m, hm3, hml, hmin⟩ := min_of len 300 300 rfl
  obtain ⟨a, ham, hat, hat'⟩ := place_at x (m + 2) (by omega)
  rw [show ((m + 2 : Nat) : Int) = (m : Int) + 2 from rfl] at hat hat'
  obtain ⟨by', hby⟩ : ∃ b : UInt8, b.toNat = y := ⟨UInt8.ofNat y, by simp; omega⟩
  subst hby
  have hp := ht.1
  have HH := Lib.hid h
  have HL := Lib.hid hlen
  have HTB := Lib.hid ht
  clear h hlen ht
  go_enter Tryd.func10, Tryd.ntmps10
  go_wp2_with fail
  refine (shown_any w HTB.out).mono ?_
  rintro e x1 ⟨rfl, hb1⟩
  have H1 := Lib.hid (St.begin HTB.out HH.out hb1 m)
  have HLL : Hid ((l0.take m).length = m) := by show _ = _; rw [List.length_take, HL.out]; omega
  generalize l0.take m = l at *
  clear HH HL HTB hb1
  have hmc : m ≤ cap := by omega
  go_wp2_with fail
  refine (append_on H1.out.tab H1.out.holds HLL.out (by omega)).mono ?_
  rintro e x2 ⟨X, hX, rfl, hrow, hb2⟩
  have H2 : Hid (Sx w X (sld l) x2) := ⟨(H1.out.step hb2).tab, hrow, (H1.out.step hb2).below, Nat.le_trans H1.out.le hX, hp⟩
  have HXL : Hid ((sld l).length = m + 2) := by show _ = _; rw [sld_length, HLL.out]
  have HV : Hid (validB (sld l) = true) := valid_sld l
  generalize sld l = xs at *
  clear H1 hb2 hrow hX
  have hax : a < xs.length := by rw [HXL.out]; exact ham
  have hc := H2.out.cell a hax
  have hf := H2.out.frozen a
  have hxo := xor_byte xs[a] by'
  obtain ⟨c1, hc1⟩ : ∃ c1 : Nat, (xs[a] ^^^ by').toNat = c1 := ⟨_, rfl⟩
  rw [hc1] at hxo
  have HC1 := Lib.hid hc1
  clear hc1
  go_upto_region 7 with (fail)
  have H3 := Lib.hid (H2.out.set a (xs[a] ^^^ by') (c1 : Int) (by rw [HC1.out]))
  obtain ⟨z, hz, hq⟩ : ∃ z : Bool, validB (xs.set a (xs[a] ^^^ by')) = z ∧ ((by'.toNat : Int) == 0) = z := by
    refine ⟨decide (by' = 0), valid_byte xs a hax by' HV.out, ?_⟩
    rw [Bool.eq_iff_iff, beq_iff_eq, decide_eq_true_iff, ← UInt8.toNat_inj]
    simp
  have HZ := Lib.hid hz
  clear hz H2 hc hf
  generalize x2.setCell ⟨X, a, none⟩ (.int .u8 (c1 : Int)) = x3 at *
  go_wp2_with fail
  refine (valid_on H3.out.tab H3.out.row.holds (by rw [List.length_set, HXL.out]) (Nat.le_refl _) (by omega) z HZ.out).mono ?_
  rintro e x4 ⟨rfl, hb4⟩
  have H4 := Lib.hid (H3.out.step hb4)
  clear H3 hb4 HZ
  have hc := H4.out.cell a (by rw [List.length_set]; exact hax)
  rw [List.getElem_set_self] at hc
  have hf := H4.out.frozen a
  have hxo2 := xor_byte (xs[a] ^^^ by') by'
  rw [xor_twice, HC1.out] at hxo2
  rw [HC1.out] at hc
  go_upto_region 10 with (fail)
  have H5 := Lib.hid (H4.out.set a xs[a] _ rfl)
  rw [set_back xs a hax] at H5
  generalize x4.setCell ⟨X, a, none⟩ (.int .u8 (xs[a].toNat : Int)) = x5 at *
  clear H4 hc hf
  go_wp2_with fail
  refine (valid_on H5.out.tab H5.out.row.holds HXL.out (Nat.le_refl _) (by omega) true HV.out).mono ?_
  rintro e x6 ⟨rfl, hb6⟩
  have H6 := Lib.hid (H5.out.step hb6)
  clear H5 hb6
  go_wp2
  go_ret
  exact ⟨rfl, H6.out.below⟩

end Go.Proofs.YtcboklkpfjefmaaDoor
