/-
  lamplightlaw02.CrcSame answers true, and turns nothing that was there: the walk.
-/
import Derived.Test.YtcboklkpfjefmaaDoorCrcShown
namespace Go.Proofs.YtcboklkpfjefmaaDoor
set_option linter.unusedVariables false
set_option linter.unusedSimpArgs false
open Go.RowKit

/-- The lesser of a length and a bound, as the walk writes it. -/
theorem min_of (n b : Nat) (c : Int) (hc : (b : Int) = c) : ∃ m : Nat, m ≤ b ∧ m ≤ n ∧ (if c < (n : Int) then c else (n : Int)) = (m : Int) := by
  subst hc
  by_cases h : (b : Int) < (n : Int)
  · exact ⟨b, Nat.le_refl _, by omega, by rw [if_pos h]⟩
  · exact ⟨n, by omega, Nat.le_refl _, by rw [if_neg h]⟩

theorem Row.drop {w : World} {X : Nat} {l : List UInt8} (h : Row w X l) (k : Nat) (hk : k ≤ l.length) : Holds w X (some ⟨X, k, none⟩) (bcs (l.drop k)) := by
  have := h.holds.drop k (l.length + 1) (by rw [bcs_length]; exact hk) (by rw [bcs_length]; omega)
  rw [if_neg (by omega), show (bcs l).drop k = bcs (l.drop k) by simp [bcs]] at this
  rw [show (some (Addr.mk X k none)) = Option.map (·.add k) (some (Addr.mk X 0 none)) by rw [Option.map_some, addr_add, Nat.zero_add]]
  exact this

/-- As a law begins: the first m bytes, behind shown. -/
theorem St.begin {w w1 : World} {g : Nat} {A : Option Addr} {l0 : List UInt8} (ht : Tab w) (h : Holds w g A (bcs l0)) (hb : Below w.heap.size w w1) (m : Nat) : St w.heap.size w g A (l0.take m) w1 :=
  ⟨ht.keep (Ch.of_below hb) (by simp), by
    rw [show bcs (l0.take m) = (bcs l0).take m by simp [bcs]]
    exact (h.take m).keep (Ch.of_below hb) (by simp), hb, hb.size⟩

set_option maxHeartbeats 2000000 in
set_option maxRecDepth 100000 in
theorem same_walk (g : Nat) (A : Option Addr) (l0 : List UInt8) (len cap : Nat) (w : World) (ht : Tab w) (h : Holds w g A (bcs l0)) (hlen : l0.length = len) (hcap : len ≤ cap) (hmx : cap ≤ 9223372036854775807) :
    Calls Tryd.prog 9 #[.slice A len cap] w fun e w' => e = .returned (.bool true) ∧ Below w.heap.size w w' := by
  obtain ⟨m, hm3, hml, hmin⟩ := min_of len 300 300 rfl
  have HH := Lib.hid h
  have HL := Lib.hid hlen
  have HTB := Lib.hid ht
  clear h hlen ht
  go_enter Tryd.func9, Tryd.ntmps9
  go_wp2_with fail
  refine (shown_any w HTB.out).mono ?_
  rintro e x1 ⟨rfl, hb1⟩
  have H1 := Lib.hid (St.begin HTB.out HH.out hb1 m)
  have HLL : Hid ((l0.take m).length = m) := by show _ = _; rw [List.length_take, HL.out]; omega
  generalize l0.take m = l at *
  clear HH HL HTB hb1
  go_wp2_with fail
  refine (append_on H1.out.tab H1.out.holds HLL.out (by omega)).mono ?_
  rintro e x2 ⟨X, hX, rfl, hrow, hb2⟩
  have H2 := Lib.hid (H1.out.step hb2)
  have HR2 := Lib.hid hrow
  clear H1 hb2 hrow
  go_wp2_with fail
  have hs0 : ((sum ([sld l] : List (List UInt8)).flatten).toNat : Int) = 0 := by
    rw [List.flatten_cons, List.flatten_nil, List.append_nil, sld_sum]; rfl
  refine (table_on [sld l] (H2.out.alloc _).tab (one_part HR2.out.holds (by rw [sld_length, HLL.out])) rfl (by simp) (by simp [sld_length, HLL.out]; omega) 0 hs0).mono ?_
  rintro e x3 ⟨rfl, hb3⟩
  have H3 := Lib.hid ((H2.out.alloc _).step hb3)
  have HR3 := Lib.hid ((HR2.out.keep ((Ch.refl [] _).alloc _) (by simp)).keep (Ch.of_below hb3) (by simp))
  clear H2 HR2 hb3
  go_wp2_with fail
  refine (bits_on [sld l] (one_part HR3.out.holds (by rw [sld_length, HLL.out])) rfl (by simp) (by simp [sld_length, HLL.out]; omega) 0 hs0).mono ?_
  rintro e x4 ⟨rfl, hb4⟩
  have H4 := Lib.hid ((H3.out.alloc _).step hb4)
  have HR4 := Lib.hid ((HR3.out.keep ((Ch.refl [] _).alloc _) (by simp)).keep (Ch.of_below hb4) (by simp))
  clear H3 HR3 hb4
  have hsd : Hid ((sld l).drop m = [hiB (sum l), loB (sum l)]) := by
    show _ = _
    rw [sld, ← HLL.out, List.drop_left]
  have hs1 : ((sum ([l, (sld l).drop m] : List (List UInt8)).flatten).toNat : Int) = 0 := by
    rw [hsd.out, List.flatten_cons, List.flatten_cons, List.flatten_nil, List.append_nil]
    show ((sum (sld l)).toNat : Int) = 0
    rw [sld_sum]; rfl
  go_wp2_with fail
  refine (table_on [l, (sld l).drop m] (H4.out.alloc _).tab (two_part H4.out.holds HLL.out (HR4.out.drop m (by rw [sld_length, HLL.out]; omega)) (by rw [hsd.out]; rfl)) rfl (by simp) (by simp [sld_length, HLL.out]; omega) 0 hs1).mono ?_
  rintro e x5 ⟨rfl, hb5⟩
  have H5 := Lib.hid ((H4.out.alloc _).step hb5)
  clear H4 HR4 hb5
  go_wp2
  go_ret
  exact ⟨rfl, H5.out.below⟩

end Go.Proofs.YtcboklkpfjefmaaDoor
