/-
  lamplightlaw02.CrcWays answers true, and turns nothing that was there: the walk.
-/
import Derived.Test.YtcboklkpfjefmaaDoorCrcPlaces
namespace Go.Proofs.YtcboklkpfjefmaaDoor
set_option linter.unusedVariables false
set_option linter.unusedSimpArgs false
open Go.RowKit

set_option maxHeartbeats 2000000 in
set_option maxRecDepth 100000 in
theorem ways_walk (g : Nat) (A : Option Addr) (l0 : List UInt8) (len cap : Nat) (x : Int) (w : World) (ht : Tab w) (h : Holds w g A (bcs l0)) (hlen : l0.length = len) (hcap : len ≤ cap) (hmx : cap ≤ 9223372036854775807) :
    Calls Tryd.prog 4 #[.slice A len cap, .int .i64 x] w fun e w' => e = .returned (.bool true) ∧ Below w.heap.size w w' := by
  obtain ⟨m, hm3, hml, hmin⟩ := min_of len 3000 3000 rfl
  obtain ⟨a, ham, hat, hat'⟩ := place_of x m
  have HH := Lib.hid h
  have HL := Lib.hid hlen
  have HTB := Lib.hid ht
  clear h hlen ht
  go_enter Tryd.func4, Tryd.ntmps4
  go_wp2_with fail
  refine (shown_any w HTB.out).mono ?_
  rintro e x1 ⟨rfl, hb1⟩
  have H1 := Lib.hid (St.begin HTB.out HH.out hb1 m)
  have HLL : Hid ((l0.take m).length = m) := by show _ = _; rw [List.length_take, HL.out]; omega
  generalize l0.take m = l at *
  clear HH HL HTB hb1
  have hs1 : ((sum ([l] : List (List UInt8)).flatten).toNat : Int) = ((sum l).toNat : Int) := by
    rw [List.flatten_cons, List.flatten_nil, List.append_nil]
  have hs2 : ((sum ([l.take a, l.drop a] : List (List UInt8)).flatten).toNat : Int) = ((sum l).toNat : Int) := by
    rw [List.flatten_cons, List.flatten_cons, List.flatten_nil, List.append_nil, List.take_append_drop]
  have hs3 : ((sum ([l.take a, [], l.drop a] : List (List UInt8)).flatten).toNat : Int) = ((sum l).toNat : Int) := by
    rw [List.flatten_cons, List.flatten_cons, List.flatten_cons, List.flatten_nil, List.append_nil, List.nil_append, List.take_append_drop]
  have HS1 := Lib.hid hs1
  have HS2 := Lib.hid hs2
  have HS3 := Lib.hid hs3
  clear hs1 hs2 hs3
  have hn := (sum l).isLt
  generalize (sum l).toNat = n at *
  have hmc : m ≤ cap := by omega
  have hac : a ≤ cap := by omega
  go_wp2_with fail
  refine (bits_on [l] (one_part H1.out.holds HLL.out) rfl (by simp) (by simp [HLL.out]; omega) _ HS1.out).mono ?_
  rintro e x2 ⟨rfl, hb2⟩
  have H2 := Lib.hid ((H1.out.alloc _).step hb2).drew
  clear H1 hb2
  obtain ⟨B, hB⟩ : ∃ B, (if cap = a then A else A.map (·.add a)) = B := ⟨_, rfl⟩
  have HB := Lib.hid hB
  go_wp2
  refine region_plan [(true, 0), (true, 1), (true, 2), (true, 5), (false, 3), (false, 4), (true, 6), (true, 7), (true, 8), (true, 9), (true, 10), (true, 11), (true, 12), (true, 13), (true, 14), (true, 17), (false, 15), (false, 16), (true, 18), (true, 19), (true, 20), (true, 21), (true, 22), (true, 23), (true, 24), (true, 25), (true, 26), (true, 29), (false, 27), (false, 28), (true, 30), (true, 31), (true, 32)]
    (fun _ => True) (by kernel_rfl) (by kernel_rfl) (by kernel_rfl) rfl trivial ?_
  iterate 4 (refine Plan.take (v := ?_) rfl (by rfl) ?_ ?_; rotate_left 1; (focus (intro x hx; go_simp <;> (first | with_reducible rfl | rw [if_pos (by omega)]))); simp only [Act.put, List.setIfInBounds_toArray, List.set_cons_zero, List.set_cons_succ])
  refine Plan.loud rfl (fun K hK => ?_)
  go_simp
  refine hK.out _ _ _ (fun x hx => hx) trivial ?_
  clear hK K
  refine Plan.loud rfl (fun K hK => ?_)
  go_simp
  refine (table_on [l] (H2.out.alloc _).tab (one_part H2.out.holds HLL.out) rfl (by simp) (by simp [HLL.out]; omega) _ HS1.out).mono ?_
  rintro e x3 ⟨rfl, hb3⟩
  have H3 := Lib.hid ((H2.out.alloc _).step hb3)
  clear H2 hb3
  refine hK.out _ _ _ (fun x hx => hx) trivial ?_
  clear hK K
  have HTK : Hid (Holds x3 g A (bcs (l.take a))) := by
    show Holds _ _ _ _
    rw [show bcs (l.take a) = (bcs l).take a by simp [bcs]]
    exact H3.out.holds.take a
  have HDR : Hid (Holds x3 g B (bcs (l.drop a))) := by
    have := H3.out.holds.drop a cap (by rw [bcs_length, HLL.out]; exact ham) (by rw [bcs_length, HLL.out]; omega)
    rw [HB.out, show (bcs l).drop a = bcs (l.drop a) by simp [bcs]] at this
    exact this
  have HTL : Hid ((l.take a).length = a) := by show _ = _; rw [List.length_take, HLL.out]; omega
  have HDL : Hid ((l.drop a).length = m - a) := by show _ = _; rw [List.length_drop, HLL.out]
  iterate 10 (refine Plan.take (v := ?_) rfl (by rfl) ?_ ?_; rotate_left 1; (focus (intro x hx; go_simp <;> (first | with_reducible rfl | rw [if_pos (by omega)]))); simp only [Act.put, List.setIfInBounds_toArray, List.set_cons_zero, List.set_cons_succ])
  refine Plan.loud rfl (fun K hK => ?_)
  go_simp
  refine hK.out _ _ _ (fun x hx => hx) trivial ?_
  clear hK K
  refine Plan.loud rfl (fun K hK => ?_)
  go_simp
  refine (bits_on [l.take a, [], l.drop a] (three_part HTK.out HTL.out (Holds.nil _ 0 _) rfl HDR.out HDL.out) rfl (by simp) (by simp [HLL.out]; omega) _ HS3.out).mono ?_
  rintro e x4 ⟨rfl, hb4⟩
  have H4 := Lib.hid ((H3.out.alloc _).step hb4)
  replace HTK := Lib.hid ((HTK.out.keep ((Ch.refl [] _).alloc _) (by simp)).keep (Ch.of_below hb4) (by simp))
  replace HDR := Lib.hid ((HDR.out.keep ((Ch.refl [] _).alloc _) (by simp)).keep (Ch.of_below hb4) (by simp))
  clear H3 hb4
  refine hK.out _ _ _ (fun x hx => hx) trivial ?_
  clear hK K
  iterate 10 (refine Plan.take (v := ?_) rfl (by rfl) ?_ ?_; rotate_left 1; (focus (intro x hx; go_simp <;> (first | with_reducible rfl | rw [if_pos (by omega)]))); simp only [Act.put, List.setIfInBounds_toArray, List.set_cons_zero, List.set_cons_succ])
  refine Plan.loud rfl (fun K hK => ?_)
  go_simp
  refine hK.out _ _ _ (fun x hx => hx) trivial ?_
  clear hK K
  refine Plan.loud rfl (fun K hK => ?_)
  go_simp
  refine (table_on [l.take a, l.drop a] (H4.out.alloc _).tab (two_part HTK.out HTL.out HDR.out HDL.out) rfl (by simp) (by simp [HLL.out]; omega) _ HS2.out).mono ?_
  rintro e x5 ⟨rfl, hb5⟩
  have H5 := Lib.hid ((H4.out.alloc _).step hb5)
  clear H4 hb5
  refine hK.out _ _ _ (fun x hx => hx) trivial ?_
  clear hK K
  iterate 3 (refine Plan.take (v := ?_) rfl (by rfl) ?_ ?_; rotate_left 1; (focus (intro x hx; go_simp <;> (first | with_reducible rfl | rw [if_pos (by omega)]))); simp only [Act.put, List.setIfInBounds_toArray, List.set_cons_zero, List.set_cons_succ])
  refine Plan.done ?_
  go_wp2
  go_ret
  exact ⟨rfl, H5.out.below⟩

end Go.Proofs.YtcboklkpfjefmaaDoor
