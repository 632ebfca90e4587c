/-
  stuff.Stuff, as it landed: it ranges over a function of its own (stuffed). What that function hands on, and what Stuff answers.
-/
import Derived.Test.YtalolefggihloaaDoorFStuffShown
import Derived.RangeFuncBox
import Derived.RangeFuncLeaves
import Derived.Shelf.Abstract
import Derived.OwnWalkIn
import Derived.TacticsInMore
import Derived.LoopNIn
import Derived.LoopIn
import Derived.Maps.AppendAt
namespace Go.Proofs.YtalolefggihloaaDoor
set_option linter.unusedVariables false
set_option linter.unusedSimpArgs false
open Go.RowKit Go.Shelf

attribute [local go_sem] Oper.semAt_some

theorem stf_split (l : List UInt8) (k : Nat) (h : k < l.length) : stf l = stf (l.take k) ++ (stf1 l[k] ++ stf (l.drop (k + 1))) := by
  conv => lhs; rw [← List.take_append_drop k l, List.drop_eq_getElem_cons h, stf_append, stf_cons]

set_option maxRecDepth 100000 in
set_option maxHeartbeats 2000000 in
/-- The function that stuffed hands back, for every body that keeps what lay below n₀. -/
theorem iter1 (F : Fence) (n : Nat) (hf : F.fn 44) (hro : F.round = none) (hn : 1 ≤ n) (l Bs n₀ g : Nat) (A : Option Addr) (c : Nat) (zs : List UInt8) (hz : zs.length ≤ 1000000) (hg : 0 < zs.length → g < n₀) (J Jx : List UInt8 → World → Prop)
    (hY : ∀ pre x W, J pre W → pre.length < (stf zs).length → YieldAt F (n - 1) Tryd.prog l #[.int .u8 (x.toNat : Int)] W fun e W' =>
      (e = .returned (.bool true) ∧ J (pre ++ [x]) W' ∧ Below n₀ W W') ∨ (e = .returned (.bool false) ∧ Jx (pre ++ [x]) W'))
    (W : World) (hBs : W.cell? ⟨Bs, 0, none⟩ = some (.slice A zs.length c)) (hc : Holds W g A (bcs zs)) (h0 : J [] W) :
    CallsIn F n Tryd.prog 44 #[.func (.yield l) #[] #[], .pointer (some ⟨Bs, 0, none⟩)] W fun e W' => (∃ v, e = .returned v) ∧
      ((∃ ys, ys = stf zs ∧ J ys W') ∨ (∃ pre, True ∧ Jx pre W')) := by
  have HC := Lib.hid hc
  have HY := Lib.hid hY
  clear hc hY
  refine callsIn_of_wp Tryd.func44 rfl hf ?_ hro
  simp only [Tryd.ntmps44, List.size_toArray, List.length_cons, List.length_nil, Nat.reduceAdd, Nat.reduceSub, Array.replicate_succ, Array.replicate_zero, List.push_toArray, List.append_toArray, List.nil_append, List.cons_append]
  gi_wp2
  gi_loopw [7] (fun i wr => ∃ k : Nat, k ≤ zs.length ∧ i = .int .i64 k ∧ Hid (J (stf (zs.take k)) wr) ∧ Hid (Below n₀ W wr))
    (fun i _ => zs.length - (intOf i).toNat)
  case atStart => exact ⟨0, Nat.zero_le _, rfl, h0, Below.refl _ _⟩
  case round =>
    obtain ⟨k, hk, rfl, hJs, hnx⟩ := hrel
    by_cases hlt : k < zs.length
    · have hlt' : (k : Int) < (zs.length : Int) := by omega
      obtain ⟨hgl, o, rfl, hcell⟩ := HC.out (by rw [bcs_length]; omega)
      have hcx : wr.cell? ⟨g, o + k, none⟩ = some (.int .u8 (zs[k].toNat : Int)) := (hnx.out.cell (p := ⟨g, o + k, none⟩) (hg (by omega))).trans (hcell k _ (bcs_get zs k hlt))
      have HN := Lib.hid (take_next zs k hlt)
      have hS := stf_split zs k hlt
      have hSl := congrArg List.length hS
      rw [List.length_append, List.length_append] at hSl
      clear hcell hS
      obtain ⟨b, hb⟩ : ∃ b, zs[k] = b := ⟨_, rfl⟩
      rw [hb] at HN hcx hSl
      clear hb
      rcases stf1_cases b with ⟨rfl, h1⟩ | ⟨rfl, h1⟩ | ⟨hb1, hb2, h1⟩
      · rw [h1] at HN hSl
        simp only [List.length_cons, List.length_nil] at hSl
        rw [show ((126 : UInt8).toNat : Int) = 126 from rfl] at hcx
        obtain ⟨fn, tmps, assign, body, hy, hR⟩ := HY.out _ 125 wr hJs.out (by omega)
        rw [show ((125 : UInt8).toNat : Int) = 125 from rfl] at hy
        gi_wp2
        refine hR.mono ?_
        rintro e W3 (⟨rfl, hJ3, hk3⟩ | ⟨rfl, hJx3⟩)
        · obtain ⟨fn2, tmps2, assign2, body2, hy2, hR2⟩ := HY.out _ 94 W3 hJ3 (by rw [List.length_append]; simp only [List.length_cons, List.length_nil]; omega)
          rw [show ((94 : UInt8).toNat : Int) = 94 from rfl] at hy2
          have hxr : bits .xor .u8 126 32 = 94 := by decide
          replace hnx := Lib.hid (hnx.out.trans hk3)
          clear hy hR hJ3 hk3
          gi_wp2
          refine hR2.mono ?_
          rintro e W4 (⟨rfl, hJ4, hk4⟩ | ⟨rfl, hJx4⟩)
          · gi_wp2
            go_roundw
            case rel => exact ⟨k + 1, by omega, by simp, (by show J _ _; rw [HN.out]; simpa using hJ4), hnx.out.trans hk4⟩
            case measure => simp [intOf]; omega
          · gi_wp2
            refine bodyPost_ret (results_none rfl _ _ _) rfl ?_
            exact ⟨⟨_, rfl⟩, .inr ⟨_, trivial, hJx4⟩⟩
        · gi_wp2
          refine bodyPost_ret (results_none rfl _ _ _) rfl ?_
          exact ⟨⟨_, rfl⟩, .inr ⟨_, trivial, hJx3⟩⟩
      · rw [h1] at HN hSl
        simp only [List.length_cons, List.length_nil] at hSl
        rw [show ((125 : UInt8).toNat : Int) = 125 from rfl] at hcx
        obtain ⟨fn, tmps, assign, body, hy, hR⟩ := HY.out _ 125 wr hJs.out (by omega)
        rw [show ((125 : UInt8).toNat : Int) = 125 from rfl] at hy
        gi_wp2
        refine hR.mono ?_
        rintro e W3 (⟨rfl, hJ3, hk3⟩ | ⟨rfl, hJx3⟩)
        · obtain ⟨fn2, tmps2, assign2, body2, hy2, hR2⟩ := HY.out _ 93 W3 hJ3 (by rw [List.length_append]; simp only [List.length_cons, List.length_nil]; omega)
          rw [show ((93 : UInt8).toNat : Int) = 93 from rfl] at hy2
          have hxr : bits .xor .u8 125 32 = 93 := by decide
          replace hnx := Lib.hid (hnx.out.trans hk3)
          clear hy hR hJ3 hk3
          gi_wp2
          refine hR2.mono ?_
          rintro e W4 (⟨rfl, hJ4, hk4⟩ | ⟨rfl, hJx4⟩)
          · gi_wp2
            go_roundw
            case rel => exact ⟨k + 1, by omega, by simp, (by show J _ _; rw [HN.out]; simpa using hJ4), hnx.out.trans hk4⟩
            case measure => simp [intOf]; omega
          · gi_wp2
            refine bodyPost_ret (results_none rfl _ _ _) rfl ?_
            exact ⟨⟨_, rfl⟩, .inr ⟨_, trivial, hJx4⟩⟩
        · gi_wp2
          refine bodyPost_ret (results_none rfl _ _ _) rfl ?_
          exact ⟨⟨_, rfl⟩, .inr ⟨_, trivial, hJx3⟩⟩
      · rw [h1] at HN hSl
        simp only [List.length_cons, List.length_nil] at hSl
        have hn1 : ((b.toNat : Int) == 126) = false := u8_ne (n := 126) (by omega) hb1
        have hn2 : ((b.toNat : Int) == 125) = false := u8_ne (n := 125) (by omega) hb2
        obtain ⟨fn, tmps, assign, body, hy, hR⟩ := HY.out _ b wr hJs.out (by omega)
        clear hb1 hb2
        gi_wp2
        refine hR.mono ?_
        rintro e W3 (⟨rfl, hJ3, hk3⟩ | ⟨rfl, hJx3⟩)
        · gi_wp2
          go_roundw
          case rel => exact ⟨k + 1, by omega, by simp, (by show J _ _; rw [HN.out]; exact hJ3), hnx.out.trans hk3⟩
          case measure => simp [intOf]; omega
        · gi_wp2
          refine bodyPost_ret (results_none rfl _ _ _) rfl ?_
          exact ⟨⟨_, rfl⟩, .inr ⟨_, trivial, hJx3⟩⟩
    · obtain rfl : k = zs.length := by omega
      rw [List.take_length] at hJs
      gi_wp2
      go_end0
      exact ⟨⟨_, rfl⟩, .inl ⟨_, rfl, hJs.out⟩⟩

set_option maxHeartbeats 1000000 in
/-- stuffed: the slice is boxed; what is handed back has the box. -/
theorem stuffed_in (F : Fence) (n : Nat) (hf : F.fn 35) (hro : F.round = none) (a : Option Addr) (len cap : Nat) (w : World) :
    CallsIn F n Tryd.prog 35 #[.slice a len cap] w fun e w' => e = .returned (.func (.func 44) #[] #[.pointer (some ⟨w.heap.size, 0, none⟩)]) ∧ w' = w.alloc (.cells #[.slice a len cap] 32) := by
  refine callsIn_of_wp Tryd.func35 rfl hf ?_ hro
  simp only [Tryd.ntmps35, List.size_toArray, List.length_cons, List.length_nil, Nat.reduceAdd, Nat.reduceSub, Array.replicate_succ, Array.replicate_zero, List.push_toArray, List.append_toArray, List.nil_append, List.cons_append]
  gi_wp2
  go_ret
  exact ⟨rfl, rfl⟩

theorem iter_stops (F : Fence) (n : Nat) (hf : F.fn 44) (hro : F.round = none) (hn : 1 ≤ n) (Bs n₀ g : Nat) (A : Option Addr) (c : Nat) (zs : List UInt8) (hz : zs.length ≤ 1000000) (w : World) (hBs : Bs < w.heap.size) (hn₀ : n₀ ≤ w.heap.size) (hg : 0 < zs.length → g < n₀)
    (hb : w.cell? ⟨Bs, 0, none⟩ = some (.slice A zs.length c)) (hc : Holds w g A (bcs zs)) :
    SeqStopsK F n Tryd.prog 44 #[.pointer (some ⟨Bs, 0, none⟩)] (fun x : UInt8 => #[Value.int .u8 (x.toNat : Int)]) (Below n₀) (fun ys => ys = stf zs) (fun _ => True) (stf zs).length w := fun l J Jx W hW _ _ hY h0 =>
  iter1 F n hf hro hn l Bs n₀ g A c zs hz hg J Jx hY W ((hW.cell (p := ⟨Bs, 0, none⟩) hBs).trans hb) (hc.keep (Ch.of_below hW) (by simp)) h0

end Go.Proofs.YtalolefggihloaaDoor
