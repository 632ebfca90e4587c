/-
  lamplightlaw07.MasterCloses, walked: true, whatever came in.
-/
import Derived.Test.YtoahjkdackccmaaMasL
namespace Go.Proofs.Ytoahjkdackccmaa
set_option linter.unusedVariables false
set_option linter.unusedSimpArgs false
open Go.RowKit

abbrev upM (a : Nat) (t : Int) (q : List (List UInt8)) : Ma := ⟨0, 0, a, 1, t, 1, 1, 0, q⟩
theorem up_open (a : Nat) (t : Int) (ht : max t 1 = t) : heardM (newM a t) ⟨a, 4, 1, 0, 0, []⟩ = (upM a t [], [], true) := by
  have h := openM (m := newM a t) (by simp [newM])
  rw [newM, ht] at h ⊢
  exact h
theorem up_same (a : Nat) (t : Int) (q : List (List UInt8)) : heardM (upM a t q) ⟨a, 5, 1, 0, 0, []⟩ = (upM a t q, [], true) := by
  simp [heardM, lisM, settleM, freshM, quiet]
theorem up_other (a : Nat) (t : Int) (q : List (List UInt8)) (s : Nat) (hs : s ≠ 1) : heardM (upM a t q) ⟨a, 5, s, 0, 0, []⟩ = (⟨0, 0, a, 2, t, 0, 1, 0, []⟩, [], true) := by
  simp [heardM, lisM, quiet, hs, closeM, nxt]
theorem closed_no (a : Nat) (t : Int) : heardM ⟨0, 0, a, 2, t, 0, 1, 0, []⟩ ⟨a, 4, 1, 0, 0, []⟩ = (⟨0, 0, a, 2, t, 0, 1, 0, []⟩, [], false) := by
  simp [heardM, lisM]
theorem closed_next (a : Nat) (t : Int) : nextM ⟨0, 0, a, 2, t, 0, 1, 0, []⟩ = ⟨a, 1, 2, 0, 0, []⟩ := rfl

set_option maxRecDepth 100000 in
set_option maxHeartbeats 3200000 in
theorem mastercloses_walk (a : Nat) (n : Int) (s : Nat) (w : World) (ha : a < 256) (hs : s < 256) :
    Calls Try.prog 9 #[.int .u8 (a : Int), .int .i64 n, .int .u8 (s : Int)] w fun e w' => e = .returned (.bool true) ∧ Below w.heap.size w w' := by
  obtain ⟨k, hk7, hk⟩ := and7_of n
  go_enter Try.func9, Try.ntmps9
  go_wp2_with fail
  refine (shown_on w).mono ?_
  rintro e x0 ⟨rfl, hb0⟩
  have HB0 := Lib.hid hb0
  clear hb0
  go_wp2_with fail
  refine (new_lm (w := w) ha (by decide) HB0.out).mono ?_
  rintro e x1 ⟨rfl, h1, _⟩
  have H1 := Lib.hid h1
  clear h1 HB0
  generalize x0.heap.size = D at *
  go_wp2_with fail
  refine (heard_lm (f := ⟨a, 4, 1, 0, 0, []⟩) H1.out (by decide) (Hb.empty _ _ _) (Nat.zero_le _)).mono ?_
  rintro e x2 ⟨A2, c2, rfl, _, h2, _⟩
  rw [up_open a 5 rfl] at h2 ⊢
  have H2 := Lib.hid (h2.more (show 0 + 1 ≤ 100 by decide))
  simp only [List.length_nil] at ⊢
  clear h2 H1
  go_wp2
  go_loopw [9] (fun i wr => ∃ (j : Nat) (q : List (List UInt8)), j ≤ k ∧ i = .int .i64 j ∧ q.length = j ∧ Hid (Lm w D 100 (upM a 5 q) wr)) (fun i _ => k - (intOf i).toNat)
  case atStart => exact ⟨0, [], Nat.zero_le _, rfl, rfl, H2⟩
  case round =>
    clear H2
    obtain ⟨j, q, hj, rfl, hq, H⟩ := hrel
    have HQ := Lib.hid hq
    clear hq
    by_cases hlt : j < k
    · have hlt' : (j : Int) < (k : Int) := by omega
      have hwr : IntKind.u8.wrap (j : Int) = (j : Int) := by rw [IntKind.wrap_u8]; omega
      have HB := Lib.hid (new_below wr (.cells #[.int .u8 (j : Int)] 5))
      have HH := Lib.hid (Hb.byte wr D j (by omega))
      go_wp2_with fail
      refine (send_lm (H.out.step HB.out) HH.out rfl).mono ?_
      rintro e x3 ⟨rfl, h3, _⟩
      rw [sendM_more rfl rfl (show q.length < 8 by have := HQ.out; omega)] at h3 ⊢
      have H3 := Lib.hid h3
      have HQ3 : Hid ((q ++ [[UInt8.ofNat j]]).length = j + 1) := by show _ = _; rw [List.length_append, HQ.out]; rfl
      clear h3 HB HH
      go_wp2
      go_roundw
      case rel => exact ⟨j + 1, q ++ [[UInt8.ofNat j]], by omega, by go_num, HQ3.out, H3⟩
      case measure => simp [intOf]; omega
    · have hjk : j = k := by omega
      subst hjk
      go_wp2_with fail
      refine (heard_lm (f := ⟨a, 5, s, 0, 0, []⟩) H.out (by decide) (Hb.empty _ _ _) (Nat.zero_le _)).mono ?_
      rintro e x3 ⟨A3, c3, rfl, _, h3, _⟩
      by_cases hs1 : s = 1
      · subst hs1
        rw [up_same] at h3 ⊢
        have H3 := Lib.hid h3
        simp only [List.length_nil] at ⊢
        clear h3 H
        go_wp2_with fail
        refine (state_lm H3.out).mono ?_
        rintro e y ⟨rfl, rfl⟩
        go_wp2_with fail
        refine (len_lm H3.out).mono ?_
        rintro e y ⟨rfl, rfl⟩
        simp only [HQ.out]
        go_wp2
        go_ret
        exact ⟨rfl, H3.out.below⟩
      · rw [up_other a 5 q s hs1] at h3 ⊢
        have H3 := Lib.hid h3
        simp only [List.length_nil] at ⊢
        clear h3 H
        have hs1' : ((s : Int) == 1) = false := by simp; omega
        go_wp2_with fail
        refine (next_lm H3.out).mono ?_
        rintro e x4 ⟨A4, c4, rfl, _, h4, _⟩
        rw [closed_next]
        simp only [List.length_nil]
        have HF0 : Hid (Fx (x4.alloc (.cells #[.int .u8 (a : Int), .int .u8 1, .int .u8 2, .int .u8 0, .int .u8 0, .slice A4 0 c4] 30)) x4.heap.size ⟨a, 1, 2, 0, 0, []⟩ (.slice A4 0 c4)) := heap_alloc_new x4 _
        have H4 := Lib.hid (h4.step (new_below x4 (.cells #[.int .u8 (a : Int), .int .u8 1, .int .u8 2, .int .u8 0, .int .u8 0, .slice A4 0 c4] 30)))
        clear h4 H3
        go_upto_region 18 with fail
        generalize x4.alloc (.cells #[.int .u8 (a : Int), .int .u8 1, .int .u8 2, .int .u8 0, .int .u8 0, .slice A4 0 c4] 30) = x5 at *
        generalize x4.heap.size = F at *
        go_wp2_with fail
        refine (heard_lm (f := ⟨a, 4, 1, 0, 0, []⟩) H4.out (by decide) (Hb.empty _ _ _) (Nat.zero_le _)).mono ?_
        rintro e x6 ⟨A6, c6, rfl, _, h6, hf6⟩
        rw [closed_no] at h6 ⊢
        have H6 := Lib.hid h6
        have ef := (HF0.out.ft hf6 (by decide)).fc
        have e1 := ef.c1
        have e2 := ef.c2
        simp only [List.length_nil] at ⊢
        clear h6 H4 hf6 ef
        go_wp2_with fail
        refine (len_lm H6.out).mono ?_
        rintro e y ⟨rfl, rfl⟩
        go_wp2_with fail
        refine (state_lm H6.out).mono ?_
        rintro e y ⟨rfl, rfl⟩
        go_wp2_with fail
        refine (epoch_lm H6.out).mono ?_
        rintro e y ⟨rfl, rfl⟩
        go_wp2
        go_ret
        exact ⟨rfl, H6.out.below⟩

end Go.Proofs.Ytoahjkdackccmaa
