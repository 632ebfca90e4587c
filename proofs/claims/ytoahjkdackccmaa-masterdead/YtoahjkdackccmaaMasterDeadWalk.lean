/-
  lamplightlaw07.MasterDead, walked: true, whatever came in.
-/
import Derived.Test.YtoahjkdackccmaaMasL
namespace Go.Proofs.Ytoahjkdackccmaa
set_option linter.unusedVariables false
set_option linter.unusedSimpArgs false
open Go.RowKit

theorem Lm.re {w x : World} {D N M : Nat} {m : Ma} (h : Lm w D N m x) (ho : m.Ok M) : Lm w D M m x := ⟨h.mas, ho, h.below, h.le⟩
theorem dead_next {a s T st k : Nat} (hst : st ≠ 1) : nextM ⟨0, 0, a, s, T, st, k, 0, []⟩ = ⟨a, 1, s, 0, 0, []⟩ := by simp [nextM, hst]
theorem dead_open {a s T st k : Nat} (hst : st ≠ 1) (hs : k + 1 = s) : heardM ⟨0, 0, a, s, T, st, k, 0, []⟩ ⟨a, 4, s, 0, 0, []⟩ = (⟨0, 0, a, s, T, 1, s, 0, []⟩, [], true) := by
  have h := openM (m := ⟨0, 0, a, s, T, st, k, 0, []⟩) hst
  rw [show riseM (quiet ⟨0, 0, a, s, T, st, k, 0, []⟩) = ⟨0, 0, a, s, T, 1, k + 1, 0, []⟩ from rfl, hs] at h
  exact h
theorem dead_miss {a s T i : Nat} {q : List (List UInt8)} (h1 : 1 ≤ i) (h2 : i < T) : missedM ⟨0, 0, a, s, T, 1, s, i - 1, q⟩ = (⟨0, 0, a, s, T, 1, s, i, q⟩, false) := by
  unfold missedM
  simp only
  rw [if_pos (by omega), show i - 1 + 1 = i by omega]
theorem dead_last {a s T i : Nat} {q : List (List UInt8)} (h1 : 1 ≤ i) (h2 : i = T) (hs : s < 255) : missedM ⟨0, 0, a, s, T, 1, s, i - 1, q⟩ = (⟨0, 0, a, s + 1, T, 2, s, 0, []⟩, true) := by
  unfold missedM
  simp only
  rw [if_neg (by omega)]
  simp [closeM, nxt]
  omega
theorem dead_send {a s T k : Nat} : sendM ⟨0, 0, a, s, T, 2, k, 0, []⟩ [120] = (⟨0, 0, a, s, T, 2, k, 0, []⟩, 7) := rfl
theorem dead_ok {a s T st k i : Nat} {q : List (List UInt8)} (ha : a < 256) (hs0 : 1 ≤ s) (hs : s ≤ 100) (hT0 : 1 ≤ T) (hT : T ≤ 50) (hst : st ≤ 2) (hk : k ≤ 100) (hi : i ≤ 100) (hq : q.length ≤ 8) (hqb : ∀ b ∈ q, b.length ≤ 24) : (⟨0, 0, a, s, T, st, k, i, q⟩ : Ma).Ok 1000 :=
  ⟨Nat.zero_le _, Nat.zero_le _, ha, hs0, by show s ≤ 255; omega, by show (1 : Int) ≤ (T : Int); omega, by show (T : Int) ≤ _; omega, hst, by show k ≤ 1000; omega, by show i ≤ 1000; omega, hq, hqb⟩

set_option maxRecDepth 100000 in
set_option maxHeartbeats 6400000 in
theorem masterdead_walk (a : Nat) (t c r : Int) (w : World) (ha : a < 256) :
    Calls Try.prog 5 #[.int .u8 (a : Int), .int .i64 t, .int .i64 c, .int .i64 r] w fun e w' => e = .returned (.bool true) ∧ Below w.heap.size w w' := by
  obtain ⟨t0, ht50, ht1, ht2⟩ := place_at t 50 (by decide)
  obtain ⟨r0, hr10, hr1, hr2⟩ := place_at r 10 (by decide)
  obtain ⟨n, hn7, hn⟩ := and7_of c
  rw [show ((50 : Nat) : Int) = 50 from rfl] at ht1 ht2
  rw [show ((10 : Nat) : Int) = 10 from rfl] at hr1 hr2
  obtain ⟨T, hT⟩ : ∃ T : Nat, (1 : Int) + (t0 : Int) = (T : Int) := ⟨t0 + 1, by omega⟩
  have HT0 : Hid (1 ≤ T) := by show _ ≤ _; omega
  have HT1 : Hid (T ≤ 50) := by show _ ≤ _; omega
  have HA := Lib.hid ha
  clear ha
  go_enter Try.func5, Try.ntmps5
  go_wp2_with fail
  refine (shown_on w).mono ?_
  rintro e x0 ⟨rfl, hb0⟩
  have HB0 := Lib.hid hb0
  clear hb0
  go_wp2_with fail
  refine (new_lm (w := w) (t := (T : Int)) HA.out (by have := HT1.out; omega) HB0.out).mono ?_
  rintro e x1 ⟨rfl, h1, _⟩
  have H1 : Hid (Lm w x0.heap.size 1000 ⟨0, 0, a, 0 + 1, T, 0, 0, 0, []⟩ x1) := by
    rw [show newM a (T : Int) = ⟨0, 0, a, 0 + 1, T, 0, 0, 0, []⟩ by unfold newM; rw [show max (T : Int) 1 = T by have := HT0.out; omega]] at h1
    exact h1.more (by decide)
  clear h1 HB0 ht1 ht2 hT
  generalize x0.heap.size = D at *
  go_wp2
  go_loopw [11] (fun i wr => ∃ (k st : Nat), k ≤ r0 ∧ i = .int .i64 k ∧ Hid (st ≠ 1) ∧ Hid (st ≤ 2) ∧ Hid (Lm w D 1000 ⟨0, 0, a, k + 1, T, st, k, 0, []⟩ wr)) (fun i _ => r0 - (intOf i).toNat)
  case atStart => exact ⟨0, 0, Nat.zero_le _, rfl, Lib.hid (by decide), Lib.hid (by decide), H1⟩
  case round =>
    clear H1
    obtain ⟨k, st, hk, rfl, HST, HST2, H⟩ := hrel
    by_cases hlt : k < r0
    · have hlt' : (k : Int) < (r0 : Int) := by omega
      generalize hs : k + 1 = s at *
      have HS := Lib.hid hs
      have hks : (k : Int) + 1 = (s : Int) := by omega
      have hws : IntKind.u8.wrap (s : Int) = (s : Int) := by rw [IntKind.wrap_u8]; omega
      have hs20 : s ≤ 20 := by omega
      clear hs
      go_wp2_with fail
      refine (next_lm H.out).mono ?_
      rintro e x2 ⟨A2, c2, rfl, _, h2, _⟩
      rw [dead_next HST.out]
      simp only [List.length_nil]
      have HF : Hid (Fx (x2.alloc (.cells #[.int .u8 (a : Int), .int .u8 1, .int .u8 (s : Int), .int .u8 0, .int .u8 0, .slice A2 0 c2] 30)) x2.heap.size ⟨a, 1, s, 0, 0, []⟩ (.slice A2 0 c2)) := heap_alloc_new x2 _
      have H2 := Lib.hid (h2.step (new_below x2 (.cells #[.int .u8 (a : Int), .int .u8 1, .int .u8 (s : Int), .int .u8 0, .int .u8 0, .slice A2 0 c2] 30)))
      clear h2 H
      go_upto_region 10 with fail
      generalize x2.alloc (.cells #[.int .u8 (a : Int), .int .u8 1, .int .u8 (s : Int), .int .u8 0, .int .u8 0, .slice A2 0 c2] 30) = x3 at *
      generalize x2.heap.size = F at *
      have e1 := HF.out.fc.c1
      have e2 := HF.out.fc.c2
      simp only at e1 e2
      go_wp2_with fail
      refine (heard_lm (f := ⟨a, 4, s, 0, 0, []⟩) H2.out (by decide) (Hb.empty _ _ _) (Nat.zero_le _)).mono ?_
      rintro e x4 ⟨A4, c4, rfl, _, h4, _⟩
      rw [dead_open HST.out HS.out] at h4 ⊢
      simp only [List.length_nil]
      have H4 := Lib.hid (h4.re (dead_ok HA.out (by have := HS.out; omega) (by omega) HT0.out HT1.out (by decide) (by omega) (Nat.zero_le _) (Nat.zero_le _) (by intro b hb; cases hb)))
      clear h4 H2 e1 e2 HF
      go_wp2_with fail
      refine (state_lm H4.out).mono ?_
      rintro e y ⟨rfl, rfl⟩
      go_wp2_with fail
      refine (epoch_lm H4.out).mono ?_
      rintro e y ⟨rfl, rfl⟩
      go_wp2_with fail
      refine (len_lm H4.out).mono ?_
      rintro e y ⟨rfl, rfl⟩
      simp only [List.length_nil, show ((0 : Nat) : Int) = 0 from rfl]
      go_wp2
      go_loopw [16] (fun i wr => ∃ (j : Nat) (q : List (List UInt8)), j ≤ n ∧ i = .int .i64 j ∧ Hid (q.length = j) ∧ Hid (Lm w D 1000 ⟨0, 0, a, s, T, 1, s, 0, q⟩ wr)) (fun i _ => n - (intOf i).toNat)
      case atStart => exact ⟨0, [], Nat.zero_le _, rfl, Lib.hid rfl, H4⟩
      case round =>
        clear H4
        obtain ⟨j, q, hj, rfl, HQ, H5⟩ := hrel
        by_cases hjl : j < n
        · have hjl' : (j : Int) < (n : Int) := by omega
          have hwr : IntKind.u8.wrap (j : Int) = (j : Int) := by rw [IntKind.wrap_u8]; omega
          have HB := Lib.hid (new_below wr (.cells #[.int .u8 (j : Int)] 5))
          have HH := Lib.hid (Hb.byte wr D j (by omega))
          go_wp2_with fail
          refine (send_lm (H5.out.step HB.out) HH.out rfl).mono ?_
          rintro e x6 ⟨rfl, h6, _⟩
          rw [sendM_more rfl rfl (show q.length < 8 by have := HQ.out; omega)] at h6 ⊢
          have H6 := Lib.hid h6
          have HQ6 : Hid ((q ++ [[UInt8.ofNat j]]).length = j + 1) := by show _ = _; rw [List.length_append, HQ.out]; rfl
          clear h6 HB HH
          go_wp2
          go_roundw
          case rel => exact ⟨j + 1, q ++ [[UInt8.ofNat j]], by omega, by go_num, HQ6, H6⟩
          case measure => have := HT1.out; simp [intOf]; omega
        · have hjn : j = n := by omega
          have hjl' : ¬ (j : Int) < (n : Int) := by omega
          have HQB : Hid (q.length ≤ 8) := by show _ ≤ _; have := HQ.out; omega
          have HN : Hid (∀ b ∈ q, b.length ≤ 24) := H5.out.ok.qb
          clear hjn HQ
          go_wp2
          go_loopw [17] (fun i wr => (∃ p : Nat, 1 ≤ p ∧ p ≤ T ∧ i = .int .i64 p ∧ Hid (Lm w D 1000 ⟨0, 0, a, s, T, 1, s, p - 1, q⟩ wr)) ∨ (i = .int .i64 ((T + 1 : Nat) : Int) ∧ Hid (Lm w D 1000 ⟨0, 0, a, s + 1, T, 2, s, 0, []⟩ wr))) (fun i _ => T + 1 - (intOf i).toNat)
          case atStart => exact .inl ⟨1, Nat.le_refl _, HT0.out, rfl, H5⟩
          case round =>
            clear H5
            rcases hrel with ⟨p, hp1, hpT, rfl, H6⟩ | ⟨rfl, H6⟩
            · have hpT' : (p : Int) ≤ (T : Int) := by omega
              have hp50 : p ≤ 50 := by have := HT1.out; omega
              by_cases hlast : p = T
              · go_wp2_with fail
                refine (missed_lm H6.out (by decide)).mono ?_
                rintro e x7 ⟨rfl, h7, _⟩
                rw [dead_last hp1 hlast (by omega)] at h7 ⊢
                have H7 := Lib.hid (h7.re (dead_ok HA.out (by omega) (by omega) HT0.out HT1.out (by decide) (by omega) (Nat.zero_le _) (Nat.zero_le _) (by intro b hb; cases hb)))
                have hpe : ((p : Int) == (T : Int)) = true := by simp; omega
                clear h7 H6
                go_wp2
                go_roundw
                case rel => exact .inr ⟨by have := HT1.out; subst hlast; go_num, H7⟩
                case measure => have := HT1.out; simp [intOf]; omega
              · go_wp2_with fail
                refine (missed_lm H6.out (by decide)).mono ?_
                rintro e x7 ⟨rfl, h7, _⟩
                rw [dead_miss hp1 (by omega)] at h7 ⊢
                have H7 : Hid (Lm w D 1000 ⟨0, 0, a, s, T, 1, s, p + 1 - 1, q⟩ x7) := Lib.hid (h7.re (dead_ok HA.out (by have := HS.out; omega) (by omega) HT0.out HT1.out (by decide) (by omega) (by have := HT1.out; omega) HQB.out HN.out))
                have hpe : ((p : Int) == (T : Int)) = false := by simp; omega
                clear h7 H6
                go_wp2
                go_roundw
                case rel => exact .inl ⟨p + 1, by omega, by omega, by have := HT1.out; go_num, H7⟩
                case measure => have := HT1.out; simp [intOf]; omega
            · have hT' : ¬ (((T + 1 : Nat) : Int) ≤ (T : Int)) := by omega
              generalize ((T + 1 : Nat) : Int) = TT at *
              go_wp2_with fail
              refine (state_lm H6.out).mono ?_
              rintro e y ⟨rfl, rfl⟩
              go_wp2_with fail
              refine (len_lm H6.out).mono ?_
              rintro e y ⟨rfl, rfl⟩
              simp only [List.length_nil]
              have hcv := const_one y #[.int .u8 120] 1 1
              have HB1 := Lib.hid (new_below y (.cells #[.int .u8 120] 5 (1, 2)))
              have HH1 := Lib.hid (Hb.lit y D [120] (1, 2))
              go_wp2_with fail
              clear hcv
              refine (send_lm (H6.out.step HB1.out) HH1.out rfl).mono ?_
              rintro e x8 ⟨rfl, h8, _⟩
              rw [dead_send] at h8 ⊢
              have H8 := Lib.hid h8
              clear h8 H6
              go_wp2
              go_roundw
              case rel => exact ⟨k + 1, 2, by omega, by go_num, Lib.hid (by decide), Lib.hid (by decide), by rw [HS.out]; exact H8⟩
              case measure => have := HT1.out; simp [intOf]; omega
    · have hlt' : ¬ (k : Int) < (r0 : Int) := by omega
      go_wp2
      go_ret
      exact ⟨rfl, H.out.below⟩

end Go.Proofs.Ytoahjkdackccmaa
