/-
  lamplightlaw07.MasterSends, walked: true, whatever came in.
-/
import Derived.Test.YtoahjkdackccmaaMasL
namespace Go.Proofs.Ytoahjkdackccmaa
set_option linter.unusedVariables false
set_option linter.unusedSimpArgs false
open Go.RowKit

abbrev sdM (a b : Nat) (q : List (List UInt8)) : Ma := ⟨b, 0, a, 1, 5, 1, 1, 0, q⟩
theorem sd_open (a : Nat) : heardM (newM a 5) ⟨a, 4, 1, 0, 0, []⟩ = (sdM a 0 [], [], true) := openM (m := newM a 5) (by simp [newM])
theorem sd_same (a b : Nat) (q : List (List UInt8)) : heardM (sdM a b q) ⟨a, 5, 1, 0, b, []⟩ = (sdM a b q, [], true) := by
  simp [heardM, lisM, settleM, freshM, quiet]
theorem sd_ack (a b b' : Nat) (x : List UInt8) (q : List (List UInt8)) (h : b' ≠ b) (h1 : 1 - b = b') : heardM (sdM a b (x :: q)) ⟨a, 5, 1, 0, b', []⟩ = (sdM a b' q, [], true) := by
  simp [heardM, lisM, settleM, freshM, quiet, h, h1]
theorem sd_next (a b : Nat) (x : List UInt8) (q : List (List UInt8)) : nextM (sdM a b (x :: q)) = ⟨a, 2, 1, b, 0, x⟩ := rfl
theorem sd_poll (a b : Nat) : nextM (sdM a b []) = ⟨a, 3, 1, b, 0, []⟩ := rfl
def qs (l : List UInt8) : List (List UInt8) := l.map fun b => [b]
theorem qs_length (l : List UInt8) : (qs l).length = l.length := by simp [qs]
theorem qs_snoc (l : List UInt8) (j : Nat) (h : j < l.length) : qs (l.take j) ++ [[l[j]]] = qs (l.take (j + 1)) := by
  unfold qs; rw [List.take_succ_eq_append_getElem h, List.map_append]; rfl
theorem qs_drop (l : List UInt8) (j : Nat) (h : j < l.length) : qs (l.drop j) = [l[j]] :: qs (l.drop (j + 1)) := by
  unfold qs; rw [List.drop_eq_getElem_cons h, List.map_cons]
theorem sd_ok (a b : Nat) (q : List (List UInt8)) (ha : a < 256) (hb : b ≤ 1) (hq : q.length ≤ 8) (hqb : ∀ x ∈ q, x.length ≤ 24) : (sdM a b q).Ok 100 :=
  ⟨hb, Nat.zero_le _, ha, Nat.le_refl _, by show 1 ≤ 255; omega, by show (1 : Int) ≤ 5; omega, by show (5 : Int) ≤ _; omega, by show 1 ≤ 2; omega, by show 1 ≤ 100; omega, Nat.zero_le _, hq, hqb⟩
theorem at_first {w x : World} {g : Nat} {A : Option Addr} {l : List UInt8} (h : Holds w g A (bcs l)) (hl : 0 < l.length) : ∃ o, A = some ⟨g, o, none⟩ := by
  obtain ⟨_, o, rfl, _⟩ := h (by rw [bcs_length]; exact hl)
  exact ⟨o, rfl⟩
theorem at_cell {w x : World} {g o : Nat} {l : List UInt8} (h : Holds w g (some ⟨g, o, none⟩) (bcs l)) (hb : Below w.heap.size w x) (j : Nat) (hj : j < l.length) : x.cell? ⟨g, o + j, none⟩ = some (.int .u8 (l[j].toNat : Int)) := by
  obtain ⟨hlt, o', ho, hc⟩ := h (by rw [bcs_length]; omega)
  injection ho with ho
  injection ho with _ ho
  subst ho
  exact (hb.cell (p := ⟨g, o + j, none⟩) hlt).trans (hc j _ (bcs_get l j hj))
theorem and3_of (b : UInt8) : ∃ k : Nat, k ≤ 3 ∧ Go.bits .and .u8 (b.toNat : Int) 3 = (k : Int) := by
  refine ⟨b.toNat % 4, by omega, ?_⟩
  have h : ∀ b : Fin 256, Go.bits .and .u8 (b.val : Int) 3 = ((b.val % 4 : Nat) : Int) := by decide +kernel
  exact h ⟨b.toNat, b.toNat_lt⟩

set_option maxRecDepth 100000 in
set_option maxHeartbeats 6400000 in
theorem mastersends_walk (a : Nat) (g : Nat) (A : Option Addr) (l0 : List UInt8) (n0 c : Nat) (w : World) (ha : a < 256) (hh : Holds w g A (bcs l0)) (hn : l0.length = n0) (hc : n0 ≤ c) (hm : c ≤ 9223372036854775807) :
    Calls Try.prog 8 #[.int .u8 (a : Int), .slice A n0 c] w fun e w' => e = .returned (.bool true) ∧ Below w.heap.size w w' := by
  obtain ⟨n, hn8, hnn, hmin⟩ := min_of n0 8 8 rfl
  have HN8 := Lib.hid hn8
  obtain ⟨l, hl⟩ : ∃ l, l0.take n = l := ⟨_, rfl⟩
  have HL : Hid (l.length = n) := by show _ = _; rw [← hl, List.length_take]; omega
  have HH : Hid (Holds w g A (bcs l)) := by show Holds _ _ _ _; rw [← hl, bcs_take]; exact hh.take _
  have HA := Lib.hid ha
  have HC := Lib.hid hc
  clear hh hn hl ha
  go_enter Try.func8, Try.ntmps8
  go_wp2_with fail
  refine (shown_on w).mono ?_
  rintro e x0 ⟨rfl, hb0⟩
  have HB0 := Lib.hid hb0
  clear hb0
  go_wp2_with fail
  refine (new_lm (w := w) HA.out (by decide) HB0.out).mono ?_
  rintro e x1 ⟨rfl, h1, _⟩
  have H1 := Lib.hid h1
  clear h1 HB0
  generalize x0.heap.size = D at *
  go_wp2_with fail
  refine (heard_lm (f := ⟨a, 4, 1, 0, 0, []⟩) H1.out (by decide) (Hb.empty _ _ _) (Nat.zero_le _)).mono ?_
  rintro e x2 ⟨A2, c2, rfl, _, h2, _⟩
  rw [sd_open a] at h2 ⊢
  have H2 : Hid (Lm w D 100 (sdM a 0 (qs (l.take 0))) x2) := h2.more (show 0 + 1 ≤ 100 by decide)
  simp only [List.length_nil] at ⊢
  clear h2 H1
  go_wp2
  clear hmin
  go_loopw [10] (fun i wr => ∃ (j : Nat), j ≤ n ∧ i = .int .i64 j ∧ Hid (Lm w D 100 (sdM a 0 (qs (l.take j))) wr)) (fun i _ => n - (intOf i).toNat)
  case atStart => exact ⟨0, Nat.zero_le _, rfl, H2⟩
  case round =>
    clear H2
    obtain ⟨j, hj, rfl, H⟩ := hrel
    by_cases hlt : j < n
    · have hlt' : (j : Int) < (n : Int) := by omega
      have hjl : j < l.length := by rw [HL.out]; exact hlt
      obtain ⟨o, rfl⟩ := at_first (x := w) HH.out (by omega)
      have hcell := at_cell HH.out H.out.below j hjl
      have hcell2 := at_cell HH.out (H.out.below.trans ((new_below wr (.cells #[.int .u8 0] 5)).mono H.out.below.size)) j hjl
      have HQ := Lib.hid (qs_snoc l j hjl)
      have hn0 : (j : Int) < (n0 : Int) := by omega
      have HB := Lib.hid (new_below wr (.cells #[.int .u8 ((l[j]'hjl).toNat : Int)] 5))
      have HHb := Lib.hid (Hb.lit wr D [l[j]'hjl] (0, 0))
      generalize (l[j]'hjl) = b at *
      have HHb2 : Hid (Hb (wr.alloc (.cells #[.int .u8 (b.toNat : Int)] 5)) D (some ⟨wr.heap.size, 0, none⟩) [b]) := HHb.out
      clear HHb
      go_wp2_with fail
      refine (send_lm (H.out.step HB.out) HHb2.out rfl).mono ?_
      rintro e x3 ⟨rfl, h3, _⟩
      rw [sendM_more rfl rfl (show (qs (l.take j)).length < 8 by rw [qs_length, List.length_take]; have := HN8.out; omega)] at h3 ⊢
      have H3 : Hid (Lm w D 100 (sdM a 0 (qs (l.take (j + 1)))) x3) := by rw [← HQ.out]; exact h3
      clear h3 HB HHb2 hcell hcell2 HQ
      go_wp2
      go_roundw
      case rel => exact ⟨j + 1, by omega, by go_num, H3⟩
      case measure => simp [intOf]; omega
    · have hjk : n = j := by omega
      subst hjk
      have HT : Hid (Lm w D 100 (sdM a (0 % 2) (qs (l.drop 0))) wr) := by
        show Lm _ _ _ _ _
        rw [List.drop_zero, ← List.take_length (l := l), HL.out]
        exact H.out
      clear H
      go_wp2

      go_loopw [11] (fun i wr => ∃ (p : Nat), p ≤ n ∧ i = .int .i64 p ∧ Hid (Lm w D 100 (sdM a (p % 2) (qs (l.drop p))) wr)) (fun i _ => n - (intOf i).toNat)
      case atStart => exact ⟨0, Nat.zero_le _, rfl, HT⟩
      case round =>
        clear HT
        obtain ⟨p, hp, rfl, H⟩ := hrel
        by_cases hlt2 : p < n
        · have hlt2' : (p : Int) < (n : Int) := by omega
          have hpl : p < l.length := by rw [HL.out]; exact hlt2
          obtain ⟨o, rfl⟩ := at_first (x := w) HH.out (by omega)
          have HQ := Lib.hid (qs_drop l p hpl)
          have HQL : Hid ((qs (l.drop p)).length = n - p) := by show _ = _; rw [qs_length, List.length_drop, HL.out]
          have HR : Hid ((qs (l.drop (p + 1))).length ≤ 8) := by show _ ≤ _; rw [qs_length, List.length_drop, HL.out]; omega
          have HR2 : Hid (∀ x ∈ qs (l.drop (p + 1)), x.length ≤ 24) := by
            intro x hx
            unfold qs at hx
            rw [List.mem_map] at hx
            obtain ⟨y, _, rfl⟩ := hx
            show 1 ≤ 24
            omega
          have hn0 : (p : Int) < (n0 : Int) := by omega
          have HCELL : Hid (∀ x, Below w.heap.size w x → x.cell? ⟨g, o + p, none⟩ = some (.int .u8 ((l[p]'hpl).toNat : Int))) := fun x hx => at_cell HH.out hx p hpl
          generalize (l[p]'hpl) = b at *
          obtain ⟨k3, hk3, hand⟩ := and3_of b
          obtain ⟨bit, hbit⟩ : ∃ bit, p % 2 = bit := ⟨_, rfl⟩
          obtain ⟨bit', hbit'⟩ : ∃ bit', (p + 1) % 2 = bit' := ⟨_, rfl⟩
          have HBB : Hid (bit' ≠ bit ∧ 1 - bit = bit' ∧ bit ≤ 1 ∧ bit' ≤ 1) := by refine Lib.hid ⟨?_, ?_, ?_, ?_⟩ <;> omega
          have hm2 : (p : Int) % 2 = (bit : Int) := by omega
          have hm2' : (p : Int).tmod 2 = (bit : Int) := by rw [Int.tmod_eq_emod_of_nonneg (by omega)]; exact hm2
          have hw1 : IntKind.u8.wrap (bit : Int) = (bit : Int) := by rw [IntKind.wrap_u8]; omega
          have hw2 : IntKind.u8.wrap (1 - (bit : Int)) = (bit' : Int) := by rw [IntKind.wrap_u8]; omega
          have hwk : (k3 : Int) % 18446744073709551616 = (k3 : Int) := by omega
          rw [hbit] at H
          have HB' := Lib.hid hbit'
          clear hbit hbit'
          go_wp2
          go_loopw [13] (fun i wr => ∃ (k : Nat), k ≤ k3 ∧ i = .int .i64 k ∧ Hid (Lm w D 100 (sdM a bit (qs (l.drop p))) wr)) (fun i _ => k3 - (intOf i).toNat)
          case atStart => exact ⟨0, Nat.zero_le _, rfl, H⟩
          case round =>
            clear H
            obtain ⟨k, hk, rfl, H⟩ := hrel
            have hcell := HCELL.out wr H.out.below
            by_cases hlt3 : k < k3
            · have hlt3' : (k : Int) < (k3 : Int) := by omega
              go_wp2_with fail
              refine (heard_lm (f := ⟨a, 5, 1, 0, bit, []⟩) H.out (by decide) (Hb.empty _ _ _) (Nat.zero_le _)).mono ?_
              rintro e x3 ⟨A3, c3, rfl, _, h3, _⟩
              rw [sd_same] at h3 ⊢
              have H3 : Hid (Lm w D 100 (sdM a bit (qs (l.drop p))) x3) := Lib.hid ⟨h3.mas, H.out.ok, h3.below, h3.le⟩
              simp only [List.length_nil]
              clear h3 H hcell
              go_wp2
              go_roundw
              case rel => exact ⟨k + 1, by omega, by go_num, H3⟩
              case measure => simp [intOf]; omega
            · have hlt3' : ¬ (k : Int) < (k3 : Int) := by omega
              go_wp2_with fail
              refine (next_lm H.out).mono ?_
              rintro e x4 ⟨A4, c4, rfl, ho4, h4, hb4⟩
              rw [HQ.out, sd_next] at ho4 ⊢
              simp only [List.length_cons, List.length_nil, Nat.zero_add] at ho4 ⊢
              have hb5 := new_below x4 (.cells #[.int .u8 (a : Int), .int .u8 2, .int .u8 1, .int .u8 (bit : Int), .int .u8 0, .slice A4 1 c4] 30)
              have HF : Hid (Fx (x4.alloc (.cells #[.int .u8 (a : Int), .int .u8 2, .int .u8 1, .int .u8 (bit : Int), .int .u8 0, .slice A4 1 c4] 30)) x4.heap.size ⟨a, 2, 1, bit, 0, [b]⟩ (.slice A4 1 c4)) := heap_alloc_new x4 _
              have HO := Lib.hid (own_ft (B := 0) (T := []) (own_zero ho4) (Ft.of_below hb5) (by simp))
              have H5 := Lib.hid (h4.step hb5)
              clear ho4 h4 hb4 hb5 H hcell
              go_upto_region 23 with fail
              generalize x4.alloc (.cells #[.int .u8 (a : Int), .int .u8 2, .int .u8 1, .int .u8 (bit : Int), .int .u8 0, .slice A4 1 c4] 30) = x5 at *
              generalize x4.heap.size = F at *
              replace H5 := Lib.hid (H5.out.step (drew_below x5))
              have ef := (HF.out.step (drew_below x5)).fc
              have e1 := ef.c1
              have e3 := ef.c3
              have e5 := ef.c5
              simp only at e1 e3 e5
              have hcell := HCELL.out _ H5.out.below
              obtain ⟨gx, rfl, _, _, hbx, _⟩ := (Own1.mk (own_ft (B := 0) (T := []) HO.out (Ft.of_below (drew_below x5)) (by simp)) (B := 0) (fun _ _ => Nat.zero_le _) rfl).at 0 (by simp)
              simp only [List.getElem_cons_zero] at hbx
              refine region_plan [(true, 0), (true, 1), (true, 2), (true, 3), (true, 4), (true, 5), (true, 6), (true, 7), (true, 8), (true, 9), (true, 10), (true, 11), (true, 12), (true, 13), (true, 14), (true, 15), (true, 16), (true, 17), (true, 18), (true, 19), (true, 20), (true, 21), (true, 22), (true, 23), (true, 24), (true, 25), (true, 26), (true, 27), (true, 29), (true, 30), (true, 31), (false, 28), (true, 32), (true, 33)]
                (fun y => y.cell? ⟨F, 1, none⟩ = some (.int .u8 ((2 : Nat) : Int)) ∧ y.cell? ⟨F, 3, none⟩ = some (.int .u8 (bit : Int)) ∧ y.cell? ⟨F, 5, none⟩ = some (.slice (some ⟨gx, 0, none⟩) 1 c4) ∧ y.cell? ⟨gx, 0, none⟩ = some (.int .u8 (b.toNat : Int)) ∧ y.cell? ⟨g, o + p, none⟩ = some (.int .u8 (b.toNat : Int))) (by kernel_rfl) (by kernel_rfl) (by kernel_rfl) rfl ⟨e1, e3, e5, hbx, hcell⟩ ?_
              have HAll := Lib.hid (And.intro e1 (And.intro e3 (And.intro e5 (And.intro hbx hcell))))
              clear e1 e3 e5 hbx hcell ef HF HO
              generalize x5.drew = x6 at *
              have hnp : IntKind.i64.wrap ((n : Int) - (p : Int)) = ((n - p : Nat) : Int) := by rw [IntKind.wrap_i64]; omega
              have hwnp : wrap64 ((n : Int) - (p : Int)) = ((n - p : Nat) : Int) := by unfold wrap64; omega
              iterate 31 (refine Plan.take (v := ?_) rfl (by rfl) ?_ ?_; rotate_left 1; (focus (intro x hx; go_simp <;> (first | with_reducible rfl | rw [if_pos (by omega)]))); simp only [Act.put, List.setIfInBounds_toArray, List.set_cons_zero, List.set_cons_succ])
              refine Plan.loud rfl (fun K hK => ?_)
              go_simp
              refine (len_lm H5.out).mono ?_
              rintro e y ⟨rfl, rfl⟩
              rw [show (sdM a bit (qs (l.drop p))).q.length = n - p from HQL.out]
              refine hK.out _ _ _ (fun x hx => hx) HAll.out ?_
              clear hK K
              iterate 2 (refine Plan.take (v := ?_) rfl (by rfl) ?_ ?_; rotate_left 1; (focus (intro x hx; go_simp <;> (first | with_reducible rfl | rw [if_pos (by omega)]))); simp only [Act.put, List.setIfInBounds_toArray, List.set_cons_zero, List.set_cons_succ])
              refine Plan.done ?_

              go_wp2_with fail

              refine (heard_lm (f := ⟨a, 5, 1, 0, bit', []⟩) H5.out (by decide) (Hb.empty _ _ _) (Nat.zero_le _)).mono ?_
              rintro e x7 ⟨A7, c7, rfl, _, h7, _⟩
              rw [HQ.out, sd_ack a bit bit' _ _ HBB.out.1 HBB.out.2.1] at h7 ⊢
              have H7 : Hid (Lm w D 100 (sdM a ((p + 1) % 2) (qs (l.drop (p + 1)))) x7) := by rw [HB'.out]; exact ⟨h7.mas, sd_ok _ _ _ HA.out HBB.out.2.2.2 HR.out HR2.out, h7.below, h7.le⟩
              simp only [List.length_nil]
              clear h7 H5
              go_wp2
              go_roundw
              case rel => exact ⟨p + 1, by omega, by go_num, H7⟩
              case measure => simp [intOf]; omega
        · have hpn : n = p := by omega
          subst hpn
          have HE : Hid (qs (l.drop n) = []) := by show _ = _; rw [List.drop_eq_nil_of_le (by rw [HL.out]; exact Nat.le_refl _)]; rfl
          obtain ⟨bit, hbit⟩ : ∃ bit, n % 2 = bit := ⟨_, rfl⟩
          have hm2 : (n : Int) % 2 = (bit : Int) := by omega
          have hm2' : (n : Int).tmod 2 = (bit : Int) := by rw [Int.tmod_eq_emod_of_nonneg (by omega)]; exact hm2
          have hw1 : IntKind.u8.wrap (bit : Int) = (bit : Int) := by rw [IntKind.wrap_u8]; omega
          rw [hbit, HE.out] at H
          clear hbit
          go_wp2_with fail
          refine (next_lm H.out).mono ?_
          rintro e x4 ⟨A4, c4, rfl, _, h4, _⟩
          rw [sd_poll]
          simp only [List.length_nil]
          have HF : Hid (Fx (x4.alloc (.cells #[.int .u8 (a : Int), .int .u8 3, .int .u8 1, .int .u8 (bit : Int), .int .u8 0, .slice A4 0 c4] 30)) x4.heap.size ⟨a, 3, 1, bit, 0, []⟩ (.slice A4 0 c4)) := heap_alloc_new x4 _
          have H5 := Lib.hid (h4.step (new_below x4 (.cells #[.int .u8 (a : Int), .int .u8 3, .int .u8 1, .int .u8 (bit : Int), .int .u8 0, .slice A4 0 c4] 30)))
          clear h4 H
          go_upto_region 26 with fail
          generalize x4.alloc (.cells #[.int .u8 (a : Int), .int .u8 3, .int .u8 1, .int .u8 (bit : Int), .int .u8 0, .slice A4 0 c4] 30) = x5 at *
          generalize x4.heap.size = F at *
          have e1 := HF.out.fc.c1
          have e3 := HF.out.fc.c3
          simp only at e1 e3
          go_wp2_with fail
          refine (len_lm H5.out).mono ?_
          rintro e y ⟨rfl, rfl⟩
          go_wp2
          go_ret
          exact ⟨rfl, H5.out.below⟩

end Go.Proofs.Ytoahjkdackccmaa
