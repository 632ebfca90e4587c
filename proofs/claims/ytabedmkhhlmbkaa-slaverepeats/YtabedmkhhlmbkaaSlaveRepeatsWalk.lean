/-
  lamplightlaw08.SlaveRepeats, walked: true, whatever came in.
-/
import Derived.Test.YtabedmkhhlmbkaaSlaS
namespace Go.Proofs.Ytabedmkhhlmbkaa
set_option linter.unusedVariables false
set_option linter.unusedSimpArgs false
open Go.RowKit

theorem and3_of (n : Nat) (hn : n < 256) : ∃ k : Nat, k ≤ 3 ∧ Go.bits .and .u8 (n : Int) 3 = (k : Int) := by
  have h : ∀ n : Fin 256, Go.bits .and .u8 ((n.val : Nat) : Int) 3 = ((n.val % 4 : Nat) : Int) := by decide +kernel
  exact ⟨n % 4, by omega, h ⟨n, hn⟩⟩
theorem rep_open (a : Nat) : takeS (newS a) ⟨a, 1, 7, 0, 0, []⟩ = (⟨a, 7, 0, 0, []⟩, ⟨a, 4, 7, 0, 0, []⟩, [], true) := by
  unfold takeS
  rw [if_neg (by simp [newS]), if_pos rfl]
  rfl
theorem rep_first (a b : Nat) (B : List UInt8) : takeS ⟨a, 7, 0, b, []⟩ ⟨a, 2, 7, b, 0, B⟩ = (⟨a, 7, 0, 1 - b, []⟩, ⟨a, 5, 7, 0, 1 - b, []⟩, B, true) := by
  unfold takeS
  rw [if_neg (by simp), if_neg (by simp), if_neg (by simp)]
  have h : cmdS (gotS ⟨a, 7, 0, b, []⟩ 0) ⟨a, 2, 7, b, 0, B⟩ = (⟨a, 7, 0, 1 - b, []⟩, B) := by
    simp [cmdS, gotS]
  rw [h]
  rfl
theorem rep_again (a b : Nat) (hb : b ≤ 1) (B : List UInt8) : takeS ⟨a, 7, 0, 1 - b, []⟩ ⟨a, 2, 7, b, 0, B⟩ = (⟨a, 7, 0, 1 - b, []⟩, ⟨a, 5, 7, 0, 1 - b, []⟩, [], true) := by
  unfold takeS
  rw [if_neg (by simp), if_neg (by simp), if_neg (by simp)]
  have h : cmdS (gotS ⟨a, 7, 0, 1 - b, []⟩ 0) ⟨a, 2, 7, b, 0, B⟩ = (⟨a, 7, 0, 1 - b, []⟩, []) := by
    simp [cmdS, gotS]
    omega
  rw [h]
  rfl

set_option maxRecDepth 100000 in
set_option maxHeartbeats 12800000 in
theorem slaverepeats_walk (a g : Nat) (P : Option Addr) (l : List UInt8) (n0 c0 : Nat) (w : World) (ha : a < 256) (hp : Holds w g P (bcs l)) (hn : l.length = n0) (hc : n0 ≤ c0) (hm : c0 ≤ 9223372036854775807) :
    Calls Try.prog 9 #[.int .u8 (a : Int), .slice P n0 c0] w fun e w' => e = .returned (.bool true) ∧ Below w.heap.size w w' := by
  obtain ⟨n, hn0, hn30, hlast⟩ : ∃ n, n ≤ n0 ∧ n ≤ 30 ∧ (n = n0 ∨ n = 30) := ⟨min n0 30, by omega, by omega, by omega⟩
  have HL := Lib.hid hn
  have HP := Lib.hid hp
  have HA := Lib.hid ha
  have HLS := Lib.hid hlast
  clear hp hn ha hlast
  go_enter Try.func9, Try.ntmps9
  go_wp2_with fail
  refine (shown_on w).mono ?_
  rintro e x0 ⟨rfl, hb0⟩
  have HB0 := Lib.hid hb0
  clear hb0
  go_wp2_with fail
  refine (sla_cond.new (w := w) HA.out HB0.out).mono ?_
  rintro e x1 ⟨rfl, h1, _⟩
  have H0 := Lib.hid h1
  clear h1 HB0
  generalize x0.heap.size = S at *
  go_wp2_with fail
  refine (take_at sla_cond (f := ⟨a, 1, 7, 0, 0, []⟩) H0.out (Hb.empty _ _ _) (Nat.zero_le _) (by show (7 : Nat) < 256; omega) (rep_open a)).mono ?_
  rintro e x2 ⟨A2, c2, B2, d2, rfl, o1, o2, h2, hf2⟩
  have H1 := Lib.hid h2
  clear o1 o2 h2 hf2 H0
  go_wp2
  go_loopw [7] (fun i wr => ∃ (k : Nat), k ≤ n ∧ i = .int .i64 k ∧ Hid (Ls w S ⟨a, 7, 0, k % 2, []⟩ wr)) (fun i _ => n - (intOf i).toNat)
  case atStart => exact ⟨0, Nat.zero_le _, rfl, H1⟩
  case round =>
    clear H1
    obtain ⟨i, hi, rfl, H⟩ := hrel
    rename World => y0
    by_cases hlt : i < n
    · have hlt1 : (i : Int) < (n0 : Int) := by omega
      have hlt2 : (i : Int) < 30 := by omega
      have hil : i < l.length := by rw [HL.out]; omega
      obtain ⟨_, o, rfl, hcell⟩ := HP.out (by rw [bcs_length]; omega)
      have hci : ∀ y, Below w.heap.size w y → y.cell? ⟨g, o + i, none⟩ = some (.int .u8 (((l[i]'hil).toNat : Nat) : Int)) := fun y hy => by
        obtain ⟨_, o', ho', hcell'⟩ := HP.out.keep (F := []) (Ch.of_below hy) (by simp) (by rw [bcs_length]; omega)
        injection ho' with ho'
        injection ho' with _ ho'
        subst ho'
        exact hcell' i _ (bcs_get l i hil)
      obtain ⟨v, hv⟩ : ∃ v, (l[i]'hil) = v := ⟨_, rfl⟩
      rw [hv] at hci
      obtain ⟨vn, hvn⟩ : ∃ vn, v.toNat = vn := ⟨_, rfl⟩
      rw [hvn] at hci
      have HCI := Lib.hid hci
      obtain ⟨m, hm3, hmand⟩ := and3_of vn (by have := v.toNat_lt; omega)
      obtain ⟨b, hbb⟩ : ∃ b, i % 2 = b := ⟨_, rfl⟩
      have hb1 : b ≤ 1 := by omega
      have HVN := Lib.hid hvn
      have HBB := Lib.hid hbb
      have hbi : Int.tmod (i : Int) 2 = (b : Int) := by rw [Int.tmod_eq_emod_of_nonneg (by omega)]; omega
      clear hcell hci hv hvn hbb
      go_upto_region 10 with fail
      go_wp2
      go_loopw [9] (fun j wr => ∃ k : Nat, k ≤ m + 1 ∧ j = .int .i64 k ∧ Hid (Ls w S ⟨a, 7, 0, if k = 0 then b else 1 - b, []⟩ wr)) (fun j _ => m + 1 - (intOf j).toNat)
      case atStart => exact ⟨0, by omega, rfl, by rw [if_pos rfl, ← HBB.out]; exact H⟩
      case round =>
        clear H
        obtain ⟨k, hk, rfl, H⟩ := hrel
        rename World => y1
        have hd1 := HCI.out _ H.out.below
        by_cases hkm : k ≤ m
        · have hk1 : (k : Int) ≤ (m : Int) := by omega
          obtain ⟨u, hu⟩ : ∃ u, i % 256 = u := ⟨_, rfl⟩
          have hwr : IntKind.u8.wrap (i : Int) = (u : Int) := by rw [IntKind.wrap_u8]; omega
          have hmm : (i : Int) % 256 = (u : Int) := by omega
          have HU := Lib.hid hu
          have HHB : Hid (Hb (y1.alloc (.cells #[.int .u8 (u : Int), .int .u8 (vn : Int)] 5)) 0 (some ⟨y1.heap.size, 0, none⟩) [UInt8.ofNat i, v]) := by
            have h := two_row y1 i u v hu
            rw [HVN.out] at h
            exact h
          have HB2 := Lib.hid (new_below y1 (.cells #[.int .u8 (u : Int), .int .u8 (vn : Int)] 5))
          have H2 := Lib.hid (H.out.step HB2.out)
          have hd2 := HCI.out _ H2.out.below
          clear hu
          by_cases hk0 : k = 0
          · subst hk0
            rw [if_pos rfl] at H2
            clear hkm H HB2
            go_wp2_with fail
            clear hd2
            refine (take_at sla_cond (f := ⟨a, 2, 7, b, 0, [UInt8.ofNat i, v]⟩) H2.out HHB.out.wide (by show 2 ≤ 1000000; omega) (by show (7 : Nat) < 256; omega) (rep_first a b _)).mono ?_
            rintro e y3 ⟨A5, c5, A6, c6, rfl, o5, o6, h3, hf3⟩
            simp only [List.length_cons, List.length_nil, Nat.zero_add] at o5 o6 ⊢
            have H3 := Lib.hid h3
            have HO3 := Lib.hid (own_zero o6)
            clear o5 o6 h3 hf3 H2 HHB
            obtain ⟨b', hb'⟩ : ∃ b', 1 - b = b' := ⟨_, rfl⟩
            have HB' := Lib.hid hb'
            have wb : IntKind.u8.wrap (1 - (b : Int)) = (b' : Int) := by rw [IntKind.wrap_u8]; omega
            rw [hb']
            clear hb'
            have hb4 := new_below y3 (.cells #[.int .u8 (a : Int), .int .u8 5, .int .u8 7, .int .u8 0, .int .u8 (b' : Int), .slice A5 0 c5] 30)
            have HF4 : Hid (Fx (y3.alloc (.cells #[.int .u8 (a : Int), .int .u8 5, .int .u8 7, .int .u8 0, .int .u8 (b' : Int), .slice A5 0 c5] 30)) y3.heap.size ⟨a, 5, 7, 0, b', []⟩ (.slice A5 0 c5)) := heap_alloc_new y3 _
            have H4 := Lib.hid (H3.out.step hb4)
            have HO4 := Lib.hid (own_ft (B := 0) (T := []) HO3.out (Ft.of_below hb4) (by simp))
            clear hb4 H3 HO3
            go_upto_region 14 with fail
            generalize y3.alloc (.cells #[.int .u8 (a : Int), .int .u8 5, .int .u8 7, .int .u8 0, .int .u8 (b' : Int), .slice A5 0 c5] 30) = y4 at *
            generalize y3.heap.size = G at *
            have H5 := Lib.hid (H4.out.step (drew_below y4))
            have HO5 := Lib.hid (own_ft (B := 0) (T := []) HO4.out (Ft.of_below (drew_below y4)) (by simp))
            have f4 := (HF4.out.step (drew_below y4)).fc.c4
            have k5 := HCI.out _ H5.out.below
            have HF5 := Lib.hid (HF4.out.step (drew_below y4))
            clear H4 HO4 HF4
            refine region_plan [(true, 0), (true, 1), (true, 2), (true, 3), (true, 4), (true, 5), (true, 6), (true, 7), (true, 8), (true, 9), (true, 10), (true, 11), (true, 12), (true, 13), (true, 14), (true, 15), (true, 16), (true, 17), (true, 18), (true, 19), (true, 20), (true, 21), (true, 22), (true, 23), (true, 24), (true, 25), (true, 26), (true, 27), (true, 28), (false, 29), (true, 30), (true, 31), (true, 32), (true, 33)]
              (fun y => y.cell? ⟨G, 4, none⟩ = some (.int .u8 (b' : Int)) ∧ y.cell? ⟨g, o + i, none⟩ = some (.int .u8 (vn : Int)) ∧ (convert 28 9 (.slice A6 2 c6)).run Try.prog y = .ok (.string ⟨[UInt8.ofNat i, v].toArray⟩) y) (by kernel_rfl) (by kernel_rfl) (by kernel_rfl) rfl ⟨f4, k5, convert_own HO5.out (l := [UInt8.ofNat i, v]) rfl⟩ ?_
            clear f4 k5
            generalize y4.drew = y5 at *
            have HB6 := Lib.hid (new_below y5 (.cells #[.int .u8 (u : Int), .int .u8 (vn : Int)] 5))
            have H6 := Lib.hid (H5.out.step HB6.out)
            have HO6 := Lib.hid (own_ft (B := 0) (T := []) HO5.out (Ft.of_below HB6.out) (by simp))
            have HF6 := Lib.hid (HF5.out.step HB6.out)
            have HCV : Hid ((convert 28 9 (.slice (some ⟨y5.heap.size, 0, none⟩) 2 2)).run Try.prog (y5.alloc (.cells #[.int .u8 (u : Int), .int .u8 (vn : Int)] 5)) = .ok (.string ⟨[UInt8.ofNat i, v].toArray⟩) (y5.alloc (.cells #[.int .u8 (u : Int), .int .u8 (vn : Int)] 5))) := by
              obtain ⟨g2, hg2, _⟩ := two_row y5 i u v HU.out
              rw [HVN.out] at hg2
              exact convert_holds hg2 rfl
            have HC6 := Lib.hid (convert_own HO6.out (l := [UInt8.ofNat i, v]) rfl)
            clear HO5 HO6
            generalize [UInt8.ofNat i, v] = ib at *
            iterate 29 (first | (refine Plan.take (v := ?_) rfl (by rfl) ?_ ?_; rotate_left 1; (focus (intro x hx; go_simp <;> (first | with_reducible rfl | rw [if_pos (by omega)]))); simp only [Act.put, List.setIfInBounds_toArray, List.set_cons_zero, List.set_cons_succ]) | (refine Plan.skip rfl (by rfl) ?_; simp only [Act.put, List.setIfInBounds_toArray, List.set_cons_zero, List.set_cons_succ]))
            refine Plan.loud rfl (fun K hK => ?_)
            go_simp
            refine hK.out (fun y => (y.cell? ⟨G, 4, none⟩ = some (.int .u8 (b' : Int)) ∧ y.cell? ⟨g, o + i, none⟩ = some (.int .u8 (vn : Int)) ∧ (convert 28 9 (.slice A6 2 c6)).run Try.prog y = .ok (.string ⟨ib.toArray⟩) y) ∧ (convert 28 9 (.slice (some ⟨y5.heap.size, 0, none⟩) 2 2)).run Try.prog y = .ok (.string ⟨ib.toArray⟩) y) _ _ (fun x hx => hx.1) ⟨⟨HF6.out.fc.c4, HCI.out _ H6.out.below, HC6.out⟩, HCV.out⟩ ?_
            clear hK K
            iterate 4 (first | (refine Plan.take (v := ?_) rfl (by rfl) ?_ ?_; rotate_left 1; (focus (intro x hx; go_simp <;> (first | with_reducible rfl | rw [if_pos (by omega)]))); simp only [Act.put, List.setIfInBounds_toArray, List.set_cons_zero, List.set_cons_succ]) | (refine Plan.skip rfl (by rfl) ?_; simp only [Act.put, List.setIfInBounds_toArray, List.set_cons_zero, List.set_cons_succ]))
            refine Plan.done ?_
            clear HC6 HCV HF5 HF6 H5
            generalize y5.alloc (.cells #[.int .u8 (u : Int), .int .u8 (vn : Int)] 5) = y6 at *
            generalize y5.heap.size = G6 at *
            go_wp2
            go_roundw
            case rel => exact ⟨1, by omega, by go_num, by rw [if_neg (by omega)]; exact H6⟩
            case measure => simp [intOf]
          · rw [if_neg hk0] at H2
            have hk2 : ((k : Int) == 0) = false := by simp; omega
            have HK0 := Lib.hid hk0
            clear hkm H HB2 hk0
            go_wp2_with fail
            clear hd2
            refine (take_at sla_cond (f := ⟨a, 2, 7, b, 0, [UInt8.ofNat i, v]⟩) H2.out HHB.out.wide (by show 2 ≤ 1000000; omega) (by show (7 : Nat) < 256; omega) (rep_again a b hb1 _)).mono ?_
            rintro e y3 ⟨A5, c5, A6, c6, rfl, o5, o6, h3, hf3⟩
            simp only [List.length_cons, List.length_nil, Nat.zero_add] at o5 o6 ⊢
            have H3 := Lib.hid h3
            have HO3 := Lib.hid (own_zero o6)
            clear o5 o6 h3 hf3 H2 HHB
            obtain ⟨b', hb'⟩ : ∃ b', 1 - b = b' := ⟨_, rfl⟩
            have HB' := Lib.hid hb'
            have wb : IntKind.u8.wrap (1 - (b : Int)) = (b' : Int) := by rw [IntKind.wrap_u8]; omega
            rw [hb']
            clear hb'
            have hb4 := new_below y3 (.cells #[.int .u8 (a : Int), .int .u8 5, .int .u8 7, .int .u8 0, .int .u8 (b' : Int), .slice A5 0 c5] 30)
            have HF4 : Hid (Fx (y3.alloc (.cells #[.int .u8 (a : Int), .int .u8 5, .int .u8 7, .int .u8 0, .int .u8 (b' : Int), .slice A5 0 c5] 30)) y3.heap.size ⟨a, 5, 7, 0, b', []⟩ (.slice A5 0 c5)) := heap_alloc_new y3 _
            have H4 := Lib.hid (H3.out.step hb4)
            have HO4 := Lib.hid (own_ft (B := 0) (T := []) HO3.out (Ft.of_below hb4) (by simp))
            clear hb4 H3 HO3
            go_upto_region 14 with fail
            generalize y3.alloc (.cells #[.int .u8 (a : Int), .int .u8 5, .int .u8 7, .int .u8 0, .int .u8 (b' : Int), .slice A5 0 c5] 30) = y4 at *
            generalize y3.heap.size = G at *
            have H5 := Lib.hid (H4.out.step (drew_below y4))
            have HO5 := Lib.hid (own_ft (B := 0) (T := []) HO4.out (Ft.of_below (drew_below y4)) (by simp))
            have f4 := (HF4.out.step (drew_below y4)).fc.c4
            have k5 := HCI.out _ H5.out.below
            have HF5 := Lib.hid (HF4.out.step (drew_below y4))
            clear H4 HO4 HF4
            refine region_plan [(true, 0), (true, 1), (true, 2), (true, 3), (true, 4), (true, 5), (true, 6), (true, 7), (true, 8), (true, 9), (true, 10), (true, 11), (true, 12), (true, 13), (true, 14), (true, 15), (true, 16), (true, 17), (true, 18), (true, 19), (true, 20), (true, 21), (true, 22), (true, 23), (true, 24), (true, 25), (true, 26), (true, 27), (true, 28), (false, 29), (true, 30), (true, 31), (true, 32), (true, 33)]
              (fun y => y.cell? ⟨G, 4, none⟩ = some (.int .u8 (b' : Int)) ∧ y.cell? ⟨g, o + i, none⟩ = some (.int .u8 (vn : Int))) (by kernel_rfl) (by kernel_rfl) (by kernel_rfl) rfl ⟨f4, k5⟩ ?_
            have HS5 : Hid (y4.drew.cell? ⟨G, 4, none⟩ = some (.int .u8 (b' : Int)) ∧ y4.drew.cell? ⟨g, o + i, none⟩ = some (.int .u8 (vn : Int))) := Lib.hid ⟨f4, k5⟩
            clear f4 k5
            generalize y4.drew = y5 at *
            iterate 29 (first | (refine Plan.take (v := ?_) rfl (by rfl) ?_ ?_; rotate_left 1; (focus (intro x hx; go_simp <;> (first | with_reducible rfl | rw [if_pos (by omega)]))); simp only [Act.put, List.setIfInBounds_toArray, List.set_cons_zero, List.set_cons_succ]) | (refine Plan.skip rfl (by rfl) ?_; simp only [Act.put, List.setIfInBounds_toArray, List.set_cons_zero, List.set_cons_succ]))
            refine Plan.loud rfl (fun K hK => ?_)
            go_simp
            refine hK.out _ _ _ (fun x hx => hx) HS5.out ?_
            clear hK K
            iterate 4 (first | (refine Plan.take (v := ?_) rfl (by rfl) ?_ ?_; rotate_left 1; (focus (intro x hx; go_simp <;> (first | with_reducible rfl | rw [if_pos (by omega)]))); simp only [Act.put, List.setIfInBounds_toArray, List.set_cons_zero, List.set_cons_succ]) | (refine Plan.skip rfl (by rfl) ?_; simp only [Act.put, List.setIfInBounds_toArray, List.set_cons_zero, List.set_cons_succ]))
            refine Plan.done ?_
            clear HS5 HF5
            go_wp2
            go_roundw
            case rel => exact ⟨k + 1, by omega, by go_num, by rw [if_neg (by omega)]; exact H5⟩
            case measure => simp [intOf]; omega
        · have hk1 : ¬ (k : Int) ≤ (m : Int) := by omega
          have H2 : Hid (Ls w S ⟨a, 7, 0, (i + 1) % 2, []⟩ y1) := by
            have h := H.out
            rw [if_neg (by omega)] at h
            have e : (i + 1) % 2 = 1 - b := by have := HBB.out; omega
            rw [e]
            exact h
          clear hkm H
          go_wp2
          go_roundw
          case rel => exact ⟨i + 1, by omega, by go_num, H2⟩
          case measure => simp [intOf]; omega
    · have hkn : n = i := by omega
      subst hkn
      have hex : (¬ (n : Int) < (n0 : Int)) ∨ ((n : Int) < (n0 : Int) ∧ ¬ (n : Int) < 30) := by have := HLS.out; omega
      rcases hex with hl1 | ⟨hl1, hl2⟩
      all_goals
        go_wp2
        go_ret
        exact ⟨rfl, H.out.below⟩

end Go.Proofs.Ytabedmkhhlmbkaa
