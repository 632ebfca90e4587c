/-
  lamplightlaw07.MasterOnce, walked: true, whatever came in.
-/
import Derived.Test.YtoahjkdackccmaaMasY
import Derived.Deep.DeepCutAuto
namespace Go.Proofs.Ytoahjkdackccmaa
set_option linter.unusedVariables false
set_option linter.unusedSimpArgs false
open Go.RowKit

abbrev onM (a h : Nat) : Ma := ⟨0, h, a, 1, 1000, 1, 1, 0, []⟩
theorem on_open (a : Nat) : heardM (newM a 1000) ⟨a, 4, 1, 0, 0, []⟩ = (onM a 0, [], true) := openM (m := newM a 1000) (by simp [newM])
theorem on_new (a h c : Nat) (l : List UInt8) (hl : 0 < l.length) : heardM (onM a h) ⟨a, 5, 1, h, c, l⟩ = (onM a (1 - h), l, true) := by
  have : l ≠ [] := by rintro rfl; simp at hl
  simp [heardM, lisM, settleM, freshM, quiet, this]
theorem on_old (a h q c : Nat) (l : List UInt8) (hq : q ≠ h) : heardM (onM a h) ⟨a, 5, 1, q, c, l⟩ = (onM a h, [], true) := by
  simp [heardM, lisM, settleM, freshM, quiet, hq]
theorem on_next (a h : Nat) : nextM (onM a h) = ⟨a, 3, 1, 0, h, []⟩ := rfl
theorem and1_of (b : Nat) (hb : b < 256) : ∃ k : Nat, k ≤ 1 ∧ Go.bits .and .u8 (b : Int) 1 = (k : Int) := by
  refine ⟨b % 2, by omega, ?_⟩
  have h : ∀ b : Fin 256, Go.bits .and .u8 (b.val : Int) 1 = ((b.val % 2 : Nat) : Int) := by decide +kernel
  exact h ⟨b, hb⟩
theorem on_ok (a h : Nat) (ha : a < 256) (hh : h ≤ 1) : (onM a h).Ok 1000 :=
  ⟨Nat.zero_le _, hh, ha, Nat.le_refl _, by show 1 ≤ 255; omega, by show (1 : Int) ≤ 1000; omega, by show (1000 : Int) ≤ _; omega, by show 1 ≤ 2; omega, by show 1 ≤ 1000; omega, Nat.zero_le _, Nat.zero_le _, by intro b hb; cases hb⟩

theorem once_own (y : World) (B : Nat) (hB : B ≤ y.heap.size) : Own1 (y.alloc (.cells #[.int .u8 1] 5)) B (some ⟨y.heap.size, 0, none⟩) 1 1 [1] := by
  refine ⟨⟨rfl, .inr ⟨y.heap.size, 1, #[.int .u8 1], rfl, Nat.zero_le _, heap_alloc_new y _, Nat.le_refl _, by unfold maxLen; omega, rfl, rfl⟩⟩, ?_, rfl⟩
  intro h hh
  simp [Value.ownBlock] at hh
  omega

set_option maxRecDepth 100000 in
set_option maxHeartbeats 6400000 in
theorem masteronce_walk (a : Nat) (P : Option Addr) (n0 c0 : Nat) (fs : List Fr) (w : World) (ha : a < 256) (hp : FramesAt w P fs) (hn : fs.length = n0) (hc : n0 ≤ c0) (hm : c0 ≤ 9223372036854775807) :
    Calls Try.prog 4 #[.int .u8 (a : Int), .slice P n0 c0] w fun e w' => e = .returned (.bool true) ∧ Below w.heap.size w w' := by
  obtain ⟨n, hn0, hn200, hlast⟩ : ∃ n, n ≤ n0 ∧ n ≤ 200 ∧ (n = n0 ∨ n = 200) := ⟨min n0 200, by omega, by omega, by omega⟩
  have HL := Lib.hid hn
  have HP := Lib.hid hp
  have HA := Lib.hid ha
  have HLS := Lib.hid hlast
  clear hp hn ha hlast
  go_enter Try.func4, Try.ntmps4
  go_wp2_with fail
  refine (shown_on w).mono ?_
  rintro e x0 ⟨rfl, hb0⟩
  have HB0 := Lib.hid hb0
  clear hb0
  go_wp2_with fail
  refine (new_lm (w := w) HA.out (by decide) HB0.out).mono ?_
  rintro e x1 ⟨rfl, h1, _⟩
  have H1 := Lib.hid h1
  clear h1 HB0
  generalize x0.heap.size = D at *
  go_wp2_with fail
  refine (heard_lm (f := ⟨a, 4, 1, 0, 0, []⟩) H1.out (by decide) (Hb.empty _ _ _) (Nat.zero_le _)).mono ?_
  rintro e x2 ⟨A2, c2, rfl, _, h2, _⟩
  rw [on_open a] at h2 ⊢
  have H2 : Hid (Lm w D 1000 (onM a 0) x2) := h2.more (show 0 + 1 ≤ 1000 by decide)
  simp only [List.length_nil] at ⊢
  clear h2 H1
  go_wp2_with fail
  refine (state_lm H2.out).mono ?_
  rintro e y ⟨rfl, rfl⟩
  go_wp2
  go_loopw [9, 10] (fun v i wr => ∃ (h k : Nat), k ≤ n ∧ h ≤ 1 ∧ v = .int .u8 h ∧ i = .int .i64 k ∧ Hid (Lm w D 1000 (onM a h) wr)) (fun _ i _ => n - (intOf i).toNat)
  case atStart => exact ⟨0, 0, Nat.zero_le _, Nat.zero_le _, rfl, rfl, H2⟩
  case round =>
    clear H2
    obtain ⟨h, k, hk, hh1, rfl, rfl, H⟩ := hrel
    by_cases hlt : k < n
    · have hlt' : (k : Int) < (n0 : Int) := by omega
      have hlt2 : (k : Int) < 200 := by omega
      have hkl : k < fs.length := by rw [HL.out]; omega
      obtain ⟨b, o, g, A, c, rfl, hblt, hcells, hfit, hhold, hbc, hcm⟩ := HP.out k (fs[k]'hkl) (List.getElem?_eq_getElem hkl)
      generalize (fs[k]'hkl) = F at *
      obtain ⟨q, hq1, hqq⟩ := and1_of F.q hfit.q
      obtain ⟨cc, hc1, hcc⟩ := and1_of F.c hfit.c
      obtain ⟨m, hm20, hmF, hmin⟩ := min_of F.b.length 20 20 rfl
      have HHo : Hid (Holds w g A (bcs (F.b.take m))) := by show Holds _ _ _ _; rw [bcs_take]; exact hhold.take m
      have HML : Hid ((bcs (F.b.take m)).length = m) := by show _ = _; rw [bcs_length, List.length_take]; omega
      have HCL := Lib.hid hcells
      have HBL := Lib.hid hblt
      have HBC := Lib.hid hbc
      have HCM := Lib.hid hcm
      have hmc : (m : Int) ≤ (c : Int) := by omega
      clear hcells hblt hfit hhold hbc hcm
      generalize F.b.take m = bs at *
      obtain ⟨nb, hnb⟩ : ∃ nb, F.b.length = nb := ⟨_, rfl⟩
      rw [hnb] at hmin
      have hcmx : c ≤ 9223372036854775807 := by have := HCM.out; unfold maxLen at this; omega
      have HBS : Hid (bs.length = m) := by show _ = _; have := HML.out; rw [bcs_length] at this; exact this
      obtain ⟨l, hl⟩ : ∃ l, [1] ++ bs = l := ⟨_, rfl⟩
      have HLL := Lib.hid hl
      have HLN : Hid (l.length = 1 + m) := by show _ = _; rw [← hl, List.length_append, HBS.out]; rfl
      clear hl
      obtain ⟨i0, hi, hz0, hz1, hz2⟩ := info_parts info_byte
      go_upto_region 12 with fail
      go_cut [11] (fun v y => ∃ X A2 c2, v = .pointer (some ⟨X, 0, none⟩) ∧ Hid (y.heap[X]? = some (.cells #[.int .u8 (a : Int), .int .u8 5, .int .u8 1, .int .u8 (q : Int), .int .u8 (cc : Int), .slice A2 l.length c2] 30 (0, 0))) ∧ Hid (y.ownsRow 0 5 1 (.slice A2 l.length c2) l.length (bcs l)) ∧ Hid (Lm w D 1000 (onM a h) y))
      case first =>
        obtain ⟨e0, e1, e2, e3, e4, e5⟩ := HCL.out.keep (H.out.step (drew_below wr)).below HBL.out
        replace H := Lib.hid (H.out.step (drew_below wr))
        refine region_tree (.take 0 (.take 1 (.take 2 (.take 3 (.take 4 (.take 5 (.take 6 (.take 7 (.take 8 (.take 9 (.take 10 (.take 11 (.take 12 (.take 14 (.take 15 (.take 16 (.take 17 (.take 18 (.take 19 (.take 20 (.take 21 (.take 22 (.take 23 (.take 24 (.take 25 (.take 26 (.two 13 (.two 27 (.take 28 (.one 29 (.one 30 .done))) 29 (.one 27 (.take 28 (.one 30 .done)))) 29 (.one 13 (.one 27 (.take 28 (.one 30 .done))))))))))))))))))))))))))))))) (fun y => y.cell? ⟨b, o + k * 6 + 3, none⟩ = some (.int .u8 (F.q : Int)) ∧ y.cell? ⟨b, o + k * 6 + 4, none⟩ = some (.int .u8 (F.c : Int)) ∧ y.cell? ⟨b, o + k * 6 + 5, none⟩ = some (.slice A F.b.length c))
          (by kernel_rfl) (by kernel_rfl) (by kernel_rfl) (by kernel_rfl) ⟨e3, e4, e5⟩ ?_
        clear e0 e1 e2 e3 e4 e5
        generalize wr.drew = x3 at *
        have HS : Hid (∀ y, Below x3.heap.size x3 y → y.cell? ⟨b, o + k * 6 + 3, none⟩ = some (.int .u8 (F.q : Int)) ∧ y.cell? ⟨b, o + k * 6 + 4, none⟩ = some (.int .u8 (F.c : Int)) ∧ y.cell? ⟨b, o + k * 6 + 5, none⟩ = some (.slice A F.b.length c)) := by
          intro y hy
          obtain ⟨e0, e1, e2, e3, e4, e5⟩ := HCL.out.keep (H.out.step hy).below HBL.out
          exact ⟨e3, e4, e5⟩
        have HHold : Hid (∀ y, Below x3.heap.size x3 y → Holds y g A (bcs bs)) := fun y hy => HHo.out.keep (F := []) (Ch.of_below (H.out.step hy).below) (by simp)
        have hB3 := Below.refl x3.heap.size x3
        iterate 26 (refine Tree.take (v := ?_) rfl (by rfl) ?_ ?_; rotate_left 1; (focus (intro x hx; go_simp <;> (first | with_reducible rfl | rw [if_pos (by omega)]))); simp only [Act.put, List.setIfInBounds_toArray, List.set_cons_zero, List.set_cons_succ])
        refine Tree.two rfl rfl (fun K hK => ?_) (fun K hK => ?_)
        · go_simp
          have hBx4 := hB3.trans ((new_below x3 (.cells #[.int .u8 1] 5)).mono hB3.size)
          have hOx4 := once_own x3 x3.heap.size hB3.size
          refine hK.out _ _ _ (fun x hx => hx) (HS.out _ hBx4) ?_
          clear hK K
          generalize x3.alloc (.cells #[.int .u8 1] 5) = x4 at *
          refine Tree.two rfl rfl (fun K hK => ?_) (fun K hK => ?_)
          · rw [if_pos (by rfl)]
            refine wp_append_holds (.tmp 56) (.tmp 69) 28 rfl 5 i0 (.int .u8 0) 1 Try.underlying28 hi hz0 hz1 hz2 rfl (.slice (some ⟨x3.heap.size, 0, none⟩) 1 1) 1 (bcs [1]) rfl hOx4.own g A m c (bcs bs) rfl HML.out (HHold.out _ hBx4) (bcs_one _) (by unfold maxLen; omega) (by omega) ?_
            intro A2 c2 x5 hown hgrow hat
            rw [← bcs_append] at hown
            obtain ⟨hOx5, hBg⟩ := hOx4.grown hBx4.size hgrow hown (by rw [List.length_append]; have := HBS.out; simp; omega) hat
            have hBx5 := hBx4.trans hBg
            refine hK.out _ _ _ (fun x hx => hx) (HS.out _ hBx5) ?_
            clear hK K
            iterate 1 (refine Tree.take (v := ?_) rfl (by rfl) ?_ ?_; rotate_left 1; (focus (intro x hx; go_simp <;> (first | with_reducible rfl | rw [if_pos (by omega)]))); simp only [Act.put, List.setIfInBounds_toArray, List.set_cons_zero, List.set_cons_succ])
            refine Tree.one rfl (fun K hK => ?_)
            go_simp
            have hBx6 := hBx5.trans ((new_below x5 (.cells #[.int .u8 0, .int .u8 0, .int .u8 0, .int .u8 0, .int .u8 0, .slice none 0 0] 30)).mono hBx5.size)
            have hFx6 := heap_alloc_new x5 (.cells #[.int .u8 0, .int .u8 0, .int .u8 0, .int .u8 0, .int .u8 0, .slice none 0 0] 30)
            have hOx6 := hOx5.alloc (.cells #[.int .u8 0, .int .u8 0, .int .u8 0, .int .u8 0, .int .u8 0, .slice none 0 0] 30)
            refine hK.out _ _ _ (fun x hx => hx) (HS.out _ hBx6) ?_
            clear hK K
            obtain ⟨X, hX⟩ : ∃ X, X = x5.heap.size := ⟨_, rfl⟩
            rw [← hX] at hFx6 ⊢
            have HXL : Hid (x3.heap.size ≤ X) := by show _ ≤ _; rw [hX]; exact hBx5.size
            generalize x5.alloc (.cells #[.int .u8 0, .int .u8 0, .int .u8 0, .int .u8 0, .int .u8 0, .slice none 0 0] 30) = x6 at *
            clear hX
            refine Tree.one rfl (fun K hK => ?_)
            obtain ⟨r0, r1, r2, r3, r4, r5, s0, s1, s2, s3, s4, s5⟩ := frame_row hFx6
            go_simp
            obtain ⟨hFn, hC⟩ := frame_set hFx6 (a : Int) 5 1 (q : Int) (cc : Int) (.slice A2 (1 + m) c2)
            have hBn := hBx6.trans (hC.belowAt (B := x3.heap.size) (by simp; exact HXL.out) hBx6.size)
            have hOn := own_ch hOx6.own hC (fun g hg => by simp; exact own_ne hFx6 hOx6.own hg (by decide))
            refine hK.out _ _ _ (fun x hx => hx) (HS.out _ hBn) ?_
            clear hK K r0 r1 r2 r3 r4 r5 s0 s1 s2 s3 s4 s5
            refine Tree.done ?_
            go_wp2_with fail
            go_meet
            case rel => exact ⟨X, A2, c2, rfl, by rw [HLN.out]; exact hFn, by rw [HLN.out, ← HLL.out]; exact hOn, H.out.step hBn⟩
          · go_simp
            have hBx5 := hBx4.trans ((new_below x4 (.cells #[.int .u8 0, .int .u8 0, .int .u8 0, .int .u8 0, .int .u8 0, .slice none 0 0] 30)).mono hBx4.size)
            have hFx5 := heap_alloc_new x4 (.cells #[.int .u8 0, .int .u8 0, .int .u8 0, .int .u8 0, .int .u8 0, .slice none 0 0] 30)
            have hOx5 := hOx4.alloc (.cells #[.int .u8 0, .int .u8 0, .int .u8 0, .int .u8 0, .int .u8 0, .slice none 0 0] 30)
            refine hK.out _ _ _ (fun x hx => hx) (HS.out _ hBx5) ?_
            clear hK K
            obtain ⟨X, hX⟩ : ∃ X, X = x4.heap.size := ⟨_, rfl⟩
            rw [← hX] at hFx5 ⊢
            have HXL : Hid (x3.heap.size ≤ X) := by show _ ≤ _; rw [hX]; exact hBx4.size
            generalize x4.alloc (.cells #[.int .u8 0, .int .u8 0, .int .u8 0, .int .u8 0, .int .u8 0, .slice none 0 0] 30) = x5 at *
            clear hX
            refine Tree.one rfl (fun K hK => ?_)
            rw [if_pos (by rfl)]
            refine wp_append_holds (.tmp 56) (.tmp 69) 28 rfl 5 i0 (.int .u8 0) 1 Try.underlying28 hi hz0 hz1 hz2 rfl (.slice (some ⟨x3.heap.size, 0, none⟩) 1 1) 1 (bcs [1]) rfl hOx5.own g A m c (bcs bs) rfl HML.out (HHold.out _ hBx5) (bcs_one _) (by unfold maxLen; omega) (by omega) ?_
            intro A2 c2 x6 hown hgrow hat
            rw [← bcs_append] at hown
            obtain ⟨hOx6, hBg⟩ := hOx5.grown hBx5.size hgrow hown (by rw [List.length_append]; have := HBS.out; simp; omega) hat
            have hBx6 := hBx5.trans hBg
            have hFx6 := (hgrow.block X (Array.getElem?_eq_some_iff.1 hFx5).1 (fun e => own_ne hFx5 hOx5.own e.symm (by decide) rfl)).trans hFx5
            refine hK.out _ _ _ (fun x hx => hx) (HS.out _ hBx6) ?_
            clear hK K
            iterate 1 (refine Tree.take (v := ?_) rfl (by rfl) ?_ ?_; rotate_left 1; (focus (intro x hx; go_simp <;> (first | with_reducible rfl | rw [if_pos (by omega)]))); simp only [Act.put, List.setIfInBounds_toArray, List.set_cons_zero, List.set_cons_succ])
            refine Tree.one rfl (fun K hK => ?_)
            obtain ⟨r0, r1, r2, r3, r4, r5, s0, s1, s2, s3, s4, s5⟩ := frame_row hFx6
            go_simp
            obtain ⟨hFn, hC⟩ := frame_set hFx6 (a : Int) 5 1 (q : Int) (cc : Int) (.slice A2 (1 + m) c2)
            have hBn := hBx6.trans (hC.belowAt (B := x3.heap.size) (by simp; exact HXL.out) hBx6.size)
            have hOn := own_ch hOx6.own hC (fun g hg => by simp; exact own_ne hFx6 hOx6.own hg (by decide))
            refine hK.out _ _ _ (fun x hx => hx) (HS.out _ hBn) ?_
            clear hK K r0 r1 r2 r3 r4 r5 s0 s1 s2 s3 s4 s5
            refine Tree.done ?_
            go_wp2_with fail
            go_meet
            case rel => exact ⟨X, A2, c2, rfl, by rw [HLN.out]; exact hFn, by rw [HLN.out, ← HLL.out]; exact hOn, H.out.step hBn⟩
        · go_simp
          have hBx4 := hB3.trans ((new_below x3 (.cells #[.int .u8 0, .int .u8 0, .int .u8 0, .int .u8 0, .int .u8 0, .slice none 0 0] 30)).mono hB3.size)
          have hFx4 := heap_alloc_new x3 (.cells #[.int .u8 0, .int .u8 0, .int .u8 0, .int .u8 0, .int .u8 0, .slice none 0 0] 30)
          refine hK.out _ _ _ (fun x hx => hx) (HS.out _ hBx4) ?_
          clear hK K
          obtain ⟨X, hX⟩ : ∃ X, X = x3.heap.size := ⟨_, rfl⟩
          rw [← hX] at hFx4 ⊢
          have HXL : Hid (x3.heap.size ≤ X) := by show _ ≤ _; rw [hX]; exact hB3.size
          generalize x3.alloc (.cells #[.int .u8 0, .int .u8 0, .int .u8 0, .int .u8 0, .int .u8 0, .slice none 0 0] 30) = x4 at *
          clear hX
          refine Tree.one rfl (fun K hK => ?_)
          go_simp
          have hBx5 := hBx4.trans ((new_below x4 (.cells #[.int .u8 1] 5)).mono hBx4.size)
          have hOx5 := once_own x4 x3.heap.size hBx4.size
          have hFx5 := (((Ch.refl [] x4).alloc (.cells #[.int .u8 1] 5)).block X (Array.getElem?_eq_some_iff.1 hFx4).1 (by simp)).trans hFx4
          refine hK.out _ _ _ (fun x hx => hx) (HS.out _ hBx5) ?_
          clear hK K
          generalize x4.alloc (.cells #[.int .u8 1] 5) = x5 at *
          generalize x4.heap.size = R at *
          refine Tree.one rfl (fun K hK => ?_)
          rw [if_pos (by rfl)]
          refine wp_append_holds (.tmp 56) (.tmp 69) 28 rfl 5 i0 (.int .u8 0) 1 Try.underlying28 hi hz0 hz1 hz2 rfl (.slice (some ⟨R, 0, none⟩) 1 1) 1 (bcs [1]) rfl hOx5.own g A m c (bcs bs) rfl HML.out (HHold.out _ hBx5) (bcs_one _) (by unfold maxLen; omega) (by omega) ?_
          intro A2 c2 x6 hown hgrow hat
          rw [← bcs_append] at hown
          obtain ⟨hOx6, hBg⟩ := hOx5.grown hBx5.size hgrow hown (by rw [List.length_append]; have := HBS.out; simp; omega) hat
          have hBx6 := hBx5.trans hBg
          have hFx6 := (hgrow.block X (Array.getElem?_eq_some_iff.1 hFx5).1 (fun e => own_ne hFx5 hOx5.own e.symm (by decide) rfl)).trans hFx5
          refine hK.out _ _ _ (fun x hx => hx) (HS.out _ hBx6) ?_
          clear hK K
          iterate 1 (refine Tree.take (v := ?_) rfl (by rfl) ?_ ?_; rotate_left 1; (focus (intro x hx; go_simp <;> (first | with_reducible rfl | rw [if_pos (by omega)]))); simp only [Act.put, List.setIfInBounds_toArray, List.set_cons_zero, List.set_cons_succ])
          refine Tree.one rfl (fun K hK => ?_)
          obtain ⟨r0, r1, r2, r3, r4, r5, s0, s1, s2, s3, s4, s5⟩ := frame_row hFx6
          go_simp
          obtain ⟨hFn, hC⟩ := frame_set hFx6 (a : Int) 5 1 (q : Int) (cc : Int) (.slice A2 (1 + m) c2)
          have hBn := hBx6.trans (hC.belowAt (B := x3.heap.size) (by simp; exact HXL.out) hBx6.size)
          have hOn := own_ch hOx6.own hC (fun g hg => by simp; exact own_ne hFx6 hOx6.own hg (by decide))
          refine hK.out _ _ _ (fun x hx => hx) (HS.out _ hBn) ?_
          clear hK K r0 r1 r2 r3 r4 r5 s0 s1 s2 s3 s4 s5
          refine Tree.done ?_
          go_wp2_with fail
          go_meet
          case rel => exact ⟨X, A2, c2, rfl, by rw [HLN.out]; exact hFn, by rw [HLN.out, ← HLL.out]; exact hOn, H.out.step hBn⟩
      case rest =>
        obtain ⟨X, A2, c2, rfl, HF, HO, H4⟩ := hcut
        have hl0 : (0 : Int) < (l.length : Int) := by rw [HLN.out]; omega
        obtain ⟨r0, r1, r2, r3, r4, r5, s0, s1, s2, s3, s4, s5⟩ := frame_row HF.out
        clear s0 s1 s2 s3 s4 s5 HLL hi hz0 hz1 hz2
        have HL21 : Hid (l.length ≤ 1000000) := by show _ ≤ _; rw [HLN.out]; omega
        clear HLN HML HBS hmin hmc hnb
        go_wp2_with fail
        refine (heard_lm (f := ⟨a, 5, 1, q, cc, l⟩) H4.out (by decide) (Hb.own HO.out rfl) HL21.out).mono ?_
        rintro e x5 ⟨A5, c5, rfl, ho5, h5, hf5⟩
        have HF5 := Lib.hid (hf5.keep HF.out (by decide))
        have HO5 := Lib.hid (own_ft HO.out hf5 (by decide))
        clear r0 r1 r2 r3 r4 r5 HF HO
        obtain ⟨r0, r1, r2, r3, r4, r5, s0, s1, s2, s3, s4, s5⟩ := frame_row HF5.out
        clear r0 r1 r2 r4 s0 s1 s2 s3 s4 s5
        have hfd := field_ack
        by_cases hqh : q = h
        · subst hqh
          rw [on_new a q cc l (by omega)] at h5 ho5 ⊢
          obtain ⟨h', hh'⟩ : ∃ h', 1 - q = h' := ⟨_, rfl⟩
          rw [hh'] at h5
          have hne : ((h' : Int) != (q : Int)) = true := by simp; omega
          have hw1 : IntKind.u8.wrap (1 - (q : Int)) = (h' : Int) := by rw [IntKind.wrap_u8]; omega
          have HH' : Hid (h' ≤ 1) := by show _ ≤ _; omega
          have H5 : Hid (Lm w D 1000 (onM a h') x5) := Lib.hid ⟨h5.mas, on_ok _ _ HA.out HH'.out, h5.below, h5.le⟩
          have k1 := convert_own (own_zero ho5) rfl
          have k2 := convert_own HO5.out rfl
          clear ho5 h5 hf5 hh' H4
          go_wp2_with fail
          refine (next_lm H5.out).mono ?_
          rintro e x6 ⟨A6, c6, rfl, _, h6, hb6⟩
          rw [on_next]
          have H6 := Lib.hid h6
          have HF6 := Lib.hid ((hb6.block X (Array.getElem?_eq_some_iff.1 HF5.out).1).trans HF5.out)
          clear h6 hb6 H5 r3 r5 k1 k2 HF5 HO5
          obtain ⟨r0, r1, r2, r3, r4, r5, s0, s1, s2, s3, s4, s5⟩ := frame_row HF6.out
          clear r0 r1 r2 r4 r5 s0 s1 s2 s3 s4 s5
          go_wp2

          go_roundw
          case rel => exact ⟨h', k + 1, by omega, HH'.out, rfl, by go_num, H6⟩
          case measure => simp [intOf]; omega
        · rw [on_old a h q cc l hqh] at h5 ho5 ⊢
          have hne : ((q : Int) == (h : Int)) = false := by simp; omega
          have H5 : Hid (Lm w D 1000 (onM a h) x5) := Lib.hid ⟨h5.mas, H4.out.ok, h5.below, h5.le⟩
          simp only [List.length_nil]
          clear ho5 h5 hf5 H4
          go_wp2_with fail
          refine (next_lm H5.out).mono ?_
          rintro e x6 ⟨A6, c6, rfl, _, h6, hb6⟩
          rw [on_next]
          have H6 := Lib.hid h6
          have HF6 := Lib.hid ((hb6.block X (Array.getElem?_eq_some_iff.1 HF5.out).1).trans HF5.out)
          clear h6 hb6 H5 r3 r5 HF5 HO5
          obtain ⟨r0, r1, r2, r3, r4, r5, s0, s1, s2, s3, s4, s5⟩ := frame_row HF6.out
          clear r0 r1 r2 r4 r5 s0 s1 s2 s3 s4 s5
          go_wp2
          go_roundw
          case rel => exact ⟨h, k + 1, by omega, hh1, rfl, by go_num, H6⟩
          case measure => simp [intOf]; omega
    · have hlt' : ¬ ((k : Int) < (n0 : Int) ∧ (k : Int) < 200) := by have := HLS.out; omega
      by_cases hk0 : (k : Int) < (n0 : Int)
      · have hk200 : ¬ (k : Int) < 200 := fun h => hlt' ⟨hk0, h⟩
        clear hlt'
        go_wp2_with fail
        refine (epoch_lm H.out).mono ?_
        rintro e y ⟨rfl, rfl⟩
        go_wp2
        go_ret
        exact ⟨rfl, H.out.below⟩
      · clear hlt'
        go_wp2_with fail
        refine (epoch_lm H.out).mono ?_
        rintro e y ⟨rfl, rfl⟩
        go_wp2
        go_ret
        exact ⟨rfl, H.out.below⟩

end Go.Proofs.Ytoahjkdackccmaa
