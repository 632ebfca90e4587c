/-
  The ops of lamplightlaw08.line: the first one is there twice.
-/
import Derived.Test.YtabedmkhhlmbkaaSlaN
import Derived.StillTailTactics
import Derived.Deep.DeepCutAuto
namespace Go.Proofs.Ytabedmkhhlmbkaa
set_option linter.unusedVariables false
set_option linter.unusedSimpArgs false
open Go.RowKit

set_option maxRecDepth 20000 in
set_option maxHeartbeats 6400000 in
theorem does_twice12 {w x : World} {L D S N cd cu : Nat} {l : Ln} {Ad Au : Option Addr} {td tu : List Kf} (h : Lx w L D S N l Ad Au cd cu td tu x) :
    Calls Try.prog 22 #[.pointer (some ⟨L, 0, none⟩), .agg #[.int .i64 12]] x (DoesPost w L D S N l 12) := by
  obtain ⟨i0, hi, hz0, hz1, hz2⟩ := info_parts info_frame
  have HP : Hid (∀ y l', ({ l with down := twice l.down } : Ln) = l' → Lxx w L D S (N + 1) l' y → DoesPost w L D S N l 12 (.returned (.bool true)) y) := fun y l' he hh => ⟨rfl, by
    have e : (doesL l 12).1 = l' := he
    rw [e]; exact hh⟩
  have HX := Lib.hid (h.step (new_below x (.cells #[.int .i64 12] 56)))
  clear h
  generalize DoesPost w L D S N l 12 = Q at *
  go_enter Try.func22, Try.ntmps22
  go_upto_region 44 with fail
  generalize x.alloc (.cells #[.int .i64 12] 56) = x1 at *
  have c2 := HX.out.lc.c2
  cases hu : l.down with
  | nil =>
    have HE : Hid (({ l with down := twice l.down } : Ln) = l) := by show _ = _; rw [show twice l.down = l.down by rw [hu]; rfl]
    rw [hu] at c2
    simp only [List.length_nil] at c2
    clear hu
    go_wp2
    exact HP.out _ _ HE.out ⟨_, _, _, _, _, _, HX.out.more (Nat.le_succ N)⟩
  | cons f u =>
    rw [hu] at c2
    simp only [List.length_cons] at c2
    have h1 : (0 : Int) < ((u.length + 1 : Nat) : Int) := by omega
    by_cases h20 : (f :: u).length < 20
    rotate_left 1
    · have HE : Hid (({ l with down := twice l.down } : Ln) = l) := by show _ = _; rw [show twice l.down = l.down by rw [hu]; show (if _ then _ else _) = _; rw [if_neg h20]]
      have hn : ¬ ((u.length + 1 : Nat) : Int) < 20 := by simp at h20 ⊢; omega
      clear hu h20
      generalize u.length + 1 = un at *
      go_wp2
      exact HP.out _ _ HE.out ⟨_, _, _, _, _, _, HX.out.more (Nat.le_succ N)⟩
    · have HE : Hid (({ l with down := twice l.down } : Ln) = { l with down := f :: f :: u }) := by show _ = _; rw [show twice l.down = f :: f :: u by rw [hu]; show (if _ then _ else _) = _; rw [if_pos h20]]
      have hn : ((u.length + 1 : Nat) : Int) < 20 := by simp at h20 ⊢; omega
      have HHU := Lib.hid hu
      have HL20 : Hid (u.length + 1 < 20) := Lib.hid (by simpa using h20)
      have hq := HX.out.dn
      rw [hu] at hq
      obtain ⟨g, o, t, r, htu, htf, hrf, hA, -, hcap, -, -⟩ := hq.head
      subst hA htu
      have HTF := Lib.hid htf
      have HRF := Lib.hid hrf
      clear hq hu h20 htf hrf
      generalize hul : u.length = un at *
      have HUL : Hid (u.length = un) := hul
      clear hul
      go_upto_region 45 with fail
      have HX1 := Lib.hid (HX.out.step (drew_below x1))
      have HS : Hid (∀ y, Lx w L D S N l (some ⟨g, o, none⟩) Au cd cu (t :: r) tu y → y.cell? ⟨L, 2, none⟩ = some (.slice (some ⟨g, o, none⟩) (un + 1) cd) ∧ Six y g o f (.slice t.A f.b.length t.c)) := fun y hy => by
        have hq := hy.dn
        rw [HHU.out] at hq
        have d2 := hy.lc.c2
        rw [HHU.out] at d2
        simp only [List.length_cons, HUL.out] at d2
        exact ⟨d2, hq.six.1⟩
      refine region_last 15 (.take 0 (.take 1 (.take 2 (.take 3 (.take 4 (.take 5 (.take 6 (.take 8 (.take 9 (.take 10 (.take 11 (.one 7 (.one 12 (.one 13 (.take 14 (.one 15 .done))))))))))))))))
        (fun y => y.cell? ⟨L, 2, none⟩ = some (.slice (some ⟨g, o, none⟩) (un + 1) cd) ∧ y.cell? ⟨g, o, none⟩ = some (.int .u8 (f.a : Int)) ∧ y.cell? ⟨g, o + 1, none⟩ = some (.int .u8 (f.k : Int)) ∧ y.cell? ⟨g, o + 2, none⟩ = some (.int .u8 (f.s : Int)) ∧ y.cell? ⟨g, o + 3, none⟩ = some (.int .u8 (f.q : Int)) ∧ y.cell? ⟨g, o + 4, none⟩ = some (.int .u8 (f.c : Int)) ∧ y.cell? ⟨g, o + 5, none⟩ = some (.slice t.A f.b.length t.c)) (by kernel_rfl) (by kernel_rfl) (by kernel_rfl) (by kernel_rfl) (HS.out _ HX1.out) ?_
      clear c2 HX hn h1
      generalize x1.drew = x2 at *
      iterate 11 (refine TreeL.take (v := ?_) (by kernel_rfl) rfl (by rfl) ?_ ?_; rotate_left 1; (focus (intro x hx; go_simp <;> (first | with_reducible rfl | rw [if_pos (by omega)]))); simp only [Act.put, List.setIfInBounds_toArray, List.set_cons_zero, List.set_cons_succ])
      refine TreeL.one (by decide) rfl (fun K hK => ?_)
      go_simp
      have HB3 := Lib.hid (new_below x2 (.cells (fcs f (.slice t.A f.b.length t.c)) 30))
      have HX3 := Lib.hid (HX1.out.step HB3.out)
      refine hK.out _ _ _ (fun x hx => hx) (HS.out _ HX3.out) ?_
      clear hK K
      refine TreeL.one (by decide) rfl (fun K hK => ?_)
      rw [if_pos (by rfl)]
      have hq3 := HX3.out.dn
      rw [HHU.out] at hq3
      have hown : (x2.alloc (.cells (fcs f (.slice t.A f.b.length t.c)) 30)).ownsRow x2.heap.size 30 6 (.slice (some ⟨x2.heap.size, 0, none⟩) 1 1) 1 (Kf.cells t) := by
        refine ⟨rfl, .inr ⟨x2.heap.size, 1, fcs f (.slice t.A f.b.length t.c), rfl, Nat.le_refl _, heap_alloc_new x2 _, Nat.le_refl _, by unfold maxLen; omega, rfl, ?_⟩⟩
        rw [← HTF.out]
        rfl
      have hholds : Holds (x2.alloc (.cells (fcs f (.slice t.A f.b.length t.c)) 30)) g (some ⟨g, o, none⟩) (kcs (t :: r)) := by
        obtain ⟨g', o', hA', _, hlt, _, hcell, _⟩ := hq3.que.at (by simp)
        injection hA' with hA'
        injection hA' with h1 h2
        subst h1 h2
        exact fun _ => ⟨hlt, o, rfl, hcell⟩
      refine wp_append_wide (.tmp 281) (.tmp 285) 58 rfl x2.heap.size 30 i0 _ 6 32 Try.underlying58 hi hz0 hz1 hz2 rfl (by decide) (.slice (some ⟨x2.heap.size, 0, none⟩) 1 1) 1 (Kf.cells t) rfl hown g (some ⟨g, o, none⟩) (un + 1) cd (kcs (t :: r)) rfl
        (by rw [kcs_length, hq3.len, List.length_cons, HUL.out]) hholds (kcs_one _) (by unfold maxLen; have := hq3.que.cap; simp only [List.length_cons, HUL.out] at this; unfold maxLen at this; omega) (by have := HL20.out; omega) (by simp) ?_
      intro A7 c7 x7 hown7 hgr7
      have hb7 : Below x2.heap.size x2 x7 := HB3.out.trans ((Below.refl _ _).grown hgr7 (by simp) (fun k hk => by simp [Value.ownBlock] at hk; omega))
      have HX7 := Lib.hid (HX1.out.step hb7)
      have HQ7 : Hid (Fq x7 w.heap.size A7 c7 (t :: t :: r) (f :: f :: u)) := by
        have hq7 := HX7.out.dn
        rw [HHU.out] at hq7
        refine ⟨?_, ?_, ?_⟩
        · rw [List.map_cons, List.map_cons, HTF.out, HRF.out]
        · have k := Que.of_own (own_mono hown7 HX1.out.below.size)
          rw [show (f :: f :: u).length = 1 + (un + 1) by simp only [List.length_cons, HUL.out]; omega]
          exact k
        · intro z hz
          rw [List.mem_cons] at hz
          rcases hz with rfl | hz
          · exact hq7.by_ _ (by simp)
          · exact hq7.by_ _ hz
      have HA7 : Hid (∀ b ∈ ablk A7, x2.heap.size ≤ b) := by
        show ∀ b ∈ ablk A7, x2.heap.size ≤ b
        intro b hb
        cases A7 with
        | none => simp [ablk] at hb
        | some a => simp [ablk] at hb; subst hb; exact (hown7.lt _ rfl).1
      refine hK.out _ _ _ (fun x hx => hx) (HS.out _ HX7.out) ?_
      have HOU := Lib.hid (fun b hb => (HX1.out.up.blk b hb).2.1)
      clear hK K hq3 hown hholds hown7 hgr7 hb7 HB3 HX3 HX1
      simp only [Act.put, List.setIfInBounds_toArray, List.set_cons_zero, List.set_cons_succ]
      generalize x2.heap.size = G at *
      refine TreeL.one (by decide) rfl (fun K hK => ?_)
      go_simp
      refine hK.out _ _ _ (fun x hx => hx) (HS.out _ HX7.out) ?_
      clear hK K
      iterate 1 (refine TreeL.take (v := ?_) (by kernel_rfl) rfl (by rfl) ?_ ?_; rotate_left 1; (focus (intro x hx; go_simp <;> (first | with_reducible rfl | rw [if_pos (by omega)]))); simp only [Act.put, List.setIfInBounds_toArray, List.set_cons_zero, List.set_cons_succ])
      refine TreeL.last rfl (fun K hK => ?_)
      have g4 := (HS.out _ HX7.out).1
      have g5 := HX7.out.lc.fz 2
      go_simp
      refine hK.out _ _ (NoPanic.normal ?_)
      clear hK K g4 g5 HS
      have HX8 := Lib.hid (HX7.out.set (l' := { l with down := f :: f :: u }) (M := N + 1) [(2, .slice A7 (1 + (un + 1)) c7)] rfl rfl (Nat.le_succ _) (by simp [setsA, HUL.out]; omega) HQ7.out HX7.out.up (fun b hb hb2 => by have h1 := HA7.out b hb; have h2 := HOU.out b hb2; omega) ⟨Nat.le_succ_of_le HX7.out.nums.1, Nat.le_succ_of_le HX7.out.nums.2.1, Nat.le_succ_of_le HX7.out.nums.2.2.1, Nat.le_succ_of_le HX7.out.nums.2.2.2⟩)
      clear HX7
      simp only [sets, List.foldl] at HX8
      generalize x7.setCell ⟨L, 2, none⟩ (.slice A7 (1 + (un + 1)) c7) = x8 at *
      go_wp2
      exact HP.out _ _ HE.out ⟨_, _, _, _, _, _, HX8.out⟩

set_option maxRecDepth 20000 in
set_option maxHeartbeats 6400000 in
theorem does_twice13 {w x : World} {L D S N cd cu : Nat} {l : Ln} {Ad Au : Option Addr} {td tu : List Kf} (h : Lx w L D S N l Ad Au cd cu td tu x) :
    Calls Try.prog 22 #[.pointer (some ⟨L, 0, none⟩), .agg #[.int .i64 13]] x (DoesPost w L D S N l 13) := by
  obtain ⟨i0, hi, hz0, hz1, hz2⟩ := info_parts info_frame
  have HP : Hid (∀ y l', ({ l with up := twice l.up } : Ln) = l' → Lxx w L D S (N + 1) l' y → DoesPost w L D S N l 13 (.returned (.bool true)) y) := fun y l' he hh => ⟨rfl, by
    have e : (doesL l 13).1 = l' := he
    rw [e]; exact hh⟩
  have HX := Lib.hid (h.step (new_below x (.cells #[.int .i64 13] 56)))
  clear h
  generalize DoesPost w L D S N l 13 = Q at *
  go_enter Try.func22, Try.ntmps22
  go_upto_region 47 with fail
  generalize x.alloc (.cells #[.int .i64 13] 56) = x1 at *
  have c2 := HX.out.lc.c3
  cases hu : l.up with
  | nil =>
    have HE : Hid (({ l with up := twice l.up } : Ln) = l) := by show _ = _; rw [show twice l.up = l.up by rw [hu]; rfl]
    rw [hu] at c2
    simp only [List.length_nil] at c2
    clear hu
    go_wp2
    exact HP.out _ _ HE.out ⟨_, _, _, _, _, _, HX.out.more (Nat.le_succ N)⟩
  | cons f u =>
    rw [hu] at c2
    simp only [List.length_cons] at c2
    have h1 : (0 : Int) < ((u.length + 1 : Nat) : Int) := by omega
    by_cases h20 : (f :: u).length < 20
    rotate_left 1
    · have HE : Hid (({ l with up := twice l.up } : Ln) = l) := by show _ = _; rw [show twice l.up = l.up by rw [hu]; show (if _ then _ else _) = _; rw [if_neg h20]]
      have hn : ¬ ((u.length + 1 : Nat) : Int) < 20 := by simp at h20 ⊢; omega
      clear hu h20
      generalize u.length + 1 = un at *
      go_wp2
      exact HP.out _ _ HE.out ⟨_, _, _, _, _, _, HX.out.more (Nat.le_succ N)⟩
    · have HE : Hid (({ l with up := twice l.up } : Ln) = { l with up := f :: f :: u }) := by show _ = _; rw [show twice l.up = f :: f :: u by rw [hu]; show (if _ then _ else _) = _; rw [if_pos h20]]
      have hn : ((u.length + 1 : Nat) : Int) < 20 := by simp at h20 ⊢; omega
      have HHU := Lib.hid hu
      have HL20 : Hid (u.length + 1 < 20) := Lib.hid (by simpa using h20)
      have hq := HX.out.up
      rw [hu] at hq
      obtain ⟨g, o, t, r, htu, htf, hrf, hA, -, hcap, -, -⟩ := hq.head
      subst hA htu
      have HTF := Lib.hid htf
      have HRF := Lib.hid hrf
      clear hq hu h20 htf hrf
      generalize hul : u.length = un at *
      have HUL : Hid (u.length = un) := hul
      clear hul
      go_upto_region 48 with fail
      have HX1 := Lib.hid (HX.out.step (drew_below x1))
      have HS : Hid (∀ y, Lx w L D S N l Ad (some ⟨g, o, none⟩) cd cu td (t :: r) y → y.cell? ⟨L, 3, none⟩ = some (.slice (some ⟨g, o, none⟩) (un + 1) cu) ∧ Six y g o f (.slice t.A f.b.length t.c)) := fun y hy => by
        have hq := hy.up
        rw [HHU.out] at hq
        have d2 := hy.lc.c3
        rw [HHU.out] at d2
        simp only [List.length_cons, HUL.out] at d2
        exact ⟨d2, hq.six.1⟩
      refine region_last 15 (.take 0 (.take 1 (.take 2 (.take 3 (.take 4 (.take 5 (.take 6 (.take 8 (.take 9 (.take 10 (.take 11 (.one 7 (.one 12 (.one 13 (.take 14 (.one 15 .done))))))))))))))))
        (fun y => y.cell? ⟨L, 3, none⟩ = some (.slice (some ⟨g, o, none⟩) (un + 1) cu) ∧ y.cell? ⟨g, o, none⟩ = some (.int .u8 (f.a : Int)) ∧ y.cell? ⟨g, o + 1, none⟩ = some (.int .u8 (f.k : Int)) ∧ y.cell? ⟨g, o + 2, none⟩ = some (.int .u8 (f.s : Int)) ∧ y.cell? ⟨g, o + 3, none⟩ = some (.int .u8 (f.q : Int)) ∧ y.cell? ⟨g, o + 4, none⟩ = some (.int .u8 (f.c : Int)) ∧ y.cell? ⟨g, o + 5, none⟩ = some (.slice t.A f.b.length t.c)) (by kernel_rfl) (by kernel_rfl) (by kernel_rfl) (by kernel_rfl) (HS.out _ HX1.out) ?_
      clear c2 HX hn h1
      generalize x1.drew = x2 at *
      iterate 11 (refine TreeL.take (v := ?_) (by kernel_rfl) rfl (by rfl) ?_ ?_; rotate_left 1; (focus (intro x hx; go_simp <;> (first | with_reducible rfl | rw [if_pos (by omega)]))); simp only [Act.put, List.setIfInBounds_toArray, List.set_cons_zero, List.set_cons_succ])
      refine TreeL.one (by decide) rfl (fun K hK => ?_)
      go_simp
      have HB3 := Lib.hid (new_below x2 (.cells (fcs f (.slice t.A f.b.length t.c)) 30))
      have HX3 := Lib.hid (HX1.out.step HB3.out)
      refine hK.out _ _ _ (fun x hx => hx) (HS.out _ HX3.out) ?_
      clear hK K
      refine TreeL.one (by decide) rfl (fun K hK => ?_)
      rw [if_pos (by rfl)]
      have hq3 := HX3.out.up
      rw [HHU.out] at hq3
      have hown : (x2.alloc (.cells (fcs f (.slice t.A f.b.length t.c)) 30)).ownsRow x2.heap.size 30 6 (.slice (some ⟨x2.heap.size, 0, none⟩) 1 1) 1 (Kf.cells t) := by
        refine ⟨rfl, .inr ⟨x2.heap.size, 1, fcs f (.slice t.A f.b.length t.c), rfl, Nat.le_refl _, heap_alloc_new x2 _, Nat.le_refl _, by unfold maxLen; omega, rfl, ?_⟩⟩
        rw [← HTF.out]
        rfl
      have hholds : Holds (x2.alloc (.cells (fcs f (.slice t.A f.b.length t.c)) 30)) g (some ⟨g, o, none⟩) (kcs (t :: r)) := by
        obtain ⟨g', o', hA', _, hlt, _, hcell, _⟩ := hq3.que.at (by simp)
        injection hA' with hA'
        injection hA' with h1 h2
        subst h1 h2
        exact fun _ => ⟨hlt, o, rfl, hcell⟩
      refine wp_append_wide (.tmp 312) (.tmp 316) 58 rfl x2.heap.size 30 i0 _ 6 32 Try.underlying58 hi hz0 hz1 hz2 rfl (by decide) (.slice (some ⟨x2.heap.size, 0, none⟩) 1 1) 1 (Kf.cells t) rfl hown g (some ⟨g, o, none⟩) (un + 1) cu (kcs (t :: r)) rfl
        (by rw [kcs_length, hq3.len, List.length_cons, HUL.out]) hholds (kcs_one _) (by unfold maxLen; have := hq3.que.cap; simp only [List.length_cons, HUL.out] at this; unfold maxLen at this; omega) (by have := HL20.out; omega) (by simp) ?_
      intro A7 c7 x7 hown7 hgr7
      have hb7 : Below x2.heap.size x2 x7 := HB3.out.trans ((Below.refl _ _).grown hgr7 (by simp) (fun k hk => by simp [Value.ownBlock] at hk; omega))
      have HX7 := Lib.hid (HX1.out.step hb7)
      have HQ7 : Hid (Fq x7 w.heap.size A7 c7 (t :: t :: r) (f :: f :: u)) := by
        have hq7 := HX7.out.up
        rw [HHU.out] at hq7
        refine ⟨?_, ?_, ?_⟩
        · rw [List.map_cons, List.map_cons, HTF.out, HRF.out]
        · have k := Que.of_own (own_mono hown7 HX1.out.below.size)
          rw [show (f :: f :: u).length = 1 + (un + 1) by simp only [List.length_cons, HUL.out]; omega]
          exact k
        · intro z hz
          rw [List.mem_cons] at hz
          rcases hz with rfl | hz
          · exact hq7.by_ _ (by simp)
          · exact hq7.by_ _ hz
      have HA7 : Hid (∀ b ∈ ablk A7, x2.heap.size ≤ b) := by
        show ∀ b ∈ ablk A7, x2.heap.size ≤ b
        intro b hb
        cases A7 with
        | none => simp [ablk] at hb
        | some a => simp [ablk] at hb; subst hb; exact (hown7.lt _ rfl).1
      refine hK.out _ _ _ (fun x hx => hx) (HS.out _ HX7.out) ?_
      have HOU := Lib.hid (fun b hb => (HX1.out.dn.blk b hb).2.1)
      clear hK K hq3 hown hholds hown7 hgr7 hb7 HB3 HX3 HX1
      simp only [Act.put, List.setIfInBounds_toArray, List.set_cons_zero, List.set_cons_succ]
      generalize x2.heap.size = G at *
      refine TreeL.one (by decide) rfl (fun K hK => ?_)
      go_simp
      refine hK.out _ _ _ (fun x hx => hx) (HS.out _ HX7.out) ?_
      clear hK K
      iterate 1 (refine TreeL.take (v := ?_) (by kernel_rfl) rfl (by rfl) ?_ ?_; rotate_left 1; (focus (intro x hx; go_simp <;> (first | with_reducible rfl | rw [if_pos (by omega)]))); simp only [Act.put, List.setIfInBounds_toArray, List.set_cons_zero, List.set_cons_succ])
      refine TreeL.last rfl (fun K hK => ?_)
      have g4 := (HS.out _ HX7.out).1
      have g5 := HX7.out.lc.fz 3
      go_simp
      refine hK.out _ _ (NoPanic.normal ?_)
      clear hK K g4 g5 HS
      have HX8 := Lib.hid (HX7.out.set (l' := { l with up := f :: f :: u }) (M := N + 1) [(3, .slice A7 (1 + (un + 1)) c7)] rfl rfl (Nat.le_succ _) (by simp [setsA, HUL.out]; omega) HX7.out.dn HQ7.out (fun b hb hb2 => by have h1 := HA7.out b hb2; have h2 := HOU.out b hb; omega) ⟨Nat.le_succ_of_le HX7.out.nums.1, Nat.le_succ_of_le HX7.out.nums.2.1, Nat.le_succ_of_le HX7.out.nums.2.2.1, Nat.le_succ_of_le HX7.out.nums.2.2.2⟩)
      clear HX7
      simp only [sets, List.foldl] at HX8
      generalize x7.setCell ⟨L, 3, none⟩ (.slice A7 (1 + (un + 1)) c7) = x8 at *
      go_wp2
      exact HP.out _ _ HE.out ⟨_, _, _, _, _, _, HX8.out⟩

end Go.Proofs.Ytabedmkhhlmbkaa
