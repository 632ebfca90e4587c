/-
  The ops of lamplightlaw08.line: what the master says goes onto the wire down.
-/
import Derived.Test.YtabedmkhhlmbkaaSlaF
namespace Go.Proofs.Ytabedmkhhlmbkaa
set_option linter.unusedVariables false
set_option linter.unusedSimpArgs false
open Go.RowKit

section
variable {w x y : World} {L D S N cd cu : Nat} {l : Ln} {Ad Au : Option Addr} {td tu : List Kf}
/-- The line's cells behind a turn of rows of frames alone. -/
theorem Lx.lcy (h : Lx w L D S N l Ad Au cd cu td tu x) (hxy : Ft w.heap.size [30] x y) : Lc y L D S l (.slice Ad l.down.length cd) (.slice Au l.up.length cu) := by
  have k := hxy.keep h.row (by decide)
  constructor
  all_goals first | (simp [World.cell?, k]; done) | (intro i; simp [World.frozen?, k])
/-- Rows of frames have turned, and some of the line's own cells are set. -/
theorem Lx.put {l' : Ln} {Ad' Au' : Option Addr} {cd' cu' : Nat} {td' tu' : List Kf} {M : Nat} (h : Lx w L D S N l Ad Au cd cu td tu x) (hxy : Ft w.heap.size [30] x y) (ls : List (Nat × Value)) (hm : l'.m = l.m) (hs : l'.s = l.s) (hM : N ≤ M)
    (hc : setsA ls (lcs D S l (.slice Ad l.down.length cd) (.slice Au l.up.length cu)) = lcs D S l' (.slice Ad' l'.down.length cd') (.slice Au' l'.up.length cu'))
    (hd : Fq y w.heap.size Ad' cd' td' l'.down) (hu : Fq y w.heap.size Au' cu' tu' l'.up) (hne : ∀ b ∈ ablk Ad', b ∉ ablk Au') (hn : l'.sent ≤ M ∧ l'.came ≤ M ∧ l'.offered ≤ M ∧ l'.heard ≤ M) : Lx w L D S M l' Ad' Au' cd' cu' td' tu' (sets L ls y) := by
  have k := hxy.keep h.row (by decide)
  obtain ⟨h1, h2⟩ := sets_row ls k
  have hft : Ft w.heap.size [60] y (sets L ls y) := Ft.of_ch h2 (fun z hz _ => by simp at hz; subst hz; exact ⟨h.le, _, _, _, k, by simp⟩)
  rw [hc] at h1
  exact ⟨by rw [hm]; exact ((h.m.ft hxy (Nat.le_refl _) (by decide) (by decide) (by decide)).ft hft (Nat.le_refl _) (by decide) (by decide) (by decide)).more hM, by rw [hs]; exact (h.s.ft hxy (Nat.le_refl _) (by decide) (by decide)).ft hft (Nat.le_refl _) (by decide) (by decide), h1, hd.ft hft (by decide) (by decide), hu.ft hft (by decide) (by decide), hne, h.le, hn⟩
theorem Lx.dnFt (h : Lx w L D S N l Ad Au cd cu td tu x) (hc : Ch (ablk Ad) x y) : Ft w.heap.size [30] x y := Ft.of_ch hc (fun b hb _ => ⟨(h.dn.blk b hb).1, (h.dn.blk b hb).2.2⟩)
theorem Lx.upFt (h : Lx w L D S N l Ad Au cd cu td tu x) (hc : Ch (ablk Au) x y) : Ft w.heap.size [30] x y := Ft.of_ch hc (fun b hb _ => ⟨(h.up.blk b hb).1, (h.up.blk b hb).2.2⟩)
/-- One more down. -/
theorem Lx.pushDown {A' : Option Addr} {c' : Nat} {t : Kf} (h : Lx w L D S N l Ad Au cd cu td tu x) (hd : Fq y w.heap.size A' c' (td ++ [t]) (l.down ++ [t.f])) (hc : Ch (ablk Ad) x y) (hA : ∀ b ∈ ablk A', b ∈ ablk Ad ∨ x.heap.size ≤ b) :
    Lx w L D S N { l with down := l.down ++ [t.f] } A' Au c' cu (td ++ [t]) tu (sets L [(2, .slice A' (l.down.length + 1) c')] y) :=
  h.put (l' := { l with down := l.down ++ [t.f] }) (h.dnFt hc) _ rfl rfl (Nat.le_refl _) (by simp [setsA]) hd (h.up.other hc (fun b hb => (h.dn.blk b hb).2.2) (fun b hb hb2 => h.ne b hb2 hb))
    (fun b hb => (hA b hb).elim (h.ne b) (fun hge hb2 => by have := (h.up.blk b hb2).2.1; omega)) h.nums
/-- One more up. -/
theorem Lx.pushUp {A' : Option Addr} {c' : Nat} {t : Kf} (h : Lx w L D S N l Ad Au cd cu td tu x) (hu : Fq y w.heap.size A' c' (tu ++ [t]) (l.up ++ [t.f])) (hc : Ch (ablk Au) x y) (hA : ∀ b ∈ ablk A', b ∈ ablk Au ∨ x.heap.size ≤ b) :
    Lx w L D S N { l with up := l.up ++ [t.f] } Ad A' cd c' td (tu ++ [t]) (sets L [(3, .slice A' (l.up.length + 1) c')] y) :=
  h.put (l' := { l with up := l.up ++ [t.f] }) (h.upFt hc) _ rfl rfl (Nat.le_refl _) (by simp [setsA]) (h.dn.other hc (fun b hb => (h.up.blk b hb).2.2) (fun b hb => h.ne b hb)) hu
    (fun b hb hb2 => (hA b hb2).elim (h.ne b hb) (fun hge => by have := (h.dn.blk b hb).2.1; omega)) h.nums
end

set_option maxRecDepth 20000 in
set_option maxHeartbeats 6400000 in
theorem does_next2 {w x : World} {L D S N cd cu : Nat} {l : Ln} {Ad Au : Option Addr} {td tu : List Kf} (h : Lx w L D S N l Ad Au cd cu td tu x) :
    Calls Try.prog 22 #[.pointer (some ⟨L, 0, none⟩), .agg #[.int .i64 2]] x (DoesPost w L D S N l 2) := by
  have HP : Hid (∀ y l', (nextL l).1 = l' → Lxx w L D S (N + 1) l' y → DoesPost w L D S N l 2 (.returned (.bool true)) y) := fun y l' he hh => ⟨rfl, by
    have e : (doesL l 2).1 = l' := by unfold doesL; rw [if_neg (by omega), if_neg (by omega), if_pos (by omega)]; exact he
    rw [e]; exact hh⟩
  have HX := Lib.hid (h.step (new_below x (.cells #[.int .i64 2] 56)))
  clear h
  generalize DoesPost w L D S N l 2 = Q at *
  go_enter Try.func22, Try.ntmps22
  go_upto_region 10 with fail
  generalize x.alloc (.cells #[.int .i64 2] 56) = x1 at *
  have c2 := HX.out.lc.c2
  by_cases h20 : l.down.length < 20
  rotate_left 1
  · as_aux_lemma =>
      have hn : ¬ (l.down.length : Int) < 20 := by omega
      have HE : Hid ((nextL l).1 = l) := by show _ = _; unfold nextL; rw [if_neg h20]
      clear h20
      go_wp2
      exact HP.out _ _ HE.out ⟨_, _, _, _, _, _, HX.out.more (Nat.le_succ N)⟩
  · have hn : (l.down.length : Int) < 20 := by omega
    have HE : Hid ((nextL l).1 = { l with down := l.down ++ [nextM l.m] }) := by show _ = _; unfold nextL; rw [if_pos h20]
    go_upto_region 11 with fail
    have HX1 := Lib.hid (HX.out.step (drew_below x1))
    have hc := HX1.out.lc
    refine region_last 14 (.take 0 (.take 1 (.take 2 (.take 3 (.take 4 (.take 5 (.take 6 (.take 7 (.take 8 (.one 9 (.one 10 (.one 11 (.one 12 (.take 13 (.one 14 .done)))))))))))))))
      (fun y => y.cell? ⟨L, 0, none⟩ = some (.pointer (some ⟨D, 0, none⟩)) ∧ y.cell? ⟨L, 2, none⟩ = some (.slice Ad l.down.length cd)) (by kernel_rfl) (by kernel_rfl) (by kernel_rfl) (by kernel_rfl) ⟨hc.c0, hc.c2⟩ ?_
    clear hc c2 HX hn
    generalize x1.drew = x2 at *
    iterate 9 (refine TreeL.take (v := ?_) (by kernel_rfl) rfl (by rfl) ?_ ?_; rotate_left 1; (focus (intro x hx; go_simp <;> (first | with_reducible rfl | rw [if_pos (by omega)]))); simp only [Act.put, List.setIfInBounds_toArray, List.set_cons_zero, List.set_cons_succ])
    refine TreeL.one (by decide) rfl (fun K hK => ?_)
    go_simp
    refine (next_lm HX1.out.m).mono ?_
    rintro e x3 ⟨A1, c1, rfl, ho, h3, hb3⟩
    have HX3 := Lib.hid (HX1.out.step hb3)
    have HO3 := Lib.hid (own_zero ho)
    have hc := HX3.out.lc
    refine hK.out _ _ _ (fun x hx => hx) ⟨hc.c0, hc.c2⟩ ?_
    clear hK K hc ho h3 hb3 HX1
    generalize nextM l.m = fr at *
    refine TreeL.one (by decide) rfl (fun K hK => ?_)
    go_simp
    have hb4 := new_below x3 (.cells (fcs fr (.slice A1 fr.b.length c1)) 30)
    have HX4 := Lib.hid (HX3.out.step hb4)
    have HR4 : Hid (Fx (x3.alloc (.cells (fcs fr (.slice A1 fr.b.length c1)) 30)) x3.heap.size fr (.slice A1 fr.b.length c1)) := heap_alloc_new x3 _
    have HO4 := Lib.hid (Hb.own (D := 0) (own_ft (B := 0) (T := []) HO3.out (Ft.of_below hb4) (by simp)) rfl)
    have HW4 : Hid (w.heap.size ≤ (x3.alloc (.cells (fcs fr (.slice A1 fr.b.length c1)) 30)).heap.size) := HX4.out.below.size
    have hc := HX4.out.lc
    refine hK.out _ _ _ (fun x hx => hx) ⟨hc.c0, hc.c2⟩ ?_
    clear hK K hc hb4 HX3 HO3
    generalize x3.alloc (.cells (fcs fr (.slice A1 fr.b.length c1)) 30) = x4 at *
    generalize x3.heap.size = G at *
    refine TreeL.one (by decide) rfl (fun K hK => ?_)
    rw [if_pos (by rfl)]
    refine wp_push (.tmp 67) (.tmp 73) rfl ⟨fr, A1, c1⟩ rfl HX4.out.dn rfl HR4.out HO4.out (by omega) HW4.out ?_
    intro A6 c6 x6 hq6 hc6 hA6
    have HF6 := Lib.hid (HX4.out.dnFt hc6)
    have HX6 := Lib.hid ((HX4.out.pushDown hq6 hc6 hA6).more (Nat.le_succ N))
    have hc := HX4.out.lcy HF6.out
    refine hK.out _ _ _ (fun x hx => hx) ⟨hc.c0, hc.c2⟩ ?_
    clear hK K hq6 hc6 hA6 HR4 HO4 HW4
    simp only [Act.put, List.setIfInBounds_toArray, List.set_cons_zero, List.set_cons_succ]
    refine TreeL.one (by decide) rfl (fun K hK => ?_)
    go_simp
    refine hK.out _ _ _ (fun x hx => hx) ⟨hc.c0, hc.c2⟩ ?_
    clear hK K
    iterate 1 (refine TreeL.take (v := ?_) (by kernel_rfl) rfl (by rfl) ?_ ?_; rotate_left 1; (focus (intro x hx; go_simp <;> (first | with_reducible rfl | rw [if_pos (by omega)]))); simp only [Act.put, List.setIfInBounds_toArray, List.set_cons_zero, List.set_cons_succ])
    refine TreeL.last rfl (fun K hK => ?_)
    have g4 := hc.c2
    have g5 := hc.fz 2
    clear hc
    go_simp
    refine hK.out _ _ (NoPanic.normal ?_)
    clear hK K g4 g5 HX4 HF6
    simp only [sets, List.foldl] at HX6
    generalize x6.setCell ⟨L, 2, none⟩ (.slice A6 (l.down.length + 1) c6) = x7 at *
    go_wp2
    exact HP.out _ _ HE.out ⟨_, _, _, _, _, _, HX6.out⟩

set_option maxRecDepth 20000 in
set_option maxHeartbeats 6400000 in
theorem does_next3 {w x : World} {L D S N cd cu : Nat} {l : Ln} {Ad Au : Option Addr} {td tu : List Kf} (h : Lx w L D S N l Ad Au cd cu td tu x) :
    Calls Try.prog 22 #[.pointer (some ⟨L, 0, none⟩), .agg #[.int .i64 3]] x (DoesPost w L D S N l 3) := by
  have HP : Hid (∀ y l', (nextL l).1 = l' → Lxx w L D S (N + 1) l' y → DoesPost w L D S N l 3 (.returned (.bool true)) y) := fun y l' he hh => ⟨rfl, by
    have e : (doesL l 3).1 = l' := by unfold doesL; rw [if_neg (by omega), if_neg (by omega), if_pos (by omega)]; exact he
    rw [e]; exact hh⟩
  have HX := Lib.hid (h.step (new_below x (.cells #[.int .i64 3] 56)))
  clear h
  generalize DoesPost w L D S N l 3 = Q at *
  go_enter Try.func22, Try.ntmps22
  go_upto_region 10 with fail
  generalize x.alloc (.cells #[.int .i64 3] 56) = x1 at *
  have c2 := HX.out.lc.c2
  by_cases h20 : l.down.length < 20
  rotate_left 1
  · as_aux_lemma =>
      have hn : ¬ (l.down.length : Int) < 20 := by omega
      have HE : Hid ((nextL l).1 = l) := by show _ = _; unfold nextL; rw [if_neg h20]
      clear h20
      go_wp2
      exact HP.out _ _ HE.out ⟨_, _, _, _, _, _, HX.out.more (Nat.le_succ N)⟩
  · have hn : (l.down.length : Int) < 20 := by omega
    have HE : Hid ((nextL l).1 = { l with down := l.down ++ [nextM l.m] }) := by show _ = _; unfold nextL; rw [if_pos h20]
    go_upto_region 11 with fail
    have HX1 := Lib.hid (HX.out.step (drew_below x1))
    have hc := HX1.out.lc
    refine region_last 14 (.take 0 (.take 1 (.take 2 (.take 3 (.take 4 (.take 5 (.take 6 (.take 7 (.take 8 (.one 9 (.one 10 (.one 11 (.one 12 (.take 13 (.one 14 .done)))))))))))))))
      (fun y => y.cell? ⟨L, 0, none⟩ = some (.pointer (some ⟨D, 0, none⟩)) ∧ y.cell? ⟨L, 2, none⟩ = some (.slice Ad l.down.length cd)) (by kernel_rfl) (by kernel_rfl) (by kernel_rfl) (by kernel_rfl) ⟨hc.c0, hc.c2⟩ ?_
    clear hc c2 HX hn
    generalize x1.drew = x2 at *
    iterate 9 (refine TreeL.take (v := ?_) (by kernel_rfl) rfl (by rfl) ?_ ?_; rotate_left 1; (focus (intro x hx; go_simp <;> (first | with_reducible rfl | rw [if_pos (by omega)]))); simp only [Act.put, List.setIfInBounds_toArray, List.set_cons_zero, List.set_cons_succ])
    refine TreeL.one (by decide) rfl (fun K hK => ?_)
    go_simp
    refine (next_lm HX1.out.m).mono ?_
    rintro e x3 ⟨A1, c1, rfl, ho, h3, hb3⟩
    have HX3 := Lib.hid (HX1.out.step hb3)
    have HO3 := Lib.hid (own_zero ho)
    have hc := HX3.out.lc
    refine hK.out _ _ _ (fun x hx => hx) ⟨hc.c0, hc.c2⟩ ?_
    clear hK K hc ho h3 hb3 HX1
    generalize nextM l.m = fr at *
    refine TreeL.one (by decide) rfl (fun K hK => ?_)
    go_simp
    have hb4 := new_below x3 (.cells (fcs fr (.slice A1 fr.b.length c1)) 30)
    have HX4 := Lib.hid (HX3.out.step hb4)
    have HR4 : Hid (Fx (x3.alloc (.cells (fcs fr (.slice A1 fr.b.length c1)) 30)) x3.heap.size fr (.slice A1 fr.b.length c1)) := heap_alloc_new x3 _
    have HO4 := Lib.hid (Hb.own (D := 0) (own_ft (B := 0) (T := []) HO3.out (Ft.of_below hb4) (by simp)) rfl)
    have HW4 : Hid (w.heap.size ≤ (x3.alloc (.cells (fcs fr (.slice A1 fr.b.length c1)) 30)).heap.size) := HX4.out.below.size
    have hc := HX4.out.lc
    refine hK.out _ _ _ (fun x hx => hx) ⟨hc.c0, hc.c2⟩ ?_
    clear hK K hc hb4 HX3 HO3
    generalize x3.alloc (.cells (fcs fr (.slice A1 fr.b.length c1)) 30) = x4 at *
    generalize x3.heap.size = G at *
    refine TreeL.one (by decide) rfl (fun K hK => ?_)
    rw [if_pos (by rfl)]
    refine wp_push (.tmp 67) (.tmp 73) rfl ⟨fr, A1, c1⟩ rfl HX4.out.dn rfl HR4.out HO4.out (by omega) HW4.out ?_
    intro A6 c6 x6 hq6 hc6 hA6
    have HF6 := Lib.hid (HX4.out.dnFt hc6)
    have HX6 := Lib.hid ((HX4.out.pushDown hq6 hc6 hA6).more (Nat.le_succ N))
    have hc := HX4.out.lcy HF6.out
    refine hK.out _ _ _ (fun x hx => hx) ⟨hc.c0, hc.c2⟩ ?_
    clear hK K hq6 hc6 hA6 HR4 HO4 HW4
    simp only [Act.put, List.setIfInBounds_toArray, List.set_cons_zero, List.set_cons_succ]
    refine TreeL.one (by decide) rfl (fun K hK => ?_)
    go_simp
    refine hK.out _ _ _ (fun x hx => hx) ⟨hc.c0, hc.c2⟩ ?_
    clear hK K
    iterate 1 (refine TreeL.take (v := ?_) (by kernel_rfl) rfl (by rfl) ?_ ?_; rotate_left 1; (focus (intro x hx; go_simp <;> (first | with_reducible rfl | rw [if_pos (by omega)]))); simp only [Act.put, List.setIfInBounds_toArray, List.set_cons_zero, List.set_cons_succ])
    refine TreeL.last rfl (fun K hK => ?_)
    have g4 := hc.c2
    have g5 := hc.fz 2
    clear hc
    go_simp
    refine hK.out _ _ (NoPanic.normal ?_)
    clear hK K g4 g5 HX4 HF6
    simp only [sets, List.foldl] at HX6
    generalize x6.setCell ⟨L, 2, none⟩ (.slice A6 (l.down.length + 1) c6) = x7 at *
    go_wp2
    exact HP.out _ _ HE.out ⟨_, _, _, _, _, _, HX6.out⟩

theorem does_next {w x : World} {L D S N cd cu : Nat} {l : Ln} {Ad Au : Option Addr} {td tu : List Kf} (h : Lx w L D S N l Ad Au cd cu td tu x) (k : Int) (hk : k = 2 ∨ k = 3) :
    Calls Try.prog 22 #[.pointer (some ⟨L, 0, none⟩), .agg #[.int .i64 k]] x (DoesPost w L D S N l k) := by
  rcases hk with rfl | rfl
  · exact does_next2 h
  · exact does_next3 h

end Go.Proofs.Ytabedmkhhlmbkaa
