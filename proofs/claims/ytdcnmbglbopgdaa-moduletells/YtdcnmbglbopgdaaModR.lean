/-
  The document's module (lamplightref11.Module) in memory; New, Press, Reset, Take, as they stand: what they answer.
-/
import Derived.Test.YtdcnmbglbopgdaaSlaR
import Derived.Test.YtdcnmbglbopgdaaModT
import Derived.Test.YtdcnmbglbopgdaaModU
namespace Go.Proofs.Ytdcnmbglbopgdaa
set_option linter.unusedVariables false
set_option linter.unusedSimpArgs false
open Go.RowKit

abbrev Tm11 : List TypeId := [98, 57]
abbrev rmc (m : Mo) (RS : Nat) : Array Value := #[.pointer (some ⟨RS, 0, none⟩), .bool m.lit, .bool m.lat, .int .u16 (m.tok : Int), .int .u16 (m.qty : Int), .int .u16 (m.most : Int)]
/-- The document's module at R, its slave at RS, from B on; it has no buttons. -/
structure Rm (w : World) (B R RS : Nat) (m : Mo) : Prop where
  le : B ≤ R
  row : w.heap[R]? = some (.cells (rmc m RS) 57 (0, 0))
  sla : Rv w B RS m.s
theorem Rm.ft {w w' : World} {B B' R RS : Nat} {T : List TypeId} {m : Mo} (h : Rm w B R RS m) (hc : Ft B' T w w') (h1 : 57 ∉ T) (h2 : 98 ∉ T) : Rm w' B R RS m := ⟨h.le, hc.keep h.row h1, h.sla.ft hc h2⟩
theorem Rm.step {w w' : World} {B R RS : Nat} {m : Mo} (h : Rm w B R RS m) (hb : Below w.heap.size w w') : Rm w' B R RS m := h.ft (B' := 0) (T := []) (Ft.of_below hb) (by simp) (by simp)
theorem Rm.same {w w' : World} {B R RS : Nat} {m : Mo} (h : Rm w B R RS m) (h1 : w'.heap[R]? = w.heap[R]?) (h2 : w'.heap[RS]? = w.heap[RS]?) : Rm w' B R RS m := ⟨h.le, h1.trans h.row, h.sla.le, h2.trans h.sla.row⟩
theorem Rm.lt {w : World} {B R RS : Nat} {m : Mo} (h : Rm w B R RS m) : R < w.heap.size := (Array.getElem?_eq_some_iff.1 h.row).1
structure Rmc (w : World) (R RS : Nat) (m : Mo) : Prop where
  c0 : w.cell? ⟨R, 0, none⟩ = some (.pointer (some ⟨RS, 0, none⟩))
  c1 : w.cell? ⟨R, 1, none⟩ = some (.bool m.lit)
  c2 : w.cell? ⟨R, 2, none⟩ = some (.bool m.lat)
  c3 : w.cell? ⟨R, 3, none⟩ = some (.int .u16 (m.tok : Int))
  c4 : w.cell? ⟨R, 4, none⟩ = some (.int .u16 (m.qty : Int))
  c5 : w.cell? ⟨R, 5, none⟩ = some (.int .u16 (m.most : Int))
  fz : ∀ i, w.frozen? ⟨R, i, none⟩ = false
theorem Rm.mc {w : World} {B R RS : Nat} {m : Mo} (h : Rm w B R RS m) : Rmc w R RS m := by
  have k := h.row
  constructor
  all_goals first | (simp [World.cell?, k]; done) | (intro i; simp [World.frozen?, k])
/-- Its slave turned. -/
theorem Rm.slave {w y : World} {B R RS : Nat} {m : Mo} {s' : Sl} (h : Rm w B R RS m) (hs : Rv y B RS s') (hf : Ft B [98] w y) : Rm y B R RS { m with s := s' } := ⟨h.le, hf.keep h.row (by decide), hs⟩
/-- Some of its cells are set. -/
theorem Rm.put {w : World} {B R RS : Nat} {m : Mo} (h : Rm w B R RS m) (l : List (Nat × Value)) (m' : Mo) (hs : m'.s = m.s) (hc : setsA l (rmc m RS) = rmc m' RS) : Rm (sets R l w) B R RS m' ∧ Ft B Tm11 w (sets R l w) := by
  obtain ⟨h1, h2⟩ := sets_row l h.row
  rw [hc] at h1
  have hf : Ft B [57] w (sets R l w) := Ft.of_ch h2 (fun y hy _ => by simp at hy; subst hy; exact ⟨h.le, _, _, _, h.row, by simp⟩)
  exact ⟨⟨h.le, h1, by rw [hs]; exact h.sla.ft hf (by decide)⟩, hf.mono (Nat.le_refl _) (by simp)⟩
theorem ft_sl {B : Nat} {x y : World} (h : Ft B [98] x y) : Ft B Tm11 x y := h.mono (Nat.le_refl _) (by simp)

set_option maxRecDepth 20000 in
set_option maxHeartbeats 1600000 in
theorem rmnew_on {w : World} {a : Nat} : Calls Try.prog 11 #[.int .u8 (a : Int)] w fun e y => ∃ R RS, e = .returned (.pointer (some ⟨R, 0, none⟩)) ∧ Rm y w.heap.size R RS (newMo a) ∧ Below w.heap.size w y := by
  go_enter Try.func11, Try.ntmps11
  go_wp2_with fail
  refine rnew_on.mono ?_
  rintro e x ⟨rfl, h1, h2⟩
  have hb := new_below x (.cells (rmc (newMo a) w.heap.size) 57)
  have HR : Hid (Rm (x.alloc (.cells (rmc (newMo a) w.heap.size) 57)) w.heap.size x.heap.size w.heap.size (newMo a)) := ⟨h2.size, heap_alloc_new x _, h1.step hb⟩
  have HB := Lib.hid (h2.trans (hb.mono h2.size))
  clear h1 h2 hb
  go_wp2
  go_ret
  exact ⟨_, _, rfl, HR.out, HB.out⟩

set_option maxRecDepth 20000 in
set_option maxHeartbeats 1600000 in
theorem rmreset_on {w : World} {B R RS : Nat} {m : Mo} (h : Rm w B R RS m) (hB : B ≤ w.heap.size) : Calls Try.prog 21 #[.pointer (some ⟨R, 0, none⟩)] w fun e y => ∃ RS', e = .returned (.tuple #[]) ∧ Rm y B R RS' (resetMo m) ∧ Ft B Tm11 w y := by
  have c0 := h.mc.c0
  have s0 := h.sla.vc.c0
  go_enter Try.func21, Try.ntmps21
  go_wp2_with fail
  refine rnew_on.mono ?_
  rintro e x ⟨rfl, h1, h2⟩
  have hr := h.step h2
  have HS : Hid (Rm (sets R [(0, .pointer (some ⟨w.heap.size, 0, none⟩)), (1, .bool false), (2, .bool false), (3, .int .u16 0), (4, .int .u16 0), (5, .int .u16 0)] x) B R w.heap.size (resetMo m) ∧ Ft B Tm11 w (sets R [(0, .pointer (some ⟨w.heap.size, 0, none⟩)), (1, .bool false), (2, .bool false), (3, .int .u16 0), (4, .int .u16 0), (5, .int .u16 0)] x)) := by
    obtain ⟨k1, k2⟩ := sets_row [(0, .pointer (some ⟨w.heap.size, 0, none⟩)), (1, .bool false), (2, .bool false), (3, .int .u16 0), (4, .int .u16 0), (5, .int .u16 0)] hr.row
    have hf : Ft B [57] x (sets R [(0, .pointer (some ⟨w.heap.size, 0, none⟩)), (1, .bool false), (2, .bool false), (3, .int .u16 0), (4, .int .u16 0), (5, .int .u16 0)] x) := Ft.of_ch k2 (fun y hy _ => by simp at hy; subst hy; exact ⟨h.le, _, _, _, hr.row, by simp⟩)
    exact ⟨⟨h.le, k1, hB, (h1.ft hf (by decide)).row⟩, (Ft.of_below h2).trans (hf.mono (Nat.le_refl _) (by simp))⟩
  have hc := hr.mc
  have d0 := hc.c0
  have d1 := hc.c1
  have d2 := hc.c2
  have d3 := hc.c3
  have d4 := hc.c4
  have d5 := hc.c5
  have f0 := hc.fz 0
  have f1 := hc.fz 1
  have f2 := hc.fz 2
  have f3 := hc.fz 3
  have f4 := hc.fz 4
  have f5 := hc.fz 5
  simp only [sets, List.foldl] at HS
  clear h1 h2 hr hc c0 s0 h
  generalize w.heap.size = S at *
  go_wp2
  go_end0
  exact ⟨S, rfl, HS.out⟩

theorem parse5_kind {l : List UInt8} (h : (parse5 l).2.2.2 = 0) : (parse5 l).1 = 1 ∨ (parse5 l).1 = 2 := by
  unfold parse5 at h ⊢
  split at h
  · split at h
    · rename_i hk; rw [if_pos hk]; exact hk
    · cases h
  · split at h <;> cases h
theorem pressMo_off {m : Mo} {b : Nat} (h : m.lit = false ∨ m.lat = true) : pressMo m b = m := if_pos h
theorem pressMo_plus {m : Mo} (h : ¬ (m.lit = false ∨ m.lat = true)) : pressMo m 1 = { m with qty := if m.qty < m.most then m.qty + 1 else m.qty } := by unfold pressMo; rw [if_neg h, if_pos rfl]
theorem pressMo_minus {m : Mo} (h : ¬ (m.lit = false ∨ m.lat = true)) : pressMo m 2 = { m with qty := m.qty - 1 } := by unfold pressMo; rw [if_neg h, if_neg (by decide), if_pos rfl]
theorem pressMo_tell {m : Mo} {b k : Nat} (h : ¬ (m.lit = false ∨ m.lat = true)) (hb : b = 0 ∧ k = 1 ∨ b = 3 ∧ k = 2) : pressMo m b = { m with s := (offerS m.s (txt5 k m.tok m.qty)).1, lat := decide ((offerS m.s (txt5 k m.tok m.qty)).2 = 0) } := by
  unfold pressMo
  rcases hb with ⟨rfl, rfl⟩ | ⟨rfl, rfl⟩
  · rw [if_neg h, if_neg (by decide), if_neg (by decide), if_pos rfl]
  · rw [if_neg h, if_neg (by decide), if_neg (by decide), if_neg (by decide)]

set_option maxRecDepth 20000 in
set_option maxHeartbeats 3200000 in
theorem rmpress_on {w : World} {B R RS b : Nat} {m : Mo} (h : Rm w B R RS m) (hok : m.Ok) (hb : b ≤ 3) : Calls Try.prog 19 #[.pointer (some ⟨R, 0, none⟩), .int .i64 (b : Int)] w fun e y => e = .returned (.tuple #[]) ∧ Rm y B R RS (pressMo m b) ∧ Ft B Tm11 w y := by
  have H := Lib.hid h
  have HOK := Lib.hid hok
  have hc := h.mc
  have c0 := hc.c0
  have c1 := hc.c1
  have c2 := hc.c2
  have c3 := hc.c3
  have c4 := hc.c4
  have c5 := hc.c5
  have f2 := hc.fz 2
  have f4 := hc.fz 4
  clear hc
  by_cases hd : m.lit = false ∨ m.lat = true
  · as_aux_lemma =>
    rw [pressMo_off hd]
    clear h hok
    cases hl : m.lit with
    | false =>
      rw [hl] at c1
      clear hd hl
      go_enter Try.func19, Try.ntmps19
      go_wp2
      refine bodyPost_ret (results_none rfl _ _ _) rfl ?_
      exact ⟨rfl, H.out, Ft.refl _ _ _⟩
    | true =>
      have hl2 : m.lat = true := by rcases hd with h1 | h1; rw [hl] at h1; cases h1; exact h1
      rw [hl] at c1
      rw [hl2] at c2
      clear hd hl hl2
      go_enter Try.func19, Try.ntmps19
      go_wp2
      refine bodyPost_ret (results_none rfl _ _ _) rfl ?_
      exact ⟨rfl, H.out, Ft.refl _ _ _⟩
  · have hl : m.lit = true := by cases hq : m.lit with | true => rfl | false => exact absurd (.inl hq) hd
    have hl2 : m.lat = false := by cases hq : m.lat with | false => rfl | true => exact absurd (.inr hq) hd
    rw [hl] at c1
    rw [hl2] at c2
    by_cases h1 : b = 1
    · as_aux_lemma =>
      subst h1
      have HM := Lib.hid (pressMo_plus hd)
      rw [HM.out]
      obtain ⟨qt, hqt⟩ : ∃ qt, m.qty = qt := ⟨_, rfl⟩
      obtain ⟨mo, hmo⟩ : ∃ mo, m.most = mo := ⟨_, rfl⟩
      have hlt : mo < 65536 := by rw [← hmo]; exact hok.most
      clear h hok hd hl hl2 HM
      rw [hqt] at c4 ⊢
      rw [hmo] at c5
      by_cases hq : qt < mo
      · rw [if_pos (by omega)]
        have HB := Lib.hid (H.out.step (drew_below w))
        have HF := Lib.hid (Ft.of_below (B := B) (T := Tm11) (drew_below w))
        go_enter Try.func19, Try.ntmps19
        go_upto_region 3 with fail
        refine region_plan [(true, 0), (true, 1), (true, 2), (true, 3), (true, 4), (true, 5), (true, 6), (true, 7), (true, 8)]
          (fun z => z.cell? ⟨R, 4, none⟩ = some (.int .u16 (qt : Int)) ∧ z.cell? ⟨R, 5, none⟩ = some (.int .u16 (mo : Int))) (by kernel_rfl) (by kernel_rfl) (by kernel_rfl) rfl ⟨c4, c5⟩ ?_
        clear c0 c1 c2 c3 c4 c5 f2 f4 H
        generalize w.drew = x at *
        iterate 9 (refine Plan.take (v := ?_) rfl (by rfl) ?_ ?_; rotate_left 1; (focus (intro x hx; go_simp <;> (first | with_reducible rfl | rw [if_pos (by omega)]))); simp only [Act.put, List.setIfInBounds_toArray, List.set_cons_zero, List.set_cons_succ])
        refine Plan.done ?_
        have hc := HB.out.mc
        have c4 := hc.c4
        have f4 := hc.fz 4
        rw [hqt] at c4
        have HK := Lib.hid (HB.out.put [(4, .int .u16 ((qt : Int) + 1))] { m with qty := qt + 1 } rfl rfl)
        simp only [sets, List.foldl] at HK
        have hw : IntKind.u16.wrap ((qt : Int) + 1) = (qt : Int) + 1 := by rw [show IntKind.u16.wrap ((qt : Int) + 1) = ((qt : Int) + 1) % 65536 from rfl]; omega
        have hq1 : (qt : Int) < (mo : Int) := by omega
        clear hc hqt hmo hlt hq HOK
        go_wp2
        go_end0
        exact ⟨rfl, HK.out.1, HF.out.trans HK.out.2⟩
      · rw [if_neg (by omega)]
        have HB := Lib.hid (H.out.step (drew_below w))
        have HF := Lib.hid (Ft.of_below (B := B) (T := Tm11) (drew_below w))
        go_enter Try.func19, Try.ntmps19
        go_upto_region 3 with fail
        refine region_plan [(true, 0), (true, 1), (true, 2), (true, 3), (true, 4), (true, 5), (true, 6), (true, 7), (true, 8)]
          (fun z => z.cell? ⟨R, 4, none⟩ = some (.int .u16 (qt : Int)) ∧ z.cell? ⟨R, 5, none⟩ = some (.int .u16 (mo : Int))) (by kernel_rfl) (by kernel_rfl) (by kernel_rfl) rfl ⟨c4, c5⟩ ?_
        clear c0 c1 c2 c3 c4 c5 f2 f4 H
        generalize w.drew = x at *
        iterate 9 (refine Plan.take (v := ?_) rfl (by rfl) ?_ ?_; rotate_left 1; (focus (intro x hx; go_simp <;> (first | with_reducible rfl | rw [if_pos (by omega)]))); simp only [Act.put, List.setIfInBounds_toArray, List.set_cons_zero, List.set_cons_succ])
        refine Plan.done ?_
        have hq1 : ¬ (qt : Int) < (mo : Int) := by omega
        have HE : Hid (Rm x B R RS { m with qty := qt }) := by
          show Rm _ _ _ _ _
          rw [← hqt]
          exact HB.out
        clear hqt hmo hlt hq HOK HB
        go_wp2
        go_end0
        exact ⟨rfl, HE.out, HF.out⟩
    · by_cases h2 : b = 2
      · as_aux_lemma =>
        subst h2
        rw [pressMo_minus hd]
        obtain ⟨qt, hqt⟩ : ∃ qt, m.qty = qt := ⟨_, rfl⟩
        have hlt : qt < 65536 := by rw [← hqt]; have := hok.most; have := hok.qty; omega
        clear hok hd hl hl2
        rw [hqt] at c4 ⊢
        by_cases hq : 0 < qt
        · have HK := Lib.hid (h.put [(4, .int .u16 ((qt - 1 : Nat) : Int))] { m with qty := qt - 1 } rfl rfl)
          simp only [sets, List.foldl] at HK
          have hw : IntKind.u16.wrap ((qt : Int) - 1) = ((qt - 1 : Nat) : Int) := by rw [show IntKind.u16.wrap ((qt : Int) - 1) = ((qt : Int) - 1) % 65536 from rfl]; omega
          have hq1 : 0 < (qt : Int) := by omega
          clear h hqt hlt hq HOK H
          go_enter Try.func19, Try.ntmps19
          go_wp2
          go_end0
          exact ⟨rfl, HK.out⟩
        · have hq0 : qt = 0 := by omega
          subst hq0
          have HE : Hid (Rm w B R RS { m with qty := 0 - 1 }) := by
            have : ({ m with qty := 0 - 1 } : Mo) = m := by cases m; simp_all
            show Rm _ _ _ _ _
            rw [this]
            exact H.out
          clear h hqt hlt hq HOK H
          go_enter Try.func19, Try.ntmps19
          go_wp2
          go_end0
          exact ⟨rfl, HE.out, Ft.refl _ _ _⟩
      · rcases (show b = 0 ∨ b = 3 by omega) with rfl | rfl
        · as_aux_lemma =>
          have HM := Lib.hid (pressMo_tell (b := 0) (k := 1) hd (by decide))
          rw [HM.out]
          have HD := Lib.hid (H.out.step (drew_below w))
          have HF := Lib.hid (Ft.of_below (B := B) (T := Tm11) (drew_below w))
          have HT1 := Lib.hid hok.tok
          have HQ1 : Hid (m.qty < 65536) := Lib.hid (by have := hok.most; have := hok.qty; omega)
          clear h hok hd hl hl2 HM
          go_enter Try.func19, Try.ntmps19
          go_upto_region 9 with fail
          refine region_plan [(true, 0), (true, 1), (true, 2), (true, 3), (true, 4), (true, 5), (true, 6), (true, 7), (true, 8), (true, 9), (true, 10), (true, 11), (true, 12), (false, 13), (false, 14), (true, 15), (true, 16), (true, 17), (false, 18)]
            (fun z => z.cell? ⟨R, 0, none⟩ = some (.pointer (some ⟨RS, 0, none⟩)) ∧ z.cell? ⟨R, 3, none⟩ = some (.int .u16 (m.tok : Int)) ∧ z.cell? ⟨R, 4, none⟩ = some (.int .u16 (m.qty : Int))) (by kernel_rfl) (by kernel_rfl) (by kernel_rfl) rfl ⟨c0, c3, c4⟩ ?_
          clear c0 c1 c2 c3 c4 c5 f2 f4 H
          generalize w.drew = x at *
          iterate 13 (refine Plan.take (v := ?_) rfl (by rfl) ?_ ?_; rotate_left 1; (focus (intro x hx; go_simp <;> (first | with_reducible rfl | rw [if_pos (by omega)]))); simp only [Act.put, List.setIfInBounds_toArray, List.set_cons_zero, List.set_cons_succ])
          refine Plan.loud rfl (fun K hK => ?_)
          go_simp
          refine (text_on (k := 1) (t := m.tok) (q := m.qty) (by omega) HT1.out HQ1.out).mono ?_
          rintro e x2 ⟨rfl, hb2⟩
          have H2 := Lib.hid (HD.out.step hb2)
          have HF2 := Lib.hid (HF.out.trans (Ft.of_below hb2))
          refine hK.out _ _ _ (fun x hx => hx) ⟨H2.out.mc.c0, H2.out.mc.c3, H2.out.mc.c4⟩ ?_
          clear hK K hb2 HD HF
          refine Plan.loud rfl (fun K hK => ?_)
          go_simp
          refine (roffer_on H2.out.sla).mono ?_
          rintro e x3 ⟨rfl, h3, hf3⟩
          have H3 := Lib.hid (H2.out.slave h3 hf3)
          have HF3 := Lib.hid (HF2.out.trans (ft_sl hf3))
          refine hK.out _ _ _ (fun x hx => hx) ⟨H3.out.mc.c0, H3.out.mc.c3, H3.out.mc.c4⟩ ?_
          clear hK K h3 hf3 H2 HF2
          generalize hs1 : (offerS m.s (txt5 1 m.tok m.qty)).1 = s' at *
          generalize hs2 : (offerS m.s (txt5 1 m.tok m.qty)).2 = er at *
          have HS1 := Lib.hid hs1
          have HS2 := Lib.hid hs2
          clear hs1 hs2
          iterate 3 (refine Plan.take (v := ?_) rfl (by rfl) ?_ ?_; rotate_left 1; (focus (intro x hx; go_simp <;> (first | with_reducible rfl | rw [if_pos (by omega)]))); simp only [Act.put, List.setIfInBounds_toArray, List.set_cons_zero, List.set_cons_succ])
          refine Plan.loud rfl (fun K hK => ?_)
          have d2 := H3.out.mc.c2
          have f2 := H3.out.mc.fz 2
          go_simp
          have hk := H3.out.put [(2, .bool (er == 0))] { m with s := s', lat := (er == 0) } rfl rfl
          simp only [sets, List.foldl] at hk
          have H4 := Lib.hid hk.1
          have HF4 := Lib.hid (HF3.out.trans hk.2)
          refine hK.out _ _ _ (fun x hx => hx) ⟨H4.out.mc.c0, H4.out.mc.c3, H4.out.mc.c4⟩ ?_
          clear hK K hk H3 HF3 d2 f2
          refine Plan.done ?_
          go_wp2
          go_end0
          have he : (er == 0) = decide (er = 0) := rfl
          exact ⟨rfl, by rw [HS1.out, HS2.out, ← he]; exact H4.out, HF4.out⟩
        · as_aux_lemma =>
          have HM := Lib.hid (pressMo_tell (b := 3) (k := 2) hd (by decide))
          rw [HM.out]
          have HD := Lib.hid (H.out.step (drew_below w))
          have HF := Lib.hid (Ft.of_below (B := B) (T := Tm11) (drew_below w))
          have HT1 := Lib.hid hok.tok
          have HQ1 : Hid (m.qty < 65536) := Lib.hid (by have := hok.most; have := hok.qty; omega)
          clear h hok hd hl hl2 HM
          go_enter Try.func19, Try.ntmps19
          go_upto_region 11 with fail
          refine region_plan [(true, 0), (true, 1), (true, 2), (true, 3), (true, 4), (true, 5), (true, 6), (true, 7), (true, 8), (true, 9), (true, 10), (true, 11), (true, 12), (false, 13), (false, 14), (true, 15), (true, 16), (true, 17), (false, 18)]
            (fun z => z.cell? ⟨R, 0, none⟩ = some (.pointer (some ⟨RS, 0, none⟩)) ∧ z.cell? ⟨R, 3, none⟩ = some (.int .u16 (m.tok : Int)) ∧ z.cell? ⟨R, 4, none⟩ = some (.int .u16 (m.qty : Int))) (by kernel_rfl) (by kernel_rfl) (by kernel_rfl) rfl ⟨c0, c3, c4⟩ ?_
          clear c0 c1 c2 c3 c4 c5 f2 f4 H
          generalize w.drew = x at *
          iterate 13 (refine Plan.take (v := ?_) rfl (by rfl) ?_ ?_; rotate_left 1; (focus (intro x hx; go_simp <;> (first | with_reducible rfl | rw [if_pos (by omega)]))); simp only [Act.put, List.setIfInBounds_toArray, List.set_cons_zero, List.set_cons_succ])
          refine Plan.loud rfl (fun K hK => ?_)
          go_simp
          refine (text_on (k := 2) (t := m.tok) (q := m.qty) (by omega) HT1.out HQ1.out).mono ?_
          rintro e x2 ⟨rfl, hb2⟩
          have H2 := Lib.hid (HD.out.step hb2)
          have HF2 := Lib.hid (HF.out.trans (Ft.of_below hb2))
          refine hK.out _ _ _ (fun x hx => hx) ⟨H2.out.mc.c0, H2.out.mc.c3, H2.out.mc.c4⟩ ?_
          clear hK K hb2 HD HF
          refine Plan.loud rfl (fun K hK => ?_)
          go_simp
          refine (roffer_on H2.out.sla).mono ?_
          rintro e x3 ⟨rfl, h3, hf3⟩
          have H3 := Lib.hid (H2.out.slave h3 hf3)
          have HF3 := Lib.hid (HF2.out.trans (ft_sl hf3))
          refine hK.out _ _ _ (fun x hx => hx) ⟨H3.out.mc.c0, H3.out.mc.c3, H3.out.mc.c4⟩ ?_
          clear hK K h3 hf3 H2 HF2
          generalize hs1 : (offerS m.s (txt5 2 m.tok m.qty)).1 = s' at *
          generalize hs2 : (offerS m.s (txt5 2 m.tok m.qty)).2 = er at *
          have HS1 := Lib.hid hs1
          have HS2 := Lib.hid hs2
          clear hs1 hs2
          iterate 3 (refine Plan.take (v := ?_) rfl (by rfl) ?_ ?_; rotate_left 1; (focus (intro x hx; go_simp <;> (first | with_reducible rfl | rw [if_pos (by omega)]))); simp only [Act.put, List.setIfInBounds_toArray, List.set_cons_zero, List.set_cons_succ])
          refine Plan.loud rfl (fun K hK => ?_)
          have d2 := H3.out.mc.c2
          have f2 := H3.out.mc.fz 2
          go_simp
          have hk := H3.out.put [(2, .bool (er == 0))] { m with s := s', lat := (er == 0) } rfl rfl
          simp only [sets, List.foldl] at hk
          have H4 := Lib.hid hk.1
          have HF4 := Lib.hid (HF3.out.trans hk.2)
          refine hK.out _ _ _ (fun x hx => hx) ⟨H4.out.mc.c0, H4.out.mc.c3, H4.out.mc.c4⟩ ?_
          clear hK K hk H3 HF3 d2 f2
          refine Plan.done ?_
          go_wp2
          go_end0
          have he : (er == 0) = decide (er = 0) := rfl
          exact ⟨rfl, by rw [HS1.out, HS2.out, ← he]; exact H4.out, HF4.out⟩
end Go.Proofs.Ytdcnmbglbopgdaa
