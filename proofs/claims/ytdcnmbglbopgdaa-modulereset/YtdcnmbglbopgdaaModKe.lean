/-
  The landed module: events, tell, press: what they answer. The landed module: press: what it answers. The landed module: New, Set, Show, Reset: what they answer. The landed module: Tick: what it answers. The landed module: Take: what it answers.
-/
import Derived.Test.YtdcnmbglbopgdaaModKa
import Derived.Test.YtdcnmbglbopgdaaModKb
import Derived.Maps.OwnSet
namespace Go.Proofs.Ytdcnmbglbopgdaa
set_option linter.unusedVariables false
set_option linter.unusedSimpArgs false
open Go.RowKit
open Go.Maps (Keyed int_keyed keyOf_int_mk)

theorem klaw : Keyed Try.prog 3 := int_keyed Try.underlying3
/-- The map of events, as data. -/
def evD : DataW Unit := ((DataW.map []).put (.int .i64 0) (.lit (.int .u8 1))).put (.int .i64 3) (.lit (.int .u8 2))

set_option maxRecDepth 20000 in
set_option maxHeartbeats 1600000 in
theorem kevents_on {w : World} : Calls Try.prog 54 #[] w fun e y => ∃ M, e = .returned (.map (some M)) ∧ y.ownsMap Try.prog 3 (plainElem (H := Unit) Try.prog 5) M 2 evD ∧ Below w.heap.size w y := by
  have hmm := @run_makeMap Try.prog
  have HD : Hid (evD = ((DataW.map []).put (.int .i64 0) (.lit (.int .u8 1))).put (.int .i64 3) (.lit (.int .u8 2))) := rfl
  generalize evD = D2 at *
  go_enter Try.func54, Try.ntmps54
  go_wp2_with fail
  obtain ⟨w1, hr1, ho1, hg1⟩ := (World.ownsMap_made w Try.prog 3 (plainElem (H := Unit) Try.prog 5)).update klaw Try.underlying116 (by unfold maxLen; omega) (key := .int .i64 0) (val := .int .u8 1) (keyOf_int_mk Try.underlying3 (by decide)) (plainElem_int Try.underlying5 (by decide))
  rw [hr1]
  have HO1 := Lib.hid ho1
  have HG1 := Lib.hid hg1
  clear hr1 ho1 hg1
  go_wp2_with fail
  obtain ⟨w2, hr2, ho2, hg2⟩ := HO1.out.update klaw Try.underlying116 (by unfold maxLen; omega) (key := .int .i64 3) (val := .int .u8 2) (keyOf_int_mk Try.underlying3 (by decide)) (plainElem_int Try.underlying5 (by decide))
  rw [hr2]
  rw [← HD.out] at ho2
  have HO2 := Lib.hid ho2
  have HB : Hid (Below w.heap.size w w2) := by
    have h1 := (new_below w (.map #[] 0))
    have hg1 := HG1.out
    have k1 : Below w.heap.size (w.alloc (.map #[] 0)) w1 := ⟨hg1.os, hg1.tape, hg1.output, hg1.size, fun i hi => hg1.block i (by simp; omega) (by simp; omega)⟩
    have k2 : Below w.heap.size w1 w2 := ⟨hg2.os, hg2.tape, hg2.output, hg2.size, fun i hi => hg2.block i (by have := h1.size; have := k1.size; omega) (by simp; omega)⟩
    exact (h1.trans k1).trans k2
  clear hr2 ho2 hg2 HO1 HG1 HD hmm
  go_wp2
  go_ret
  exact ⟨_, rfl, HO2.out, HB.out⟩
theorem evD_at {b k : Nat} (h : b = 0 ∧ k = 1 ∨ b = 3 ∧ k = 2) : evD.atKey (.int .i64 (b : Int)) (.lit (.int .u8 0)) = .lit (.int .u8 (k : Int)) ∧ Maps.has evD (.int .i64 (b : Int)) = true := by
  rcases h with ⟨rfl, rfl⟩ | ⟨rfl, rfl⟩ <;> exact ⟨rfl, rfl⟩
set_option maxRecDepth 20000 in
set_option maxHeartbeats 3200000 in
theorem ktell_on {w : World} {P : Nat → Prop} {D k t n : Nat} {m : Mo} {q : Bs} (h : Mv w P D m q) (hP : ∀ b, w.heap.size ≤ b → P b) (hk : k < 256) (ht : t < 65536) (hn : n < 65536) :
    Calls Try.prog 55 #[.pointer (some ⟨D, 0, none⟩), .agg (wcs3 k t n)] w fun e y => e = .returned (.bool (decide ((offerS m.s (txt5 k t n)).2 = 0))) ∧ Mv y P D { m with s := (offerS m.s (txt5 k t n)).1 } q ∧ Ch [D] w y := by
  have HPN := Lib.hid hP
  have HKK : Hid (k < 256 ∧ t < 65536 ∧ n < 65536) := ⟨hk, ht, hn⟩
  have hb1 := new_below w (.cells (wcs3 k t n) 61)
  have H1 : Hid ((w.alloc (.cells (wcs3 k t n) 61)).heap[w.heap.size]? = some (.cells (wcs3 k t n) 61 (0, 0)) ∧ Mv (w.alloc (.cells (wcs3 k t n) 61)) P D m q ∧ Ch [D] w (w.alloc (.cells (wcs3 k t n) 61)) ∧ w.heap.size ≤ (w.alloc (.cells (wcs3 k t n) 61)).heap.size ∧ D < w.heap.size) := Lib.hid ⟨heap_alloc_new w _, h.step hb1, (Ch.of_below hb1).mono (by simp), hb1.size, h.lt⟩
  have HT5 := Lib.hid (txt5_len k t n)
  clear h hP hk ht hn hb1
  go_enter Try.func55, Try.ntmps55
  go_upto_region 1 with fail
  generalize w.alloc (.cells (wcs3 k t n) 61) = x0 at *
  obtain ⟨X, hX⟩ : ∃ X, w.heap.size = X := ⟨_, rfl⟩
  rw [hX] at H1
  have HX : Hid (w.heap.size ≤ X) := Lib.hid (by omega)
  rw [hX]
  clear hX
  replace H1 : Hid (x0.drew.heap[X]? = some (.cells (wcs3 k t n) 61 (0, 0)) ∧ Mv x0.drew P D m q ∧ Ch [D] w x0.drew ∧ X ≤ x0.drew.heap.size ∧ D < X) := Lib.hid ⟨H1.out.1, H1.out.2.1.step (drew_below x0), H1.out.2.2.1.trans ((Ch.of_below (drew_below x0)).mono (by simp)), H1.out.2.2.2.1, H1.out.2.2.2.2⟩
  have HSS : Hid (∀ y : World, y.heap[X]? = some (.cells (wcs3 k t n) 61 (0, 0)) → y.cell? ⟨X, 0, none⟩ = some (.int .u8 (k : Int)) ∧ y.cell? ⟨X, 1, none⟩ = some (.int .u16 (t : Int)) ∧ y.cell? ⟨X, 2, none⟩ = some (.int .u16 (n : Int))) := by
    intro y hy
    refine ⟨?_, ?_, ?_⟩ <;> simp [World.cell?, hy]
  refine region_plan [(true, 0), (true, 1), (true, 2), (true, 3), (false, 4), (false, 5), (true, 6), (true, 7)]
    (fun y => y.cell? ⟨X, 0, none⟩ = some (.int .u8 (k : Int)) ∧ y.cell? ⟨X, 1, none⟩ = some (.int .u16 (t : Int)) ∧ y.cell? ⟨X, 2, none⟩ = some (.int .u16 (n : Int))) (by kernel_rfl) (by kernel_rfl) (by kernel_rfl) rfl (HSS.out _ H1.out.1) ?_
  generalize x0.drew = x1 at *
  iterate 4 (refine Plan.take (v := ?_) rfl (by rfl) ?_ ?_; rotate_left 1; (focus (intro x hx; go_simp <;> (first | with_reducible rfl | rw [if_pos (by omega)]))); simp only [Act.put, List.setIfInBounds_toArray, List.set_cons_zero, List.set_cons_succ])
  refine Plan.loud rfl (fun K hK => ?_)
  go_simp
  refine (kebytes_on HKK.out.1 HKK.out.2.1 HKK.out.2.2).mono ?_
  rintro e x2 ⟨A, c, rfl, h1, h2⟩
  have hX2 : x2.heap[X]? = some (.cells (wcs3 k t n) 61 (0, 0)) := (h2.block X (Array.getElem?_eq_some_iff.1 H1.out.1).1).trans H1.out.1
  have H2 : Hid (Mv x2 P D m q ∧ Ch [D] w x2 ∧ X ≤ x2.heap.size ∧ D < X ∧ x2.heap[X]? = some (.cells (wcs3 k t n) 61 (0, 0))) := Lib.hid ⟨H1.out.2.1.step h2, H1.out.2.2.1.trans ((Ch.of_below h2).mono (by simp)), Nat.le_trans H1.out.2.2.2.1 h2.size, H1.out.2.2.2.2, hX2⟩
  have HB : Hid (Emb.Hb x2 D A (txt5 k t n)) := by
    obtain ⟨g, hh, hg⟩ := (Own1.mk (own_zero h1) (B := x1.heap.size) (fun g hg => (h1.lt g hg).1) rfl).holds
    exact ⟨g, hh, .inr (by have := hg (by omega); have := H1.out.2.2.2; omega)⟩
  refine hK.out _ _ _ (fun x hx => hx) (HSS.out _ hX2) ?_
  clear hK K h1 h2 hX2 H1
  refine Plan.loud rfl (fun K hK => ?_)
  go_simp
  refine (Emb.soffer_on H2.out.1.sv (Nat.zero_le _) (fun b hb => HPN.out b (by have := HX.out; have := H2.out.2.2.1; omega)) HB.out HT5.out).mono ?_
  rintro e x3 ⟨rfl, h1, h2⟩
  have H3 : Hid (Mv x3 P D { m with s := (offerS m.s (txt5 k t n)).1 } q ∧ Ch [D] w x3) := Lib.hid ⟨Mv.of_sv h1, H2.out.2.1.trans h2.ch⟩
  refine hK.out _ _ _ (fun x hx => hx) (HSS.out _ (h2.keep H2.out.2.2.2.2 (by decide))) ?_
  clear hK K h1 h2 H2 HB HSS
  obtain ⟨os, hos⟩ : ∃ os, offerS m.s (txt5 k t n) = os := ⟨_, rfl⟩
  have HOS := Lib.hid hos
  rw [hos] at H3
  rw [hos]
  clear hos
  iterate 2 (refine Plan.take (v := ?_) rfl (by rfl) ?_ ?_; rotate_left 1; (focus (intro x hx; go_simp <;> (first | with_reducible rfl | rw [if_pos (by omega)]))); simp only [Act.put, List.setIfInBounds_toArray, List.set_cons_zero, List.set_cons_succ])
  refine Plan.done ?_
  go_wp2
  go_ret
  rw [HOS.out]
  exact ⟨by rw [show (os.2 == 0) = decide (os.2 = 0) from by rw [Bool.eq_iff_iff]; simp]; rfl, H3.out⟩
end Go.Proofs.Ytdcnmbglbopgdaa
namespace Go.Proofs.Ytdcnmbglbopgdaa
open Go.RowKit
open Go.Maps (Keyed int_keyed keyOf_int_mk)

theorem kpress_plus {m : Mo} (h1 : m.lit = true) (h2 : m.lat = false) : pressMo m 1 = { m with qty := if m.qty < m.most then m.qty + 1 else m.qty } := by
  unfold pressMo
  rw [if_neg (by simp [h1, h2]), if_pos rfl]
theorem kpress_minus {m : Mo} (h1 : m.lit = true) (h2 : m.lat = false) : pressMo m 2 = { m with qty := m.qty - 1 } := by
  unfold pressMo
  rw [if_neg (by simp [h1, h2]), if_neg (by decide), if_pos rfl]
theorem kpress_tell {m : Mo} {b k : Nat} (h1 : m.lit = true) (h2 : m.lat = false) (hb : b = 0 ∧ k = 1 ∨ b = 3 ∧ k = 2) : pressMo m b = { m with s := (offerS m.s (txt5 k m.tok m.qty)).1, lat := decide ((offerS m.s (txt5 k m.tok m.qty)).2 = 0) } := by
  unfold pressMo
  rcases hb with ⟨rfl, rfl⟩ | ⟨rfl, rfl⟩
  · rw [if_neg (by simp [h1, h2]), if_neg (by decide), if_neg (by decide), if_pos rfl]
  · rw [if_neg (by simp [h1, h2]), if_neg (by decide), if_neg (by decide), if_neg (by decide)]
theorem kpress_off {m : Mo} {b : Nat} (h : m.lit = false ∨ m.lat = true) : pressMo m b = m := if_pos h
theorem Mv.cells2 {y : World} {P : Nat → Prop} {D : Nat} {m : Mo} {q : Bs} (h : Mv y P D m q) : y.cell? ⟨D, 20, none⟩ = some (.int .u16 (m.qty : Int)) ∧ y.cell? ⟨D, 21, none⟩ = some (.int .u16 (m.most : Int)) := ⟨h.cs.c20, h.cs.c21⟩
theorem kzero8 (w : World) : (zeroValue 5).run Try.prog w = .ok (.int .u8 0) w := by kernel_rfl

set_option maxRecDepth 20000 in
set_option maxHeartbeats 3200000 in
theorem kplus_on {w : World} {P : Nat → Prop} {D : Nat} {m : Mo} {q : Bs} (h : Mv w P D m q) (hok : m.Ok) (hl : m.lit = true) (ha : m.lat = false) :
    Calls Try.prog 39 #[.pointer (some ⟨D, 0, none⟩), .int .i64 1] w fun e y => e = .returned (.tuple #[]) ∧ Mv y P D (pressMo m 1) q ∧ Ch [D] w y := by
  have HM := Lib.hid (kpress_plus hl ha)
  have H := Lib.hid h
  have hmost : m.most < 65536 := hok.most
  clear h hok hl ha
  generalize pressMo m 1 = m2 at *
  go_enter Try.func39, Try.ntmps39
  go_upto_region 1 with fail
  replace H := Lib.hid (H.out.step (drew_below w))
  have HC : Hid (Ch [D] w w.drew) := Lib.hid ((Ch.of_below (drew_below w)).mono (by simp))
  obtain ⟨e20, e21⟩ := H.out.cells2
  refine region_plan [(true, 0), (true, 1), (true, 2), (true, 3), (true, 4), (true, 5), (true, 6), (true, 7), (true, 8), (true, 9), (true, 10), (true, 11), (true, 12), (true, 13)]
    (fun y => y.cell? ⟨D, 20, none⟩ = some (.int .u16 (m.qty : Int)) ∧ y.cell? ⟨D, 21, none⟩ = some (.int .u16 (m.most : Int))) (by kernel_rfl) (by kernel_rfl) (by kernel_rfl) rfl ⟨e20, e21⟩ ?_
  generalize w.drew = x at *
  iterate 14 (first | (refine Plan.take (v := ?_) rfl (by rfl) ?_ ?_; rotate_left 1; (focus (intro x hx; go_simp <;> (first | with_reducible rfl | rw [if_pos (by omega)]))); simp only [Act.put, List.setIfInBounds_toArray, List.set_cons_zero, List.set_cons_succ]) | (refine Plan.skip rfl (by rfl) ?_; simp only [Act.put, List.setIfInBounds_toArray, List.set_cons_zero, List.set_cons_succ]))
  refine Plan.done ?_
  by_cases hlt : m.qty < m.most
  · have HR : Hid (m2 = { m with qty := m.qty + 1 }) := by show _ = _; rw [HM.out, if_pos hlt]
    clear HM
    have hlt' : (m.qty : Int) < (m.most : Int) := by omega
    have HS := Lib.hid (H.out.put [(20, .int .u16 ((m.qty : Int) + 1))] { m with qty := m.qty + 1 } rfl (fun V => rfl))
    have f20 := H.out.cs.fz 20
    clear e21
    go_wp2_with fail
    refine kevents_on.mono ?_
    rintro e x2 ⟨M, rfl, ho, hb⟩
    have HO := Lib.hid ho
    have HB := Lib.hid hb
    clear ho hb
    go_wp2_with (at_lookup; refine wpList_lookup_own_ok_int _ rfl _ _ 116 rfl 3 5 .u8 klaw Try.underlying116 Try.underlying5 (kzero8 _) M 2 evD rfl HO.out _ _ rfl (keyOf_int_mk Try.underlying3 (by decide)) ?_; intro c hat hwc; rw [show Maps.has evD (.int .i64 1) = false from rfl])
    go_end0
    rw [HR.out]
    exact ⟨rfl, HS.out.1.step HB.out, (HC.out.trans HS.out.2).trans ((Ch.of_below HB.out).mono (by simp))⟩
  · have HR : Hid (m2 = m) := by show _ = _; rw [HM.out, if_neg hlt]
    clear HM
    have hlt' : ¬ (m.qty : Int) < (m.most : Int) := by omega
    clear e20 e21
    go_wp2_with fail
    refine kevents_on.mono ?_
    rintro e x2 ⟨M, rfl, ho, hb⟩
    have HO := Lib.hid ho
    have HB := Lib.hid hb
    clear ho hb
    go_wp2_with (at_lookup; refine wpList_lookup_own_ok_int _ rfl _ _ 116 rfl 3 5 .u8 klaw Try.underlying116 Try.underlying5 (kzero8 _) M 2 evD rfl HO.out _ _ rfl (keyOf_int_mk Try.underlying3 (by decide)) ?_; intro c hat hwc; rw [show Maps.has evD (.int .i64 1) = false from rfl])
    go_end0
    rw [HR.out]
    exact ⟨rfl, H.out.step HB.out, HC.out.trans ((Ch.of_below HB.out).mono (by simp))⟩

set_option maxRecDepth 20000 in
set_option maxHeartbeats 3200000 in
theorem kminus_on {w : World} {P : Nat → Prop} {D : Nat} {m : Mo} {q : Bs} (h : Mv w P D m q) (hok : m.Ok) (hl : m.lit = true) (ha : m.lat = false) :
    Calls Try.prog 39 #[.pointer (some ⟨D, 0, none⟩), .int .i64 2] w fun e y => e = .returned (.tuple #[]) ∧ Mv y P D (pressMo m 2) q ∧ Ch [D] w y := by
  have HM := Lib.hid (kpress_minus hl ha)
  have H := Lib.hid h
  have hmost : m.qty < 65536 := by have := hok.qty; have := hok.most; omega
  clear h hok hl ha
  generalize pressMo m 2 = m2 at *
  go_enter Try.func39, Try.ntmps39
  go_upto_region 1 with fail
  replace H := Lib.hid (H.out.step (drew_below w))
  have HC : Hid (Ch [D] w w.drew) := Lib.hid ((Ch.of_below (drew_below w)).mono (by simp))
  obtain ⟨e20, e21⟩ := H.out.cells2
  refine region_plan [(true, 0), (true, 1), (true, 2), (true, 3), (true, 4), (true, 5), (true, 6), (true, 7), (true, 8), (true, 9), (true, 10), (true, 11), (true, 12), (true, 13)]
    (fun y => y.cell? ⟨D, 20, none⟩ = some (.int .u16 (m.qty : Int)) ∧ y.cell? ⟨D, 21, none⟩ = some (.int .u16 (m.most : Int))) (by kernel_rfl) (by kernel_rfl) (by kernel_rfl) rfl ⟨e20, e21⟩ ?_
  generalize w.drew = x at *
  iterate 14 (first | (refine Plan.take (v := ?_) rfl (by rfl) ?_ ?_; rotate_left 1; (focus (intro x hx; go_simp <;> (first | with_reducible rfl | rw [if_pos (by omega)]))); simp only [Act.put, List.setIfInBounds_toArray, List.set_cons_zero, List.set_cons_succ]) | (refine Plan.skip rfl (by rfl) ?_; simp only [Act.put, List.setIfInBounds_toArray, List.set_cons_zero, List.set_cons_succ]))
  refine Plan.done ?_
  by_cases hlt : 0 < m.qty
  · have HR : Hid (m2 = { m with qty := m.qty - 1 }) := HM
    clear HM
    have hlt' : (0 : Int) < (m.qty : Int) := by omega
    have HS := Lib.hid (H.out.put [(20, .int .u16 ((m.qty : Int) - 1))] { m with qty := m.qty - 1 } rfl (fun V => by
      show #[_, _, _, _, _, _, _, _, _, _, _, _, _, _, _, _, _, _, _, _, _, _] = #[_, _, _, _, _, _, _, _, _, _, _, _, _, _, _, _, _, _, _, _, _, _]
      rw [show ((m.qty : Int) - 1) = ((m.qty - 1 : Nat) : Int) by omega]))
    have f20 := H.out.cs.fz 20
    clear e21
    go_wp2_with fail
    refine kevents_on.mono ?_
    rintro e x2 ⟨M, rfl, ho, hb⟩
    have HO := Lib.hid ho
    have HB := Lib.hid hb
    clear ho hb
    go_wp2_with (at_lookup; refine wpList_lookup_own_ok_int _ rfl _ _ 116 rfl 3 5 .u8 klaw Try.underlying116 Try.underlying5 (kzero8 _) M 2 evD rfl HO.out _ _ rfl (keyOf_int_mk Try.underlying3 (by decide)) ?_; intro c hat hwc; rw [show Maps.has evD (.int .i64 2) = false from rfl])
    go_end0
    rw [HR.out]
    exact ⟨rfl, HS.out.1.step HB.out, (HC.out.trans HS.out.2).trans ((Ch.of_below HB.out).mono (by simp))⟩
  · have HR : Hid (m2 = m) := by show _ = _; rw [HM.out, show m.qty - 1 = m.qty by omega]
    clear HM
    have hlt' : (m.qty : Int) = 0 := by omega
    rw [hlt'] at e20
    clear e21
    go_wp2_with fail
    refine kevents_on.mono ?_
    rintro e x2 ⟨M, rfl, ho, hb⟩
    have HO := Lib.hid ho
    have HB := Lib.hid hb
    clear ho hb
    go_wp2_with (at_lookup; refine wpList_lookup_own_ok_int _ rfl _ _ 116 rfl 3 5 .u8 klaw Try.underlying116 Try.underlying5 (kzero8 _) M 2 evD rfl HO.out _ _ rfl (keyOf_int_mk Try.underlying3 (by decide)) ?_; intro c hat hwc; rw [show Maps.has evD (.int .i64 2) = false from rfl])
    go_end0
    rw [HR.out]
    exact ⟨rfl, H.out.step HB.out, HC.out.trans ((Ch.of_below HB.out).mono (by simp))⟩

set_option maxRecDepth 20000 in
set_option maxHeartbeats 6400000 in
theorem ktold_on {w : World} {P : Nat → Prop} {D b k : Nat} {m : Mo} {q : Bs} (h : Mv w P D m q) (hP : ∀ b, w.heap.size ≤ b → P b) (hok : m.Ok) (hl : m.lit = true) (ha : m.lat = false) (hb : b = 0 ∧ k = 1 ∨ b = 3 ∧ k = 2) :
    Calls Try.prog 39 #[.pointer (some ⟨D, 0, none⟩), .int .i64 (b : Int)] w fun e y => e = .returned (.tuple #[]) ∧ Mv y P D (pressMo m b) q ∧ Ch [D] w y := by
  have HM := Lib.hid (kpress_tell hl ha hb)
  have H := Lib.hid h
  have HKK : Hid (k < 256 ∧ m.tok < 65536 ∧ m.qty < 65536) := by
    have := hok.qty
    have := hok.most
    exact ⟨by omega, hok.tok, by omega⟩
  have HPN := Lib.hid hP
  have hb1 : ((b : Int) == 1) = false := by simp; omega
  have hb2 : ((b : Int) == 2) = false := by simp; omega
  have HWF : Hid ((Lit.int .i64 (b : Int)).wf = true) := by
    show _ = _
    rcases hb with ⟨rfl, _⟩ | ⟨rfl, _⟩ <;> decide
  have HE := Lib.hid (evD_at hb)
  clear h hok hl ha hb hP
  generalize pressMo m b = m2 at *
  go_enter Try.func39, Try.ntmps39
  go_upto_region 1 with fail
  replace H := Lib.hid (H.out.step (drew_below w))
  have HC : Hid (Ch [D] w w.drew) := Lib.hid ((Ch.of_below (drew_below w)).mono (by simp))
  obtain ⟨e20, e21⟩ := H.out.cells2
  refine region_plan [(true, 0), (true, 1), (true, 2), (true, 3), (true, 4), (true, 5), (true, 6), (true, 7), (true, 8), (true, 9), (true, 10), (true, 11), (true, 12), (true, 13)]
    (fun y => y.cell? ⟨D, 20, none⟩ = some (.int .u16 (m.qty : Int)) ∧ y.cell? ⟨D, 21, none⟩ = some (.int .u16 (m.most : Int))) (by kernel_rfl) (by kernel_rfl) (by kernel_rfl) rfl ⟨e20, e21⟩ ?_
  have HZ : Hid (w.heap.size ≤ w.drew.heap.size) := Lib.hid (drew_below w).size
  generalize w.drew = x at *
  iterate 14 (first | (refine Plan.take (v := ?_) rfl (by rfl) ?_ ?_; rotate_left 1; (focus (intro x hx; go_simp <;> (first | with_reducible rfl | rw [if_pos (by omega)]))); simp only [Act.put, List.setIfInBounds_toArray, List.set_cons_zero, List.set_cons_succ]) | (refine Plan.skip rfl (by rfl) ?_; simp only [Act.put, List.setIfInBounds_toArray, List.set_cons_zero, List.set_cons_succ]))
  refine Plan.done ?_
  clear e20 e21
  go_wp2_with fail
  refine kevents_on.mono ?_
  rintro e x2 ⟨M, rfl, ho, hb⟩
  have HO := Lib.hid ho
  have H2 : Hid (Mv x2 P D m q ∧ Ch [D] w x2 ∧ w.heap.size ≤ x2.heap.size) := Lib.hid ⟨H.out.step hb, HC.out.trans ((Ch.of_below hb).mono (by simp)), Nat.le_trans HZ.out hb.size⟩
  clear ho hb H HC HZ
  go_upto_region 7 with (at_lookup; refine wpList_lookup_own_ok_int _ rfl _ _ 116 rfl 3 5 .u8 klaw Try.underlying116 Try.underlying5 (kzero8 _) M 2 evD rfl HO.out _ _ rfl (keyOf_int_mk Try.underlying3 HWF.out) ?_; intro c hat hwc; rw [HE.out.2]; obtain rfl : c = (k : Int) := (by rw [HE.out.1] at hat; injection hat with hat; injection hat with _ hat; exact hat.symm); clear hat hwc)
  replace H2 : Hid (Mv x2.drew P D m q ∧ Ch [D] w x2.drew ∧ w.heap.size ≤ x2.drew.heap.size) := Lib.hid ⟨H2.out.1.step (drew_below x2), H2.out.2.1.trans ((Ch.of_below (drew_below x2)).mono (by simp)), H2.out.2.2⟩
  refine region_plan [(true, 0), (true, 1), (true, 2), (true, 3), (true, 4), (true, 5), (true, 6), (true, 7), (true, 8), (true, 9), (true, 10), (true, 11), (true, 12), (true, 13), (false, 14), (true, 15), (true, 16), (false, 17)]
    (fun y => y.cell? ⟨D, 19, none⟩ = some (.int .u16 (m.tok : Int)) ∧ y.cell? ⟨D, 20, none⟩ = some (.int .u16 (m.qty : Int))) (by kernel_rfl) (by kernel_rfl) (by kernel_rfl) rfl ⟨H2.out.1.cs.c19, H2.out.1.cs.c20⟩ ?_
  generalize x2.drew = x3 at *
  clear HO HE
  iterate 14 (refine Plan.take (v := ?_) rfl (by rfl) ?_ ?_; rotate_left 1; (focus (intro x hx; go_simp <;> (first | with_reducible rfl | rw [if_pos (by omega)]))); simp only [Act.put, List.setIfInBounds_toArray, List.set_cons_zero, List.set_cons_succ])
  refine Plan.loud rfl (fun K hK => ?_)
  go_simp
  refine (ktell_on H2.out.1 (fun b hb => HPN.out b (Nat.le_trans H2.out.2.2 hb)) HKK.out.1 HKK.out.2.1 HKK.out.2.2).mono ?_
  rintro e x4 ⟨rfl, h1, h2⟩
  have H3 : Hid (Mv x4 P D { m with s := (offerS m.s (txt5 k m.tok m.qty)).1 } q ∧ Ch [D] w x4) := Lib.hid ⟨h1, H2.out.2.1.trans h2⟩
  refine hK.out _ _ _ (fun x hx => hx) ⟨H3.out.1.cs.c19, H3.out.1.cs.c20⟩ ?_
  clear hK K h1 h2 H2
  iterate 2 (refine Plan.take (v := ?_) rfl (by rfl) ?_ ?_; rotate_left 1; (focus (intro x hx; go_simp <;> (first | with_reducible rfl | rw [if_pos (by omega)]))); simp only [Act.put, List.setIfInBounds_toArray, List.set_cons_zero, List.set_cons_succ])
  refine Plan.loud rfl (fun K hK => ?_)
  have c18 := H3.out.1.cs.c18
  have f18 := H3.out.1.cs.fz 18
  go_simp
  clear c18 f18
  have HS := Lib.hid (H3.out.1.put [(18, .bool (decide ((offerS m.s (txt5 k m.tok m.qty)).2 = 0)))] { m with s := (offerS m.s (txt5 k m.tok m.qty)).1, lat := decide ((offerS m.s (txt5 k m.tok m.qty)).2 = 0) } rfl (fun V => rfl))
  refine hK.out _ _ _ (fun x hx => hx) ⟨HS.out.1.cs.c19, HS.out.1.cs.c20⟩ ?_
  clear hK K
  refine Plan.done ?_
  go_wp2
  go_end0
  rw [HM.out]
  exact ⟨rfl, HS.out.1, H3.out.2.trans HS.out.2⟩
theorem kpress_on {w : World} {P : Nat → Prop} {D b : Nat} {m : Mo} {q : Bs} (h : Mv w P D m q) (hP : ∀ b, w.heap.size ≤ b → P b) (hok : m.Ok) (hl : m.lit = true) (ha : m.lat = false) (hb : b ≤ 3) :
    Calls Try.prog 39 #[.pointer (some ⟨D, 0, none⟩), .int .i64 (b : Int)] w fun e y => e = .returned (.tuple #[]) ∧ Mv y P D (pressMo m b) q ∧ Ch [D] w y := by
  match b, hb with
  | 0, _ => exact ktold_on h hP hok hl ha (.inl ⟨rfl, rfl⟩)
  | 1, _ => exact kplus_on h hok hl ha
  | 2, _ => exact kminus_on h hok hl ha
  | 3, _ => exact ktold_on h hP hok hl ha (.inr ⟨rfl, rfl⟩)
end Go.Proofs.Ytdcnmbglbopgdaa
namespace Go.Proofs.Ytdcnmbglbopgdaa
open Go.RowKit

abbrev s0 (a : Nat) : Array Value := #[.int .u8 0, .int .u8 0, .int .u8 0, .int .u8 (a : Int), .slice none 0 0]
theorem ksnew_on {w : World} {a : Nat} : Calls Try.prog 45 #[.int .u8 (a : Int)] w fun e y => e = .returned (.pointer (some ⟨w.heap.size, 0, none⟩)) ∧ y.heap[w.heap.size]? = some (.cells (s0 a) 85 (0, 0)) ∧ Below w.heap.size w y := by
  go_enter Try.func45, Try.ntmps45
  go_wp2
  go_ret
  exact ⟨rfl, heap_alloc_new w _, new_below _ _⟩
theorem end_struct : ∃ fs, Try.prog.underlying 87 = some (.struct fs) := ⟨_, Try.underlying87⟩
theorem end_size : (Try.prog.info? 87).map (·.size) = some 5 := by kernel_rfl

set_option maxRecDepth 20000 in
set_option maxHeartbeats 1600000 in
theorem knewend_on {w : World} {a : Nat} : Calls Try.prog 33 #[.int .u8 (a : Int)] w fun e y => e = .returned (.agg (s0 a)) ∧ Below w.heap.size w y := by
  have hb := new_below w (.cells #[.int .u8 0, .int .u8 0, .int .u8 0, .int .u8 0, .slice none 0 0] 87)
  have H0 : Hid ((w.alloc (.cells #[.int .u8 0, .int .u8 0, .int .u8 0, .int .u8 0, .slice none 0 0] 87)).heap[w.heap.size]? = some (.cells #[.int .u8 0, .int .u8 0, .int .u8 0, .int .u8 0, .slice none 0 0] 87 (0, 0))) := Lib.hid (heap_alloc_new w _)
  have HB0 := Lib.hid hb
  clear hb
  go_enter Try.func33, Try.ntmps33
  go_wp2_with fail
  generalize w.alloc (.cells #[.int .u8 0, .int .u8 0, .int .u8 0, .int .u8 0, .slice none 0 0] 87) = x0 at *
  obtain ⟨S, hS⟩ : ∃ S, w.heap.size = S := ⟨_, rfl⟩
  rw [hS] at H0
  have HSW : Hid (w.heap.size ≤ S) := Lib.hid (by omega)
  rw [hS]
  clear hS
  refine ksnew_on.mono ?_
  rintro e x1 ⟨rfl, h1, h2⟩
  have hr : x1.heap[S]? = _ := (h2.block S (Array.getElem?_eq_some_iff.1 H0.out).1).trans H0.out
  have p0 : x1.cell? ⟨x0.heap.size, 0, none⟩ = some (.int .u8 0) := by simp [World.cell?, h1]
  have p1 : x1.cell? ⟨x0.heap.size, 1, none⟩ = some (.int .u8 0) := by simp [World.cell?, h1]
  have p2 : x1.cell? ⟨x0.heap.size, 2, none⟩ = some (.int .u8 0) := by simp [World.cell?, h1]
  have p3 : x1.cell? ⟨x0.heap.size, 3, none⟩ = some (.int .u8 (a : Int)) := by simp [World.cell?, h1]
  have p4 : x1.cell? ⟨x0.heap.size, 4, none⟩ = some (.slice none 0 0) := by simp [World.cell?, h1]
  have r0 : x1.cell? ⟨S, 0, none⟩ = some (.int .u8 0) := by simp [World.cell?, hr]
  have r1 : x1.cell? ⟨S, 1, none⟩ = some (.int .u8 0) := by simp [World.cell?, hr]
  have r2 : x1.cell? ⟨S, 2, none⟩ = some (.int .u8 0) := by simp [World.cell?, hr]
  have r3 : x1.cell? ⟨S, 3, none⟩ = some (.int .u8 0) := by simp [World.cell?, hr]
  have r4 : x1.cell? ⟨S, 4, none⟩ = some (.slice none 0 0) := by simp [World.cell?, hr]
  have q0 : x1.frozen? ⟨S, 0, none⟩ = false := by simp [World.frozen?, hr]
  have q1 : x1.frozen? ⟨S, 1, none⟩ = false := by simp [World.frozen?, hr]
  have q2 : x1.frozen? ⟨S, 2, none⟩ = false := by simp [World.frozen?, hr]
  have q3 : x1.frozen? ⟨S, 3, none⟩ = false := by simp [World.frozen?, hr]
  have q4 : x1.frozen? ⟨S, 4, none⟩ = false := by simp [World.frozen?, hr]
  have HT := Lib.hid (sets_row [(0, .int .u8 0), (1, .int .u8 0), (2, .int .u8 0), (3, .int .u8 (a : Int)), (4, .slice none 0 0)] hr)
  have HB := Lib.hid (HB0.out.trans (h2.mono HB0.out.size))
  clear h1 h2 hr H0
  go_wp2
  refine bodyPost_ret (results_row rfl _ _ S 87 _ _ rfl HT.out.1 end_struct end_size) rfl ?_
  exact ⟨rfl, below_ch HB.out HT.out.2 HSW.out⟩

set_option maxRecDepth 20000 in
set_option maxHeartbeats 1600000 in
theorem knew_on {w : World} {P : Nat → Prop} {a : Nat} : Calls Try.prog 10 #[.int .u8 (a : Int)] w fun e y => ∃ D, e = .returned (.pointer (some ⟨D, 0, none⟩)) ∧ Mv y P D (newMo a) zeroB ∧ Below w.heap.size w y ∧ w.heap.size ≤ D := by
  go_enter Try.func10, Try.ntmps10
  go_wp2_with fail
  refine knewend_on.mono ?_
  rintro e x ⟨rfl, hb⟩
  have hb2 := new_below x (.cells (mall (newMo a) zeroB (.slice none 0 0)) 90)
  have HV : Hid (Mv (x.alloc (.cells (mall (newMo a) zeroB (.slice none 0 0)) 90)) P x.heap.size (newMo a) zeroB) := ⟨none, 0, heap_alloc_new x _, World.ownsRow_nil _ _ _ _, by simp [ablk]⟩
  have HB := Lib.hid (hb.trans (hb2.mono hb.size))
  have HS := Lib.hid hb.size
  clear hb hb2
  go_wp2
  go_ret
  exact ⟨_, rfl, HV.out, HB.out, HS.out⟩

set_option maxRecDepth 20000 in
set_option maxHeartbeats 1600000 in
theorem kset_m {w : World} {P : Nat → Prop} {D : Nat} {m : Mo} {q : Bs} {b now : Int} {d : Bool} (h : Mv w P D m q) (hb : BI b) (f : Bs) :
    Calls Try.prog 15 #[.pointer (some ⟨D, 0, none⟩), .int .i64 b, .bool d, .int .i64 now] w fun e y => e = .returned (.int .i64 (setB q b d now).2) ∧ Mv y P D { m with f := f } (setB q b d now).1 ∧ Ch [D] w y := by
  obtain ⟨A, c, k1, k2, k3⟩ := h.at_
  have H1 := Lib.hid k1
  have H2 := Lib.hid k2
  have H3 := Lib.hid k3
  have HBI := Lib.hid hb
  clear h k1 k2 k3 hb
  go_enter Try.func15, Try.ntmps15
  go_wp2_with fail
  refine (Emb.kset_on (Mv.kb H1.out) HBI.out).mono ?_
  rintro e x ⟨rfl, h1, h2⟩
  have HV := Lib.hid (Mv.buttons H1.out H2.out H3.out h1 h2 f)
  have HC := Lib.hid h2
  clear h1 h2 H1 H2 H3
  go_wp2
  go_ret
  exact ⟨rfl, HV.out, HC.out⟩
theorem disp_struct : ∃ fs, Try.prog.underlying 53 = some (.struct fs) := ⟨_, Try.underlying53⟩
theorem disp_size : (Try.prog.info? 53).map (·.size) = some 5 := by kernel_rfl

set_option maxRecDepth 20000 in
set_option maxHeartbeats 1600000 in
theorem kshow_on {w : World} {P : Nat → Prop} {D : Nat} {m : Mo} {q : Bs} (h : Mv w P D m q) : Calls Try.prog 23 #[.pointer (some ⟨D, 0, none⟩)] w fun e y => e = .returned (.agg (mdc m)) ∧ Below w.heap.size w y := by
  have hb := new_below w (.cells #[.bool false, .bool false, .int .u16 0, .int .u16 0, .int .u16 0] 53)
  have hr := heap_alloc_new w (.cells #[.bool false, .bool false, .int .u16 0, .int .u16 0, .int .u16 0] 53)
  have hc := (h.step hb).cs
  have d17 := hc.c17
  have d18 := hc.c18
  have d19 := hc.c19
  have d20 := hc.c20
  have d21 := hc.c21
  have HB := Lib.hid hb
  have HR := Lib.hid hr
  clear hc h hb hr
  go_enter Try.func23, Try.ntmps23
  go_upto_region 1 with fail
  generalize w.alloc (.cells #[.bool false, .bool false, .int .u16 0, .int .u16 0, .int .u16 0] 53) = x at *
  obtain ⟨S, hS⟩ : ∃ S, w.heap.size = S := ⟨_, rfl⟩
  rw [hS] at HR
  have HSW : Hid (w.heap.size ≤ S) := Lib.hid (by omega)
  rw [hS]
  clear hS
  have hr := HR.out
  have r0 : x.cell? ⟨S, 0, none⟩ = some (.bool false) := by simp [World.cell?, hr]
  have r1 : x.cell? ⟨S, 1, none⟩ = some (.bool false) := by simp [World.cell?, hr]
  have r2 : x.cell? ⟨S, 2, none⟩ = some (.int .u16 0) := by simp [World.cell?, hr]
  have r3 : x.cell? ⟨S, 3, none⟩ = some (.int .u16 0) := by simp [World.cell?, hr]
  have r4 : x.cell? ⟨S, 4, none⟩ = some (.int .u16 0) := by simp [World.cell?, hr]
  have q0 : x.frozen? ⟨S, 0, none⟩ = false := by simp [World.frozen?, hr]
  have q1 : x.frozen? ⟨S, 1, none⟩ = false := by simp [World.frozen?, hr]
  have q2 : x.frozen? ⟨S, 2, none⟩ = false := by simp [World.frozen?, hr]
  have q3 : x.frozen? ⟨S, 3, none⟩ = false := by simp [World.frozen?, hr]
  have q4 : x.frozen? ⟨S, 4, none⟩ = false := by simp [World.frozen?, hr]
  have HT := Lib.hid (sets_row [(0, .bool m.lit), (1, .bool m.lat), (2, .int .u16 (m.tok : Int)), (3, .int .u16 (m.qty : Int)), (4, .int .u16 (m.most : Int))] hr)
  clear hr HR
  go_wp2
  refine bodyPost_ret (results_row rfl _ _ S 53 _ _ rfl HT.out.1 disp_struct disp_size) rfl ?_
  exact ⟨rfl, below_ch HB.out HT.out.2 HSW.out⟩

set_option maxRecDepth 20000 in
set_option maxHeartbeats 1600000 in
theorem kreset_m {w : World} {P : Nat → Prop} {D : Nat} {m : Mo} {q : Bs} (h : Mv w P D m q) : Calls Try.prog 20 #[.pointer (some ⟨D, 0, none⟩)] w fun e y => e = .returned (.tuple #[]) ∧ Mv y P D (resetMo m) zeroB ∧ Ch [D] w y := by
  have H := Lib.hid h
  have HM : Hid (resetMo m = ⟨newS m.s.addr, zeroB, false, false, 0, 0, 0⟩) := rfl
  clear h
  generalize resetMo m = m2 at *
  go_enter Try.func20, Try.ntmps20
  go_wp2_with fail
  refine (Emb.sreset_on H.out.sv).mono ?_
  rintro e x ⟨rfl, h1, h2⟩
  have H1 := Lib.hid (Mv.of_sv h1)
  have HC1 := Lib.hid h2.ch
  clear h1 h2 H
  obtain ⟨A, c, k1, k2, k3⟩ := H1.out.at_
  have K1 := Lib.hid k1
  have K2 := Lib.hid k2
  have K3 := Lib.hid k3
  clear k1 k2 k3 H1
  go_wp2_with fail
  refine (Emb.kreset_on (Mv.kb K1.out)).mono ?_
  rintro e x2 ⟨rfl, h1, h2⟩
  have H2 := Lib.hid (Mv.buttons K1.out K2.out K3.out h1 h2 zeroB)
  have HC2 := Lib.hid (HC1.out.trans h2)
  clear h1 h2 K1 K2 K3 HC1
  have hc := H2.out.cs
  have d17 := hc.c17
  have d18 := hc.c18
  have d19 := hc.c19
  have d20 := hc.c20
  have d21 := hc.c21
  have f17 := hc.fz 17
  have f18 := hc.fz 18
  have f19 := hc.fz 19
  have f20 := hc.fz 20
  have f21 := hc.fz 21
  clear hc
  have HS := Lib.hid (H2.out.put [(17, .bool false), (18, .bool false), (19, .int .u16 0), (20, .int .u16 0), (21, .int .u16 0)] ⟨newS m.s.addr, zeroB, false, false, 0, 0, 0⟩ rfl (fun V => rfl))
  go_wp2
  go_end0
  rw [HM.out]
  exact ⟨rfl, HS.out.1, HC2.out.trans HS.out.2⟩
end Go.Proofs.Ytdcnmbglbopgdaa
namespace Go.Proofs.Ytdcnmbglbopgdaa
open Go.RowKit

theorem kfold_take {l : List Nat} {k : Nat} {m : Mo} (h : k < l.length) : (l.take (k + 1)).foldl pressMo m = pressMo ((l.take k).foldl pressMo m) l[k] := by
  rw [List.take_succ_eq_append_getElem h, List.foldl_append]
  rfl
/-- While the buttons that were pressed are gone through: k of l were. -/
structure Tkk (w : World) (P : Nat → Prop) (B D : Nat) (m0 : Mo) (q : Bs) (l : List Nat) (n : Nat) (A : Option Addr) (c k : Nat) (x : World) : Prop where
  mv : Mv x P D ((l.take k).foldl pressMo m0) q
  ch : Ch [D] w x
  ir : Ir x B n A c l
  lt : D < B
  sz : B ≤ x.heap.size

set_option maxRecDepth 20000 in
set_option maxHeartbeats 6400000 in
theorem ktick_m {w : World} {P : Nat → Prop} {D : Nat} {m : Mo} {q : Bs} {now : Int} (h : Mv w P D m q) (hP : ∀ b, w.heap.size ≤ b → P b) (hq : BOk q) (hok : m.Ok) (hn : BI now) (he : dueL q now 4 = (pressB m.f now).2) :
    Calls Try.prog 17 #[.pointer (some ⟨D, 0, none⟩), .int .i64 now] w fun e y => e = .returned (.tuple #[]) ∧ Mv y P D (tickMo m now) (midQ q now 4) ∧ Ch [D] w y := by
  have hlt := h.lt
  obtain ⟨A0, c0, k1, k2, k3⟩ := h.at_
  have H1 := Lib.hid k1
  have H2 := Lib.hid k2
  have H3 := Lib.hid k3
  have HQ := Lib.hid hq
  have HN := Lib.hid hn
  have HPN := Lib.hid hP
  have HLT := Lib.hid hlt
  have hd4 := dueL_len q now 4
  have HE := Lib.hid he
  have HL3 : Hid (∀ k ∈ dueL q now 4, k ≤ 3) := fun k hk => by have := dueL_lt hk; omega
  have HM : Hid (tickMo m now = (dueL q now 4).foldl pressMo { m with f := (pressB m.f now).1 }) := by show _ = _; rw [he]; rfl
  have HOK : Hid (({ m with f := (pressB m.f now).1 } : Mo).Ok) := Lib.hid ⟨hok.s, pressB_ok hok.f now, hok.tok, hok.qty, hok.most⟩
  clear h hP hq hok hn he k1 k2 k3 hlt
  generalize tickMo m now = m9 at *
  go_enter Try.func17, Try.ntmps17
  go_wp2_with fail
  refine (Emb.kpressed_on (Mv.kb H1.out) HQ.out HN.out).mono ?_
  rintro e x1 ⟨A, c, rfl, h1, h2, h3⟩
  have HV := Lib.hid (Mv.buttons H1.out H2.out H3.out h2 h3 (pressB m.f now).1)
  have HI := Lib.hid h1
  have HC := Lib.hid h3
  clear h1 h2 h3 H1 H2 H3 HQ HN HE
  generalize ({ m with f := (pressB m.f now).1 } : Mo) = m0 at *
  generalize dueL q now 4 = l at *
  obtain ⟨n, hnl⟩ : ∃ n, l.length = n := ⟨_, rfl⟩
  have HNL := Lib.hid hnl
  rw [hnl] at HI hd4 ⊢
  clear hnl
  have HT0 : Hid (Tkk w P w.heap.size D m0 (midQ q now 4) l n A c 0 x1) := Lib.hid ⟨HV.out, HC.out, HI.out, HLT.out, HC.out.size⟩
  clear HV HC HI HLT
  go_wp2
  go_loopw [12] (fun iv wr => ∃ k : Nat, k ≤ n ∧ iv = .int .i64 k ∧ Hid (Tkk w P w.heap.size D m0 (midQ q now 4) l n A c k wr)) (fun iv _ => n - (intOf iv).toNat)
  case atStart => exact ⟨0, Nat.zero_le _, rfl, HT0⟩
  case round =>
    clear HT0
    obtain ⟨k, hk, rfl, HT⟩ := hrel
    rename World => y0
    by_cases hlt : k < n
    · have hlt1 : (k : Int) < (n : Int) := by omega
      have hln : k < l.length := by rw [HNL.out]; exact hlt
      obtain ⟨g, rfl, hg, hcell, hfz⟩ := HT.out.ir.at k hlt
      have HB3 := Lib.hid (HL3.out _ (List.getElem_mem hln))
      have HFD := Lib.hid (kfold_take (m := m0) hln)
      have HOKK := Lib.hid (foldMo_ok (l.take k) HOK.out)
      generalize l[k]'hln = b at *
      have hcs := HT.out.mv.cs
      have c17 := hcs.c17
      have c18 := hcs.c18
      clear hcs hfz
      generalize hmk : (l.take k).foldl pressMo m0 = mk at *
      cases hl : mk.lit with
      | false =>
        rw [hl] at c17
        have HT2 : Hid (Tkk w P w.heap.size D m0 (midQ q now 4) l n (some ⟨g, 0, none⟩) c (k + 1) y0) := by
          refine Lib.hid ⟨?_, HT.out.ch, HT.out.ir, HT.out.lt, HT.out.sz⟩
          rw [HFD.out, kpress_off (.inl hl), ← hmk]
          exact HT.out.mv
        clear HT HFD hmk hl
        go_wp2
        go_roundw
        case rel => exact ⟨k + 1, by omega, by go_num, HT2⟩
        case measure => simp [intOf]; omega
      | true =>
        rw [hl] at c17
        cases ha : mk.lat with
        | true =>
          rw [ha] at c18
          have HT2 : Hid (Tkk w P w.heap.size D m0 (midQ q now 4) l n (some ⟨g, 0, none⟩) c (k + 1) y0) := by
            refine Lib.hid ⟨?_, HT.out.ch, HT.out.ir, HT.out.lt, HT.out.sz⟩
            rw [HFD.out, kpress_off (.inr ha), ← hmk]
            exact HT.out.mv
          clear HT HFD hmk hl ha
          go_wp2
          go_roundw
          case rel => exact ⟨k + 1, by omega, by go_num, HT2⟩
          case measure => simp [intOf]; omega
        | false =>
          rw [ha] at c18
          have HMV : Hid (Mv y0 P D mk (midQ q now 4)) := by show Mv _ _ _ _ _; rw [← hmk]; exact HT.out.mv
          have HL := Lib.hid hl
          have HA := Lib.hid ha
          clear hmk hl ha
          go_wp2_with fail
          refine (kpress_on HMV.out (fun b hb => HPN.out b (Nat.le_trans HT.out.ch.size hb)) HOKK.out HL.out HA.out HB3.out).mono ?_
          rintro e y1 ⟨rfl, h1, h2⟩
          have HT2 : Hid (Tkk w P w.heap.size D m0 (midQ q now 4) l n (some ⟨g, 0, none⟩) c (k + 1) y1) := by
            refine Lib.hid ⟨?_, HT.out.ch.trans h2, HT.out.ir.ch h2 HT.out.lt, HT.out.lt, Nat.le_trans HT.out.sz h2.size⟩
            rw [HFD.out]
            exact h1
          clear HT HFD h1 h2 HMV HL HA
          go_wp2
          go_roundw
          case rel => exact ⟨k + 1, by omega, by go_num, HT2⟩
          case measure => simp [intOf]; omega
    · have hkn : k = n := by omega
      subst hkn
      have hml : (l.take k).foldl pressMo m0 = m9 := by rw [HM.out, ← HNL.out, List.take_length]
      have HML := Lib.hid hml
      clear hml
      go_wp2
      go_end0
      have hv := HT.out.mv
      rw [HML.out] at hv
      exact ⟨rfl, hv, HT.out.ch⟩
end Go.Proofs.Ytdcnmbglbopgdaa
namespace Go.Proofs.Ytdcnmbglbopgdaa
open Go.RowKit

/-- While it takes: the module, the frame at X, the answer's row R, not yet set. -/
structure Tkm (w : World) (P : Nat → Prop) (D X R : Nat) (f : Fr) (V : Value) (m : Mo) (q : Bs) (x : World) : Prop where
  mv : Mv x P D m q
  box : Fx x X f V
  res : Fx x R ⟨0, 0, 0, 0, 0, []⟩ (.slice none 0 0)
  ch : Ch [D] w x
  le : w.heap.size ≤ R
  lt : D < w.heap.size
theorem Tkm.step {w x y : World} {P : Nat → Prop} {D X R : Nat} {f : Fr} {V : Value} {m : Mo} {q : Bs} (h : Tkm w P D X R f V m q x) (hb : Below x.heap.size x y) : Tkm w P D X R f V m q y := ⟨h.mv.step hb, h.box.step hb, h.res.step hb, h.ch.trans ((Ch.of_below hb).mono (by simp)), h.le, h.lt⟩
theorem Tkm.turn {w x y : World} {P : Nat → Prop} {D X R : Nat} {f : Fr} {V : Value} {m m' : Mo} {q : Bs} (h : Tkm w P D X R f V m q x) (hm : Mv y P D m' q) (hc : Ch [D] x y) : Tkm w P D X R f V m' q y := by
  obtain ⟨A, c, k1, _⟩ := h.mv.at_
  have hf : Ft 0 [90] x y := Ft.of_ch hc (fun z hz _ => by simp at hz; subst hz; exact ⟨Nat.zero_le _, _, _, _, k1, by simp⟩)
  exact ⟨hm, h.box.ft hf (by decide), h.res.ft hf (by decide), h.ch.trans hc, h.le, h.lt⟩
theorem Mv.ft {w y : World} {P : Nat → Prop} {D : Nat} {m : Mo} {q : Bs} {T : List TypeId} {B : Nat} (h : Mv w P D m q) (hf : Ft B T w y) (h1 : 90 ∉ T) (h2 : 5 ∉ T) : Mv y P D m q := by
  obtain ⟨A, c, k1, k2, k3⟩ := h.at_
  exact ⟨A, c, hf.keep k1 h1, own_ft k2 hf h2, k3⟩
theorem Tkm.ftm {w x y : World} {P : Nat → Prop} {D X R : Nat} {f : Fr} {V : Value} {m : Mo} {q : Bs} (h : Tkm w P D X R f V m q x) (hc : Ch [D] x y) : Ft 0 [90] x y := by
  obtain ⟨A, c, k1, _⟩ := h.mv.at_
  exact Ft.of_ch hc (fun z hz _ => by simp at hz; subst hz; exact ⟨Nat.zero_le _, _, _, _, k1, by simp⟩)
/-- The answer's own row G is set. -/
theorem Tkm.own {w x : World} {P : Nat → Prop} {D X R G : Nat} {f : Fr} {V : Value} {m : Mo} {q : Bs} {g g' : Fr} {U U' : Value} (h : Tkm w P D X R f V m q x) (hG : Fx x G g U) (hX : G ≠ X) (hR : G ≠ R) (hw : w.heap.size ≤ G) (l : List (Nat × Value)) (hc : setsA l (fcs g U) = fcs g' U') :
    Tkm w P D X R f V m q (sets G l x) ∧ Fx (sets G l x) G g' U' ∧ Ft 0 [36] x (sets G l x) := by
  obtain ⟨h1, h2⟩ := sets_row l hG
  rw [hc] at h1
  have hf : Ft 0 [36] x (sets G l x) := Ft.of_ch h2 (fun z hz _ => by simp at hz; subst hz; exact ⟨Nat.zero_le _, _, _, _, hG, by simp⟩)
  have hch := h.ch
  refine ⟨⟨h.mv.ft hf (by decide) (by decide), (h2.block X h.box.lt (by simp; omega)).trans h.box, (h2.block R h.res.lt (by simp; omega)).trans h.res, ⟨h2.os.trans hch.os, h2.tape.trans hch.tape, h2.output.trans hch.output, Nat.le_trans hch.size h2.size, fun k hk hn => ?_⟩, h.le, h.lt⟩, h1, hf⟩
  rw [h2.block k (Nat.lt_of_lt_of_le hk hch.size) (by simp; omega)]
  exact hch.block k hk hn
/-- The answer is told. -/
theorem Tkm.told {w x : World} {P : Nat → Prop} {D X R : Nat} {f : Fr} {V : Value} {m : Mo} {q : Bs} (h : Tkm w P D X R f V m q x) (l : List (Nat × Value)) (f' : Fr) (V' : Value) (hc : setsA l (fcs ⟨0, 0, 0, 0, 0, []⟩ (.slice none 0 0)) = fcs f' V') :
    (sets R l x).heap[R]? = some (.cells (fcs f' V') 36 (0, 0)) ∧ Mv (sets R l x) P D m q ∧ Ch [D] w (sets R l x) ∧ Ft 0 [36] x (sets R l x) := by
  obtain ⟨h1, h2⟩ := sets_row l h.res
  rw [hc] at h1
  have hf : Ft 0 [36] x (sets R l x) := Ft.of_ch h2 (fun z hz _ => by simp at hz; subst hz; exact ⟨Nat.zero_le _, _, _, _, h.res, by simp⟩)
  have hch := h.ch
  have hle := h.le
  refine ⟨h1, h.mv.ft hf (by decide) (by decide), ⟨h2.os.trans hch.os, h2.tape.trans hch.tape, h2.output.trans hch.output, Nat.le_trans hch.size h2.size, fun k hk hn => ?_⟩, hf⟩
  rw [h2.block k (Nat.lt_of_lt_of_le hk hch.size) (by simp; omega)]
  exact hch.block k hk hn
theorem kkind {l : List UInt8} (h : (parse5 l).2.2.2 = 0) : (parse5 l).1 = 1 ∨ (parse5 l).1 = 2 := by
  unfold parse5 at h ⊢
  split at h
  · split at h
    · rename_i hk; rw [if_pos hk]; exact hk
    · cases h
  · split at h <;> cases h
theorem cmd_no {m : Mo} {l : List UInt8} (h : (parse5 l).2.2.2 ≠ 0) : m.cmd l = m := if_pos h
theorem cmd_obey {m : Mo} {l : List UInt8} (h : (parse5 l).2.2.2 = 0) : m.cmd l = obeyMo m (parse5 l).1 (parse5 l).2.1 (parse5 l).2.2.1 := by
  have hk := kkind h
  unfold Mo.cmd obeyMo
  rcases hk with hk | hk
  · by_cases hs : m.same (parse5 l).2.1 = true ∧ (m.lat = false ∨ m.s.pend.length ≠ 0)
    · rw [if_neg (by simpa using h), if_pos hk, if_pos hs, if_neg (fun h => h.2 hs), if_neg (fun h => by have := h.1; omega)]
    · rw [if_neg (by simpa using h), if_pos hk, if_neg hs, if_pos ⟨hk, hs⟩]
  · have h1 : ¬ (parse5 l).1 = 1 := by omega
    rw [if_neg (by simpa using h), if_neg h1]
    have h2 : ¬ ((parse5 l).1 = 1 ∧ ¬ (m.same (parse5 l).2.1 = true ∧ (m.lat = false ∨ m.s.pend.length ≠ 0))) := fun h => h1 h.1
    by_cases hs : m.same (parse5 l).2.1 = true
    · rw [if_pos hs]
      exact (Eq.trans (if_neg h2) (if_pos ⟨hk, hs⟩)).symm
    · rw [if_neg hs]
      exact (Eq.trans (if_neg h2) (if_neg (fun h => hs h.2))).symm
/-- What Take answers. -/
def KTakePost (w : World) (P : Nat → Prop) (D : Nat) (m : Mo) (q : Bs) (f : Fr) (e : Ending) (y : World) : Prop :=
  ∃ A1 c1, e = .returned (.tuple #[.agg (mfc (takeMo m f).2.1 (.slice A1 (takeMo m f).2.1.b.length c1)), .bool (takeMo m f).2.2]) ∧
    y.ownsRow w.heap.size 5 1 (.slice A1 (takeMo m f).2.1.b.length c1) (takeMo m f).2.1.b.length (bcs (takeMo m f).2.1.b) ∧ Mv y P D (takeMo m f).1 q ∧ Ch [D] w y

set_option maxRecDepth 20000 in
set_option maxHeartbeats 25600000 in
theorem ktake_m {w : World} {P : Nat → Prop} {D c : Nat} {m : Mo} {q : Bs} {f : Fr} {A : Option Addr} (h : Mv w P D m q) (hok : m.Ok) (hb : Emb.Hb w D A f.b) (hfl : f.b.length ≤ 1000) :
    Calls Try.prog 12 #[.pointer (some ⟨D, 0, none⟩), .agg (fcs f (.slice A f.b.length c))] w (KTakePost w P D m q f) := by
  obtain ⟨ts, hts⟩ : ∃ ts, takeS m.s f = ts := ⟨_, rfl⟩
  have hsk : ∀ (x : World), Mv x P D m q → Emb.Hb x D A f.b → Calls Try.prog 35 #[.pointer (some ⟨D, 0, none⟩), .agg (fcs f (.slice A f.b.length c))] x fun e y =>
      ∃ A1 c1 A2 c2, e = .returned (.tuple #[.agg (fcs ts.2.1 (.slice A1 ts.2.1.b.length c1)), .slice A2 ts.2.2.1.length c2, .bool ts.2.2.2]) ∧ y.ownsRow x.heap.size 5 1 (.slice A1 ts.2.1.b.length c1) ts.2.1.b.length (bcs ts.2.1.b) ∧
        y.ownsRow x.heap.size 5 1 (.slice A2 ts.2.2.1.length c2) ts.2.2.1.length (bcs ts.2.2.1) ∧ Mv y P D { m with s := ts.1 } q ∧ Ch [D] x y := by
    intro x hx hb
    refine (Emb.stake_on hx.sv hok.s hb (by omega)).mono ?_
    intro e y he
    unfold Emb.STakePost at he
    rw [hts] at he
    obtain ⟨A1, c1, A2, c2, h1, h2, h3, h4, h5⟩ := he
    exact ⟨A1, c1, A2, c2, h1, h2, h3, Mv.of_sv h4, h5.ch⟩
  have HSK := Lib.hid hsk
  obtain ⟨s1, an, cm, ok⟩ := ts
  simp only at HSK
  have HP : Hid (∀ e y A1 c1, e = .returned (.tuple #[.agg (mfc an (.slice A1 an.b.length c1)), .bool ok]) → y.ownsRow w.heap.size 5 1 (.slice A1 an.b.length c1) an.b.length (bcs an.b) → Mv y P D (({ m with s := s1 } : Mo).cmd cm) q → Ch [D] w y → KTakePost w P D m q f e y) := by
    intro e y A1 c1 h1 h2 h3 h4
    have ht : takeMo m f = (({ m with s := s1 } : Mo).cmd cm, an, ok) := by unfold takeMo; rw [hts]
    unfold KTakePost
    rw [ht]
    exact ⟨A1, c1, h1, h2, h3, h4⟩
  generalize KTakePost w P D m q f = Q at *
  generalize hm1 : ({ m with s := s1 } : Mo) = m1 at *
  clear hsk hts hok hm1
  have HB := Lib.hid (new_below w (.cells (fcs f (.slice A f.b.length c)) 36))
  have HB1 := Lib.hid (new_below (w.alloc (.cells (fcs f (.slice A f.b.length c)) 36)) (.cells noFr 36))
  have H0 : Hid (Tkm w P D w.heap.size (w.heap.size + 1) f (.slice A f.b.length c) m q ((w.alloc (.cells (fcs f (.slice A f.b.length c)) 36)).alloc (.cells noFr 36))) := by
    have k := heap_alloc_new (w.alloc (.cells (fcs f (.slice A f.b.length c)) 36)) (.cells noFr 36)
    rw [show (w.alloc (.cells (fcs f (.slice A f.b.length c)) 36)).heap.size = w.heap.size + 1 by simp] at k
    exact ⟨(h.step HB.out).step HB1.out, Fx.step (heap_alloc_new w _) HB1.out, k, ((Ch.of_below HB.out).mono (by simp)).trans ((Ch.of_below HB1.out).mono (by simp)), Nat.le_succ _, h.lt⟩
  have HH := Lib.hid ((hb.step HB.out).step HB1.out)
  clear h hb hfl HB HB1
  go_enter Try.func12, Try.ntmps12
  go_upto_region 1 with fail
  replace H0 := Lib.hid (H0.out.step (drew_below _))
  replace HH := Lib.hid (HH.out.step (drew_below _))
  obtain ⟨X, hX⟩ : ∃ X, w.heap.size = X := ⟨_, rfl⟩
  have HXW : Hid (w.heap.size = X) := Lib.hid hX
  obtain ⟨R, hR⟩ : ∃ R, X + 1 = R := ⟨_, rfl⟩
  rw [hX, hR] at H0
  rw [hX, hR]
  clear hX hR
  generalize hV : Value.slice A f.b.length c = V at *
  clear hV
  go_cut [6, 7, 8] (fun v6 v7 v8 y => ∃ G A1 c1 A2 c2, v6 = .pointer (some ⟨G, 0, none⟩) ∧ v7 = .slice A2 cm.length c2 ∧ v8 = .bool ok ∧ Hid (Fx y G an (.slice A1 an.b.length c1)) ∧ Hid (y.ownsRow w.heap.size 5 1 (.slice A1 an.b.length c1) an.b.length (bcs an.b)) ∧ Hid (y.ownsRow w.heap.size 5 1 (.slice A2 cm.length c2) cm.length (bcs cm)) ∧ Hid (Tkm w P D X R f V m1 q y))
  case first =>
    as_aux_lemma =>
      have HSS : Hid (∀ y, Fx y X f V → y.cell? ⟨X, 0, none⟩ = some (.int .u8 (f.a : Int)) ∧ y.cell? ⟨X, 1, none⟩ = some (.int .u8 (f.k : Int)) ∧ y.cell? ⟨X, 2, none⟩ = some (.int .u8 (f.s : Int)) ∧ y.cell? ⟨X, 3, none⟩ = some (.int .u8 (f.q : Int)) ∧ y.cell? ⟨X, 4, none⟩ = some (.int .u8 (f.c : Int)) ∧ y.cell? ⟨X, 5, none⟩ = some V) := by
        intro y h1
        have h3 := h1.fc
        exact ⟨h3.c0, h3.c1, h3.c2, h3.c3, h3.c4, h3.c5⟩
      refine region_tree (.take 0 (.take 1 (.take 2 (.take 3 (.take 4 (.two 5 (.take 6 (.take 7 (.take 8 (.take 9 (.one 10 (.one 11 (.take 12 (.take 13 .done)))))))) 10 (.one 5 (.take 6 (.take 7 (.take 8 (.take 9 (.one 11 (.take 12 (.take 13 .done))))))))))))))
        (fun y => y.cell? ⟨X, 0, none⟩ = some (.int .u8 (f.a : Int)) ∧ y.cell? ⟨X, 1, none⟩ = some (.int .u8 (f.k : Int)) ∧ y.cell? ⟨X, 2, none⟩ = some (.int .u8 (f.s : Int)) ∧ y.cell? ⟨X, 3, none⟩ = some (.int .u8 (f.q : Int)) ∧ y.cell? ⟨X, 4, none⟩ = some (.int .u8 (f.c : Int)) ∧ y.cell? ⟨X, 5, none⟩ = some V) (by kernel_rfl) (by kernel_rfl) (by kernel_rfl) rfl (HSS.out _ H0.out.box) ?_
      generalize World.drew _ = x1 at *
      iterate 5 (refine Tree.take (v := ?_) rfl (by rfl) ?_ ?_; rotate_left 1; (focus (intro x hx; go_simp <;> (first | with_reducible rfl | rw [if_pos (by omega)]))); simp only [Act.put, List.setIfInBounds_toArray, List.set_cons_zero, List.set_cons_succ])
      refine Tree.two rfl rfl (fun K hK => ?_) (fun K hK => ?_)
      · as_aux_lemma =>
          go_simp
          refine (HSK.out x1 H0.out.mv HH.out).mono ?_
          rintro e x2 ⟨A1, c1, A2, c2, rfl, o1, o2, h1, h2⟩
          have H2 := Lib.hid (H0.out.turn h1 h2)
          have HO1 := Lib.hid (own_mono o1 H0.out.ch.size)
          have HO2 := Lib.hid (own_mono o2 H0.out.ch.size)
          refine hK.out _ _ _ (fun x hx => hx) (HSS.out _ H2.out.box) ?_
          clear hK K o1 o2 h1 h2 H0 HH HSK
          iterate 4 (refine Tree.take (v := ?_) rfl (by rfl) ?_ ?_; rotate_left 1; (focus (intro x hx; go_simp <;> (first | with_reducible rfl | rw [if_pos (by omega)]))); simp only [Act.put, List.setIfInBounds_toArray, List.set_cons_zero, List.set_cons_succ])
          refine Tree.one rfl (fun K hK => ?_)
          go_simp
          have hb3 := new_below x2 (.cells noFr 36)
          have HG3 : Hid (Fx (x2.alloc (.cells noFr 36)) x2.heap.size ⟨0, 0, 0, 0, 0, []⟩ (.slice none 0 0)) := heap_alloc_new x2 _
          have H3 := Lib.hid (H2.out.step hb3)
          have HO13 := Lib.hid (own_ft (B := 0) (T := []) HO1.out (Ft.of_below hb3) (by simp))
          have HO23 := Lib.hid (own_ft (B := 0) (T := []) HO2.out (Ft.of_below hb3) (by simp))
          have HGW : Hid (w.heap.size ≤ x2.heap.size) := Lib.hid H2.out.ch.size
          have HGR : Hid (x2.heap.size ≠ R) := Lib.hid (by have := H2.out.res.lt; omega)
          have HGX : Hid (x2.heap.size ≠ X) := Lib.hid (by have := H2.out.box.lt; omega)
          refine hK.out _ _ _ (fun x hx => hx) (HSS.out _ H3.out.box) ?_
          clear hK K hb3 H2 HO1 HO2
          generalize x2.alloc (.cells noFr 36) = x3 at *
          generalize x2.heap.size = G at *
          refine Tree.one rfl (fun K hK => ?_)
          have hf := HG3.out.fc
          have p0 := hf.c0
          have p1 := hf.c1
          have p2 := hf.c2
          have p3 := hf.c3
          have p4 := hf.c4
          have p5 := hf.c5
          have q0 := hf.fz 0
          have q1 := hf.fz 1
          have q2 := hf.fz 2
          have q3 := hf.fz 3
          have q4 := hf.fz 4
          have q5 := hf.fz 5
          clear hf
          go_simp
          obtain ⟨k1, k2, k3⟩ := H3.out.own (g' := an) (U' := .slice A1 an.b.length c1) HG3.out HGX.out HGR.out HGW.out [(0, .int .u8 (an.a : Int)), (1, .int .u8 (an.k : Int)), (2, .int .u8 (an.s : Int)), (3, .int .u8 (an.q : Int)), (4, .int .u8 (an.c : Int)), (5, .slice A1 an.b.length c1)] rfl
          simp only [sets, List.foldl] at k1 k2 k3
          have H4 := Lib.hid k1
          have HG4 := Lib.hid k2
          have HO14 := Lib.hid (own_ft HO13.out k3 (by decide))
          have HO24 := Lib.hid (own_ft HO23.out k3 (by decide))
          refine hK.out _ _ _ (fun x hx => hx) (HSS.out _ H4.out.box) ?_
          clear hK K k1 k2 k3 p0 p1 p2 p3 p4 p5 q0 q1 q2 q3 q4 q5 H3 HG3 HO13 HO23
          iterate 2 (refine Tree.take (v := ?_) rfl (by rfl) ?_ ?_; rotate_left 1; (focus (intro x hx; go_simp <;> (first | with_reducible rfl | rw [if_pos (by omega)]))); simp only [Act.put, List.setIfInBounds_toArray, List.set_cons_zero, List.set_cons_succ])
          refine Tree.done ?_
          go_wp2
          go_meet
          case rel => exact ⟨G, A1, c1, A2, c2, rfl, rfl, rfl, HG4, HO14, HO24, H4⟩
      · as_aux_lemma =>
          go_simp
          have hb2 := new_below x1 (.cells noFr 36)
          have HG2 : Hid (Fx (x1.alloc (.cells noFr 36)) x1.heap.size ⟨0, 0, 0, 0, 0, []⟩ (.slice none 0 0)) := heap_alloc_new x1 _
          have H2 := Lib.hid (H0.out.step hb2)
          have HH2 := Lib.hid (HH.out.step hb2)
          have HGW : Hid (w.heap.size ≤ x1.heap.size) := Lib.hid H0.out.ch.size
          have HGR : Hid (x1.heap.size ≠ R) := Lib.hid (by have := H0.out.res.lt; omega)
          have HGX : Hid (x1.heap.size ≠ X) := Lib.hid (by have := H0.out.box.lt; omega)
          refine hK.out _ _ _ (fun x hx => hx) (HSS.out _ H2.out.box) ?_
          clear hK K hb2 H0 HH
          generalize x1.alloc (.cells noFr 36) = x2 at *
          generalize x1.heap.size = G at *
          refine Tree.one rfl (fun K hK => ?_)
          go_simp
          refine (HSK.out x2 H2.out.mv HH2.out).mono ?_
          rintro e x3 ⟨A1, c1, A2, c2, rfl, o1, o2, h1, h2⟩
          have H3 := Lib.hid (H2.out.turn h1 h2)
          have HG3 := Lib.hid (HG2.out.ft (H2.out.ftm h2) (by decide))
          have HO13 := Lib.hid (own_mono o1 H2.out.ch.size)
          have HO23 := Lib.hid (own_mono o2 H2.out.ch.size)
          refine hK.out _ _ _ (fun x hx => hx) (HSS.out _ H3.out.box) ?_
          clear hK K o1 o2 h1 h2 H2 HH2 HG2 HSK
          iterate 4 (refine Tree.take (v := ?_) rfl (by rfl) ?_ ?_; rotate_left 1; (focus (intro x hx; go_simp <;> (first | with_reducible rfl | rw [if_pos (by omega)]))); simp only [Act.put, List.setIfInBounds_toArray, List.set_cons_zero, List.set_cons_succ])
          refine Tree.one rfl (fun K hK => ?_)
          have hf := HG3.out.fc
          have p0 := hf.c0
          have p1 := hf.c1
          have p2 := hf.c2
          have p3 := hf.c3
          have p4 := hf.c4
          have p5 := hf.c5
          have q0 := hf.fz 0
          have q1 := hf.fz 1
          have q2 := hf.fz 2
          have q3 := hf.fz 3
          have q4 := hf.fz 4
          have q5 := hf.fz 5
          clear hf
          go_simp
          obtain ⟨k1, k2, k3⟩ := H3.out.own (g' := an) (U' := .slice A1 an.b.length c1) HG3.out HGX.out HGR.out HGW.out [(0, .int .u8 (an.a : Int)), (1, .int .u8 (an.k : Int)), (2, .int .u8 (an.s : Int)), (3, .int .u8 (an.q : Int)), (4, .int .u8 (an.c : Int)), (5, .slice A1 an.b.length c1)] rfl
          simp only [sets, List.foldl] at k1 k2 k3
          have H4 := Lib.hid k1
          have HG4 := Lib.hid k2
          have HO14 := Lib.hid (own_ft HO13.out k3 (by decide))
          have HO24 := Lib.hid (own_ft HO23.out k3 (by decide))
          refine hK.out _ _ _ (fun x hx => hx) (HSS.out _ H4.out.box) ?_
          clear hK K k1 k2 k3 p0 p1 p2 p3 p4 p5 q0 q1 q2 q3 q4 q5 H3 HG3 HO13 HO23
          iterate 2 (refine Tree.take (v := ?_) rfl (by rfl) ?_ ?_; rotate_left 1; (focus (intro x hx; go_simp <;> (first | with_reducible rfl | rw [if_pos (by omega)]))); simp only [Act.put, List.setIfInBounds_toArray, List.set_cons_zero, List.set_cons_succ])
          refine Tree.done ?_
          go_wp2
          go_meet
          case rel => exact ⟨G, A1, c1, A2, c2, rfl, rfl, rfl, HG4, HO14, HO24, H4⟩
  case rest =>
    clear H0 HH HSK
    obtain ⟨G, A1, c1, A2, c2, rfl, rfl, rfl, HG, HO1, HO2, H⟩ := hcut
    rename World => y0
    go_wp2_with fail
    obtain ⟨g, hh, _⟩ := (Own1.mk (own_zero HO2.out) (B := w.heap.size) (fun g hg => (HO2.out.lt g hg).1) rfl).holds
    refine (kpcommand_on hh rfl).mono ?_
    rintro e y1 ⟨rfl, hb1⟩
    replace H := Lib.hid (H.out.step hb1)
    replace HG := Lib.hid (HG.out.step hb1)
    replace HO1 := Lib.hid (own_ft (B := 0) (T := []) HO1.out (Ft.of_below hb1) (by simp))
    clear hb1 HO2 hh
    have HCD := Lib.hid (cmd_no (m := m1) (l := cm))
    have HCO := Lib.hid (cmd_obey (m := m1) (l := cm))
    obtain ⟨pr, hpr⟩ : ∃ pr, parse5 cm = pr := ⟨_, rfl⟩
    rw [hpr] at HCD HCO
    rw [hpr]
    clear hpr
    obtain ⟨pk, pt, pq, pe⟩ := pr
    simp only at HCD HCO
    simp only
    generalize m1.cmd cm = m2 at *
    go_upto_region 3 with fail
    have hb2 := new_below y1 (.cells (wcs3 pk pt pq) 60)
    replace H := Lib.hid (H.out.step hb2)
    replace HG := Lib.hid (HG.out.step hb2)
    replace HO1 := Lib.hid (own_ft (B := 0) (T := []) HO1.out (Ft.of_below hb2) (by simp))
    have HW := heap_alloc_new y1 (.cells (wcs3 pk pt pq) 60)
    have w0 : (y1.alloc (.cells (wcs3 pk pt pq) 60)).cell? ⟨y1.heap.size, 0, none⟩ = some (.int .u8 (pk : Int)) := (cell_alloc_new y1 _ _ _ 0 rfl).trans rfl
    have w1 : (y1.alloc (.cells (wcs3 pk pt pq) 60)).cell? ⟨y1.heap.size, 1, none⟩ = some (.int .u16 (pt : Int)) := (cell_alloc_new y1 _ _ _ 1 rfl).trans rfl
    have w2 : (y1.alloc (.cells (wcs3 pk pt pq) 60)).cell? ⟨y1.heap.size, 2, none⟩ = some (.int .u16 (pq : Int)) := (cell_alloc_new y1 _ _ _ 2 rfl).trans rfl
    clear hb2 HW
    generalize y1.alloc (.cells (wcs3 pk pt pq) 60) = y2 at *
    generalize y1.heap.size = Y at *
    by_cases he : pe = 0
    rotate_left 1
    · as_aux_lemma =>
        have he' : (pe == 0) = false := by simp [he]
        have HM : Hid (m2 = m1) := Lib.hid (HCD.out he)
        clear HCD HCO w0 w1 w2 he
        have hf := HG.out.fc
        have p0 := hf.c0
        have p1 := hf.c1
        have p2 := hf.c2
        have p3 := hf.c3
        have p4 := hf.c4
        have p5 := hf.c5
        clear hf
        have hf := H.out.res.fc
        have r0 := hf.c0
        have r1 := hf.c1
        have r2 := hf.c2
        have r3 := hf.c3
        have r4 := hf.c4
        have r5 := hf.c5
        have q0 := hf.fz 0
        have q1 := hf.fz 1
        have q2 := hf.fz 2
        have q3 := hf.fz 3
        have q4 := hf.fz 4
        have q5 := hf.fz 5
        clear hf
        have HT := Lib.hid (H.out.told [(0, .int .u8 (an.a : Int)), (1, .int .u8 (an.k : Int)), (2, .int .u8 (an.s : Int)), (3, .int .u8 (an.q : Int)), (4, .int .u8 (an.c : Int)), (5, .slice A1 an.b.length c1)] an (.slice A1 an.b.length c1) rfl)
        go_wp2
        refine bodyPost_ret (kresults_one rfl _ _ R 36 _ _ rfl HT.out.1 frame_struct frame_size) rfl ?_
        exact HP.out _ _ A1 c1 rfl (own_ft HO1.out HT.out.2.2.2 (by decide)) (by rw [HM.out]; exact HT.out.2.1) HT.out.2.2.1
    · as_aux_lemma =>
        subst he
        have HM : Hid (m2 = obeyMo m1 pk pt pq) := Lib.hid (HCO.out rfl)
        clear HCD HCO
        go_wp2_with fail
        refine (kobey_on H.out.mv).mono ?_
        rintro e y3 ⟨rfl, h1, h2⟩
        rw [← HM.out] at h1
        have hf := H.out.ftm h2
        replace HG := Lib.hid (HG.out.ft hf (by decide))
        replace HO1 := Lib.hid (own_ft HO1.out hf (by decide))
        replace H := Lib.hid (H.out.turn h1 h2)
        clear h1 h2 hf w0 w1 w2
        have hf := HG.out.fc
        have p0 := hf.c0
        have p1 := hf.c1
        have p2 := hf.c2
        have p3 := hf.c3
        have p4 := hf.c4
        have p5 := hf.c5
        clear hf
        have hf := H.out.res.fc
        have r0 := hf.c0
        have r1 := hf.c1
        have r2 := hf.c2
        have r3 := hf.c3
        have r4 := hf.c4
        have r5 := hf.c5
        have q0 := hf.fz 0
        have q1 := hf.fz 1
        have q2 := hf.fz 2
        have q3 := hf.fz 3
        have q4 := hf.fz 4
        have q5 := hf.fz 5
        clear hf
        have HT := Lib.hid (H.out.told [(0, .int .u8 (an.a : Int)), (1, .int .u8 (an.k : Int)), (2, .int .u8 (an.s : Int)), (3, .int .u8 (an.q : Int)), (4, .int .u8 (an.c : Int)), (5, .slice A1 an.b.length c1)] an (.slice A1 an.b.length c1) rfl)
        go_wp2
        refine bodyPost_ret (kresults_one rfl _ _ R 36 _ _ rfl HT.out.1 frame_struct frame_size) rfl ?_
        exact HP.out _ _ A1 c1 rfl (own_ft HO1.out HT.out.2.2.2 (by decide)) HT.out.2.1 HT.out.2.2.1
end Go.Proofs.Ytdcnmbglbopgdaa
