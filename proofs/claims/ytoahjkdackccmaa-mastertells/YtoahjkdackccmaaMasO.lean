/-
  The document's Send, as it stands: what it answers.
-/
import Derived.Test.YtoahjkdackccmaaMasN
namespace Go.Proofs.Ytoahjkdackccmaa
set_option linter.unusedVariables false
set_option linter.unusedSimpArgs false
open Go.RowKit

theorem info_string : (Try.prog.info? 9).map (fun i => (i.zero, i.size, i.bytes)) = some (some (.string ⟨#[]⟩), 1, 16) := by kernel_rfl
theorem Que.holds {w : World} {B n c size : Nat} {A : Option Addr} {e : TypeId} {xs : List Value} (h : Que w B e size A n c xs) : ∃ g, Holds w g A xs := by
  rcases h.2 with ⟨rfl, rfl, _⟩ | ⟨g, o, cur, rfl, _, h3, _, _, _, h7⟩
  · have : xs = [] := List.eq_nil_of_length_eq_zero (by rw [h.1]; simp)
    subst this
    exact ⟨0, Holds.nil _ _ _⟩
  · exact ⟨g, fun _ => ⟨(Array.getElem?_eq_some_iff.1 h3).1, o, rfl, fun j u hu => by simp [World.cell?, h3, h7 j u hu]⟩⟩

set_option maxRecDepth 20000 in
set_option maxHeartbeats 1600000 in
theorem refsend_on {w : World} {B R N : Nat} {m : Ma} {l : List UInt8} (h : Rm w B R m) (hN : m.Ok N) (hBw : B ≤ w.heap.size) (hl40 : l.length ≤ 1000000) : Calls Try.prog 15 #[.pointer (some ⟨R, 0, none⟩), .string ⟨l.toArray⟩] w fun e w' => e = .returned (.int .i64 (sendM m l).2) ∧ Rm w' B R (sendM m l).1 ∧ Ft B [49] w w' := by
  obtain ⟨i0, hi, hz0, hz1, hz2⟩ := info_parts info_string
  have HM : Hid (sendM m l = if l.length = 0 ∨ 24 < l.length then (m, 1) else if m.st ≠ 1 then (m, 7) else if 8 ≤ m.q.length then (m, 5) else ({ m with q := m.q ++ [l] }, 0)) := rfl
  obtain ⟨Aq, cq, k1, k2⟩ := h.at_
  obtain ⟨gq, hgq⟩ := k2.holds
  have hc := rmc_of k1
  have c3 := hc.c3
  have c7 := hc.c7
  have f7 := hc.fz 7
  have H := Lib.hid h
  have HQ := Lib.hid hgq
  have HBW := Lib.hid hBw
  have HQ8 := Lib.hid hN.q
  clear hc h k1 k2 hN hBw hgq
  generalize hr : sendM m l = r at *
  clear hr
  by_cases hb : l.length = 0 ∨ 24 < l.length
  · have HRR : Hid (r = (m, 1)) := by show _ = _; rw [HM.out, if_pos hb]
    clear HM
    by_cases hn0 : l.length = 0
    · have hln : l = [] := List.eq_nil_of_length_eq_zero hn0
      subst hln
      go_enter Try.func15, Try.ntmps15
      go_wp2
      go_ret
      rw [HRR.out]
      exact ⟨rfl, H.out, Ft.refl _ _ _⟩
    · have i1 : (l == []) = false := by cases l with | nil => simp at hn0 | cons a t => rfl
      have i3 : ¬ l = [] := by rintro rfl; simp at hn0
      have i2 : (24 : Int) < (l.length : Int) := by omega
      go_enter Try.func15, Try.ntmps15
      go_wp2
      go_ret
      rw [HRR.out]
      exact ⟨rfl, H.out, Ft.refl _ _ _⟩
  · have i1 : (l == []) = false := by cases l with | nil => simp at hb | cons a t => rfl
    have i3 : ¬ l = [] := by rintro rfl; simp at hb
    have i2 : ¬ (24 : Int) < (l.length : Int) := by omega
    rw [if_neg hb] at HM
    by_cases hst : m.st = 1
    · rw [if_neg (by omega)] at HM
      have hst' : (m.st : Int) = 1 := by omega
      rw [hst'] at c3
      by_cases h8 : 8 ≤ m.q.length
      · have HRR : Hid (r = (m, 5)) := by show _ = _; rw [HM.out, if_pos h8]
        clear HM
        have h8' : (8 : Int) ≤ (m.q.length : Int) := by omega
        go_enter Try.func15, Try.ntmps15
        go_wp2
        go_ret
        rw [HRR.out]
        exact ⟨rfl, H.out, Ft.refl _ _ _⟩
      · have HRR : Hid (r = ({ m with q := m.q ++ [l] }, 0)) := by show _ = _; rw [HM.out, if_neg h8]
        clear HM
        have h8' : ¬ (8 : Int) ≤ (m.q.length : Int) := by omega
        have HQL : Hid ((m.q ++ [l]).length = m.q.length + 1) := by show _ = _; simp
        have HSL : Hid ((scs m.q).length = m.q.length * 1) := by show _ = _; rw [scs_length, Nat.mul_one]
        have HSA : Hid (scs m.q ++ [.string ⟨l.toArray⟩] = scs (m.q ++ [l])) := by show _ = _; rw [scs_append]; rfl
        have HS1 := Lib.hid (scs_one m.q)
        have hq8 : m.q.length ≤ 8 := by omega
        have HE1 : Hid ((w.alloc (.cells #[] 9)).ownsRow w.heap.size 9 1 (.slice (some ⟨w.heap.size, 0, none⟩) 0 0) 0 []) := World.ownsRow_made w #[] 0 (Nat.le_refl _) (Nat.zero_le _) rfl
        have HH1 : Hid (Holds (w.alloc (.cells #[] 9)) gq Aq (scs m.q)) := HQ.out.keep (F := []) (Ch.of_below (new_below w _)) (by simp)
        have HBB : Hid (Below w.heap.size w (w.alloc (.cells #[] 9))) := new_below w _
        generalize m.q.length = qn at *
        generalize scs m.q = sq at *
        have HRK : Hid (∀ y, Below w.heap.size w y → y.cell? ⟨R, 7, none⟩ = some (.slice Aq qn cq) ∧ y.frozen? ⟨R, 7, none⟩ = false) := fun y hy => ⟨(hy.cell (p := ⟨R, 7, none⟩) H.out.lt).trans c7, (hy.frozen (p := ⟨R, 7, none⟩) H.out.lt).trans f7⟩
        have c7' := (HRK.out _ HBB.out).1
        go_enter Try.func15, Try.ntmps15
        go_upto_region 8 with (first
          | (at_builtin; refine wpList_append_wide rfl (.tmp 24) (.tmp 28) 47 rfl w.heap.size 9 i0 (.string ⟨#[]⟩) 1 16 Try.underlying47 hi hz0 hz1 hz2 rfl (by decide) (.slice (some ⟨w.heap.size, 0, none⟩) 0 0) 0 [] rfl HE1.out gq Aq qn cq sq rfl HSL.out HH1.out HS1.out (by unfold maxLen; omega) (by omega) HBB.out.size ?_; intro A2 c2 x2 hown2 hgrow2
             have hB2 : Below w.heap.size w x2 := HBB.out.grown hgrow2 HBB.out.size (by intro g hg; simp [Value.ownBlock] at hg; omega)
             simp only [Nat.zero_add, List.nil_append] at hown2 ⊢
             have HO2 := Lib.hid hown2
             have HB2 := Lib.hid hB2
             clear hown2 hgrow2 hB2)
          | (at_builtin; refine wpList_append_wide rfl (.tmp 29) (.tmp 31) 47 rfl w.heap.size 9 i0 (.string ⟨#[]⟩) 1 16 Try.underlying47 hi hz0 hz1 hz2 rfl (by decide) (.slice A2 qn c2) qn sq rfl (own_ft (B := 0) (T := []) HO2.out (Ft.of_below (new_below x2 _)) (by simp)) x2.heap.size (some ⟨x2.heap.size, 0, none⟩) 1 1 [.string ⟨l.toArray⟩] rfl rfl (Holds.of_row (cs := [.string ⟨l.toArray⟩]) (heap_alloc_new x2 _)) (by intro u hu; simp at hu; subst hu; rfl) (by unfold maxLen; omega) (by omega) (Nat.le_trans HB2.out.size (new_below x2 _).size) ?_; intro A4 c4 x4 hown4 hgrow4
             have hB4 : Below w.heap.size w x4 := (HB2.out.trans ((new_below x2 _).mono HB2.out.size)).grown hgrow4 (Nat.le_trans HB2.out.size (new_below x2 _).size) (fun g hg => (HO2.out.lt g hg).1)
             obtain ⟨c7x, f7x⟩ := HRK.out _ hB4
             have HO4 := Lib.hid hown4
             have HB4 := Lib.hid hB4
             clear hown4 hgrow4 hB4)
          | fail)
        go_wp2
        go_ret
        have K := H.out.turnq (T := []) (Ft.of_below HB4.out) (by simp) [(7, .slice A4 (qn + 1) c4)] { m with q := m.q ++ [l] } (A' := A4) (c' := c4) (by show Que _ _ _ _ _ (m.q ++ [l]).length _ (scs (m.q ++ [l])); rw [HQL.out, ← HSA.out]; exact Que.of_own (own_mono HO4.out HBW.out)) (fun V => by simp only [HQL.out]; rfl)
        rw [HRR.out]
        exact ⟨rfl, K.1, (Ft.of_below HB4.out).trans K.2⟩
    · rw [if_pos hst] at HM
      have hst' : ((m.st : Int) != 1) = true := by simp; omega
      have HRR : Hid (r = (m, 7)) := HM
      clear HM
      go_enter Try.func15, Try.ntmps15
      go_wp2
      go_ret
      rw [HRR.out]
      exact ⟨rfl, H.out, Ft.refl _ _ _⟩

end Go.Proofs.Ytoahjkdackccmaa
