/-
  master's settle, fresh and Send, as they landed: what they answer.
-/
import Derived.Test.YtabedmkhhlmbkaaMasC
namespace Go.Proofs.Ytabedmkhhlmbkaa
set_option linter.unusedVariables false
set_option linter.unusedSimpArgs false
open Go.RowKit

theorem Rs.one {w : World} {B : Nat} {vs : List Value} {ps : List (List UInt8)} (h : Rs w B vs ps) : ∀ v ∈ vs, v.oneCell' = true := by
  intro v hv
  obtain ⟨j, hj, rfl⟩ := List.mem_iff_getElem.1 hv
  obtain ⟨A, c, hf⟩ := ownB_form (h.own j vs[j] (ps[j]'(by rw [← h.len]; exact hj)) (List.getElem?_eq_getElem hj) (List.getElem?_eq_getElem _))
  rw [hf]
  rfl

set_option maxRecDepth 20000 in
set_option maxHeartbeats 1600000 in
theorem settle_on {w : World} {B D N : Nat} {m : Ma} (h : Ms w B D m) (hN : m.Ok N) (ack : Nat) : Calls Try.prog 40 #[.pointer (some ⟨D, 0, none⟩), .int .u8 (ack : Int)] w fun e w' => e = .returned (.tuple #[]) ∧ Ms w' B D (settleM m ack) ∧ Ft B [80, 28] w w' := by
  obtain ⟨A, c, vs, k1, k2, k3⟩ := h.at_
  have hc := mc_of k1
  have c0 := hc.c0
  have c8 := hc.c8
  have f8 := hc.fz 8
  have HM : Hid (settleM m ack = if 0 < m.q.length ∧ ack ≠ m.sent then { m with q := m.q.drop 1, sent := 1 - m.sent } else m) := rfl
  have H := Lib.hid h
  have HQ := Lib.hid k2
  have HR := Lib.hid k3
  have HS := Lib.hid hN.sent
  have h8 := hN.q
  clear hc h k1 k2 k3 hN
  generalize hr : settleM m ack = r at *
  clear hr
  by_cases hq : 0 < m.q.length
  · have hq' : (0 : Int) < (m.q.length : Int) := by omega
    by_cases ha : ack = m.sent
    · have HR : Hid (r = m) := by show _ = _; rw [HM.out, if_neg (by omega)]
      clear HM
      subst ha
      go_enter Try.func40, Try.ntmps40
      go_wp2
      go_end0
      rw [HR.out]
      exact ⟨rfl, H.out, Ft.refl _ _ _⟩
    · have HRR : Hid (r = { m with q := m.q.drop 1, sent := 1 - m.sent }) := by show _ = _; rw [HM.out, if_pos ⟨hq, ha⟩]
      clear HM
      have ha' : ((ack : Int) != (m.sent : Int)) = true := by simp; omega
      have HDL : Hid (m.q.length - 1 = (m.q.drop 1).length) := by show _ = _; rw [List.length_drop]
      generalize m.q.length = n at *
      go_enter Try.func40, Try.ntmps40
      go_wp2_with fail
      refine (delete_on HQ.out hq h8 HR.out.one).mono ?_
      rintro e x ⟨rfl, hq2, hf2⟩
      rw [HDL.out] at hq2 ⊢
      have K := Lib.hid (H.out.turnq hf2 (by decide) [(8, .slice A (m.q.drop 1).length c)] { m with q := m.q.drop 1 } hq2 ((HR.out.ft hf2 (by decide)).drop) (fun V => rfl))
      have HF := Lib.hid hf2
      have b8 : x.cell? ⟨D, 8, none⟩ = some (.slice A n c) := by
        obtain ⟨A0, c0', vs0, g1, _⟩ := H.out.at_
        have g2 := hf2.keep g1 (by decide)
        have g3 : x.cell? ⟨D, 8, none⟩ = w.cell? ⟨D, 8, none⟩ := by simp [World.cell?, g1, g2]
        rw [g3]
        exact c8
      have fz8 : x.frozen? ⟨D, 8, none⟩ = false := by
        obtain ⟨A0, c0', vs0, g1, _⟩ := H.out.at_
        exact frozen_of_row _ _ _ _ _ (hf2.keep g1 (by decide))
      clear c0 c8 f8 hq2 hf2 HQ H
      generalize (m.q.drop 1).length = n1 at *
      go_wp2_with fail
      refine (turnsent_on K.out.1 HS.out).mono ?_
      rintro e y ⟨rfl, g1, g2⟩
      have K1 := Lib.hid g1
      have K2 := Lib.hid g2
      clear g1 g2
      go_wp2
      go_end0
      rw [HRR.out]
      exact ⟨rfl, K1.out, ((HF.out.mono (Nat.le_refl _) (by simp)).trans (K.out.2.mono (Nat.le_refl _) (by simp))).trans (K2.out.mono (Nat.le_refl _) (by simp))⟩
  · have HRR : Hid (r = m) := by show _ = _; rw [HM.out, if_neg (by omega)]
    have hq0 : m.q.length = 0 := by omega
    clear HM
    rw [hq0] at c8
    go_enter Try.func40, Try.ntmps40
    go_wp2
    go_end0
    rw [HRR.out]
    exact ⟨rfl, H.out, Ft.refl _ _ _⟩

/-- A slice of bytes that is there; if its block lies from B on, it is one of bytes. -/
def Hb (w : World) (B : Nat) (A : Option Addr) (l : List UInt8) : Prop := ∃ g, Holds w g A (bcs l) ∧ (g < B ∨ BlockIn w g [5] ∨ l.length = 0)
theorem Hb.ft {w w' : World} {B B' : Nat} {T : List TypeId} {A : Option Addr} {l : List UInt8} (h : Hb w B A l) (hc : Ft B' T w w') (hT : 5 ∉ T) (hB : B ≤ B' := by exact Nat.le_refl _) : Hb w' B A l := by
  obtain ⟨g, h1, h2⟩ := h
  by_cases hl : l.length = 0
  · exact ⟨g, fun hp => by rw [bcs_length] at hp; omega, .inr (.inr hl)⟩
  · have h3 := (h1 (by rw [bcs_length]; omega)).1
    have hk : w'.heap[g]? = w.heap[g]? := by
      rcases h2 with h2 | ⟨cs, e, fz, h2, h4⟩ | h2
      · exact hc.block g h3 (.inl (by omega))
      · simp at h4
        subst h4
        exact (hc.keep h2 hT).trans h2.symm
      · exact absurd h2 hl
    refine ⟨g, fun hp => ?_, ?_⟩
    · obtain ⟨k1, o, k2, k3⟩ := h1 hp
      exact ⟨Nat.lt_of_lt_of_le k1 hc.size, o, k2, fun j u hu => (World.cell?_of_block hk).trans (k3 j u hu)⟩
    · rcases h2 with h2 | ⟨cs, e, fz, h2, h4⟩ | h2
      · exact .inl h2
      · exact .inr (.inl ⟨cs, e, fz, hk.trans h2, h4⟩)
      · exact .inr (.inr h2)
theorem Hb.step {w w' : World} {B : Nat} {A : Option Addr} {l : List UInt8} (h : Hb w B A l) (hb : Below w.heap.size w w') : Hb w' B A l := by
  obtain ⟨g, h1, h2⟩ := h
  refine ⟨g, h1.keep (F := []) (Ch.of_below hb) (by simp), ?_⟩
  rcases h2 with h2 | ⟨cs, e, fz, h2, h4⟩ | h2
  · exact .inl h2
  · exact .inr (.inl ⟨cs, e, fz, (hb.block g (Array.getElem?_eq_some_iff.1 h2).1).trans h2, h4⟩)
  · exact .inr (.inr h2)
theorem Hb.empty (w : World) (B : Nat) (A : Option Addr) : Hb w B A [] := ⟨0, Holds.nil _ _ _, .inr (.inr rfl)⟩

/-- What fresh answers. -/
def FreshPost (w : World) (B D : Nat) (m : Ma) (f : Fr) (e : Ending) (w' : World) : Prop :=
  ∃ A' c', e = .returned (.slice A' (freshM m f).2.length c') ∧ w'.ownsRow w.heap.size 5 1 (.slice A' (freshM m f).2.length c') (freshM m f).2.length (bcs (freshM m f).2) ∧ Ms w' B D (freshM m f).1 ∧ Ft B [80] w w'

set_option maxRecDepth 20000 in
set_option maxHeartbeats 1600000 in
theorem fresh_on {w : World} {B D N c : Nat} {m : Ma} {f : Fr} {A : Option Addr} (h : Ms w B D m) (hN : m.Ok N) (hb : Hb w B A f.b) (hle : f.b.length ≤ 1000000) : Calls Try.prog 41 #[.pointer (some ⟨D, 0, none⟩), .agg (fcs f (.slice A f.b.length c))] w (FreshPost w B D m f) := by
  have HB := Lib.hid (new_below w (.cells (fcs f (.slice A f.b.length c)) 30))
  have H1 := Lib.hid (h.step HB.out)
  have HX : Hid (Fx (w.alloc (.cells (fcs f (.slice A f.b.length c)) 30)) w.heap.size f (.slice A f.b.length c)) := heap_alloc_new w _
  have HH := Lib.hid (hb.step HB.out)
  have HP : Hid (∀ e w', FreshPost w B D m f e w' ↔ ∃ A' c', e = .returned (.slice A' (freshM m f).2.length c') ∧ w'.ownsRow w.heap.size 5 1 (.slice A' (freshM m f).2.length c') (freshM m f).2.length (bcs (freshM m f).2) ∧ Ms w' B D (freshM m f).1 ∧ Ft B [80] w w') := fun _ _ => Iff.rfl
  have HM : Hid (freshM m f = if f.b.length = 0 ∨ f.q ≠ m.hrd then (m, []) else ({ m with hrd := 1 - m.hrd }, f.b)) := rfl
  have HS := Lib.hid hN.hrd
  clear h hb hN
  generalize FreshPost w B D m f = Q at *
  generalize freshM m f = r at *
  obtain ⟨A1, cc, hc⟩ := H1.out.mc
  have hf := HX.out.fc
  have c1 := hc.c1
  have e3 := hf.c3
  have e5 := hf.c5
  clear hc hf
  generalize hl : f.b.length = l at *
  have HL := Lib.hid hl
  clear hl
  cases f with
  | mk fa fk fs fq fcc fb =>
  simp only at *
  go_enter Try.func41, Try.ntmps41
  go_upto_region 1 with fail
  generalize w.alloc (.cells (fcs ⟨fa, fk, fs, fq, fcc, fb⟩ (.slice A l c)) 30) = x at *
  have HXW : Hid (w.heap.size ≤ x.heap.size) := HB.out.size
  have HBD : Hid (Below w.heap.size w x.drew) := HB.out.trans ((drew_below x).mono HB.out.size)
  have HMD := Lib.hid (H1.out.step (drew_below x))
  have HXD := Lib.hid (HX.out.step (drew_below x))
  have HHD := Lib.hid (HH.out.step (drew_below x))
  have HSD : Hid (w.heap.size ≤ x.drew.heap.size) := HB.out.size
  clear HB H1 HX HH
  generalize w.heap.size = X at e3 e5 HXD ⊢
  have e3' : x.drew.cell? ⟨X, 3, none⟩ = some (.int .u8 (fq : Int)) := e3
  have e5' : x.drew.cell? ⟨X, 5, none⟩ = some (.slice A l c) := e5
  have c1' : x.drew.cell? ⟨D, 1, none⟩ = some (.int .u8 (m.hrd : Int)) := c1
  clear e3 e5 c1
  refine region_plan [(true, 0), (true, 1), (true, 2), (true, 3), (true, 4), (true, 5), (true, 6), (true, 7), (true, 8), (true, 9), (true, 10), (true, 11), (true, 12), (true, 13)]
    (fun y => y.cell? ⟨X, 3, none⟩ = some (.int .u8 (fq : Int)) ∧ y.cell? ⟨X, 5, none⟩ = some (.slice A l c) ∧ y.cell? ⟨D, 1, none⟩ = some (.int .u8 (m.hrd : Int))) (by kernel_rfl) (by kernel_rfl) (by kernel_rfl) rfl ⟨e3', e5', c1'⟩ ?_
  generalize x.drew = y at *
  by_cases h0 : l = 0
  · subst h0
    have HR : Hid (r = (m, [])) := by show _ = _; rw [HM.out, if_pos (.inl rfl)]
    clear HM
    iterate 14 (first | (refine Plan.take (v := ?_) rfl (by rfl) ?_ ?_; rotate_left 1; (focus (intro x hx; go_simp <;> (first | with_reducible rfl | rw [if_pos (by omega)]))); simp only [Act.put, List.setIfInBounds_toArray, List.set_cons_zero, List.set_cons_succ]) | (refine Plan.skip rfl (by rfl) ?_; simp only [Act.put, List.setIfInBounds_toArray, List.set_cons_zero, List.set_cons_succ]))
    refine Plan.done ?_
    go_wp2
    refine (HP.out _ _).2 ?_
    rw [HR.out]
    exact ⟨none, 0, rfl, World.ownsRow_nil _ _ _ _, HMD.out, Ft.of_below HBD.out⟩
  · have h0' : ((l : Int) == 0) = false := by simp; omega
    by_cases hq : fq = m.hrd
    · have HR : Hid (r = ({ m with hrd := 1 - m.hrd }, fb)) := by show _ = _; rw [HM.out, if_neg (by rintro (h | h); exact h0 h; exact h hq)]
      clear HM
      subst hq
      iterate 14 (first | (refine Plan.take (v := ?_) rfl (by rfl) ?_ ?_; rotate_left 1; (focus (intro x hx; go_simp <;> (first | with_reducible rfl | rw [if_pos (by omega)]))); simp only [Act.put, List.setIfInBounds_toArray, List.set_cons_zero, List.set_cons_succ]) | (refine Plan.skip rfl (by rfl) ?_; simp only [Act.put, List.setIfInBounds_toArray, List.set_cons_zero, List.set_cons_succ]))
      refine Plan.done ?_
      go_wp2_with fail
      refine (turnheard_on HMD.out HS.out).mono ?_
      rintro e y1 ⟨rfl, g1, g2⟩
      have K1 := Lib.hid g1
      have K2 := Lib.hid g2
      have e5 := (g2.keep HXD.out (by decide))
      have e5'' : y1.cell? ⟨X, 5, none⟩ = some (.slice A l c) := (Fx.fc e5).c5
      obtain ⟨g, hh, _⟩ := HHD.out.ft g2 (by decide)
      have HH1 := Lib.hid hh
      clear g1 g2 e5 hh e3' e5' c1'
      go_wp2_with fail
      refine (clone_on HH1.out HL.out (by omega)).mono ?_
      rintro e y2 ⟨A2, c2, rfl, ho, hb2⟩
      have K3 := Lib.hid ho
      have K4 := Lib.hid hb2
      clear ho hb2
      go_wp2
      refine (HP.out _ _).2 ?_
      rw [HR.out]
      exact ⟨A2, c2, rfl, own_mono K3.out (Nat.le_trans HSD.out K2.out.size), K1.out.step K4.out, ((Ft.of_below HBD.out).trans K2.out).step K4.out⟩
    · have HR : Hid (r = (m, [])) := by show _ = _; rw [HM.out, if_pos (.inr hq)]
      clear HM
      have hq' : ((fq : Int) != (m.hrd : Int)) = true := by simp; omega
      iterate 14 (first | (refine Plan.take (v := ?_) rfl (by rfl) ?_ ?_; rotate_left 1; (focus (intro x hx; go_simp <;> (first | with_reducible rfl | rw [if_pos (by omega)]))); simp only [Act.put, List.setIfInBounds_toArray, List.set_cons_zero, List.set_cons_succ]) | (refine Plan.skip rfl (by rfl) ?_; simp only [Act.put, List.setIfInBounds_toArray, List.set_cons_zero, List.set_cons_succ]))
      refine Plan.done ?_
      go_wp2
      refine (HP.out _ _).2 ?_
      rw [HR.out]
      exact ⟨none, 0, rfl, World.ownsRow_nil _ _ _ _, HMD.out, Ft.of_below HBD.out⟩

set_option maxRecDepth 20000 in
set_option maxHeartbeats 3200000 in
theorem send_on {w : World} {B D N n c : Nat} {m : Ma} {l : List UInt8} {A : Option Addr} (h : Ms w B D m) (hN : m.Ok N) (hBw : B ≤ w.heap.size) (hb : Hb w B A l) (hn : l.length = n) : Calls Try.prog 36 #[.pointer (some ⟨D, 0, none⟩), .slice A n c] w fun e w' => e = .returned (.int .i64 (sendM m l).2) ∧ Ms w' B D (sendM m l).1 ∧ Ft B [80, 28] w w' := by
  obtain ⟨i0, hi, hz0, hz1, hz2⟩ := info_parts info_bytes
  have HM : Hid (sendM m l = if l.length = 0 ∨ 24 < l.length then (m, 1) else if m.st ≠ 1 then (m, 7) else if 8 ≤ m.q.length then (m, 5) else ({ m with q := m.q ++ [l] }, 0)) := rfl
  obtain ⟨Aq, cq, vs, k1, k2, k3⟩ := h.at_
  have hc := mc_of k1
  have c5 := hc.c5
  have c8 := hc.c8
  have f8 := hc.fz 8
  have H := Lib.hid h
  have HQ := Lib.hid k2
  have HR := Lib.hid k3
  have HHB := Lib.hid hb
  have HBW := Lib.hid hBw
  clear hc h k1 k2 k3 hN hb hBw
  generalize hr : sendM m l = r at *
  clear hr
  rw [hn] at HM
  have HL := Lib.hid hn
  clear hn
  by_cases hb : n = 0 ∨ 24 < n
  · have HRR : Hid (r = (m, 1)) := by show _ = _; rw [HM.out, if_pos hb]
    clear HM
    by_cases hn0 : n = 0
    · subst hn0
      go_enter Try.func36, Try.ntmps36
      go_wp2
      go_ret
      rw [HRR.out]
      exact ⟨rfl, H.out, Ft.refl _ _ _⟩
    · have i1 : ((n : Int) == 0) = false := by simp; omega
      have i2 : (24 : Int) < (n : Int) := by omega
      go_enter Try.func36, Try.ntmps36
      go_wp2
      go_ret
      rw [HRR.out]
      exact ⟨rfl, H.out, Ft.refl _ _ _⟩
  · have i1 : ((n : Int) == 0) = false := by simp; omega
    have i2 : ¬ (24 : Int) < (n : Int) := by omega
    rw [if_neg hb] at HM
    by_cases hst : m.st = 1
    · rw [if_neg (by omega)] at HM
      have hst' : (m.st : Int) = 1 := by omega
      rw [hst'] at c5
      by_cases h8 : 8 ≤ m.q.length
      · have HRR : Hid (r = (m, 5)) := by show _ = _; rw [HM.out, if_pos h8]
        clear HM
        have h8' : (8 : Int) ≤ (m.q.length : Int) := by omega
        go_enter Try.func36, Try.ntmps36
        go_wp2
        go_ret
        rw [HRR.out]
        exact ⟨rfl, H.out, Ft.refl _ _ _⟩
      · have HRR : Hid (r = ({ m with q := m.q ++ [l] }, 0)) := by show _ = _; rw [HM.out, if_neg h8]
        clear HM
        have h8' : ¬ (8 : Int) ≤ (m.q.length : Int) := by omega
        have HQL : Hid ((m.q ++ [l]).length = m.q.length + 1) := by show _ = _; simp
        have hq8 : m.q.length ≤ 8 := by omega
        generalize m.q.length = qn at *
        go_enter Try.func36, Try.ntmps36
        go_upto_region 7 with fail
        clear h8' i1 i2 c5
        have H1 := Lib.hid (H.out.step (drew_below w))
        have HQ1 := Lib.hid (HQ.out.ft (B := 0) (T := []) (Ft.of_below (drew_below w)) (by simp))
        have HR1 := Lib.hid (HR.out.ft (B' := 0) (T := []) (Ft.of_below (drew_below w)) (by simp))
        have HH1 := Lib.hid (HHB.out.step (drew_below w))
        have HW := Lib.hid H.out
        have HF1 : Hid (Ft B [80, 28] w w.drew) := Ft.of_below (drew_below w)
        have HBW1 : Hid (B ≤ w.drew.heap.size) := HBW.out
        refine region_last 11 (.take 0 (.take 1 (.take 2 (.take 3 (.take 4 (.take 5 (.one 6 (.one 7 (.one 8 (.one 9 (.take 10 (.one 11 .done))))))))))))
          (fun x => x.cell? ⟨D, 8, none⟩ = some (.slice Aq qn cq)) (by kernel_rfl) (by kernel_rfl) (by kernel_rfl) (by kernel_rfl) c8 ?_
        have HS : Hid (∀ y, Ft B [28] w y → y.cell? ⟨D, 8, none⟩ = some (.slice Aq qn cq) ∧ y.frozen? ⟨D, 8, none⟩ = false) := fun y hy => by
          obtain ⟨A0, c0', vs0, g1, _⟩ := H.out.at_
          have g2 := hy.keep g1 (by decide)
          have g3 : y.cell? ⟨D, 8, none⟩ = w.cell? ⟨D, 8, none⟩ := by simp [World.cell?, g1, g2]
          exact ⟨by rw [g3]; exact c8, frozen_of_row _ _ _ _ _ g2⟩
        have HFt : Hid (Ft B [28] w w.drew) := Ft.of_below (drew_below w)
        clear c8 f8 H HQ HR HHB HBW
        generalize w.drew = x at *
        iterate 6 (refine TreeL.take (v := ?_) (by kernel_rfl) rfl (by rfl) ?_ ?_; rotate_left 1; (focus (intro x hx; go_simp <;> (first | with_reducible rfl | rw [if_pos (by omega)]))); simp only [Act.put, List.setIfInBounds_toArray, List.set_cons_zero, List.set_cons_succ])
        refine TreeL.one (by decide) rfl (fun K hK => ?_)
        go_simp
        obtain ⟨g, hh, _⟩ := HH1.out
        refine (clone_on hh HL.out (by omega)).mono ?_
        rintro e x1 ⟨A1, c1, rfl, ho1, hb1⟩
        rw [HL.out] at ho1 ⊢
        have HO := Lib.hid (own_mono ho1 HBW1.out)
        have HFt1 := Lib.hid (HFt.out.step hb1)
        have HQ2 := Lib.hid (HQ1.out.ft (B := 0) (T := []) (Ft.of_below hb1) (by simp))
        have HR2 := Lib.hid (HR1.out.ft (B' := 0) (T := []) (Ft.of_below hb1) (by simp))
        have HBW2 : Hid (B ≤ x1.heap.size) := Nat.le_trans HBW1.out hb1.size
        refine hK.out _ _ _ (fun x hx => hx) (HS.out _ HFt1.out).1 ?_
        clear hK K hh ho1 hb1 HQ1 HR1 HFt HH1
        refine TreeL.one (by decide) rfl (fun K hK => ?_)
        go_simp
        have hb2 := new_below x1 (.cells #[.slice A1 n c1] 28)
        have HFt2 := Lib.hid (HFt1.out.step hb2)
        have HQ3 := Lib.hid (HQ2.out.ft (B := 0) (T := []) (Ft.of_below hb2) (by simp))
        have HR3 := Lib.hid (HR2.out.ft (B' := 0) (T := []) (Ft.of_below hb2) (by simp))
        have HO3 := Lib.hid (own_ft (B := 0) (T := []) HO.out (Ft.of_below hb2) (by simp))
        have HN3 : Hid (∀ j u, [Value.slice A1 n c1][j]? = some u → (x1.alloc (.cells #[.slice A1 n c1] 28)).cell? ((⟨x1.heap.size, 0, none⟩ : Addr).add j) = some u) := by
          intro j u hu
          rw [addr_add, Nat.zero_add, cell_alloc_new _ _ _ _ _ rfl]
          simpa using hu
        have HBW3 : Hid (B ≤ (x1.alloc (.cells #[.slice A1 n c1] 28)).heap.size) := Nat.le_trans HBW2.out hb2.size
        refine hK.out _ _ _ (fun x hx => hx) (HS.out _ HFt2.out).1 ?_
        clear hK K hb2 HQ2 HR2 HO HFt1
        generalize x1.alloc (.cells #[.slice A1 n c1] 28) = x2 at *
        generalize x1.heap.size = S2 at *
        refine TreeL.one (by decide) rfl (fun K hK => ?_)
        rw [if_pos (by rfl)]
        refine wp_append_que (.tmp 31) (.tmp 34) 78 rfl B 28 i0 (.slice none 0 0) 1 24 Try.underlying78 hi hz0 hz1 hz2 rfl (by decide) Aq qn cq _ rfl HQ3.out ⟨S2, 0, none⟩ 1 1 [.slice A1 n c1] rfl rfl HN3.out (by simp [Value.oneCell']) (by unfold maxLen; omega) (by omega) HBW3.out ?_
        intro A6 c6 x6 hq6 hf6
        have HFt6 := Lib.hid (HFt2.out.trans hf6)
        have HR6 : Hid (Rs x6 B (vs ++ [.slice A1 n c1]) (m.q ++ [l])) := (HR3.out.ft hf6 (by decide)).snoc (by rw [HL.out]; exact own_ft HO3.out hf6 (by decide))
        have HQ6 := Lib.hid hq6
        refine hK.out _ _ _ (fun x hx => hx) (HS.out _ HFt6.out).1 ?_
        clear hK K hq6 hf6 HQ3 HR3 HO3 HN3
        simp only [Act.put, List.setIfInBounds_toArray, List.set_cons_zero, List.set_cons_succ]
        refine TreeL.one (by decide) rfl (fun K hK => ?_)
        go_simp
        refine hK.out _ _ _ (fun x hx => hx) (HS.out _ HFt6.out).1 ?_
        clear hK K
        iterate 1 (refine TreeL.take (v := ?_) (by kernel_rfl) rfl (by rfl) ?_ ?_; rotate_left 1; (focus (intro x hx; go_simp <;> (first | with_reducible rfl | rw [if_pos (by omega)]))); simp only [Act.put, List.setIfInBounds_toArray, List.set_cons_zero, List.set_cons_succ])
        refine TreeL.last rfl (fun K hK => ?_)
        obtain ⟨g4, g5⟩ := HS.out _ HFt6.out
        go_simp
        refine hK.out _ _ (NoPanic.normal ?_)
        clear hK K g4 g5
        rw [← HQL.out] at HQ6
        have KK := Lib.hid (HW.out.turnq HFt6.out (by decide) [(8, .slice A6 (m.q ++ [l]).length c6)] { m with q := m.q ++ [l] } HQ6.out HR6.out (fun V => rfl))
        rw [HQL.out] at KK
        go_wp2
        go_ret
        rw [HRR.out]
        exact ⟨rfl, KK.out.1, (HFt6.out.mono (Nat.le_refl _) (by simp)).trans (KK.out.2.mono (Nat.le_refl _) (by simp))⟩
    · have HRR : Hid (r = (m, 7)) := by show _ = _; rw [HM.out, if_pos hst]
      clear HM
      have hst' : ((m.st : Int) != 1) = true := by simp; omega
      go_enter Try.func36, Try.ntmps36
      go_wp2
      go_ret
      rw [HRR.out]
      exact ⟨rfl, H.out, Ft.refl _ _ _⟩

end Go.Proofs.Ytabedmkhhlmbkaa
