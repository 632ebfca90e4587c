/-
  slave's New, Session, Pending, Reset, Offer, begin, answer, lasts, settle, as they landed: what they answer.
-/
import Derived.Test.YtdcnmbglbopgdaaSlaC
import Derived.StillTailTactics
namespace Go.Proofs.Ytdcnmbglbopgdaa
set_option linter.unusedVariables false
set_option linter.unusedSimpArgs false
open Go.RowKit

theorem spend_on {w : World} {B D : Nat} {s : Sl} (h : Sv w B D s) : Calls Try.prog 63 #[.pointer (some ⟨D, 0, none⟩)] w fun e w' => e = .returned (.bool (decide (s.pend.length ≠ 0))) ∧ w' = w := by
  obtain ⟨A, c, hc⟩ := h.sc
  have h5 := hc.c4
  clear hc h
  generalize s.pend.length = n at *
  have HD : Hid (decide (n ≠ 0) = decide ((0 : Int) < (n : Int))) := by
    show _ = _
    rw [decide_eq_decide]
    omega
  rw [HD.out]
  go_enter Try.func63, Try.ntmps63
  go_wp2
  go_ret
  first
    | exact ⟨rfl, rfl⟩
    | (refine ⟨?_, rfl⟩; simp)
theorem sreset_on {w : World} {B D : Nat} {s : Sl} (h : Sv w B D s) : Calls Try.prog 42 #[.pointer (some ⟨D, 0, none⟩)] w fun e w' => e = .returned (.tuple #[]) ∧ Sv w' B D (newS s.addr) ∧ Ft B [85] w w' := by
  obtain ⟨A, c, hc⟩ := h.sc
  have c0 := hc.c0
  have c1 := hc.c1
  have c2 := hc.c2
  have c3 := hc.c3
  have c4 := hc.c4
  have f0 := hc.fz 0
  have f1 := hc.fz 1
  have f2 := hc.fz 2
  have f3 := hc.fz 3
  have f4 := hc.fz 4
  have H := Lib.hid (h.turnp (T := []) (Ft.refl B [] w) (by simp) [(0, .int .u8 0), (1, .int .u8 0), (2, .int .u8 0), (3, .int .u8 (s.addr : Int)), (4, .slice none 0 0)] (newS s.addr) (A' := none) (c' := 0) (World.ownsRow_nil _ _ _ _) (fun V => rfl))
  clear hc h
  generalize newS s.addr = s' at *
  go_enter Try.func42, Try.ntmps42
  go_wp2
  go_end0
  exact ⟨rfl, H.out⟩
theorem sbegin_on {w : World} {B D n : Nat} {s : Sl} (h : Sv w B D s) : Calls Try.prog 46 #[.pointer (some ⟨D, 0, none⟩), .int .u8 (n : Int)] w fun e w' => e = .returned (.tuple #[]) ∧ Sv w' B D { s with ses := n, tell := 0, nx := 0 } ∧ Ft B [85] w w' := by
  obtain ⟨A, c, hc⟩ := h.sc
  have c0 := hc.c0
  have c1 := hc.c1
  have c2 := hc.c2
  have f0 := hc.fz 0
  have f1 := hc.fz 1
  have f2 := hc.fz 2
  have H := Lib.hid (h.turn [(0, .int .u8 (n : Int)), (1, .int .u8 0), (2, .int .u8 0)] { s with ses := n, tell := 0, nx := 0 } rfl (fun V => rfl))
  clear hc h
  generalize ({ s with ses := n, tell := 0, nx := 0 } : Sl) = s' at *
  go_enter Try.func46, Try.ntmps46
  go_wp2
  go_end0
  exact ⟨rfl, H.out⟩
theorem sturntells_on {w : World} {B D : Nat} {s : Sl} (h : Sv w B D s) (h1 : s.tell ≤ 1) : Calls Try.prog 64 #[.pointer (some ⟨D, 0, none⟩)] w fun e w' => e = .returned (.tuple #[]) ∧ Sv w' B D { s with tell := 1 - s.tell } ∧ Ft B [85] w w' := by
  obtain ⟨A, c, hc⟩ := h.sc
  have c1 := hc.c1
  have f1 := hc.fz 1
  have hx := xor_one h1
  have H := Lib.hid (h.turn [(1, .int .u8 ((1 - s.tell : Nat) : Int))] { s with tell := 1 - s.tell } rfl (fun V => rfl))
  clear hc h h1
  cases s with
  | mk addr ses tell nx pend =>
  simp only at *
  generalize 1 - tell = s' at *
  go_enter Try.func64, Try.ntmps64
  go_wp2
  go_end0
  exact ⟨rfl, H.out⟩
theorem sturnawaits_on {w : World} {B D : Nat} {s : Sl} (h : Sv w B D s) (h1 : s.nx ≤ 1) : Calls Try.prog 65 #[.pointer (some ⟨D, 0, none⟩)] w fun e w' => e = .returned (.tuple #[]) ∧ Sv w' B D { s with nx := 1 - s.nx } ∧ Ft B [85] w w' := by
  obtain ⟨A, c, hc⟩ := h.sc
  have c2 := hc.c2
  have f2 := hc.fz 2
  have hx := xor_one h1
  have H := Lib.hid (h.turn [(2, .int .u8 ((1 - s.nx : Nat) : Int))] { s with nx := 1 - s.nx } rfl (fun V => rfl))
  clear hc h h1
  cases s with
  | mk addr ses tell nx pend =>
  simp only at *
  generalize 1 - nx = s' at *
  go_enter Try.func65, Try.ntmps65
  go_wp2
  go_end0
  exact ⟨rfl, H.out⟩
theorem slasts_on {w : World} {B D n : Nat} {s : Sl} (h : Sv w B D s) : Calls Try.prog 48 #[.pointer (some ⟨D, 0, none⟩), .int .u8 (n : Int)] w fun e w' => e = .returned (.bool (decide (s.ses ≠ 0 ∧ n = s.ses))) ∧ w' = w := by
  obtain ⟨A, c, hc⟩ := h.sc
  have c0 := hc.c0
  clear hc h
  generalize s.ses = m at *
  by_cases hm : m = 0
  · have HD : Hid (decide (m ≠ 0 ∧ n = m) = false) := by show _ = _; simp [hm]
    rw [HD.out]
    have hm' : (m : Int) = 0 := by omega
    rw [hm'] at c0
    go_enter Try.func48, Try.ntmps48
    go_wp2
    go_ret
    exact ⟨rfl, rfl⟩
  · have HD : Hid (decide (m ≠ 0 ∧ n = m) = ((n : Int) == (m : Int))) := by
      show _ = _
      rw [Bool.eq_iff_iff, beq_iff_eq, decide_eq_true_iff]
      omega
    rw [HD.out]
    have hm' : ((m : Int) != 0) = true := by simp; omega
    go_enter Try.func48, Try.ntmps48
    go_wp2
    go_ret
    exact ⟨rfl, rfl⟩

set_option maxRecDepth 20000 in
set_option maxHeartbeats 1600000 in
theorem ssettle_on {w : World} {B D : Nat} {s : Sl} (h : Sv w B D s) (h1 : s.tell ≤ 1) (ack : Nat) : Calls Try.prog 49 #[.pointer (some ⟨D, 0, none⟩), .int .u8 (ack : Int)] w fun e w' => e = .returned (.tuple #[]) ∧ Sv w' B D (gotS s ack) ∧ Ft B [85] w w' := by
  have HM : Hid (gotS s ack = if s.pend.length ≠ 0 ∧ ack ≠ s.tell then { s with pend := [], tell := 1 - s.tell } else s) := rfl
  obtain ⟨A, c, hc⟩ := h.sc
  have c1 := hc.c1
  have c4 := hc.c4
  have f4 := hc.fz 4
  have H := Lib.hid h
  have HT := Lib.hid h1
  clear hc h h1
  generalize hr : gotS s ack = r at *
  clear hr
  by_cases hq : s.pend.length ≠ 0
  · have hd : decide (s.pend.length ≠ 0) = true := by simpa using hq
    by_cases ha : ack = s.tell
    · have HR : Hid (r = s) := by show _ = _; rw [HM.out, if_neg (by omega)]
      clear HM
      subst ha
      go_enter Try.func49, Try.ntmps49
      go_wp2_with fail
      refine (spend_on H.out).mono ?_
      rintro e x ⟨rfl, rfl⟩
      rw [hd]
      go_wp2
      go_end0
      rw [HR.out]
      exact ⟨rfl, H.out, Ft.refl _ _ _⟩
    · have HRR : Hid (r = { s with pend := [], tell := 1 - s.tell }) := by show _ = _; rw [HM.out, if_pos ⟨hq, ha⟩]
      clear HM
      have ha' : ((ack : Int) != (s.tell : Int)) = true := by simp; omega
      go_enter Try.func49, Try.ntmps49
      go_wp2_with fail
      refine (spend_on H.out).mono ?_
      rintro e x ⟨rfl, rfl⟩
      rw [hd]
      have K := Lib.hid (H.out.turnp (T := []) (Ft.refl B [] x) (by simp) [(4, .slice none 0 0)] { s with pend := [] } (A' := none) (c' := 0) (World.ownsRow_nil _ _ _ _) (fun V => rfl))
      clear hd hq
      go_wp2_with fail
      refine (sturntells_on K.out.1 HT.out).mono ?_
      rintro e y ⟨rfl, g1, g2⟩
      have K1 := Lib.hid g1
      have K2 := Lib.hid g2
      clear g1 g2
      go_wp2
      go_end0
      rw [HRR.out]
      exact ⟨rfl, K1.out, K.out.2.trans K2.out⟩
  · have HRR : Hid (r = s) := by show _ = _; rw [HM.out, if_neg (by omega)]
    have hd : decide (s.pend.length ≠ 0) = false := by simpa using hq
    clear HM
    go_enter Try.func49, Try.ntmps49
    go_wp2_with fail
    refine (spend_on H.out).mono ?_
    rintro e x ⟨rfl, rfl⟩
    rw [hd]
    go_wp2
    go_end0
    rw [HRR.out]
    exact ⟨rfl, H.out, Ft.refl _ _ _⟩

set_option maxRecDepth 20000 in
set_option maxHeartbeats 1600000 in
theorem soffer_on {w : World} {B D n c : Nat} {s : Sl} {l : List UInt8} {A : Option Addr} (h : Sv w B D s) (hBw : B ≤ w.heap.size) (hb : Hb w B A l) (hn : l.length = n) : Calls Try.prog 67 #[.pointer (some ⟨D, 0, none⟩), .slice A n c] w fun e w' => e = .returned (.int .i64 (offerS s l).2) ∧ Sv w' B D (offerS s l).1 ∧ Ft B [85] w w' := by
  have HM : Hid (offerS s l = if l.length = 0 ∨ 24 < l.length then (s, 1) else if s.pend.length ≠ 0 then (s, 5) else ({ s with pend := l }, 0)) := rfl
  have H := Lib.hid h
  have HHB := Lib.hid hb
  have HBW := Lib.hid hBw
  clear h hb hBw
  generalize hr : offerS s l = r at *
  clear hr
  rw [hn] at HM
  have HL := Lib.hid hn
  clear hn
  by_cases hb : n = 0 ∨ 24 < n
  · have HRR : Hid (r = (s, 1)) := by show _ = _; rw [HM.out, if_pos hb]
    clear HM
    by_cases hn0 : n = 0
    · subst hn0
      go_enter Try.func67, Try.ntmps67
      go_wp2
      go_ret
      rw [HRR.out]
      exact ⟨rfl, H.out, Ft.refl _ _ _⟩
    · have i1 : ((n : Int) == 0) = false := by simp; omega
      have i2 : (24 : Int) < (n : Int) := by omega
      go_enter Try.func67, Try.ntmps67
      go_wp2
      go_ret
      rw [HRR.out]
      exact ⟨rfl, H.out, Ft.refl _ _ _⟩
  · have i1 : ((n : Int) == 0) = false := by simp; omega
    have i2 : ¬ (24 : Int) < (n : Int) := by omega
    rw [if_neg hb] at HM
    by_cases hq : s.pend.length ≠ 0
    · have HRR : Hid (r = (s, 5)) := by show _ = _; rw [HM.out, if_pos hq]
      have hd : decide (s.pend.length ≠ 0) = true := by simpa using hq
      clear HM
      go_enter Try.func67, Try.ntmps67
      go_wp2_with fail
      refine (spend_on H.out).mono ?_
      rintro e x ⟨rfl, rfl⟩
      rw [hd]
      go_wp2
      go_ret
      rw [HRR.out]
      exact ⟨rfl, H.out, Ft.refl _ _ _⟩
    · have HRR : Hid (r = ({ s with pend := l }, 0)) := by show _ = _; rw [HM.out, if_neg hq]
      have hd : decide (s.pend.length ≠ 0) = false := by simpa using hq
      clear HM
      go_enter Try.func67, Try.ntmps67
      go_wp2_with fail
      refine (spend_on H.out).mono ?_
      rintro e x ⟨rfl, rfl⟩
      rw [hd]
      go_wp2_with fail
      obtain ⟨g, hh, _⟩ := HHB.out
      refine (clone_on hh HL.out (by omega)).mono ?_
      rintro e x1 ⟨A1, c1, rfl, ho1, hb1⟩
      rw [HL.out] at ho1 ⊢
      have H1 := Lib.hid (H.out.step hb1)
      have HO := Lib.hid (own_mono ho1 HBW.out)
      have HF := Lib.hid (Ft.of_below (B := B) (T := [85]) hb1)
      clear hh ho1 hb1 hd hq i1 i2 hb
      obtain ⟨A2, c2, hc⟩ := H1.out.sc
      have c4 := hc.c4
      have f4 := hc.fz 4
      have KK := Lib.hid (H1.out.turnp (T := []) (Ft.refl B [] x1) (by simp) [(4, .slice A1 n c1)] { s with pend := l } (A' := A1) (c' := c1) (by show World.ownsRow _ _ _ _ (.slice A1 l.length c1) l.length (bcs l); rw [HL.out]; exact HO.out) (fun V => by rw [← HL.out]; rfl))
      clear hc
      go_wp2
      go_ret
      rw [HRR.out]
      exact ⟨rfl, KK.out.1, HF.out.trans KK.out.2⟩

set_option maxRecDepth 20000 in
set_option maxHeartbeats 1600000 in
theorem sanswer_on {w : World} {B D k : Nat} {s : Sl} (h : Sv w B D s) : Calls Try.prog 47 #[.pointer (some ⟨D, 0, none⟩), .int .u8 (k : Int)] w fun e w' => e = .returned (.agg (fcs ⟨s.addr, k, s.ses, 0, 0, []⟩ (.slice none 0 0))) ∧ Below w.heap.size w w' := by
  have HB := Lib.hid (new_below w (.cells noFr 36))
  have H1 := Lib.hid (h.step HB.out)
  have HX : Hid (Fx (w.alloc (.cells noFr 36)) w.heap.size ⟨0, 0, 0, 0, 0, []⟩ (.slice none 0 0)) := heap_alloc_new w _
  clear h
  go_enter Try.func47, Try.ntmps47
  go_upto_region 1 with fail
  generalize w.alloc (.cells noFr 36) = x at *
  have HB2 : Hid (Below w.heap.size w x.drew) := HB.out.trans ((drew_below x).mono HB.out.size)
  have H2 := Lib.hid (H1.out.step (drew_below x))
  have HX2 := Lib.hid (HX.out.step (drew_below x))
  clear HB H1 HX
  obtain ⟨A, c, hc⟩ := H2.out.sc
  have c0 := hc.c0
  have c3 := hc.c3
  have hf := HX2.out.fc
  have r0 := hf.c0
  have r1 := hf.c1
  have r2 := hf.c2
  have r3 := hf.c3
  have r4 := hf.c4
  have r5 := hf.c5
  have q0 := hf.fz 0
  have q1 := hf.fz 1
  have q2 := hf.fz 2
  have q3 := hf.fz 3
  have q4 := hf.fz 4
  have q5 := hf.fz 5
  clear hc hf
  go_still_tail 11, (by kernel_rfl)
  change wpList _ _ _ _ _ x.drew
  generalize x.drew = y at *
  go_wp2
  obtain ⟨h1, h2⟩ := sets_row [(0, .int .u8 (s.addr : Int)), (1, .int .u8 (k : Int)), (2, .int .u8 (s.ses : Int)), (3, .int .u8 0), (4, .int .u8 0), (5, .slice none 0 0)] HX2.out
  refine bodyPost_ret (results_row rfl _ _ w.heap.size 36 _ _ rfl h1 frame_struct frame_size) rfl ?_
  exact ⟨rfl, HB2.out.trans (h2.belowAt (by simp) HB2.out.size)⟩

end Go.Proofs.Ytdcnmbglbopgdaa
