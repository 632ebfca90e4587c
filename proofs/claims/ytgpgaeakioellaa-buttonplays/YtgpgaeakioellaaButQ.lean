/-
  The document's buttons: Set and Pressed, as they stand: what they answer.
-/
import Derived.Test.YtgpgaeakioellaaButR
namespace Go.Proofs.Ytgpgaeakioellaa
set_option linter.unusedVariables false
set_option linter.unusedSimpArgs false
open Go.RowKit

abbrev Te10 : List TypeId := [33, 57]
theorem Ft.over {B : Nat} {T : List TypeId} {w x y : World} (h : Ft B T w x) (hb : Below w.heap.size x y) : Ft B T w y :=
  ⟨hb.os.trans h.os, hb.tape.trans h.tape, hb.output.trans h.output, Nat.le_trans h.size hb.size, fun k hk hc => (hb.block k hk).trans (h.block k hk hc)⟩
set_option maxRecDepth 20000 in
set_option maxHeartbeats 3200000 in
theorem rset_on {w : World} {R : Nat} {l : List Ev} {b now : Int} {d : Bool} (h : R10 w R l) (hm : l.length ≤ 100000) :
    Calls Try.prog 12 #[.pointer (some ⟨R, 0, none⟩), .int .i64 b, .bool d, .int .i64 now] w fun e w' =>
    e = .returned (.bool (decide (0 ≤ b ∧ b ≤ 3))) ∧ R10 w' R (if 0 ≤ b ∧ b ≤ 3 then l ++ [⟨b, false, d, now⟩] else l) ∧ Ft R Te10 w w' := by
  have HR := Lib.hid h
  by_cases hb : 0 ≤ b ∧ b ≤ 3
  rotate_left 1
  · rw [if_neg hb]
    have HD : Hid (decide (0 ≤ b ∧ b ≤ 3) = false) := Lib.hid (decide_eq_false hb)
    generalize decide (0 ≤ b ∧ b ≤ 3) = r at *
    clear h
    by_cases h0 : b < 0
    · clear hb
      go_enter Try.func12, Try.ntmps12
      go_wp2
      go_ret
      exact ⟨by rw [HD.out]; rfl, HR.out, Ft.refl _ _ _⟩
    · have h3 : (3 : Int) < b := by omega
      clear hb
      go_enter Try.func12, Try.ntmps12
      go_wp2
      go_ret
      exact ⟨by rw [HD.out]; rfl, HR.out, Ft.refl _ _ _⟩
  · rw [if_pos hb, decide_eq_true hb]
    have h0 : ¬ b < 0 := by omega
    have h3 : ¬ (3 : Int) < b := by omega
    obtain ⟨A, c, hp⟩ := h.pre ⟨b, false, d, now⟩
    have HP := Lib.hid hp
    have c0 := hp.cell
    have HM : Hid (l.length + 1 ≤ maxLen ∧ (l.length + 1) * 24 ≤ 140737488355328) := Lib.hid ⟨by unfold maxLen; omega, by omega⟩
    obtain ⟨i0, hi0, hz0, hz1, hz2⟩ := info_parts info_event
    clear h hb hp hm
    go_enter Try.func12, Try.ntmps12
    go_wp2_with (first
      | (at_builtin; refine wpList_append_wide rfl (.tmp 19) (.tmp 24) 31 rfl R 57 i0 (.agg #[.int .i64 0, .bool false, .bool false, .int .i64 0]) 4 24 Try.underlying31 hi0 hz0 hz1 hz2 rfl (by decide) _ l.length (evc l) rfl HP.out.own w.heap.size (some ⟨w.heap.size, 0, none⟩) 1 1 (evc1 ⟨b, false, d, now⟩) rfl rfl HP.out.new (by intro u hu; simp [evc1] at hu; rcases hu with rfl | rfl | rfl | rfl <;> rfl) HM.out.1 HM.out.2 HP.out.le ?_)
      | (refine wpList_plain rfl fun K hK => wp_oneEv (.tmp 23) rfl (e := ⟨b, false, d, now⟩) rfl (hK _ _ ?_)))
    intro A5 c5 x5 ho5 hg5
    obtain ⟨q1, q2, q3, q4⟩ := HP.out.post ho5 hg5
    have HQ3 := Lib.hid q3
    have HQ4 := Lib.hid q4
    clear ho5 hg5 q3 q4 hi0 hz0 hz1 hz2 c0
    go_wp2
    go_ret
    exact ⟨rfl, HQ3.out, HQ4.out⟩

theorem b64_diff {s n : Int} (hs : BI s) (hn : BI n) (h : s ≤ n) : (n % 18446744073709551616 - s % 18446744073709551616) % 18446744073709551616 = n - s := by
  rw [← Int.sub_emod]
  obtain ⟨h1, h2⟩ := hs
  obtain ⟨h3, h4⟩ := hn
  exact Int.emod_eq_of_lt (by omega) (by omega)
/-- The buttons that events tell. -/
def gE (l : List Ev) : Bs := fun k => evs l (k : Int)
theorem info_int : (Try.prog.info? 3).map (fun i => (i.zero, i.size, i.bytes)) = some (some (.int .i64 0), 1, 8) := by kernel_rfl
theorem dueL_yes {f : Bs} {now : Int} {n : Nat} (h : (f n).due now = true) : dueL f now (n + 1) = dueL f now n ++ [n] := if_pos h
theorem dueL_no {f : Bs} {now : Int} {n : Nat} (h : (f n).due now = false) : dueL f now (n + 1) = dueL f now n := if_neg (by rw [h]; decide)
theorem toldE_yes {f : Bs} {now : Int} {n : Nat} (h : (f n).due now = true) : toldE f now (n + 1) = toldE f now n ++ [⟨(n : Int), true, false, 0⟩] := by rw [toldE_succ, if_pos h]
theorem toldE_no {f : Bs} {now : Int} {n : Nat} (h : (f n).due now = false) : toldE f now (n + 1) = toldE f now n := by rw [toldE_succ, if_neg (by rw [h]; decide)]
set_option maxRecDepth 20000 in
set_option maxHeartbeats 6400000 in
theorem rpressed_on {w : World} {R : Nat} {l : List Ev} {now : Int} (h : R10 w R l) (hm : l.length ≤ 50000) (hl : ∀ v ∈ l, BI v.n) (hn : BI now) :
    Calls Try.prog 15 #[.pointer (some ⟨R, 0, none⟩), .int .i64 now] w fun e w' =>
    ∃ A c, e = .returned (.slice A (dueL (gE l) now 4).length c) ∧ Ir w' w.heap.size (dueL (gE l) now 4).length A c (dueL (gE l) now 4) ∧ R10 w' R (l ++ toldE (gE l) now 4) ∧ Ft R Te10 w w' := by
  have HM := Lib.hid hm
  have HL := Lib.hid hl
  have HN := Lib.hid hn
  have hb1 := new_below w (.cells #[] 3)
  have HR0 : Hid (R10 (w.alloc (.cells #[] 3)) R (l ++ toldE (gE l) now 0)) := by
    have : l ++ toldE (gE l) now 0 = l := by unfold toldE dueL; simp
    show R10 _ _ _
    rw [this]
    exact h.step hb1
  have HF0 : Hid (Ft R Te10 w (w.alloc (.cells #[] 3))) := Lib.hid (Ft.of_below hb1)
  have HI0 : Hid (Ir (w.alloc (.cells #[] 3)) w.heap.size 0 (some ⟨w.heap.size, 0, none⟩) 0 (dueL (gE l) now 0)) := Lib.hid ⟨World.ownsRow_made (base := w.heap.size) (e := 3) (size := 1) w #[] 0 (Nat.le_refl _) (Nat.zero_le _) rfl, rfl⟩
  obtain ⟨i0, hi0, hz0, hz1, hz2⟩ := info_parts info_event
  obtain ⟨j0, hj0, hy0, hy1, hy2⟩ := info_parts info_int
  have HIN := Lib.hid (And.intro hi0 (And.intro hz0 (And.intro hz1 (And.intro hz2 (And.intro hj0 (And.intro hy0 (And.intro hy1 hy2)))))))
  clear h hm hl hn hb1 hi0 hz0 hz1 hz2 hj0 hy0 hy1 hy2
  go_enter Try.func15, Try.ntmps15
  go_wp2
  generalize w.alloc (.cells #[] 3) = x1 at *
  generalize hB : w.heap.size = B at *
  have HBE := Lib.hid hB
  clear hB
  go_loopw [5, 6] (fun ov nv wr => ∃ (n : Nat) (A : Option Addr) (c : Nat), n ≤ 4 ∧ ov = .slice A (dueL (gE l) now n).length c ∧ nv = .int .i64 n ∧ Hid (Ir wr B (dueL (gE l) now n).length A c (dueL (gE l) now n)) ∧ Hid (R10 wr R (l ++ toldE (gE l) now n)) ∧ Hid (Ft R Te10 w wr)) (fun _ nv _ => 4 - (intOf nv).toNat)
  case atStart => exact ⟨0, _, 0, Nat.zero_le _, rfl, rfl, HI0, HR0, HF0⟩
  case round =>
    clear HI0 HR0 HF0 x1
    obtain ⟨n, A, c, hn4, rfl, rfl, HI, HR, HF⟩ := hrel
    rename World => y0
    by_cases hlt : n < 4
    · have hlt1 : (n : Int) < 4 := by omega
      have HLN : Hid ((l ++ toldE (gE l) now n).length ≤ 50004) := Lib.hid (by have := HM.out; have := toldE_len (gE l) now n; rw [List.length_append]; omega)
      have HDN : Hid ((dueL (gE l) now n).length ≤ 4) := Lib.hid (by have := dueL_len (gE l) now n; omega)
      have HEV : Hid (evs (l ++ toldE (gE l) now n) (n : Int) = gE l n) := Lib.hid (told_far (by omega))
      have HBS : Hid (BI (gE l n).s) := Lib.hid (evs_s HL.out _)
      go_wp2_with fail
      refine (rsince_on HR.out (by have := HLN.out; omega)).mono ?_
      rintro e y1 ⟨rfl, hb1⟩
      rw [HEV.out]
      replace HI := Lib.hid (HI.out.step hb1)
      replace HR := Lib.hid (HR.out.step hb1)
      replace HF := Lib.hid (HF.out.trans (Ft.of_below hb1))
      clear hb1 HEV
      have HDU : Hid ((gE l n).due now = ((gE l n).d && !(gE l n).t && decide ((gE l n).s + 3 ≤ now))) := Lib.hid rfl
      have HYE := Lib.hid (dueL_yes (f := gE l) (now := now) (n := n))
      have HNO := Lib.hid (dueL_no (f := gE l) (now := now) (n := n))
      have HTY := Lib.hid (toldE_yes (f := gE l) (now := now) (n := n))
      have HTN := Lib.hid (toldE_no (f := gE l) (now := now) (n := n))
      generalize (gE l n).due now = du at *
      generalize (gE l n).d = bd at *
      generalize (gE l n).t = bt at *
      generalize (gE l n).s = bs at *
      generalize dueL (gE l) now n = L at *
      generalize toldE (gE l) now n = T at *
      go_upto_region 6 with fail
      go_cut [39] (fun v z => v = .bool du ∧ z = y1)
      case first =>
        cases bd with
        | false =>
          have hdu := HDU.out
          subst hdu
          go_wp2
          go_meet
          case rel => exact ⟨rfl, rfl⟩
        | true =>
          cases bt with
          | true =>
            have hdu := HDU.out
            subst hdu
            go_wp2
            go_meet
            case rel => exact ⟨rfl, rfl⟩
          | false =>
            by_cases hle : bs ≤ now
            · have hu := b64_diff HBS.out HN.out hle
              obtain ⟨u1, h1⟩ : ∃ u1, now % 18446744073709551616 = u1 := ⟨_, rfl⟩
              obtain ⟨u2, h2⟩ : ∃ u2, bs % 18446744073709551616 = u2 := ⟨_, rfl⟩
              rw [h1, h2] at hu
              obtain ⟨dd, hd2⟩ : ∃ dd, now - bs = dd := ⟨_, rfl⟩
              rw [hd2] at hu
              have hw1 : IntKind.u64.wrap now = u1 := by rw [← h1]; rfl
              have hw2 : IntKind.u64.wrap bs = u2 := by rw [← h2]; rfl
              have hw3 : IntKind.u64.wrap (u1 - u2) = dd := by rw [← hu]; rfl
              have HQ : Hid (du = decide (3 ≤ dd)) := by
                show _ = _
                rw [HDU.out]
                have : (bs + 3 ≤ now) ↔ 3 ≤ dd := by omega
                simp [this]
              clear hd2 HDU
              go_wp2
              go_meet
              case rel => exact ⟨by rw [HQ.out], rfl⟩
            · have HQ : Hid (du = false) := by
                show _ = _
                rw [HDU.out]
                have : ¬ (bs + 3 ≤ now) := by omega
                simp [this]
              have hlt2 : now < bs := by omega
              clear HDU
              go_wp2
              go_meet
              case rel => exact ⟨by rw [HQ.out], rfl⟩
      case rest =>
        obtain ⟨rfl, hz⟩ := hcut
        subst hz
        rename World => y1
        clear HDU HBS
        cases du with
        | false =>
          have HI2 : Hid (Ir y1 B (dueL (gE l) now (n + 1)).length A c (dueL (gE l) now (n + 1))) := by show Ir _ _ _ _ _ _; rw [HNO.out rfl]; exact HI.out
          have HR2 : Hid (R10 y1 R (l ++ toldE (gE l) now (n + 1))) := by show R10 _ _ _; rw [HTN.out rfl]; exact HR.out
          have HLQ : Hid ((dueL (gE l) now (n + 1)).length = L.length) := by show _ = _; rw [HNO.out rfl]
          clear HI HR HYE HNO HTY HTN
          go_wp2
          go_roundw
          case rel => exact ⟨n + 1, A, c, by omega, by rw [HLQ.out], by go_num, HI2, HR2, HF⟩
          case measure => simp [intOf]; omega
        | true =>
          obtain ⟨E, hE⟩ : ∃ E, l ++ T = E := ⟨_, rfl⟩
          rw [hE] at HR HLN
          have HEE := Lib.hid hE
          clear hE
          have hi3 := new_below y1 (.cells #[.int .i64 (n : Int)] 3)
          have HO7 := Lib.hid (HI.out.step hi3).own
          have HH7 : Hid (Holds (y1.alloc (.cells #[.int .i64 (n : Int)] 3)) y1.heap.size (some ⟨y1.heap.size, 0, none⟩) [.int .i64 (n : Int)]) := Lib.hid (Holds.of_row (cs := [.int .i64 (n : Int)]) (heap_alloc_new y1 _))
          have HBY : Hid (B ≤ (y1.alloc (.cells #[.int .i64 (n : Int)] 3)).heap.size) := Lib.hid (by have h1 := HF.out.size; rw [HBE.out] at h1; exact Nat.le_trans h1 hi3.size)
          have HR7 := Lib.hid (HR.out.step hi3)
          have HF7 := Lib.hid (HF.out.trans (Ft.of_below hi3))
          have HMX : Hid (L.length + 1 ≤ maxLen ∧ (L.length + 1) * 8 ≤ 140737488355328) := Lib.hid ⟨by have := HDN.out; unfold maxLen; omega, by have := HDN.out; omega⟩
          have HLL : Hid (L.length = (L ++ [n]).length - 1) := Lib.hid (by simp)
          clear hi3 HR HF
          go_wp2_with (at_builtin; refine wpList_append_wide rfl (.tmp 40) (.tmp 42) 39 rfl B 3 j0 (.int .i64 0) 1 8 Try.underlying39 HIN.out.2.2.2.2.1 HIN.out.2.2.2.2.2.1 HIN.out.2.2.2.2.2.2.1 HIN.out.2.2.2.2.2.2.2 rfl (by decide) _ L.length (ics L) rfl HO7.out y1.heap.size (some ⟨y1.heap.size, 0, none⟩) 1 1 [.int .i64 (n : Int)] rfl rfl HH7.out (by intro u hu; simp at hu; subst hu; rfl) HMX.out.1 HMX.out.2 HBY.out ?_)
          intro A8 c8 x8 ho8 hg8
          have hft8 := ft_grown HO7.out hg8
          have HR8 := Lib.hid (HR7.out.ft hft8 (by decide) (by decide))
          have HF8 : Hid (Ft R Te10 w x8) := Lib.hid (HF7.out.over (by rw [HBE.out]; exact hft8.below HBY.out))
          have HI8 : Hid (Ir x8 B (L.length + 1) A8 c8 (L ++ [n])) := Lib.hid ⟨by rw [ics_append]; exact ho8, by simp⟩
          clear ho8 hg8 hft8 HI HO7 HH7 HBY HR7 HF7 HMX
          obtain ⟨A3, c3, hp⟩ := HR8.out.pre ⟨(n : Int), true, false, 0⟩
          have HP := Lib.hid hp
          have c0 := hp.cell
          have HMY : Hid (E.length + 1 ≤ maxLen ∧ (E.length + 1) * 24 ≤ 140737488355328) := Lib.hid ⟨by have := HLN.out; unfold maxLen; omega, by have := HLN.out; omega⟩
          clear hp
          go_wp2_with (first
            | (at_builtin; refine wpList_append_wide rfl (.tmp 48) (.tmp 51) 31 rfl R 57 i0 (.agg #[.int .i64 0, .bool false, .bool false, .int .i64 0]) 4 24 Try.underlying31 HIN.out.1 HIN.out.2.1 HIN.out.2.2.1 HIN.out.2.2.2.1 rfl (by decide) _ E.length (evc E) rfl HP.out.own x8.heap.size (some ⟨x8.heap.size, 0, none⟩) 1 1 (evc1 ⟨(n : Int), true, false, 0⟩) rfl rfl HP.out.new (by intro u hu; simp [evc1] at hu; rcases hu with rfl | rfl | rfl | rfl <;> rfl) HMY.out.1 HMY.out.2 HP.out.le ?_)
            | (refine wpList_plain rfl fun K hK => wp_oneEv (.tmp 50) rfl (e := ⟨(n : Int), true, false, 0⟩) rfl (hK _ _ ?_)))
          intro A5 c5 x5 ho5 hg5
          obtain ⟨q1, q2, q3, q4⟩ := HP.out.post ho5 hg5
          have HI2 : Hid (Ir (x5.setCell ⟨R, 0, none⟩ (.slice A5 (E.length + 1) c5)) B (dueL (gE l) now (n + 1)).length A8 c8 (dueL (gE l) now (n + 1))) := by
            show Ir _ _ _ _ _ _
            rw [HYE.out trivial, List.length_append]
            exact HI8.out.ft q4 (by decide)
          have HR2 : Hid (R10 (x5.setCell ⟨R, 0, none⟩ (.slice A5 (E.length + 1) c5)) R (l ++ toldE (gE l) now (n + 1))) := by
            show R10 _ _ _
            rw [HTY.out trivial, ← List.append_assoc, HEE.out]
            exact q3
          have HF2 := Lib.hid (HF8.out.trans q4)
          have HLQ : Hid ((dueL (gE l) now (n + 1)).length = L.length + 1) := by show _ = _; rw [HYE.out trivial]; simp
          clear ho5 hg5 q3 q4 c0 HP HI8 HR8 HF8 HMY HYE HNO HTY HTN HLN
          go_wp2
          go_roundw
          case rel => exact ⟨n + 1, A8, c8, by omega, by rw [HLQ.out], by go_num, HI2, HR2, HF2⟩
          case measure => simp [intOf]; omega
    · have hkn : n = 4 := by omega
      subst hkn
      go_wp2
      go_ret
      rw [HBE.out]
      exact ⟨A, c, rfl, HI.out, HR.out, HF.out⟩
end Go.Proofs.Ytgpgaeakioellaa
