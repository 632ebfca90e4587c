/-
  The program's poll: who was left alone the longest; the closure that goes round the row; Next: what they answer.
-/
import Derived.Test.YtkghbdikbbeoaaaPolKa
namespace Go.Proofs.Ytkghbdikbbeoaaa
set_option linter.unusedVariables false
set_option linter.unusedSimpArgs false
open Go.RowKit

theorem kbest_succ (l : List Pe) (now : Int) (i : Nat) : bestN l now (i + 1) = if ((pe l i).due now && sooner l i (bestN l now i)) = true then some i else bestN l now i := rfl
set_option maxRecDepth 20000 in
set_option maxHeartbeats 3200000 in
theorem klongest_on {w : World} {L U D g c : Nat} {q : Po} {now : Int} {A : Option Addr} (h : Ko w L U D q A g c) (hok : q.Ok) (hn : I64 now) : Calls Try.prog 24 #[.pointer (some ⟨D, 0, none⟩), .int .i64 now] w fun e w' =>
    e = .returned (ptrP g (bestN q.l now q.l.length)) ∧ Ko w' L U D q A g c ∧ Below w.heap.size w w' := by
  have HOK := Lib.hid hok
  have HNW := Lib.hid hn
  have H0 := Lib.hid h
  have HB0 : Hid (Below w.heap.size w w) := Lib.hid (Below.refl _ _)
  have c0 := h.c0
  obtain ⟨n, hln⟩ : ∃ n, q.l.length = n := ⟨_, rfl⟩
  rw [hln] at c0
  have HN := Lib.hid hln
  have HN40 : Hid (n ≤ 40) := Lib.hid (by have := hok.len; omega)
  rw [hln]
  clear h hok hn hln
  go_enter Try.func24, Try.ntmps24
  go_wp2
  go_loopw [5, 13] (fun bv iv wr => ∃ (i : Nat), i ≤ n ∧ bv = ptrP g (bestN q.l now i) ∧ iv = .int .i64 i ∧ Hid (Ko wr L U D q A g c) ∧ Hid (Below w.heap.size w wr)) (fun _ iv _ => n - (intOf iv).toNat)
  case atStart => exact ⟨0, Nat.zero_le _, rfl, rfl, H0, HB0⟩
  case round =>
    clear H0 HB0 c0
    obtain ⟨i, hi, rfl, rfl, H, HBW⟩ := hrel
    rename World => x
    by_cases hlt : i < n
    · have hil : i < q.l.length := by rw [HN.out]; exact hlt
      have hlt1 : (i : Int) < (n : Int) := by omega
      obtain ⟨rfl, _, _, hrow⟩ := H.out.row (by omega)
      have c0 : x.cell? ⟨D, 0, none⟩ = some (.slice (some ⟨g, 0, none⟩) n c) := by rw [← HN.out]; exact H.out.c0
      have hcap : n ≤ c := by have := hrow.cap; rw [HN.out] at this; exact this
      have HPR := Lib.hid hrow
      have hn40 := HN40.out
      have HTI : Hid (I64 (pe q.l i).t) := Lib.hid (HOK.out.ts _ (pe_mem hil))
      have HB : Hid (bestN q.l now (i + 1) = if ((pe q.l i).due now && sooner q.l i (bestN q.l now i)) = true then some i else bestN q.l now i) := Lib.hid (kbest_succ q.l now i)
      have HBL : Hid (∀ b, bestN q.l now i = some b → b < n) := Lib.hid (fun b hb => by have := bestN_lt hb; omega)
      generalize bestN q.l now i = bo at *
      generalize hbe : bestN q.l now (i + 1) = bn at *
      have HBE := Lib.hid hbe
      obtain ⟨sn, hsn⟩ : ∃ sn, sooner q.l i bo = sn := ⟨_, rfl⟩
      rw [hsn] at HB
      have HSN := Lib.hid hsn
      obtain ⟨du, hdu⟩ : ∃ du, (pe q.l i).due now = du := ⟨_, rfl⟩
      rw [hdu] at HB
      have HDU := Lib.hid hdu
      clear hbe hsn hdu hil hrow
      go_upto_region 6 with fail
      go_cut [39] (fun v z => v = .bool (du && sn) ∧ Hid (Ko z L U D q (some ⟨g, 0, none⟩) g c) ∧ Hid (Below w.heap.size w z))
      case first =>
        have HD := Lib.hid (drew_below x)
        replace H := Lib.hid (H.out.step HD.out)
        replace HBW := Lib.hid (HBW.out.trans (HD.out.mono HBW.out.size))
        replace HPR := Lib.hid (HPR.out.step HD.out)
        clear HD c0
        have hil : i < q.l.length := by rw [HN.out]; exact hlt
        have e2 := (HPR.out.cell hil).2.2
        have HE1 := Lib.hid (HPR.out.cell hil).2.1
        have HE2 := Lib.hid e2
        cases bo with
        | none =>
          refine region_plan [(true, 0), (true, 1), (false, 2), (true, 3), (true, 4), (true, 5), (true, 6), (true, 7), (true, 8), (true, 9), (true, 10), (true, 11), (true, 12), (true, 13), (true, 14), (true, 15), (true, 16), (true, 17)]
            (fun z => z.cell? ⟨g, i * 3 + 2, none⟩ = some (.int .i64 (pe q.l i).t)) (by kernel_rfl) (by kernel_rfl) (by kernel_rfl) rfl e2 ?_
          clear e2
          generalize x.drew = y1 at *
          have hsn : sn = true := HSN.out.symm
          subst hsn
          simp only [ptrP]
          iterate 2 (refine Plan.take (v := ?_) rfl (by rfl) ?_ ?_; rotate_left 1; (focus (intro x hx; go_simp <;> (first | with_reducible rfl | rw [if_pos (by omega)]))); simp only [Act.put, List.setIfInBounds_toArray, List.set_cons_zero, List.set_cons_succ])
          refine Plan.loud rfl (fun K hK => ?_)
          go_simp
          refine (kdue_on (e := pe q.l i) HE1.out HE2.out HTI.out HNW.out).mono ?_
          rintro e y2 ⟨rfl, rfl⟩
          rw [HDU.out]
          refine hK.out _ _ _ (fun x hx => hx) HE2.out ?_
          clear hK K
          cases du
          all_goals
            iterate 15 (first | (refine Plan.take (v := ?_) rfl (by rfl) ?_ ?_; rotate_left 1; (focus (intro x hx; go_simp <;> (first | with_reducible rfl | rw [if_pos (by omega)]))); simp only [Act.put, List.setIfInBounds_toArray, List.set_cons_zero, List.set_cons_succ]) | (refine Plan.skip rfl (by rfl) ?_; simp only [Act.put, List.setIfInBounds_toArray, List.set_cons_zero, List.set_cons_succ]))
            refine Plan.done ?_
            go_wp2
            go_meet
            case rel => exact ⟨rfl, H, HBW⟩
        | some b =>
          have hbn := HBL.out b rfl
          have hbl : b < q.l.length := by rw [HN.out]; exact hbn
          have f2 : x.drew.cell? ⟨g, b * 3 + 2, none⟩ = some (.int .i64 (pe q.l b).t) := (HPR.out.cell hbl).2.2
          refine region_plan [(true, 0), (true, 1), (false, 2), (true, 3), (true, 4), (true, 5), (true, 6), (true, 7), (true, 8), (true, 9), (true, 10), (true, 11), (true, 12), (true, 13), (true, 14), (true, 15), (true, 16), (true, 17)]
            (fun z => z.cell? ⟨g, i * 3 + 2, none⟩ = some (.int .i64 (pe q.l i).t) ∧ z.cell? ⟨g, b * 3 + 2, none⟩ = some (.int .i64 (pe q.l b).t)) (by kernel_rfl) (by kernel_rfl) (by kernel_rfl) rfl ⟨e2, f2⟩ ?_
          have HF2 := Lib.hid f2
          clear e2 f2
          generalize x.drew = y1 at *
          have HSD : Hid (sn = decide ((pe q.l i).t < (pe q.l b).t)) := HSN.out.symm
          simp only [ptrP]
          iterate 2 (refine Plan.take (v := ?_) rfl (by rfl) ?_ ?_; rotate_left 1; (focus (intro x hx; go_simp <;> (first | with_reducible rfl | rw [if_pos (by omega)]))); simp only [Act.put, List.setIfInBounds_toArray, List.set_cons_zero, List.set_cons_succ])
          refine Plan.loud rfl (fun K hK => ?_)
          go_simp
          refine (kdue_on (e := pe q.l i) HE1.out HE2.out HTI.out HNW.out).mono ?_
          rintro e y2 ⟨rfl, rfl⟩
          rw [HDU.out]
          refine hK.out _ _ _ (fun x hx => hx) ⟨HE2.out, HF2.out⟩ ?_
          clear hK K HSN HDU HB HTI HE1 HE2 HF2 HPR
          clear hbl hbn HBL hil
          obtain ⟨ti, hti⟩ : ∃ ti, (pe q.l i).t = ti := ⟨_, rfl⟩
          obtain ⟨tb, htb⟩ : ∃ tb, (pe q.l b).t = tb := ⟨_, rfl⟩
          rw [hti, htb] at HSD ⊢
          clear hti htb
          cases du
          all_goals
            iterate 15 (first | (refine Plan.take (v := ?_) rfl (by rfl) ?_ ?_; rotate_left 1; (focus (intro x hx; go_simp <;> (first | with_reducible rfl | rw [if_pos (by omega)]))); simp only [Act.put, List.setIfInBounds_toArray, List.set_cons_zero, List.set_cons_succ]) | (refine Plan.skip rfl (by rfl) ?_; simp only [Act.put, List.setIfInBounds_toArray, List.set_cons_zero, List.set_cons_succ]))
            refine Plan.done ?_
            go_wp2
            go_meet
            case rel => exact ⟨by first | rfl | (rw [HSD.out]; rfl), H, HBW⟩
      case rest =>
        clear c0 H HBW HPR HTI HSN HDU
        obtain ⟨rfl, H, HBW⟩ := hcut
        rename World => z
        cases hcc : (du && sn) with
        | true =>
          have HBN : Hid (bn = some i) := by show _ = _; rw [HB.out, hcc, if_pos rfl]
          clear hcc HB
          go_wp2
          go_roundw
          case rel => exact ⟨i + 1, by omega, by rw [HBE.out, HBN.out]; rfl, by go_num, H, HBW⟩
          case measure => simp [intOf]; omega
        | false =>
          have HBN : Hid (bn = bo) := by show _ = _; rw [HB.out, hcc]; rfl
          clear hcc HB
          go_wp2
          go_roundw
          case rel => exact ⟨i + 1, by omega, by rw [HBE.out, HBN.out], by go_num, H, HBW⟩
          case measure => simp [intOf]; omega
    · have hkn : n = i := by omega
      subst hkn
      go_wp2
      go_ret
      exact ⟨rfl, H.out, HBW.out⟩
end Go.Proofs.Ytkghbdikbbeoaaa
