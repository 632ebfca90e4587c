/-
  The program's buttons: what Pressed and Reset answer.
-/
import Derived.Test.YtdcnmbglbopgdaaButKa
namespace Go.Proofs.Ytdcnmbglbopgdaa
set_option linter.unusedVariables false
set_option linter.unusedSimpArgs false
open Go.RowKit

theorem kb64_diff {s n : Int} (hs : BI s) (hn : BI n) (h : s ≤ n) : (n % 18446744073709551616 - s % 18446744073709551616) % 18446744073709551616 = n - s := by
  rw [← Int.sub_emod]
  obtain ⟨h1, h2⟩ := hs
  obtain ⟨h3, h4⟩ := hn
  exact Int.emod_eq_of_lt (by omega) (by omega)
theorem kinfo_int : (Try.prog.info? 3).map (fun i => (i.zero, i.size, i.bytes)) = some (some (.int .i64 0), 1, 8) := by kernel_rfl
set_option maxRecDepth 20000 in
set_option maxHeartbeats 1600000 in
theorem kbdue_on {w : World} {D k : Nat} {e : Bt} {n : Int} (hd : w.cell? ⟨D, k * 3, none⟩ = some (.bool e.d)) (ht : w.cell? ⟨D, k * 3 + 1, none⟩ = some (.bool e.t)) (hc : w.cell? ⟨D, k * 3 + 2, none⟩ = some (.int .i64 e.s)) (hs : BI e.s) (hn : BI n) :
    Calls Try.prog 40 #[.pointer (some ⟨D, k * 3, none⟩), .int .i64 n] w fun r w' => r = .returned (.bool (e.due n)) ∧ w' = w := by
  unfold Bt.due
  obtain ⟨d, s, t⟩ := e
  simp only at hd ht hc hs ⊢
  cases d with
  | false =>
    clear hs hn
    go_enter Try.func40, Try.ntmps40
    go_wp2
    go_ret
    exact ⟨rfl, rfl⟩
  | true =>
    cases t with
    | true =>
      clear hs hn
      go_enter Try.func40, Try.ntmps40
      go_wp2
      go_ret
      exact ⟨rfl, rfl⟩
    | false =>
      by_cases h : n < s
      · have hdd : Hid (decide (s + 3 ≤ n) = false) := by show _ = _; simp; omega
        generalize decide (s + 3 ≤ n) = r at *
        have hle : ¬ s ≤ n := by omega
        clear hs hn h
        go_enter Try.func40, Try.ntmps40
        go_wp2
        go_ret
        exact ⟨by rw [hdd.out]; rfl, rfl⟩
      · have hu := kb64_diff hs hn (by omega)
        have hle : s ≤ n := by omega
        obtain ⟨u1, h1⟩ : ∃ u1, n % 18446744073709551616 = u1 := ⟨_, rfl⟩
        obtain ⟨u2, h2⟩ : ∃ u2, s % 18446744073709551616 = u2 := ⟨_, rfl⟩
        rw [h1, h2] at hu
        obtain ⟨d, hd2⟩ : ∃ d, n - s = d := ⟨_, rfl⟩
        rw [hd2] at hu
        have hw1 : IntKind.u64.wrap n = u1 := by rw [← h1]; rfl
        have hw2 : IntKind.u64.wrap s = u2 := by rw [← h2]; rfl
        have hw3 : IntKind.u64.wrap (u1 - u2) = d := by rw [← hu]; rfl
        have he : decide (s + 3 ≤ n) = decide (3 ≤ d) := by
          have : (s + 3 ≤ n) ↔ 3 ≤ d := by omega
          simp [this]
        rw [he]
        clear he hs hn hd2 h
        go_enter Try.func40, Try.ntmps40
        go_wp2
        go_ret
        exact ⟨rfl, rfl⟩

theorem kft_grown {w w' : World} {B n size : Nat} {e : TypeId} {v : Value} {xs : List Value} (h : w.ownsRow B e size v n xs) (hg : w.grownBy w' v.ownBlock) : Ft B [e] w w' :=
  ⟨hg.os, hg.tape, hg.output, hg.size, fun k hk hb => hg.block k hk (fun heq => by
    rcases h.2 with ⟨rfl, _⟩ | ⟨g, cap, cur, rfl, h1, h2, _⟩
    · simp [Value.ownBlock] at heq
    · simp [Value.ownBlock] at heq
      subst heq
      rcases hb with hb | hb
      · omega
      · exact hb ⟨cur, e, (0, 0), h2, by simp⟩)⟩
def tellQ (e : Bt) (now : Int) : Bt := if e.due now then ⟨true, 0, true⟩ else e
/-- The buttons behind Pressed, as far as n. -/
def midQ (q : Bs) (now : Int) (n : Nat) : Bs := fun k => if k < n then tellQ (q k) now else q k
theorem midQ_zero (q : Bs) (now : Int) : midQ q now 0 = q := by funext k; unfold midQ; rw [if_neg (by omega)]
theorem midQ_at (q : Bs) (now : Int) (n : Nat) : midQ q now n n = q n := if_neg (by omega)
theorem midQ_yes {q : Bs} {now : Int} {n : Nat} (h : (q n).due now = true) : midQ q now (n + 1) = upB (midQ q now n) n ⟨true, 0, true⟩ := by
  funext k
  unfold midQ upB
  show (if k < n + 1 then tellQ (q k) now else q k) = if k = n then _ else if k < n then tellQ (q k) now else q k
  by_cases hk : k = n
  · subst hk
    rw [if_pos (by omega), if_pos rfl]
    exact if_pos h
  · rw [if_neg hk]
    by_cases hl : k < n
    · rw [if_pos (by omega), if_pos hl]
    · rw [if_neg (by omega), if_neg hl]
theorem midQ_no {q : Bs} {now : Int} {n : Nat} (h : (q n).due now = false) : midQ q now (n + 1) = midQ q now n := by
  funext k
  unfold midQ
  by_cases hk : k = n
  · subst hk
    rw [if_pos (by omega), if_neg (by omega)]
    exact if_neg (by rw [h]; decide)
  · by_cases hl : k < n
    · rw [if_pos (by omega), if_pos hl]
    · rw [if_neg (by omega), if_neg hl]
theorem kdueL_yes {f : Bs} {now : Int} {n : Nat} (h : (f n).due now = true) : dueL f now (n + 1) = dueL f now n ++ [n] := if_pos h
theorem kdueL_no {f : Bs} {now : Int} {n : Nat} (h : (f n).due now = false) : dueL f now (n + 1) = dueL f now n := if_neg (by rw [h]; decide)

set_option maxRecDepth 20000 in
set_option maxHeartbeats 6400000 in
theorem kpressed_on {w : World} {D : Nat} {q : Bs} {now : Int} (h : Kb w D q) (hq : BOk q) (hn : BI now) :
    Calls Try.prog 18 #[.pointer (some ⟨D, 0, none⟩), .int .i64 now] w fun e y =>
    ∃ A c, e = .returned (.slice A (dueL q now 4).length c) ∧ Ir y w.heap.size (dueL q now 4).length A c (dueL q now 4) ∧ Kb y D (midQ q now 4) ∧ Ch [D] w y := by
  have HQ := Lib.hid hq
  have HN := Lib.hid hn
  have HD0 : Hid (D < w.heap.size) := Lib.hid h.lt
  have HR0 : Hid (Kb w D (midQ q now 0)) := by show Kb _ _ _; rw [midQ_zero]; exact h
  have HF0 : Hid (Ch [D] w w) := Lib.hid (Ch.refl _ _)
  have HI0 : Hid (Ir w w.heap.size 0 none 0 (dueL q now 0)) := Lib.hid ⟨World.ownsRow_nil _ _ _ _, rfl⟩
  obtain ⟨j0, hj0, hy0, hy1, hy2⟩ := info_parts kinfo_int
  have HIN := Lib.hid (And.intro hj0 (And.intro hy0 (And.intro hy1 hy2)))
  clear h hq hn hj0 hy0 hy1 hy2
  go_enter Try.func18, Try.ntmps18
  go_wp2
  generalize hB : w.heap.size = B at *
  have HBE := Lib.hid hB
  clear hB
  go_loopw [5, 8] (fun ov nv wr => ∃ (n : Nat) (A : Option Addr) (c : Nat), n ≤ 4 ∧ ov = .slice A (dueL q now n).length c ∧ nv = .int .i64 n ∧ Hid (Ir wr B (dueL q now n).length A c (dueL q now n)) ∧ Hid (Kb wr D (midQ q now n)) ∧ Hid (Ch [D] w wr)) (fun _ nv _ => 4 - (intOf nv).toNat)
  case atStart => exact ⟨0, none, 0, Nat.zero_le _, rfl, rfl, HI0, HR0, HF0⟩
  case round =>
    clear HI0 HR0 HF0
    obtain ⟨n, A, c, hn4, rfl, rfl, HI, HR, HF⟩ := hrel
    rename World => y0
    by_cases hlt : n < 4
    · have hlt1 : (n : Int) < 4 := by omega
      have HDN : Hid ((dueL q now n).length ≤ 4) := Lib.hid (by have := dueL_len q now n; omega)
      have HYE := Lib.hid (kdueL_yes (f := q) (now := now) (n := n))
      have HNO := Lib.hid (kdueL_no (f := q) (now := now) (n := n))
      have HMY := Lib.hid (midQ_yes (q := q) (now := now) (n := n))
      have HMN := Lib.hid (midQ_no (q := q) (now := now) (n := n))
      obtain ⟨e0, e1, e2⟩ := HR.out.cell hlt
      rw [midQ_at] at e0 e1 e2
      go_wp2_with fail
      refine (kbdue_on e0 e1 e2 (HQ.out n) HN.out).mono ?_
      rintro e y0 ⟨rfl, rfl⟩
      clear e0 e1 e2
      generalize (q n).due now = du at *
      generalize dueL q now n = L at *
      generalize midQ q now n = M at *
      cases du with
      | false =>
        have HI2 : Hid (Ir y0 B (dueL q now (n + 1)).length A c (dueL q now (n + 1))) := by show Ir _ _ _ _ _ _; rw [HNO.out rfl]; exact HI.out
        have HR2 : Hid (Kb y0 D (midQ q now (n + 1))) := by show Kb _ _ _; rw [HMN.out rfl]; exact HR.out
        have HLQ : Hid ((dueL q now (n + 1)).length = L.length) := by show _ = _; rw [HNO.out rfl]
        clear HI HR HYE HNO HMY HMN
        go_wp2
        go_roundw
        case rel => exact ⟨n + 1, A, c, by omega, by rw [HLQ.out], by go_num, HI2, HR2, HF⟩
        case measure => simp [intOf]; omega
      | true =>
        obtain ⟨s1, s2, s3⟩ := HR.out.whole hlt ⟨true, 0, true⟩
        have HK2 : Hid (Kb (y0.setCells D (n * 3) (kb1 ⟨true, 0, true⟩)) D (midQ q now (n + 1))) := by show Kb _ _ _; rw [HMY.out rfl]; exact s1
        have HF2 := Lib.hid (HF.out.trans s2)
        have HI2 := Lib.hid (HI.out.ch s2 (by have h1 := HD0.out; have h2 := HBE.out; omega))
        have HT := Lib.hid s3
        clear s1 s2 s3 HR HF HI HMY HMN HNO
        go_upto_region 8 with (refine wpList_store_mid rfl 30 (.tmp 21) (.tmp 20) rfl D (n * 3) (kb1 ⟨true, 0, true⟩).toArray rfl rfl HT.out state_size (by simp [kb1, Value.oneCell']) ?_)
        change Hid (Kb (y0.setCells D (n * 3) (kb1 ⟨true, 0, true⟩).toArray.toList) D _) at HK2
        change Hid (Ch [D] w (y0.setCells D (n * 3) (kb1 ⟨true, 0, true⟩).toArray.toList)) at HF2
        change Hid (Ir (y0.setCells D (n * 3) (kb1 ⟨true, 0, true⟩).toArray.toList) _ _ _ _ _) at HI2
        clear HT
        generalize y0.setCells D (n * 3) (kb1 ⟨true, 0, true⟩).toArray.toList = y1 at *
        have hi3 := new_below y1 (.cells #[.int .i64 (n : Int)] 3)
        have HO7 := Lib.hid (HI2.out.step hi3).own
        have HH7 : Hid (Holds (y1.alloc (.cells #[.int .i64 (n : Int)] 3)) y1.heap.size (some ⟨y1.heap.size, 0, none⟩) [.int .i64 (n : Int)]) := Lib.hid (Holds.of_row (cs := [.int .i64 (n : Int)]) (heap_alloc_new y1 _))
        have HBY : Hid (B ≤ (y1.alloc (.cells #[.int .i64 (n : Int)] 3)).heap.size) := Lib.hid (by have h1 := HF2.out.size; rw [HBE.out] at h1; exact Nat.le_trans h1 hi3.size)
        have HR7 := Lib.hid (HK2.out.step hi3)
        have HF7 : Hid (Ch [D] w (y1.alloc (.cells #[.int .i64 (n : Int)] 3))) := Lib.hid ⟨hi3.os.trans HF2.out.os, hi3.tape.trans HF2.out.tape, hi3.output.trans HF2.out.output, Nat.le_trans HF2.out.size hi3.size, fun i hi hb => (hi3.block i (Nat.lt_of_lt_of_le hi HF2.out.size)).trans (HF2.out.block i hi hb)⟩
        have HMX : Hid (L.length + 1 ≤ maxLen ∧ (L.length + 1) * 8 ≤ 140737488355328) := Lib.hid ⟨by have := HDN.out; unfold maxLen; omega, by have := HDN.out; omega⟩
        clear hi3
        go_wp2_with (at_builtin; refine wpList_append_wide rfl (.tmp 22) (.tmp 24) 49 rfl B 3 j0 (.int .i64 0) 1 8 Try.underlying49 HIN.out.1 HIN.out.2.1 HIN.out.2.2.1 HIN.out.2.2.2 rfl (by decide) _ L.length (ics L) rfl HO7.out y1.heap.size (some ⟨y1.heap.size, 0, none⟩) 1 1 [.int .i64 (n : Int)] rfl rfl HH7.out (by intro u hu; simp at hu; subst hu; rfl) HMX.out.1 HMX.out.2 HBY.out ?_)
        intro A8 c8 x8 ho8 hg8
        have hft8 := kft_grown HO7.out hg8
        have hlow := hft8.below HBY.out
        have HR8 : Hid (Kb x8 D (midQ q now (n + 1))) := Lib.hid (HR7.out.of_eq (hlow.block D (by have h1 := HD0.out; have h2 := HBE.out; omega)))
        have HF8 : Hid (Ch [D] w x8) := by
          have h1 := HF7.out
          exact ⟨hlow.os.trans h1.os, hlow.tape.trans h1.tape, hlow.output.trans h1.output, Nat.le_trans h1.size hlow.size, fun i hi hb => (hlow.block i (by have h2 := HBE.out; omega)).trans (h1.block i hi hb)⟩
        have HI8 : Hid (Ir x8 B (dueL q now (n + 1)).length A8 c8 (dueL q now (n + 1))) := by
          show Ir _ _ _ _ _ _
          rw [HYE.out trivial, List.length_append]
          exact ⟨by rw [ics_append]; exact ho8, by simp⟩
        have HLQ : Hid ((dueL q now (n + 1)).length = L.length + 1) := by show _ = _; rw [HYE.out trivial]; simp
        clear ho8 hg8 hft8 hlow HI2 HO7 HH7 HBY HR7 HF7 HMX HK2 HF2 HYE
        go_wp2
        go_roundw
        case rel => exact ⟨n + 1, A8, c8, by omega, by rw [HLQ.out], by go_num, HI8, HR8, HF8⟩
        case measure => simp [intOf]; omega
    · have hkn : n = 4 := by omega
      subst hkn
      go_wp2
      go_ret
      exact ⟨A, c, rfl, by rw [HBE.out]; exact HI.out, HR.out, HF.out⟩

set_option maxRecDepth 20000 in
set_option maxHeartbeats 1600000 in
theorem kreset_on {w : World} {D : Nat} {q : Bs} (h : Kb w D q) : Calls Try.prog 22 #[.pointer (some ⟨D, 0, none⟩)] w fun e y => e = .returned (.tuple #[]) ∧ Kb y D zeroB ∧ Ch [D] w y := by
  have HS : Hid (Kb (w.setCells D 0 bz.toList) D zeroB ∧ Ch [D] w (w.setCells D 0 bz.toList)) := by
    obtain ⟨cur, k1, k2, k3⟩ := h.ex
    obtain ⟨h1, cur', h2, h3, h4, h5⟩ := setCells_heap bz.toList 0 w cur k1
    have hlen : bz.toList.length = 12 := rfl
    rw [hlen] at h4 h5
    have g : ∀ i, i < 12 → cur'[i]? = bz.toList[i]? := fun i hi => by
      have := h5 i hi (by omega)
      simpa using this
    refine ⟨⟨cur', h2, by rw [h3, k2], fun k hk => ?_⟩, h1⟩
    match k, hk with
    | 0, _ => exact ⟨g 0 (by omega), g 1 (by omega), g 2 (by omega)⟩
    | 1, _ => exact ⟨g 3 (by omega), g 4 (by omega), g 5 (by omega)⟩
    | 2, _ => exact ⟨g 6 (by omega), g 7 (by omega), g 8 (by omega)⟩
    | 3, _ => exact ⟨g 9 (by omega), g 10 (by omega), g 11 (by omega)⟩
  have HT : Hid (w.there D 0 12) := by
    intro j hj
    refine ⟨?_, h.fz _⟩
    obtain ⟨cur, k1, k2, k3⟩ := h.ex
    simp [World.cell?, k1]
    omega
  clear h
  go_enter Try.func22, Try.ntmps22
  go_wp2_with (refine wpList_store_mid rfl 33 (.tmp 4) (.tmp 3) rfl D 0 bz rfl rfl HT.out (by kernel_rfl) (by simp [Value.oneCell']) ?_)
  go_end0
  exact ⟨rfl, HS.out⟩
end Go.Proofs.Ytdcnmbglbopgdaa
