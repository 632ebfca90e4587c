/-
  lamplightlaw05.ResyncBounds: whatever it is asked, true; nothing that was there is turned.
-/
import Derived.Test.YtalolefggihloaaDoorResyncS
import Derived.Test.YtalolefggihloaaDoorResyncMore
import Derived.Deep.DeepCutAuto
namespace Go.Proofs.YtalolefggihloaaDoor
set_option linter.unusedVariables false
set_option linter.unusedSimpArgs false
open Go.RowKit

theorem ecs_lit (f : Nat → Nat) : (ecs f).toArray = #[.int .i64 (f 0 : Int), .int .i64 (f 1 : Int), .int .i64 (f 2 : Int), .int .i64 (f 3 : Int), .int .i64 (f 4 : Int), .int .i64 (f 5 : Int), .int .i64 (f 6 : Int), .int .i64 (f 7 : Int), .int .i64 (f 8 : Int), .int .i64 (f 9 : Int), .int .i64 (f 10 : Int), .int .i64 (f 11 : Int)] := rfl
theorem one_none (d : Dc) (c : UInt8) (hc : c ≠ 126) : (d.one c).2 = [] := by
  unfold Dc.one
  rw [if_neg hc]
  repeat' split
  all_goals rfl
/-- Behind a flag no other count than that of an error of Decode is more. -/
theorem flag_ten (d : Dc) : (d.one 126).1.errs 10 = d.errs 10 := by
  unfold Dc.one
  rw [if_pos rfl]
  repeat' split
  all_goals first | rfl | exact bump_other _ _ _ (Ne.symm (decE_is _))
/-- A decoder of one's own, just made. -/
theorem Sd.start {w x : World} {zs : Array Value} (ht : Tab x) (hb : Below w.heap.size w x) (hz : zs = zeroDec) : Sd w x.heap.size Dc.zero 0 (x.alloc (.cells zs 30)) := by
  subst hz
  exact ⟨ht.keep ((Ch.refl [] x).alloc _) (by simp), Dec.start x, hb.alloc hb.size _, hb.size⟩
theorem lit_one (x : World) (c : UInt8) : Holds (x.alloc (.cells #[.int .u8 (c.toNat : Int)] 5)) x.heap.size (some ⟨x.heap.size, 0, none⟩) (bcs [c]) := Holds.of_row (heap_alloc_new x _)

/-- Counts that were told, in a row. -/
structure Er (x : World) (E : Nat) (f : Nat → Nat) : Prop where
  row : x.heap[E]? = some (.cells (ecs f).toArray 25 (0, 0))
theorem Er.lt {x : World} {E : Nat} {f : Nat → Nat} (h : Er x E f) : E < x.heap.size := (Array.getElem?_eq_some_iff.1 h.row).1
theorem Er.keep {F : List Nat} {x y : World} {E : Nat} {f : Nat → Nat} (h : Er x E f) (hc : Ch F x y) (hF : E ∉ F) : Er y E f := ⟨(hc.block E h.lt hF).trans h.row⟩
theorem Er.cell {x : World} {E : Nat} {f : Nat → Nat} (h : Er x E f) (i : Nat) (hi : i < 12) : x.cell? ⟨E, i, none⟩ = some (.int .i64 (f i : Int)) := by
  rw [cell_of_row _ _ _ _ _ _ h.row, List.getElem?_toArray, ecs_get _ _ hi]
theorem Er.start (x : World) (f : Nat → Nat) : Er (x.alloc (.cells #[.int .i64 (f 0 : Int), .int .i64 (f 1 : Int), .int .i64 (f 2 : Int), .int .i64 (f 3 : Int), .int .i64 (f 4 : Int), .int .i64 (f 5 : Int), .int .i64 (f 6 : Int), .int .i64 (f 7 : Int), .int .i64 (f 8 : Int), .int .i64 (f 9 : Int), .int .i64 (f 10 : Int), .int .i64 (f 11 : Int)] 25)) x.heap.size f := ⟨heap_alloc_new x _⟩
theorem Er.ne {x : World} {E D N : Nat} {f : Nat → Nat} {d : Dc} (h : Er x E f) (hd : Dec x D d N) : E ≠ D := by
  rintro rfl
  obtain ⟨buf, hb, _⟩ := hd.box
  have h1 := h.row
  rw [hb.box] at h1
  injection h1 with h1
  injection h1 with _ h1
  exact absurd h1 (by decide)

theorem index_ten (n0 n1 n2 n3 n4 n5 n6 n7 n8 n9 n10 n11 : Int) (x : World) : (Instr.index 25 (.agg #[.int .i64 n0, .int .i64 n1, .int .i64 n2, .int .i64 n3, .int .i64 n4, .int .i64 n5, .int .i64 n6, .int .i64 n7, .int .i64 n8, .int .i64 n9, .int .i64 n10, .int .i64 n11]) (.int .i64 10)).run Tryd.prog x = .ok (.int .i64 n10) x := by
  have hs : (Tryd.prog.info? 3).map (·.size) = some 1 := by kernel_rfl
  cases hi : Tryd.prog.info? 3 with
  | none => rw [hi] at hs; cases hs
  | some i =>
    rw [hi] at hs
    have h1 : i.size = 1 := by simpa using hs
    simp [Instr.index, run_underlying Tryd.underlying25, asIntOf, part, isAgg, run_underlying Tryd.underlying3, sizeOf, typeInfo, hi, h1, go_sem]

theorem told_none {w : World} {B n : Nat} {v : Value} {ts : List Tf} (h : Told w B v n ts) (hf : ts.map (·.f) = []) : n = 0 := by
  rw [← h.len, ← List.length_map (f := (·.f)), hf]
  rfl

set_option maxHeartbeats 4000000 in
set_option maxRecDepth 100000 in
theorem resyncbounds_walk (n : Int) (c0 : UInt8) (w : World) (ht : Tab w) :
    Calls Tryd.prog 6 #[.int .i64 n, .int .u8 (c0.toNat : Int)] w fun e w' => e = .returned (.bool true) ∧ Below w.heap.size w w' := by
  obtain ⟨m, hm, hm1, hm2⟩ := place_at n 1001 (by decide)
  rw [show ((1001 : Nat) : Int) = 1001 from rfl] at hm1 hm2
  have HTB := Lib.hid ht
  clear ht
  go_enter Tryd.func6, Tryd.ntmps6
  go_wp2_with fail
  refine (shown_any _ HTB.out).mono ?_
  rintro e x1 ⟨rfl, hb⟩
  have HT1 := Lib.hid (HTB.out.keep (Ch.of_below hb) (by simp))
  have HW1 := Lib.hid hb
  clear hb HTB
  obtain ⟨zs, hzs, hz, hzn, hz0⟩ := zero_ex
  have HZ := Lib.hid hzs
  clear hzs
  go_upto_if 16 with fail
  go_cut [1] (fun v y => ∃ c : UInt8, c ≠ 126 ∧ v = .int .u8 (c.toNat : Int) ∧ y = x1)
  case first =>
    by_cases h : c0 = 126
    · subst h
      have hb : (((126 : UInt8).toNat : Int) == 126) = true := rfl
      go_wp2
      go_meet
      case rel => exact ⟨0, by decide, rfl, rfl⟩
    · have hb : ((c0.toNat : Int) == 126) = false := by
        rw [beq_eq_false_iff_ne]
        intro hh
        exact h (by apply UInt8.toNat_inj.1; show c0.toNat = 126; omega)
      go_wp2
      go_meet
      case rel => exact ⟨c0, h, rfl, rfl⟩
  case rest =>
    obtain ⟨c, hc, rfl, rfl⟩ := hcut
    have hcn : ((c.toNat : Int) == 126) = false := by
      rw [beq_eq_false_iff_ne]
      intro hh
      exact hc (by apply UInt8.toNat_inj.1; show c.toNat = 126; omega)
    have HCN := Lib.hid hc
    clear hcn hc
    go_upto_region 6 with fail
    have H2 := Lib.hid (Sd.start HT1.out HW1.out HZ.out)
    clear hz hzn hz0 HZ HT1 HW1
    generalize wc.alloc (.cells zs 30) = x2 at *
    generalize wc.heap.size = D at *
    go_wp2
    go_loopw [7] (fun i wr => ∃ k : Nat, k ≤ m ∧ i = .int .i64 k ∧ Hid (Sd w D (Dc.zero.feed (List.replicate k c)).1 k wr)) (fun i _ => m - (intOf i).toNat)
    case atStart => exact ⟨0, by omega, rfl, H2⟩
    case round =>
      obtain ⟨k, hk, rfl, H⟩ := hrel
      by_cases hlt : k < m
      · have hlt' : (k : Int) < (m : Int) := by omega
        go_upto_region 9 with fail
        have HL := Lib.hid (lit_one wr c)
        have HW3 := Lib.hid (new_below wr (.cells #[.int .u8 (c.toNat : Int)] 5))
        have HS3 := Lib.hid (H.out.step HW3.out)
        have HDl := Lib.hid H.out.dec.lt
        generalize hx3 : wr.alloc (.cells #[.int .u8 (c.toNat : Int)] 5) = x3 at *
        go_wp2_with fail
        refine (feed_on (l := [c]) HS3.out.tab HS3.out.dec HL.out rfl (fun _ => by have := HDl.out; omega) (by simp; omega)).mono ?_
        rintro e x4 ⟨A4, m4, c4, ts4, rfl, ho4, hf4, -, hd4, ht4, hc4⟩
        rw [feed_one] at hf4 hd4
        obtain rfl := told_none ho4 (by rw [hf4]; exact one_none _ c HCN.out)
        have hnx : ((Dc.zero.feed (List.replicate k c)).1.one c).1 = (Dc.zero.feed (List.replicate (k + 1) c)).1 := by
          rw [List.replicate_succ', feed_snoc]
        rw [hnx] at hd4
        have H4 := Lib.hid (HS3.out.turn ht4 hd4 hc4)
        clear ho4 hf4 hd4 ht4 hc4 HS3 HL HW3 H hnx hx3
        have HHL : Hid ((Dc.zero.feed (List.replicate (k + 1) c)).1.held.length = if k < 62 then k + 1 else 0) := by
          show _ = _
          rw [feed_same c HCN.out (k + 1)]
          by_cases h : k < 62
          · rw [if_pos (by omega), if_pos h]
            simp
          · rw [if_neg (by omega), if_neg h]
            rfl
        by_cases h62 : k < 62
        · rw [if_pos h62] at HHL
          have hge : ¬ ((k : Int) ≥ 62) := by omega
          have hge' : ¬ ((62 : Int) ≤ (k : Int)) := by omega
          go_wp2_with fail
          refine (held_on H4.out.dec).mono ?_
          rintro e x5 ⟨rfl, rfl⟩
          rw [HHL.out]
          have hw : IntKind.i64.wrap ((k : Int) + 1) = (k : Int) + 1 := by rw [IntKind.wrap_i64]; omega
          go_wp2
          go_roundw
          case rel => exact ⟨k + 1, by omega, by go_num, H4⟩
          case measure => simp [intOf]; omega
        · rw [if_neg h62] at HHL
          have hge' : ((62 : Int) ≤ (k : Int)) := by omega
          go_wp2_with fail
          refine (held_on H4.out.dec).mono ?_
          rintro e x5 ⟨rfl, rfl⟩
          rw [HHL.out]
          go_wp2
          go_roundw
          case rel => exact ⟨k + 1, by omega, by go_num, H4⟩
          case measure => simp [intOf]; omega
      · have hkm : k = m := by omega
        subst hkm
        obtain ⟨ov, hov⟩ : ∃ ov : Nat, ov = if 62 < k then 1 else 0 := ⟨_, rfl⟩
        have HT10 : Hid ((Dc.zero.feed (List.replicate k c)).1.errs 10 = ov) := by
          show _ = _
          rw [feed_same c HCN.out k, hov]
          by_cases h : k ≤ 62
          · rw [if_pos h, if_neg (by omega)]
          · rw [if_neg h, if_pos (by omega)]
            show bump (fun _ => 0) 10 10 = 1
            exact bump_same _ _
        generalize (Dc.zero.feed (List.replicate k c)).1 = d at *
        go_wp2_with fail
        refine (errors_on H.out.dec).mono ?_
        rintro e x3 ⟨rfl, hb3⟩
        rw [ecs_lit]
        have HS3 := Lib.hid (H.out.step hb3)
        clear hb3 H
        go_upto_region 17 with fail
        have HE4 := Lib.hid (Er.start x3 d.errs)
        have HS4 := Lib.hid (HS3.out.step (new_below x3 (.cells #[.int .i64 (d.errs 0 : Int), .int .i64 (d.errs 1 : Int), .int .i64 (d.errs 2 : Int), .int .i64 (d.errs 3 : Int), .int .i64 (d.errs 4 : Int), .int .i64 (d.errs 5 : Int), .int .i64 (d.errs 6 : Int), .int .i64 (d.errs 7 : Int), .int .i64 (d.errs 8 : Int), .int .i64 (d.errs 9 : Int), .int .i64 (d.errs 10 : Int), .int .i64 (d.errs 11 : Int)] 25)))
        clear HS3
        generalize x3.alloc (.cells #[.int .i64 (d.errs 0 : Int), .int .i64 (d.errs 1 : Int), .int .i64 (d.errs 2 : Int), .int .i64 (d.errs 3 : Int), .int .i64 (d.errs 4 : Int), .int .i64 (d.errs 5 : Int), .int .i64 (d.errs 6 : Int), .int .i64 (d.errs 7 : Int), .int .i64 (d.errs 8 : Int), .int .i64 (d.errs 9 : Int), .int .i64 (d.errs 10 : Int), .int .i64 (d.errs 11 : Int)] 25) = x4 at *
        generalize x3.heap.size = E at *
        go_upto_if 41 with fail
        go_cut [10] (fun v y => v = .int .i64 (ov : Int) ∧ y = x4)
        case first =>
          by_cases h62 : 62 < k
          · rw [if_pos h62] at hov
            have h1 : (62 : Int) < (k : Int) := by omega
            go_wp2
            go_meet
            case rel => exact ⟨by rw [hov]; rfl, rfl⟩
          · rw [if_neg h62] at hov
            have h1 : ¬ (62 : Int) < (k : Int) := by omega
            go_wp2
            go_meet
            case rel => exact ⟨by rw [hov]; rfl, rfl⟩
        case rest =>
          obtain ⟨rfl, rfl⟩ := hcut
          clear hov
          go_upto_region 20 with fail
          have HL := Lib.hid (lit_one wc 126)
          rw [show ((126 : UInt8).toNat : Int) = 126 from rfl] at HL
          have HW5 := Lib.hid (new_below wc (.cells #[.int .u8 126] 5))
          have HS5 := Lib.hid (HS4.out.step HW5.out)
          have HE5 := Lib.hid (HE4.out.keep (Ch.of_below HW5.out) (by simp))
          have HDl := Lib.hid HS4.out.dec.lt
          clear HS4 HE4 HW5
          generalize hx5 : wc.alloc (.cells #[.int .u8 126] 5) = x5 at *
          go_wp2_with fail
          refine (feed_on (l := [126]) HS5.out.tab HS5.out.dec HL.out rfl (fun _ => by have := HDl.out; omega) (by simp; omega)).mono ?_
          rintro e x6 ⟨A6, m6, c6, ts6, rfl, -, -, -, hd6, ht6, hc6⟩
          rw [feed_one] at hd6
          have HS6 := Lib.hid (HS5.out.turn ht6 hd6 hc6)
          have HE6 := Lib.hid (HE5.out.keep hc6 (by simp; exact HE5.out.ne HS5.out.dec))
          have HF := Lib.hid (one_flag d HS5.out.dec.ok).1
          have HF10 := Lib.hid (flag_ten d)
          clear hd6 ht6 hc6 HS5 HE5 HL hx5
          generalize (d.one 126).1 = d' at *
          have cE := HE6.out.cell 10 (by decide)
          rw [HT10.out] at cE HF10
          go_wp2_with fail
          refine (errors_on HS6.out.dec).mono ?_
          rintro e x7 ⟨rfl, hb7⟩
          rw [ecs_lit, HF10.out]
          have HS7 := Lib.hid (HS6.out.step hb7)
          clear hb7 HS6 cE
          have hidx := fun n0 n1 n2 n3 n4 n5 n6 n7 n8 n9 n11 => index_ten n0 n1 n2 n3 n4 n5 n6 n7 n8 n9 (ov : Int) n11 x7
          go_wp2_with fail
          refine (held_on HS7.out.dec).mono ?_
          rintro e x8 ⟨rfl, rfl⟩
          rw [HF.out]
          go_wp2
          go_ret
          exact ⟨rfl, HS7.out.below⟩

theorem resyncbounds_nat (n : Int) (c : Nat) (w : World) (ht : Tab w) (hc : c < 256) :
    Calls Tryd.prog 6 #[.int .i64 n, .int .u8 (c : Int)] w fun e w' => e = .returned (.bool true) ∧ Below w.heap.size w w' := by
  have := resyncbounds_walk n (UInt8.ofNat c) w ht
  rw [fits_byte c hc] at this
  exact this

end Go.Proofs.YtalolefggihloaaDoor
