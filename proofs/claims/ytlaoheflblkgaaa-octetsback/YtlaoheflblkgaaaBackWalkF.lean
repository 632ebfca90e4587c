/-
  lamplightlaw01.OctetsBack answers true, and turns nothing that was there: the walk, where nothing is cut off.
-/
import Derived.Test.YtlaoheflblkgaaaShown
import Derived.Test.YtlaoheflblkgaaaBackMath
import Derived.Test.YtlaoheflblkgaaaEager
namespace Go.Proofs.Ytlaoheflblkgaaa
set_option linter.unusedVariables false
set_option linter.unusedSimpArgs false
open Go.RowKit

set_option maxHeartbeats 4000000 in
set_option maxRecDepth 100000 in
theorem back_whole (g0 : Nat) (A : Option Addr) (zs : List Int) (len cap : Nat) (w : World) (h : Holds w g0 A (zs.map (Value.int .u32))) (hlen : zs.length = len) (hzs : ∀ n ∈ zs, 0 ≤ n ∧ n < 4294967296)
    (hcap : len ≤ cap) (hmx : cap ≤ 9223372036854775807) :
    Calls Try.prog 5 #[.slice A len cap, .bool false] w fun e w' => e = .returned (.bool true) ∧ Below w.heap.size w w' := by
  obtain ⟨m, hm4, hml, hmin⟩ := min_of len 40 40 rfl
  have HH := Lib.hid h
  have HL := Lib.hid hlen
  have HZ := Lib.hid hzs
  clear h hlen hzs
  go_enter Try.func5, Try.ntmps5
  go_wp2_with fail
  refine (shown_any w).mono ?_
  rintro e w1 ⟨rfl, hb1⟩
  obtain ⟨L, hL⟩ : ∃ L, L = zs.take m := ⟨_, rfl⟩
  have HLL : Hid (L.length = m) := by show _ = _; rw [hL, List.length_take, HL.out]; omega
  have HLZ : Hid (∀ n ∈ L, 0 ≤ n ∧ n < 4294967296) := fun n hn => HZ.out n (List.mem_of_mem_take (by rw [hL] at hn; exact hn))
  have HHL : Hid (Holds w g0 A (L.map (Value.int .u32))) := by
    have := HH.out.take m
    rw [← List.map_take, ← hL] at this
    exact this
  clear hL HH HL HZ
  have hW0 := Wtr.new w1
  have hb1' : Below w.heap.size w (w1.alloc (.cells #[.slice none 0 0] 55)) := hb1.alloc hb1.size _
  have HW0 := Lib.hid hW0
  have hWs : w.heap.size ≤ w1.heap.size := hb1.size
  clear hW0 hb1
  go_wp2
  generalize w1.heap.size = W at *
  generalize w1.alloc (.cells #[.slice none 0 0] 55) = w2 at *
  go_loopw [7] (fun i wr => ∃ (k g : Nat), k ≤ m ∧ i = .int .i64 k ∧ w.heap.size ≤ g ∧ Wtr wr W g (enc7 (L.take k)) ∧ Below w.heap.size w wr) (fun i _ => m - (intOf i).toNat)
  case atStart => exact ⟨0, W, Nat.zero_le _, rfl, hWs, by simpa [enc7] using HW0.out, hb1'⟩
  case round =>
    obtain ⟨k, g, hk, rfl, hg, hw, hb⟩ := hrel
    clear hb1' HW0
    by_cases hlt : k < m
    · have hLl := HLL.out
      obtain ⟨hg0, o0, hA, hcell⟩ := HHL.out (by simp; omega)
      subst hA
      obtain ⟨z, hz⟩ : ∃ z : Nat, (z : Int) = L[k]'(by omega) := ⟨(L[k]'(by omega)).toNat, by have := HLZ.out _ (List.getElem_mem (h := (by omega : k < L.length))); omega⟩
      have hzb : z < 4294967296 := by have := HLZ.out _ (List.getElem_mem (h := (by omega : k < L.length))); omega
      have hc0 : w.cell? ⟨g0, o0 + k, none⟩ = some (.int .u32 (z : Int)) := hcell k _ (by rw [List.getElem?_map, List.getElem?_eq_getElem (by omega), hz]; rfl)
      have hcr : wr.cell? ⟨g0, o0 + k, none⟩ = some (.int .u32 (z : Int)) := (hb.cell (p := ⟨g0, o0 + k, none⟩) hg0).trans hc0
      have HS := Lib.hid (enc7_snoc L k (by omega))
      rw [← hz] at HS
      rw [Int.toNat_natCast] at HS
      have hel : (enc7 (L.take k)).length ≤ 280 := by rw [enc7_length, List.length_take]; omega
      have hkz : (0 : Int) ≤ (k : Int) := by omega
      have hkl : (k : Int) < (m : Int) := by omega
      have HW := Lib.hid hw
      have HB := Lib.hid hb
      have HC := Lib.hid hc0
      clear hcell hz hLl hw hb hc0
      generalize enc7 (L.take k) = E at *
      go_wp2
      refine region_plan [(true, 0), (true, 1), (true, 2), (true, 3), (true, 4), (true, 6), (true, 7), (true, 8), (true, 9), (true, 10), (true, 11), (true, 13), (true, 14), (true, 15), (true, 16), (true, 17), (true, 18), (false, 5), (false, 12), (false, 19)]
        (fun x => x.cell? ⟨g0, o0 + k, none⟩ = some (.int .u32 (z : Int))) (by kernel_rfl) (by kernel_rfl) (by kernel_rfl) rfl hcr ?_
      iterate 17 (refine Plan.take (v := ?_) rfl (by rfl) ?_ ?_; rotate_left 1; (focus (intro x hx; go_simp <;> with_reducible rfl)); simp only [Act.put, List.setIfInBounds_toArray, List.set_cons_zero, List.set_cons_succ])
      have hwd : Wtr wr.drew W g E := HW.out.keep ((Ch.refl [] wr).drew) (by simp) (by simp)
      have hbd : Below w.heap.size w wr.drew := HB.out.drew
      refine Plan.loud rfl (fun K hK => ?_)
      go_simp
      refine (wu32_any W g E (z : Int) _ hwd (by omega) (by omega) (by omega)).mono ?_
      rintro e w4 ⟨rfl, g4, hg4, hw4, hc4⟩
      rw [Int.toNat_natCast] at hw4
      have hb4 : Below w.heap.size w w4 := hbd.trans (hc4.belowAt (by simp; omega) hbd.size)
      have hg4' : w.heap.size ≤ g4 := by have := hbd.size; omega
      have hcr4 : w4.cell? ⟨g0, o0 + k, none⟩ = some (.int .u32 (z : Int)) := (hb4.cell (p := ⟨g0, o0 + k, none⟩) hg0).trans HC.out
      refine hK.out _ _ _ (fun x hx => hx) hcr4 ?_
      clear hK K hc4 hwd hbd hcr4 hg4
      refine Plan.loud rfl (fun K hK => ?_)
      go_simp
      rw [w16_of z hzb]
      refine (wu16_any W g4 _ ((z / 65536 : Nat) : Int) _ hw4 (by simp [be32]; omega) (by omega) (by omega)).mono ?_
      rintro e w5 ⟨rfl, g5, hg5, hw5, hc5⟩
      rw [Int.toNat_natCast] at hw5
      have hb5 : Below w.heap.size w w5 := hb4.trans (hc5.belowAt (by simp; omega) hb4.size)
      have hg5' : w.heap.size ≤ g5 := by have := hb4.size; omega
      have hcr5 : w5.cell? ⟨g0, o0 + k, none⟩ = some (.int .u32 (z : Int)) := (hb5.cell (p := ⟨g0, o0 + k, none⟩) hg0).trans HC.out
      refine hK.out _ _ _ (fun x hx => hx) hcr5 ?_
      clear hK K hc5 hw4 hb4 hcr5 hg5
      refine Plan.loud rfl (fun K hK => ?_)
      go_simp
      rw [w8_of z hzb]
      refine (wu8_any W g5 _ ((z / 16777216 : Nat) : Int) _ hw5 (by simp [be32, be16]; omega) (by omega) (by omega)).mono ?_
      rintro e w6 ⟨rfl, g6, hg6, hw6, hc6⟩
      rw [Int.toNat_natCast, ← HS.out] at hw6
      have hb6 : Below w.heap.size w w6 := hb5.trans (hc6.belowAt (by simp; omega) hb5.size)
      have hg6' : w.heap.size ≤ g6 := by have := hb5.size; omega
      have hcr6 : w6.cell? ⟨g0, o0 + k, none⟩ = some (.int .u32 (z : Int)) := (hb6.cell (p := ⟨g0, o0 + k, none⟩) hg0).trans HC.out
      refine hK.out _ _ _ (fun x hx => hx) hcr6 ?_
      clear hK K hc6 hw5 hb5 hcr6 hg6
      refine Plan.done ?_
      go_wp2
      go_roundw
      case rel => exact ⟨k + 1, g6, by omega, by go_num, hg6', hw6, hb6⟩
      case measure => simp [intOf]; omega
    · have hkm : k = m := by omega
      subst hkm
      have hLl := HLL.out
      have eL : L.take k = L := List.take_of_length_le (by omega)
      rw [eL] at hw
      have HW := Lib.hid hw
      have HB := Lib.hid hb
      have HEL : Hid ((enc7 L).length = 7 * k) := by show _ = _; rw [enc7_length, hLl]
      clear hLl eL hw hb
      go_wp2_with fail
      refine (wdone_any W g (enc7 L) wr HW.out (by rw [HEL.out]; omega)).mono ?_
      rintro e w4 ⟨G, hG, rfl, hrow, hb4'⟩
      rw [HEL.out]
      have hb4 : Below w.heap.size w w4 := HB.out.trans (hb4'.mono HB.out.size)
      have hGw : w.heap.size ≤ G := Nat.le_trans HB.out.size hG
      clear hb4' HW HB hG
      have hN1 : 7 * k ≤ 7 * k := Nat.le_refl _
      have hN2 : 7 * k ≤ 7 * k := Nat.le_refl _
      obtain ⟨N, hN⟩ : ∃ N, N = 7 * k := ⟨_, rfl⟩
      rw [← hN]
      rw [← hN] at HEL
      have hne : ((N : Int) != 7 * (k : Int)) = false := by simp; omega
      have hNa : N ≤ 7 * k := by omega
      have hNb : 7 * k ≤ N := by omega
      have HN := Lib.hid hN
      clear hN hN1 hN2
      go_wp2_with fail
      refine (read_len G _ N N (enc7 L) w4 hrow.holds HEL.out (by omega)).mono ?_
      rintro e w5 ⟨R, gr, hR, hgr, rfl, hr5, hb5'⟩
      have hb5 : Below w.heap.size w w5 := hb4.trans (hb5'.mono hb4.size)
      have hRw : w.heap.size ≤ R := Nat.le_trans hb4.size hR
      have HR5 : Hid (Rdr w5 R gr (left7 false L)) := hr5
      have HB5 := Lib.hid hb5
      clear hr5 hb5' hb5 hb4 hR hgr hrow hne
      go_wp2
      go_loopw [10] (fun i wr => ∃ j : Nat, j ≤ k ∧ i = .int .i64 j ∧ Rdr wr R gr (left7 false (L.drop j)) ∧ Below w.heap.size w wr) (fun i _ => k - (intOf i).toNat)
      case atStart => exact ⟨0, Nat.zero_le _, rfl, HR5.out, HB5.out⟩
      case round =>
        obtain ⟨j, hj, rfl, hr, hb⟩ := hrel
        clear HR5 HB5
        by_cases hlt2 : j < k
        · have hLl := HLL.out
          obtain ⟨hg0, o0, hA, hcell⟩ := HHL.out (by simp; omega)
          subst hA
          obtain ⟨z, hz⟩ : ∃ z : Nat, (z : Int) = L[j]'(by omega) := ⟨(L[j]'(by omega)).toNat, by have := HLZ.out _ (List.getElem_mem (h := (by omega : j < L.length))); omega⟩
          have hzb : z < 4294967296 := by have := HLZ.out _ (List.getElem_mem (h := (by omega : j < L.length))); omega
          have hc0 : w.cell? ⟨g0, o0 + j, none⟩ = some (.int .u32 (z : Int)) := hcell j _ (by rw [List.getElem?_map, List.getElem?_eq_getElem (by omega), hz]; rfl)
          have HC := Lib.hid hc0
          have hdr : L.drop j = (z : Int) :: L.drop (j + 1) := by rw [List.drop_eq_getElem_cons (by omega), hz]
          obtain ⟨c16, hc16⟩ : ∃ c, c = z / 65536 := ⟨_, rfl⟩
          obtain ⟨c8, hc8⟩ : ∃ c, c = z / 16777216 := ⟨_, rfl⟩
          have hb16 : c16 < 65536 := by omega
          have hb8 : c8 < 256 := by omega
          have hq16 : (z : Int) / 65536 = (c16 : Int) := by omega
          have hq8 : (z : Int) / 16777216 = (c8 : Int) := by omega
          have hjz : (0 : Int) ≤ (j : Int) := by omega
          have hjl : (j : Int) < (k : Int) := by omega
          have hLd : (L.drop (j + 1)).length = k - (j + 1) := by rw [List.length_drop, hLl]
          have HQ16 := Lib.hid hq16
          have HQ8 := Lib.hid hq8
          clear hq16 hq8
          have hleft : left7 false (L.drop j) = be32 z ++ (be16 c16 ++ (be8 c8 ++ left7 false (L.drop (j + 1)))) := by
            rw [hdr, left7_cons false _ _ (by simp), Int.toNat_natCast, hc16, hc8]
          rw [hleft] at hr
          have HR := Lib.hid hr
          have HB := Lib.hid hb
          clear hr hb hleft hdr hc16 hc8 hcell hz hLl hc0 hLd
          generalize hY : left7 false (L.drop (j + 1)) = Y at *
          have HY := Lib.hid hY
          clear hY
          go_wp2_with fail
          refine (u32_ok R gr _ wr HR.out (len_front32 _ _)).mono ?_
          rintro e w6 ⟨he, hr6, hc6⟩
          rw [num_front32 z _ hzb] at he
          rw [drop_front32] at hr6
          subst he
          have hb6 : Below w.heap.size w w6 := HB.out.trans (hc6.belowAt (by simp; omega) HB.out.size)
          clear HR HB hc6
          go_wp2_with fail
          refine (u16_ok R gr _ w6 hr6 (len_front16 _ _)).mono ?_
          rintro e w7 ⟨he, hr7, hc7⟩
          rw [num_front16 c16 _ hb16] at he
          rw [drop_front16] at hr7
          subst he
          have hb7 : Below w.heap.size w w7 := hb6.trans (hc7.belowAt (by simp; omega) hb6.size)
          clear hr6 hb6 hc7
          go_wp2_with fail
          refine (u8_ok R gr _ w7 hr7 (len_front8 _ _)).mono ?_
          rintro e w8 ⟨he, hr8, hc8'⟩
          rw [num_front8 c8 _ hb8] at he
          rw [drop_front8] at hr8
          subst he
          have hb8' : Below w.heap.size w w8 := hb7.trans (hc8'.belowAt (by simp; omega) hb7.size)
          have hcr8 : w8.cell? ⟨g0, o0 + j, none⟩ = some (.int .u32 (z : Int)) := (hb8'.cell (p := ⟨g0, o0 + j, none⟩) hg0).trans HC.out
          have hq16 := HQ16.out
          have hq8 := HQ8.out
          clear hr7 hb7 hc8'
          go_wp2
          go_roundw
          case rel => exact ⟨j + 1, by omega, by go_num, by rw [HY.out]; exact hr8, hb8'⟩
          case measure => simp [intOf]; omega
        · have hjk : j = k := by omega
          subst hjk
          have hLl := HLL.out
          have eD : L.drop j = [] := List.drop_eq_nil_of_le (by omega)
          rw [eD, left7_nil] at hr
          clear eD hLl
          go_wp2_with fail
          refine (done_any R gr [] wr hr).mono ?_
          rintro e w6 ⟨rfl, rfl⟩
          go_wp2
          go_ret
          exact ⟨rfl, hb⟩

end Go.Proofs.Ytlaoheflblkgaaa
