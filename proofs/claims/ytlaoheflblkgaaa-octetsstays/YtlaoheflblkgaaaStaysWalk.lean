/-
  lamplightlaw01.OctetsStays answers true, and turns nothing that was there: the walk.
-/
import Derived.Test.YtlaoheflblkgaaaShown
import Derived.Test.YtlaoheflblkgaaaNums
import Derived.Test.YtlaoheflblkgaaaEager
namespace Go.Proofs.Ytlaoheflblkgaaa
set_option linter.unusedVariables false
set_option linter.unusedSimpArgs false
open Go.RowKit

/-- Two readers that have nothing to do with each other. -/
structure Two (w wr : World) (R gr S gs : Nat) (q p : List UInt8) : Prop where
  r : Rdr wr R gr q
  s : Rdr wr S gs p
  ne : R ≠ S ∧ R ≠ gs ∧ gr ≠ S
  from_ : w.heap.size ≤ R ∧ w.heap.size ≤ S
  below : Below w.heap.size w wr

theorem dr_le (l : List UInt8) (n : Nat) : (dr l n).length ≤ l.length := by
  unfold dr
  split
  · simp
  · exact Nat.le_refl _
theorem wrap_sum (a z : Nat) (ha : a ≤ 1000) (hz : z ≤ 1000) : IntKind.i64.wrap (IntKind.i64.wrap ((a : Int) + 1) + IntKind.i64.wrap (z : Int)) = (a : Int) + 1 + (z : Int) := by
  rw [IntWalk.i64_in ((a : Int) + 1) ⟨by omega, by omega⟩, IntWalk.i64_in (z : Int) ⟨by omega, by omega⟩, IntWalk.i64_in _ ⟨by omega, by omega⟩]

set_option maxHeartbeats 4000000 in
set_option maxRecDepth 100000 in
theorem stays_walk (g : Nat) (A : Option Addr) (l0 : List UInt8) (len cap : Nat) (g1 : Nat) (A1 : Option Addr) (l1 : List UInt8) (len1 cap1 : Nat) (w : World)
    (h : Holds w g A (bcs l0)) (hlen : l0.length = len) (hcap : len ≤ cap) (hmx : cap ≤ 9223372036854775807)
    (h1 : Holds w g1 A1 (bcs l1)) (hlen1 : l1.length = len1) (hcap1 : len1 ≤ cap1) (hmx1 : cap1 ≤ 9223372036854775807) :
    Calls Try.prog 7 #[.slice A len cap, .slice A1 len1 cap1] w fun e w' => e = .returned (.bool true) ∧ Below w.heap.size w w' := by
  obtain ⟨m, hm3, hml, hmin⟩ := min_of len 100 100 rfl
  have HH := Lib.hid h
  have HL := Lib.hid hlen
  have HH1 := Lib.hid h1
  have HL1 := Lib.hid hlen1
  clear h hlen h1 hlen1
  go_enter Try.func7, Try.ntmps7
  go_wp2_with fail
  refine (shown_any w).mono ?_
  rintro e w1 ⟨rfl, hb1⟩
  obtain ⟨l, hl⟩ : ∃ l, l = l0.take m := ⟨_, rfl⟩
  have hll : l.length = m := by rw [hl, List.length_take, HL.out]; omega
  have h1 : Holds w1 g A (bcs l) := by
    rw [hl, show bcs (l0.take m) = (bcs l0).take m by simp [bcs]]
    exact (HH.out.take m).keep (Ch.of_below hb1) (by simp)
  have HLL := Lib.hid hll
  have HHA := Lib.hid h1
  clear hl hll h1 HH HL
  go_wp2_with fail
  refine (read_len g A m cap l w1 HHA.out HLL.out (by omega)).mono ?_
  rintro e w2 ⟨R, gr, hR, hgr, rfl, hr2, hb2'⟩
  have HHB := Lib.hid (HHA.out.keep (Ch.of_below hb2') (by simp))
  have hgrl := hr2.glt
  have hRl := hr2.lt
  go_wp2_with fail
  refine (read_len g A m cap l w2 HHB.out HLL.out (by omega)).mono ?_
  rintro e w3 ⟨S, gs, hS, hgs, rfl, hs3, hb3'⟩
  have hT : Two w w3 R gr S gs l l := by
    have z1 := hb1.size
    have z2 := hb2'.size
    exact ⟨hr2.keep (Ch.of_below hb3') (by simp) (by simp), hs3, by omega, by omega, (hb1.trans (hb2'.mono hb1.size)).trans (hb3'.mono (by omega))⟩
  have HT := Lib.hid hT
  clear hT hb1 hb2' hb3' hr2 hs3 HHA HHB hgrl hRl hR hgr hS hgs
  go_wp2
  go_loopw [8] (fun i wr => ∃ (k : Nat) (q : List UInt8), k ≤ len1 ∧ i = .int .i64 k ∧ q.length ≤ 100 ∧ Two w wr R gr S gs q q) (fun i _ => len1 - (intOf i).toNat)
  case atStart => exact ⟨0, l, Nat.zero_le _, rfl, by rw [HLL.out]; exact hm3, HT.out⟩
  case round =>
    obtain ⟨k, q, hk, rfl, hq, hT⟩ := hrel
    have HTr := Lib.hid hT
    clear hT HT HLL
    by_cases hlt : k < len1 ∧ k < 30
    · obtain ⟨hk1, hk30⟩ := hlt
      have hl1 := HL1.out
      have hH1 := HH1.out
      obtain ⟨hg1, o1, hA1, hcell1⟩ := hH1 (by rw [bcs_length]; omega)
      subst hA1
      obtain ⟨z, hz⟩ : ∃ z : Nat, z = (l1[k]'(by omega)).toNat := ⟨_, rfl⟩
      have hzb : z < 256 := by rw [hz]; exact UInt8.toNat_lt _
      have HC : Hid (w.cell? ⟨g1, o1 + k, none⟩ = some (.int .u8 (z : Int))) := hcell1 k _ (by rw [bcs, List.getElem?_map, List.getElem?_eq_getElem (by omega), hz]; rfl)
      clear hl1 hH1 hcell1 hz
      have hcr : wr.cell? ⟨g1, o1 + k, none⟩ = some (.int .u8 (z : Int)) := (HTr.out.below.cell (p := ⟨g1, o1 + k, none⟩) hg1).trans HC.out
      have hkz : (0 : Int) ≤ (k : Int) := by omega
      have hkl : (k : Int) < (len1 : Int) := by omega
      go_wp2
      refine region_plan [(true, 0), (true, 1), (true, 4), (true, 5), (true, 6), (true, 7), (true, 8), (false, 2), (true, 3), (true, 9), (false, 10), (true, 11), (true, 12), (true, 13), (true, 14), (true, 15)]
        (fun x => x.cell? ⟨g1, o1 + k, none⟩ = some (.int .u8 (z : Int))) (by kernel_rfl) (by kernel_rfl) (by kernel_rfl) rfl hcr ?_
      iterate 7 (refine Plan.take (v := ?_) rfl (by rfl) ?_ ?_; rotate_left 1; (focus (intro x hx; go_simp <;> with_reducible rfl)); simp only [Act.put, List.setIfInBounds_toArray, List.set_cons_zero, List.set_cons_succ])
      refine Plan.loud rfl (fun K hK => ?_)
      go_simp
      have hcd : wr.drew.cell? ⟨g1, o1 + k, none⟩ = some (.int .u8 (z : Int)) := hcr
      have hrd : Rdr wr.drew R gr q := HTr.out.r.keep ((Ch.refl [] wr).drew) (by simp) (by simp)
      refine (left_any R gr q _ hrd).mono ?_
      rintro e w4 ⟨rfl, rfl⟩
      refine hK.out _ _ _ (fun x hx => hx) hcd ?_
      clear hK K hcd
      iterate 2 (refine Plan.take (v := ?_) rfl (by rfl) ?_ ?_; rotate_left 1; (focus (intro x hx; go_simp <;> with_reducible rfl)); simp only [Act.put, List.setIfInBounds_toArray, List.set_cons_zero, List.set_cons_succ])
      refine Plan.loud rfl (fun K hK => ?_)
      go_simp
      rw [wrap_sum q.length z (by omega) (by omega)]
      refine (bytes_short R gr q _ _ hrd (by omega)).mono ?_
      rintro e w4 ⟨rfl, rfl⟩
      refine hK.out _ _ _ (fun x hx => hx) hcr ?_
      clear hK K
      iterate 5 (refine Plan.take (v := ?_) rfl (by rfl) ?_ ?_; rotate_left 1; (focus (intro x hx; go_simp <;> with_reducible rfl)); simp only [Act.put, List.setIfInBounds_toArray, List.set_cons_zero, List.set_cons_succ])
      refine Plan.done ?_
      have hTd : Two w wr.drew R gr S gs q q := by
        have ht := HTr.out
        have hc := (Ch.refl [] wr).drew
        exact ⟨ht.r.keep hc (by simp) (by simp), ht.s.keep hc (by simp) (by simp), ht.ne, ht.from_, ht.below.drew⟩
      have HTd := Lib.hid hTd
      have hcd : wr.drew.cell? ⟨g1, o1 + k, none⟩ = some (.int .u8 (z : Int)) := hcr
      clear hTd hrd HTr hcr
      generalize wr.drew = wd at *
      go_wp2_with fail
      refine (bytes_neg R gr q _ wd HTd.out.r (by omega)).mono ?_
      rintro e w4 ⟨rfl, rfl⟩
      by_cases h4 : q.length < 4
      all_goals
        have hq4 : True := trivial
        go_wp2_with fail
        refine (left_any R gr q wd HTd.out.r).mono ?_
        rintro e w4 ⟨rfl, rfl⟩
        go_wp2_with fail
      refine (u32_short R gr q wd HTd.out.r (by omega)).mono ?_
      rintro e w4 ⟨rfl, rfl⟩
      go_wp2_with fail
      all_goals
        have hy : ((z : Int) % 10) = ((z % 10 : Nat) : Int) := by omega
        have HY := Lib.hid hy
        rw [hy]
        clear hy
        refine (bytes_any R gr q (z % 10) wd HTd.out.r).mono ?_
        rintro e w5 ⟨A5, c5, G5, rfl, hG5, hh5, hr5, hc5⟩
        have hT := HTd.out
        have hs5 : Rdr w5 S gs q := hT.s.keep hc5 (by have := hT.ne; simp; omega) (by have := hT.ne; simp; omega)
        have hb5 : Below w.heap.size w w5 := hT.below.trans (hc5.belowAt (by have := hT.from_; simp; omega) hT.below.size)
        have hc5c : w5.cell? ⟨g1, o1 + k, none⟩ = some (.int .u8 (z : Int)) := (hb5.cell (p := ⟨g1, o1 + k, none⟩) hg1).trans HC.out
        have hql : (dr q (z % 10)).length ≤ 100 := Nat.le_trans (dr_le q _) hq
        have HH5 := Lib.hid hh5
        have HR5 := Lib.hid hr5
        have HS5 := Lib.hid hs5
        have HB5 := Lib.hid hb5
        have HSl := Lib.hid (HTd.out.s.lt)
        have hz5 := hc5.size
        clear hh5 hr5 hs5 hb5 hT hcd hc5
        go_wp2_with fail
        rw [HY.out]
        refine (bytes_any S gs q (z % 10) w5 HS5.out).mono ?_
        rintro e w6 ⟨A6, c6, G6, rfl, hG6, hh6, hs6, hc6⟩
        have hT6 : Two w w6 R gr S gs (dr q (z % 10)) (dr q (z % 10)) := by
          have hT := HTd.out
          exact ⟨HR5.out.keep hc6 (by have := hT.ne; simp; omega) (by have := hT.ne; simp; omega), hs6, hT.ne, hT.from_, HB5.out.trans (hc6.belowAt (by have := hT.from_; simp; omega) HB5.out.size)⟩
        have hcv5 := convert_holds (n := (tk q (z % 10)).length) (c := c5) (HH5.out.keep hc6 (fun _ => by have := HSl.out; simp; omega)) rfl
        have hcv6 := convert_holds (n := (tk q (z % 10)).length) (c := c6) hh6 rfl
        have HT6 := Lib.hid hT6
        clear hh6 hs6 hc6 hT6 HH5 HR5 HS5 HB5
        generalize er q (z % 10) = E at *
        generalize tk q (z % 10) = t at *
        generalize dr q (z % 10) = q' at *
        go_wp2_with fail
        refine (left_any R gr q' w6 HT6.out.r).mono ?_
        rintro e w7 ⟨rfl, rfl⟩
        go_wp2_with fail
        refine (left_any S gs q' w6 HT6.out.s).mono ?_
        rintro e w7 ⟨rfl, rfl⟩
        go_wp2
        go_roundw
        case rel => exact ⟨k + 1, q', by omega, by go_num, hql, HT6.out⟩
        case measure => simp [intOf]; omega
    · have hT := HTr.out
      have hcd := (Ch.refl [] wr).drew
      have hrd := hT.r.keep hcd (by simp) (by simp)
      have hsd := hT.s.keep hcd (by simp) (by simp)
      have hbd := hT.below.drew
      have HNE := Lib.hid hT.ne
      have HFR := Lib.hid hT.from_
      have hSl := hsd.lt
      clear hT hcd HTr
      by_cases hk1 : k < len1
      all_goals
        have hex : True := trivial
        go_wp2
        refine region_plan [(true, 0), (true, 1), (true, 2), (true, 5), (false, 3), (true, 4), (false, 6), (true, 7), (true, 8), (true, 9), (true, 10)] (fun _ => True) (by kernel_rfl) (by kernel_rfl) (by kernel_rfl) rfl trivial ?_
        iterate 4 (refine Plan.take (v := ?_) rfl (by rfl) ?_ ?_; rotate_left 1; (focus (intro x hx; go_simp <;> with_reducible rfl)); simp only [Act.put, List.setIfInBounds_toArray, List.set_cons_zero, List.set_cons_succ])
        refine Plan.loud rfl (fun K hK => ?_)
        go_simp
        refine (rest_any R gr q _ hrd).mono ?_
        rintro e w8 ⟨G8, hG8, rfl, hrow8, hr8, hc8⟩
        have hcv8 := convert_row hrow8
        have hs8 := hsd.keep hc8 (by have := HNE.out; simp; omega) (by have := HNE.out; simp; omega)
        have hb8 : Below w.heap.size w w8 := hbd.trans (hc8.belowAt (by have := HFR.out; simp; omega) hbd.size)
        refine hK.out (fun x => (convert 22 9 (.slice (some ⟨G8, 0, none⟩) q.length q.length)).run Try.prog x = .ok (.string ⟨q.toArray⟩) x) _ _ (fun _ _ => trivial) hcv8 ?_
        clear hK K hcv8 hr8 hc8
        iterate 1 (refine Plan.take (v := ?_) rfl (by rfl) ?_ ?_; rotate_left 1; (focus (intro x hx; go_simp <;> with_reducible rfl)); simp only [Act.put, List.setIfInBounds_toArray, List.set_cons_zero, List.set_cons_succ])
        refine Plan.loud rfl (fun K hK => ?_)
        go_simp
        refine (rest_any S gs q _ hs8).mono ?_
        rintro e w9 ⟨G9, hG9, rfl, hrow9, hs9, hc9⟩
        have hcv9 := convert_row hrow9
        have hcv8 := convert_row (hrow8.keep hc9 (by simp; omega))
        have hb9 : Below w.heap.size w w9 := hb8.trans (hc9.belowAt (by have := HFR.out; simp; omega) hb8.size)
        refine hK.out (fun x => (convert 22 9 (.slice (some ⟨G8, 0, none⟩) q.length q.length)).run Try.prog x = .ok (.string ⟨q.toArray⟩) x ∧ (convert 22 9 (.slice (some ⟨G9, 0, none⟩) q.length q.length)).run Try.prog x = .ok (.string ⟨q.toArray⟩) x) _ _ (fun _ hx => hx.1) ⟨hcv8, hcv9⟩ ?_
        clear hK K hcv8 hcv9 hs9 hc9
        iterate 4 (refine Plan.take (v := ?_) rfl (by rfl) ?_ ?_; rotate_left 1; (focus (intro x hx; go_simp <;> with_reducible rfl)); simp only [Act.put, List.setIfInBounds_toArray, List.set_cons_zero, List.set_cons_succ])
        refine Plan.done ?_
        go_wp2
        go_ret
        exact ⟨rfl, hb9⟩

end Go.Proofs.Ytlaoheflblkgaaa
