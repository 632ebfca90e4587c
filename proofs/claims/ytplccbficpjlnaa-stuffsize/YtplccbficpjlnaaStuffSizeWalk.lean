/-
  lamplightlaw03.StuffSize answers true, and turns nothing that was there, if the two calls keep their contracts: the walk.
-/
import Derived.Test.YtplccbficpjlnaaStuffShown
import Derived.Test.YtplccbficpjlnaaEager
namespace Go.Proofs.Ytplccbficpjlnaa
set_option linter.unusedVariables false
set_option linter.unusedSimpArgs false
open Go.RowKit

/-- How many are stuffed. -/
def cnt (l : List UInt8) : Nat := l.countP (fun b => b == 126 || b == 125)
theorem cnt_le (l : List UInt8) : cnt l ≤ l.length := List.countP_le_length
theorem cnt_next (l : List UInt8) (k : Nat) (h : k < l.length) : cnt (l.take (k + 1)) = cnt (l.take k) + (if l[k] = 126 ∨ l[k] = 125 then 1 else 0) := by
  unfold cnt
  rw [List.take_add_one, List.getElem?_eq_getElem h, List.countP_append]
  congr 1
  simp only [Option.toList_some, List.countP_cons, List.countP_nil, Nat.zero_add, Bool.or_eq_true, beq_iff_eq]
theorem stf_cnt : ∀ l : List UInt8, (stf l).length = l.length + cnt l
  | [] => by simp [stf, cnt]
  | b :: l => by
    have ih := stf_cnt l
    unfold cnt at ih ⊢
    rw [stf_cons, List.length_append, List.length_cons, ih, List.countP_cons]
    rcases stf1_cases b with ⟨rfl, h⟩ | ⟨rfl, h⟩ | ⟨h1, h2, h⟩
    · rw [h]; simp; omega
    · rw [h]; simp; omega
    · rw [h]; simp [h1, h2]; omega
theorem stf_at (l : List UInt8) (k j : Nat) (h : k < l.length) (hj : j < (stf1 l[k]).length) : (stf l)[(stf (l.take k)).length + j]? = (stf1 l[k])[j]? := by
  have e : stf l = stf (l.take k) ++ (stf1 l[k] ++ stf (l.drop (k + 1))) := by
    conv => lhs; rw [← List.take_append_drop k l, List.drop_eq_getElem_cons h, stf_append, stf_cons]
  rw [e, List.getElem?_append_right (by omega), Nat.add_sub_cancel_left, List.getElem?_append_left hj]

set_option maxHeartbeats 4000000 in
set_option maxRecDepth 100000 in
theorem size_walk (hS : StuffOn) (hU : UnstuffOn) (g : Nat) (A : Option Addr) (l0 : List UInt8) (len cap : Nat) (w : World) (h : Holds w g A (bcs l0)) (hlen : l0.length = len) (hcap : len ≤ cap) (hmx : cap ≤ 9223372036854775807) :
    Calls Try.prog 7 #[.slice A len cap] w fun e w' => e = .returned (.bool true) ∧ Below w.heap.size w w' := by
  obtain ⟨m, hm3, hml, hmin⟩ := min_of len 1000 1000 rfl
  have HS := Lib.hid hS
  have HU := Lib.hid hU
  have HH := Lib.hid h
  have HL := Lib.hid hlen
  clear h hlen hS hU
  go_enter Try.func7, Try.ntmps7
  go_wp2_with fail
  refine (shown_any HS.out HU.out w).mono ?_
  rintro e x1 ⟨rfl, hb1⟩
  have K1 := Lib.hid (Kp.begin HH.out hb1 m)
  have HLL : Hid ((l0.take m).length = m) := by show _ = _; rw [List.length_take, HL.out]; omega
  generalize l0.take m = l at *
  clear HH HL hb1
  have hmc : m ≤ cap := by omega
  go_wp2
  go_loop [4, 5] (fun s i => ∃ k : Nat, k ≤ m ∧ i = .int .i64 k ∧ s = .int .i64 (cnt (l.take k) : Nat)) (fun _ i => m - (intOf i).toNat)
  case atStart => exact ⟨0, by omega, rfl, rfl⟩
  case round =>
    obtain ⟨k, hk, rfl, rfl⟩ := hrel
    by_cases hlt : k < m
    · have hkl : k < l.length := by rw [HLL.out]; exact hlt
      obtain ⟨_, o, rfl, hcells⟩ := K1.out.holds (by rw [bcs_length]; omega)
      have hc := hcells k _ (bcs_get l k hkl)
      have HN := Lib.hid (cnt_next l k hkl)
      have hcl : cnt (l.take k) ≤ 1000 := by have := cnt_le (l.take k); rw [List.length_take] at this; omega
      generalize cnt (l.take k) = ck at *
      have hlt' : (k : Int) < (m : Int) := by omega
      obtain ⟨b, hb⟩ : ∃ b, l[k] = b := ⟨_, rfl⟩
      rw [hb] at hc HN
      clear hb hcells
      rcases stf1_cases b with ⟨rfl, _⟩ | ⟨rfl, _⟩ | ⟨h1, h2, _⟩
      · have hbn : (126 : UInt8).toNat = 126 := rfl
        rw [if_pos (by decide)] at HN
        go_wp2
        go_round
        case rel => exact ⟨k + 1, by omega, by go_num, by rw [HN.out]; go_num⟩
        case measure => simp [intOf]; omega
      · have hbn : (125 : UInt8).toNat = 125 := rfl
        rw [if_pos (by decide)] at HN
        go_wp2
        go_round
        case rel => exact ⟨k + 1, by omega, by go_num, by rw [HN.out]; go_num⟩
        case measure => simp [intOf]; omega
      · have hn1 : ((b.toNat : Int) == 126) = false := u8_ne (n := 126) (by omega) h1
        have hn2 : ((b.toNat : Int) == 125) = false := u8_ne (n := 125) (by omega) h2
        rw [if_neg (fun h => h.elim h1 h2), Nat.add_zero] at HN
        clear h1 h2
        go_wp2
        go_round
        case rel => exact ⟨k + 1, by omega, by go_num, by rw [HN.out]; rfl⟩
        case measure => simp [intOf]; omega
    · have hkm : k = m := by omega
      subst hkm
      rw [show l.take k = l from List.take_of_length_le (by rw [HLL.out]; exact Nat.le_refl _)]
      have hcl : cnt l ≤ 1000 := by have := cnt_le l; rw [HLL.out] at this; omega
      have HSC := Lib.hid (stf_cnt l)
      generalize cnt l = ck at *
      go_wp2_with fail
      refine (HS.out g A k cap l x1 K1.out.holds HLL.out hmc (by omega)).mono ?_
      rintro e x2 ⟨A2, n2, c2, rfl, ho2, hb2⟩
      have K2 := Lib.hid (K1.out.step hb2)
      have HO2 := Lib.hid ho2
      have hn2 : n2 = k + ck := by rw [← HO2.out.len, HSC.out, HLL.out]
      subst hn2
      have hle := stf_length_le l
      rw [HO2.out.len, HLL.out] at hle
      clear K1 ho2 hb2
      go_wp2
      go_loopw [7, 8] (fun a i wr => ∃ j : Nat, j ≤ k ∧ i = .int .i64 j ∧ a = .int .i64 ((stf (l.take j)).length : Nat) ∧ Hid (Own1 wr x1.heap.size A2 (k + ck) c2 (stf l)) ∧ Hid (Kp w.heap.size w g A l wr)) (fun _ i _ => k - (intOf i).toNat)
      case atStart => exact ⟨0, by omega, rfl, rfl, HO2, K2⟩
      case round =>
        obtain ⟨j, hj, rfl, rfl, HO, HK⟩ := hrel
        by_cases hlt : j < k
        · have hjl : j < l.length := by rw [HLL.out]; exact hlt
          obtain ⟨hgl, o, rfl, hcells⟩ := HK.out.holds (by rw [bcs_length]; omega)
          have hc := hcells j _ (bcs_get l j hjl)
          have HN := Lib.hid (take_next l j hjl)
          have hat0 := stf_at l j 0 hjl (by rcases stf1_cases l[j] with ⟨_, h⟩ | ⟨_, h⟩ | ⟨_, _, h⟩ <;> rw [h] <;> simp)
          have hat1 : 1 < (stf1 l[j]).length → (stf l)[(stf (l.take j)).length + 1]? = (stf1 l[j])[1]? := stf_at l j 1 hjl
          rw [Nat.add_zero] at hat0
          obtain ⟨at0, hat0e⟩ : ∃ a, (stf (l.take j)).length = a := ⟨_, rfl⟩
          have HAT : Hid ((stf (l.take j)).length = at0) := hat0e
          rw [hat0e] at hat0 hat1 ⊢
          obtain ⟨b, hb⟩ : ∃ b, l[j] = b := ⟨_, rfl⟩
          rw [hb] at hc HN hat0 hat1
          have hjk' : (j : Int) < (k : Int) := by omega
          clear hcells hb hat0e
          have hx0 : at0 < (stf l).length := by
            rcases Nat.lt_or_ge at0 (stf l).length with h | h
            · exact h
            · rw [List.getElem?_eq_none h] at hat0
              rcases stf1_cases b with ⟨_, h⟩ | ⟨_, h⟩ | ⟨_, _, h⟩ <;> rw [h] at hat0 <;> simp at hat0
          obtain ⟨gx, rfl, _, hgxl, hcx, _, _⟩ := HO.out.at at0 hx0
          have hx0k : at0 < k + ck := by rw [← HO.out.len]; exact hx0
          have hx0' : (at0 : Int) < (k : Int) + (ck : Int) := by omega
          rw [List.getElem?_eq_getElem hx0] at hat0
          rcases stf1_cases b with ⟨rfl, h1⟩ | ⟨rfl, h1⟩ | ⟨hb1, hb2, h1⟩
          · rw [h1] at HN hat0 hat1
            have hbn : (126 : UInt8).toNat = 126 := rfl
            have hx0e : (stf l)[at0] = 125 := by simpa using hat0
            have hat1' : (stf l)[at0 + 1]? = some 94 := hat1 (by simp)
            have hx1 : at0 + 1 < (stf l).length := by
              rcases Nat.lt_or_ge (at0 + 1) (stf l).length with h | h
              · exact h
              · rw [List.getElem?_eq_none h] at hat1'; cases hat1'
            have hx1e : (stf l)[at0 + 1] = 94 := by rw [List.getElem?_eq_getElem hx1] at hat1'; exact Option.some.inj hat1'
            obtain ⟨gx', hgx', _, _, hcx1, _, _⟩ := HO.out.at (at0 + 1) hx1
            injection hgx' with hgx'
            injection hgx' with hgx'
            subst hgx'
            rw [hx0e, show ((125 : UInt8).toNat : Int) = 125 from rfl] at hcx
            rw [hx1e, show ((94 : UInt8).toNat : Int) = 94 from rfl] at hcx1
            rw [show ((126 : UInt8).toNat : Int) = 126 from rfl] at hc
            have hx1k : at0 + 1 < k + ck := by rw [← HO.out.len]; exact hx1
            have hx1' : (at0 : Int) + 1 < (k : Int) + (ck : Int) := by omega
            have hwr : IntKind.i64.wrap ((at0 : Int) + 1) = (at0 : Int) + 1 := by rw [IntKind.wrap_i64]; omega
            have hxor : bits .xor .u8 126 32 = 94 := by decide
            have HLN : Hid ((stf (l.take (j + 1))).length = at0 + 2) := by show _ = _; rw [HN.out, List.length_append, HAT.out]; rfl
            have HO3 : Hid (Own1 wr.drew x1.heap.size (some ⟨gx, 0, none⟩) (k + ck) c2 (stf l)) := HO.out.step (((Ch.refl [] wr).drew).below (by simp))
            have HK3 := Lib.hid HK.out.drew
            clear hat0 hat1 hat1' hx0e hx1e HO HK HN
            go_upto_region 17 with (fail)
            refine region_plan [(true, 0), (true, 1), (true, 2), (true, 3), (true, 4), (true, 5), (true, 6), (true, 7), (true, 8), (true, 9), (true, 10), (true, 11), (true, 12), (true, 13), (true, 14), (true, 15), (true, 16), (true, 17)]
              (fun y => y.cell? ⟨gx, at0, none⟩ = some (.int .u8 125) ∧ y.cell? ⟨gx, at0 + 1, none⟩ = some (.int .u8 94) ∧ y.cell? ⟨g, o + j, none⟩ = some (.int .u8 126)) (by kernel_rfl) (by kernel_rfl) (by kernel_rfl) rfl ⟨hcx, hcx1, hc⟩ ?_
            generalize wr.drew = y0 at *
            iterate 18 (refine Plan.take (v := ?_) rfl (by rfl) ?_ ?_; rotate_left 1; (focus (intro x hx; go_simp <;> (first | with_reducible rfl | rw [if_pos (by omega)]))); simp only [Act.put, List.setIfInBounds_toArray, List.set_cons_zero, List.set_cons_succ])
            refine Plan.done ?_
            go_wp2
            go_roundw
            case rel => exact ⟨j + 1, by omega, by go_num, by rw [HLN.out]; go_num, HO3, HK3⟩
            case measure => simp [intOf]; omega
          · rw [h1] at HN hat0 hat1
            have hbn : (125 : UInt8).toNat = 125 := rfl
            have hx0e : (stf l)[at0] = 125 := by simpa using hat0
            have hat1' : (stf l)[at0 + 1]? = some 93 := hat1 (by simp)
            have hx1 : at0 + 1 < (stf l).length := by
              rcases Nat.lt_or_ge (at0 + 1) (stf l).length with h | h
              · exact h
              · rw [List.getElem?_eq_none h] at hat1'; cases hat1'
            have hx1e : (stf l)[at0 + 1] = 93 := by rw [List.getElem?_eq_getElem hx1] at hat1'; exact Option.some.inj hat1'
            obtain ⟨gx', hgx', _, _, hcx1, _, _⟩ := HO.out.at (at0 + 1) hx1
            injection hgx' with hgx'
            injection hgx' with hgx'
            subst hgx'
            rw [hx0e, show ((125 : UInt8).toNat : Int) = 125 from rfl] at hcx
            rw [hx1e, show ((93 : UInt8).toNat : Int) = 93 from rfl] at hcx1
            rw [show ((125 : UInt8).toNat : Int) = 125 from rfl] at hc
            have hx1k : at0 + 1 < k + ck := by rw [← HO.out.len]; exact hx1
            have hx1' : (at0 : Int) + 1 < (k : Int) + (ck : Int) := by omega
            have hwr : IntKind.i64.wrap ((at0 : Int) + 1) = (at0 : Int) + 1 := by rw [IntKind.wrap_i64]; omega
            have hxor : bits .xor .u8 125 32 = 93 := by decide
            have HLN : Hid ((stf (l.take (j + 1))).length = at0 + 2) := by show _ = _; rw [HN.out, List.length_append, HAT.out]; rfl
            have HO3 : Hid (Own1 wr.drew x1.heap.size (some ⟨gx, 0, none⟩) (k + ck) c2 (stf l)) := HO.out.step (((Ch.refl [] wr).drew).below (by simp))
            have HK3 := Lib.hid HK.out.drew
            clear hat0 hat1 hat1' hx0e hx1e HO HK HN
            go_upto_region 17 with (fail)
            refine region_plan [(true, 0), (true, 1), (true, 2), (true, 3), (true, 4), (true, 5), (true, 6), (true, 7), (true, 8), (true, 9), (true, 10), (true, 11), (true, 12), (true, 13), (true, 14), (true, 15), (true, 16), (true, 17)]
              (fun y => y.cell? ⟨gx, at0, none⟩ = some (.int .u8 125) ∧ y.cell? ⟨gx, at0 + 1, none⟩ = some (.int .u8 93) ∧ y.cell? ⟨g, o + j, none⟩ = some (.int .u8 125)) (by kernel_rfl) (by kernel_rfl) (by kernel_rfl) rfl ⟨hcx, hcx1, hc⟩ ?_
            generalize wr.drew = y0 at *
            iterate 18 (refine Plan.take (v := ?_) rfl (by rfl) ?_ ?_; rotate_left 1; (focus (intro x hx; go_simp <;> (first | with_reducible rfl | rw [if_pos (by omega)]))); simp only [Act.put, List.setIfInBounds_toArray, List.set_cons_zero, List.set_cons_succ])
            refine Plan.done ?_
            go_wp2
            go_roundw
            case rel => exact ⟨j + 1, by omega, by go_num, by rw [HLN.out]; go_num, HO3, HK3⟩
            case measure => simp [intOf]; omega
          · rw [h1] at HN hat0
            have hx0e : (stf l)[at0] = b := by simpa using hat0
            rw [hx0e] at hcx
            have hn1 : ((b.toNat : Int) == 126) = false := u8_ne (n := 126) (by omega) hb1
            have hn2 : ((b.toNat : Int) == 125) = false := u8_ne (n := 125) (by omega) hb2
            have HLN : Hid ((stf (l.take (j + 1))).length = at0 + 1) := by show _ = _; rw [HN.out, List.length_append, HAT.out]; rfl
            have HO3 : Hid (Own1 wr.drew x1.heap.size (some ⟨gx, 0, none⟩) (k + ck) c2 (stf l)) := HO.out.step (((Ch.refl [] wr).drew).below (by simp))
            have HK3 := Lib.hid HK.out.drew
            generalize b.toNat = bn at *
            clear hat0 hat1 hx0e HO HK HN hb1 hb2 h1
            go_upto_region 20 with (fail)
            refine region_plan [(true, 0), (true, 1), (true, 2), (true, 3), (true, 4), (true, 5), (true, 6), (true, 7), (true, 8)]
              (fun y => y.cell? ⟨gx, at0, none⟩ = some (.int .u8 (bn : Int)) ∧ y.cell? ⟨g, o + j, none⟩ = some (.int .u8 (bn : Int))) (by kernel_rfl) (by kernel_rfl) (by kernel_rfl) rfl ⟨hcx, hc⟩ ?_
            generalize wr.drew = y0 at *
            iterate 9 (refine Plan.take (v := ?_) rfl (by rfl) ?_ ?_; rotate_left 1; (focus (intro x hx; go_simp <;> (first | with_reducible rfl | rw [if_pos (by omega)]))); simp only [Act.put, List.setIfInBounds_toArray, List.set_cons_zero, List.set_cons_succ])
            refine Plan.done ?_
            go_wp2
            go_roundw
            case rel => exact ⟨j + 1, by omega, by go_num, by rw [HLN.out]; go_num, HO3, HK3⟩
            case measure => simp [intOf]; omega
        · have hjk : j = k := by omega
          subst hjk
          rw [show l.take j = l from List.take_of_length_le (by rw [HLL.out]; exact Nat.le_refl _), HO.out.len]
          go_wp2
          go_ret
          exact ⟨rfl, HK.out.below⟩

end Go.Proofs.Ytplccbficpjlnaa
