/-
  lamplightlaw02.CrcTells answers true, and turns nothing that was there: the walk.
-/
import Derived.Test.YtcboklkpfjefmaaDoorCrcSealed
import Derived.Deep.DeepCutAuto
import Derived.Deep.CutBlock
namespace Go.Proofs.YtcboklkpfjefmaaDoor
set_option linter.unusedVariables false
set_option linter.unusedSimpArgs false
open Go.RowKit

/-- What is made of parts. -/
def cutp (ps : List (List UInt8)) : List (List UInt8) := (ps.take 5).map (fun l => l.take 60)

theorem flat60 : ∀ (n : Nat) (ls : List (List UInt8)), ls.length ≤ n → ((ls.map (fun l => l.take 60)).flatten).length ≤ 60 * n
  | _, [], _ => by simp
  | 0, l :: ls, h => by simp at h
  | n + 1, l :: ls, h => by
    have := flat60 n ls (by simpa using h)
    simp only [List.map_cons, List.flatten_cons, List.length_append, List.length_take]
    omega
theorem cutp_flat (ps : List (List UInt8)) : (cutp ps).flatten.length ≤ 300 := by
  have := flat60 5 (ps.take 5) (by simp; omega)
  unfold cutp
  omega
theorem cutp_len (ps : List (List UInt8)) : (cutp ps).length ≤ 5 := by simp [cutp]; omega
theorem cutp_snoc (ps : List (List UInt8)) (k : Nat) (l : List UInt8) (h : ps[k]? = some l) (hk : k < 5) : cutp (ps.take (k + 1)) = cutp (ps.take k) ++ [l.take 60] := by
  unfold cutp
  rw [List.take_of_length_le (i := 5) (l := ps.take (k + 1)) (by simp; omega), List.take_of_length_le (i := 5) (l := ps.take k) (by simp; omega), List.take_add_one, h]
  simp
theorem cutp_take (ps : List (List UInt8)) (k : Nat) (h : ps.length ≤ k ∨ 5 ≤ k) : cutp (ps.take k) = cutp ps := by
  unfold cutp
  rcases h with h | h
  · rw [List.take_of_length_le h]
  · rw [List.take_take, Nat.min_eq_left h]


theorem OwnP.step {w w' : World} {B : Nat} {V : Option Addr} {c : Nat} {ps : List (List UInt8)} {vs : List Value} (h : OwnP w B V c ps vs) (hb : Below w.heap.size w w') : OwnP w' B V c ps vs := h.keep (Ch.of_below hb) (by simp)

/-- Valid, as the document says it: by Sealed. -/
theorem sealed_valid (l : List UInt8) (q : Nat) (h : l.length = q + 2) : (sld (l.take q) == l) = validB l := by
  have hs := valid_split l (by omega)
  rw [show l.take (l.length - 2) = l.take q by rw [h]; rfl] at hs
  generalize l.take q = t at *
  generalize l[l.length - 2] = a at *
  generalize l[l.length - 1] = b at *
  have e1 : validB l = decide (sum t = word a b) := by
    unfold validB
    rw [decide_eq_true (show 2 ≤ l.length by omega), Bool.true_and]
    have h4 : sum l = sumF 0xFFFF#16 (t ++ [a, b]) := congrArg sum hs
    rw [h4]
    exact decide_eq_decide.2 (sealed 0xFFFF#16 t a b)
  have e2 : sld t = l ↔ sum t = word a b := by
    rw [sld]
    constructor
    · intro h1
      rw [hs] at h1
      have h2 := List.append_cancel_left h1
      simp at h2
      rw [word_of (sum t)]
      unfold hiB loB at h2
      rw [h2.1, h2.2]
    · intro h1
      rw [hs]
      congr 1
      have h2 := (sum_is_word _ _ _).1 h1
      have ha := a.toNat_lt
      have hb := b.toNat_lt
      simp only [hiB, loB, h2, List.cons.injEq, and_true]
      constructor
      · apply UInt8.toNat_inj.1; simp; omega
      · apply UInt8.toNat_inj.1; simp
  rw [e1, Bool.eq_iff_iff, beq_iff_eq, decide_eq_true_iff]
  exact e2

theorem extract_take (l : List UInt8) (q : Nat) : (ByteArray.mk l.toArray).extract 0 q = ByteArray.mk (l.take q).toArray := by
  apply ByteArray.ext
  simp

set_option maxHeartbeats 8000000 in
set_option maxRecDepth 100000 in
theorem tells_walk (P : Option Addr) (n c : Nat) (ps : List (List UInt8)) (g : Nat) (A : Option Addr) (l0 : List UInt8) (len cap : Nat) (w : World) (ht : Tab w) (h : InParts w P ps) (hn : ps.length = n) (hnm : n ≤ 9223372036854775807)
    (h' : Holds w g A (bcs l0)) (hlen : l0.length = len) (hcap : len ≤ cap) (hmx : cap ≤ 9223372036854775807) :
    Calls Tryd.prog 3 #[.slice P n c, .slice A len cap] w fun e w' => e = .returned (.bool true) ∧ Below w.heap.size w w' := by
  obtain ⟨i0, hi, hz0, hz1, hz2⟩ := info_parts info_byte
  obtain ⟨j0, hj, hy0, hy1, hy2⟩ := info_parts info_bytes
  obtain ⟨mb, hmb6, hmbl, hmbin⟩ := min_of len 60 60 rfl
  have hmbc : mb ≤ cap := by omega
  have HH := Lib.hid h'
  have HL := Lib.hid hlen
  have HTB := Lib.hid ht
  have HP0 := Lib.hid h
  have HN := Lib.hid hn
  clear h hn h' hlen ht
  go_enter Tryd.func3, Tryd.ntmps3
  go_wp2_with fail
  refine (shown_any w HTB.out).mono ?_
  rintro e w1 ⟨rfl, hb1⟩
  have HP : Hid (InParts w1 P ps) := HP0.out.below hb1
  have HW1 := Lib.hid hb1
  clear HP0 hb1
  go_wp2
  go_loopw [6, 7, 8] (fun v s i wr => ∃ (k : Nat) (V : Option Addr) (cv : Nat) (vs : List Value), k ≤ n ∧ k ≤ 5 ∧ i = .int .i64 k ∧ v = .slice V (cutp (ps.take k)).length cv ∧ s = .string ⟨(cutp (ps.take k)).flatten.toArray⟩ ∧ OwnP wr w1.heap.size V cv (cutp (ps.take k)) vs ∧ Below w1.heap.size w1 wr) (fun _ _ i _ => n - (intOf i).toNat)
  case atStart => exact ⟨0, none, 0, [], Nat.zero_le _, by omega, rfl, rfl, rfl, ⟨World.ownsRow_nil _ _ _ _, by simp [Value.ownBlock], ⟨rfl, by simp [cutp]⟩⟩, Below.refl _ _⟩
  case round =>
    obtain ⟨k, V, cv, vs, hk, hk5, rfl, rfl, rfl, hown, hb⟩ := hrel
    by_cases hlt : k < n ∧ k < 5
    · obtain ⟨hkn, hk5'⟩ := hlt
      have hpn := HN.out
      obtain ⟨l, hl⟩ : ∃ l, ps[k]? = some l := ⟨_, List.getElem?_eq_getElem (by omega)⟩
      obtain ⟨b, o, gl, Al, cl, hPe, hbw, hcell, hlc, hcm, hhl⟩ := HP.out k l hl
      subst hPe
      obtain ⟨m, hm60, hml, hmin⟩ := min_of l.length 60 60 rfl
      have hlm : (l.take m).length = m := by simp; omega
      have hlm' : l.take m = l.take 60 := by
        by_cases h50 : (60 : Int) < (l.length : Int)
        · rw [if_pos h50] at hmin
          rw [show m = 60 by omega]
        · rw [if_neg h50] at hmin
          rw [List.take_of_length_le (i := m) (by omega), List.take_of_length_le (i := 60) (by omega)]
      have hcr : wr.cell? ⟨b, o + k, none⟩ = some (.slice Al l.length cl) := (hb.cell (p := ⟨b, o + k, none⟩) hbw).trans hcell
      have hkz : (0 : Int) ≤ (k : Int) := by omega
      have hkn' : (k : Int) < (n : Int) := by omega
      have hmz : (0 : Int) ≤ (m : Int) := by omega
      have hmc : (m : Int) ≤ (cl : Int) := by omega
      have HO := Lib.hid hown
      have HB := Lib.hid hb
      have HLM := Lib.hid hlm
      have HLM' := Lib.hid hlm'
      have HHL := Lib.hid hhl
      have HL := Lib.hid hl
      clear hown hb hlm hlm' hhl hl hpn hcell
      have hcl5 : (cutp (ps.take k)).length ≤ 5 := by simp [cutp]; omega
      have hfl : (cutp (ps.take k)).flatten.length ≤ 300 := cutp_flat _
      generalize hcs : cutp (ps.take k) = cs at *
      have HCS := Lib.hid hcs
      clear hcs
      go_wp2
      refine region_plan [(true, 1), (true, 2), (true, 3), (true, 4), (true, 5), (true, 6), (true, 7), (true, 8), (true, 9), (true, 10), (true, 11), (false, 0), (false, 12), (true, 13)]
        (fun x => x.cell? ⟨b, o + k, none⟩ = some (.slice Al l.length cl)) (by kernel_rfl) (by kernel_rfl) (by kernel_rfl) rfl hcr ?_
      iterate 11 (refine Plan.take (v := ?_) rfl (by rfl) ?_ ?_; rotate_left 1; (focus (intro x hx; go_simp <;> (first | with_reducible rfl | rw [if_pos (by omega)]))); simp only [Act.put, List.setIfInBounds_toArray, List.set_cons_zero, List.set_cons_succ])
      refine Plan.loud rfl (fun K hK => ?_)
      go_simp
      have hz : w1.heap.size ≤ wr.heap.size := HB.out.size
      have hb1 : Below w1.heap.size w1 (wr.alloc (.cells #[] 5)).drew := (HB.out.alloc hz _).drew
      have hch1 : Ch [] wr (wr.alloc (.cells #[] 5)).drew := ((Ch.refl [] wr).alloc _).drew
      have he1 : (wr.alloc (.cells #[] 5)).drew.ownsRow 0 5 1 (.slice (some ⟨wr.heap.size, 0, none⟩) 0 0) 0 [] := World.ownsRow_made wr #[] 0 (Nat.zero_le _) (Nat.zero_le _) rfl
      have hh1 : Holds (wr.alloc (.cells #[] 5)).drew gl Al (bcs (l.take m)) := by
        rw [show bcs (l.take m) = (bcs l).take m by simp [bcs]]
        exact (HHL.out.take m).keep (Ch.of_below hb1) (by simp)
      have hcr1 : (wr.alloc (.cells #[] 5)).drew.cell? ⟨b, o + k, none⟩ = some (.slice Al l.length cl) := (hb1.cell (p := ⟨b, o + k, none⟩) hbw).trans ((HB.out.cell (p := ⟨b, o + k, none⟩) hbw).symm.trans hcr)
      refine hK.out _ _ _ (fun x hx => hx) hcr1 ?_
      clear hK K hcr1
      have hs1 : (wr.alloc (.cells #[] 5)).drew.heap.size = wr.heap.size + 1 := by simp
      generalize (wr.alloc (.cells #[] 5)).drew = W1 at *
      have HS1 := Lib.hid hs1
      clear hs1
      refine Plan.loud rfl (fun K hK => ?_)
      rw [if_pos (by rfl)]
      refine wp_append_holds (.tmp 26) (.tmp 37) 23 rfl 5 i0 (.int .u8 0) 1 Tryd.underlying23 hi hz0 hz1 hz2 rfl (.slice (some ⟨wr.heap.size, 0, none⟩) 0 0) 0 [] rfl he1 gl Al m cl (bcs (l.take m)) rfl (by rw [bcs_length]; exact HLM.out) hh1 (bcs_one _) (by unfold maxLen; omega) (by omega) ?_
      intro A5 c5 w5 hown5 hgrow5 hat5
      simp only [Nat.zero_add, List.nil_append] at hown5 hat5
      have hb5 : Below w1.heap.size w1 w5 := hb1.grown hgrow5 hb1.size (by intro g hg; simp [Value.ownBlock] at hg; omega)
      have hch5 : Ch [] wr w5 := hch1.grown hgrow5 (by intro g hg; simp [Value.ownBlock] at hg; omega)
      have ho5 : OwnP w5 w1.heap.size V cv cs vs := HO.out.keep hch5 (by simp)
      have hcr5 : w5.cell? ⟨b, o + k, none⟩ = some (.slice Al l.length cl) := (hb5.cell (p := ⟨b, o + k, none⟩) hbw).trans ((HB.out.cell (p := ⟨b, o + k, none⟩) hbw).symm.trans hcr)
      have hfr5 : ∀ g, (Value.slice A5 m c5).ownBlock = some g → w1.heap.size ≤ g := by
        intro g hg
        rw [hg] at hat5
        have := HS1.out
        simp [Value.ownBlock] at hat5
        omega
      refine hK.out _ _ _ (fun x hx => hx) hcr5 ?_
      clear hK K hcr5 hgrow5 hat5 hb1 he1 hh1 hch1 hch5 hcr
      have HLC : Hid ((l.take m).length = m) := HLM.out
      have HO5 := Lib.hid ho5
      have HB5 := Lib.hid hb5
      have HW5 := Lib.hid hown5
      have HF5 := Lib.hid hfr5
      clear ho5 hb5 hown5 hfr5 HO HB
      have hsum : ¬ 9223372036854775807 < cs.flatten.length + (l.take m).length := by rw [HLC.out]; omega
      have hbig : m ≤ 60 := hm60
      generalize hpp : l.take m = p at *
      have HPP := Lib.hid hpp
      clear hpp
      generalize hFF : cs.flatten = F at *
      have HFF := Lib.hid hFF
      clear hFF
      simp only [Nat.zero_add]
      iterate 1 (refine Plan.take (v := ?_) rfl (by rfl) ?_ ?_; rotate_left 1; (focus (intro x hx; go_simp <;> (first | with_reducible rfl | rw [if_pos (by omega)]))); simp only [Act.put, List.setIfInBounds_toArray, List.set_cons_zero, List.set_cons_succ])
      refine Plan.done ?_
      go_wp2_with (at_builtin; refine wpList_append_holds rfl (.tmp 39) (.tmp 41) 22 rfl 23 j0 (.slice none 0 0) 24 Tryd.underlying22 hj hy0 hy1 hy2 rfl (.slice V cs.length cv) cs.length vs rfl (HO5.out.outer.alloc _) w5.heap.size (some ⟨w5.heap.size, 0, none⟩) 1 1 [.slice A5 m c5] rfl rfl (Holds.of_row (cs := [.slice A5 m c5]) (heap_alloc_new w5 _)) (by simp [Value.oneCell']) (by unfold maxLen; omega) (by omega) ?_; intro V6 c6 w6 hown6 hgrow6 hat6; have hp6 := own_far hgrow6 rfl (HW5.out.alloc (.cells #[.slice A5 m c5] 23)) (HO5.out.outer.alloc (.cells #[.slice A5 m c5] 23)) (by decide); have hcv6 := convert_own hp6 HLC.out; have hjn := cat_two F p)
      have hc1 : cutp (ps.take (k + 1)) = cs ++ [p] := by rw [cutp_snoc ps k l HL.out hk5', HCS.out, ← HLM'.out]
      have hpl : p.length = m := HLC.out
      have hb6 : Below w1.heap.size w1 w6 := (HB5.out.alloc HB5.out.size _).grown hgrow6 (by have := HB5.out.size; simp; omega) (fun g hg => HO5.out.from_ g hg)
      have ho6 : OwnP w6 w1.heap.size V6 c6 (cs ++ [p]) (vs ++ [.slice A5 m c5]) := by
        refine ⟨by simpa using hown6, ?_, ?_⟩
        · intro g hg
          simp only [List.length_append, List.length_cons, List.length_nil] at hg
          rcases hat6 with h | h
          · exact HO5.out.from_ g (by rw [← h]; exact hg)
          · have h5 := HB5.out.size
            rw [h] at hg
            injection hg with hg
            simp at hg
            omega
        · refine (HO5.out.rows.keep fun v n xs hv _ => own_far hgrow6 rfl (hv.alloc _) (HO5.out.outer.alloc _) (by decide)).snoc ?_ HF5.out
          rw [hpl]
          exact hp6
      clear hp6 hcv6 hown6 hgrow6 hat6 hjn
      go_roundw
      case rel => exact ⟨k + 1, V6, c6, _, by omega, by omega, by go_num, by rw [hc1]; simp, by rw [hc1]; simp [HFF.out], by rw [hc1]; exact ho6, hb6⟩
      case measure => simp [intOf]; omega
    · have hend : cutp (ps.take k) = cutp ps := cutp_take ps k (by have := HN.out; omega)
      rw [hend] at hown ⊢
      have HO1 := Lib.hid hown
      have H1 := Lib.hid ((St.begin HTB.out HH.out HW1.out mb).step hb)
      have HLL : Hid ((l0.take mb).length = mb) := by show _ = _; rw [List.length_take, HL.out]; omega
      have hfl : (cutp ps).flatten.length ≤ 300 := cutp_flat ps
      have hcl : (cutp ps).length ≤ 5 := cutp_len ps
      have HCL : Hid (∀ l ∈ cutp ps, l.length ≤ 1099511627776) := by
        intro l hl
        simp only [cutp, List.mem_map] at hl
        obtain ⟨q, _, rfl⟩ := hl
        rw [List.length_take]; omega
      generalize l0.take mb = l at *
      generalize cutp ps = cs at *
      clear hown hend HH HL HTB hb HP HW1
      by_cases hkn : k < n
      all_goals
        go_wp2_with fail
        refine (ref_sum cs.flatten wr (by omega)).mono ?_
        rintro e x2 ⟨rfl, hb2⟩
        have H2 := Lib.hid (H1.out.step hb2)
        have HO2 := Lib.hid (HO1.out.step hb2)
        clear H1 HO1 hb2
        have hv2 : (sum cs.flatten).toNat < 65536 := (sum cs.flatten).isLt
        have HV2 : Hid (((sum cs.flatten).toNat : Int) = ((sum cs.flatten).toNat : Int)) := rfl
        generalize hvv : ((sum cs.flatten).toNat : Int) = v2 at *
        have HVV := Lib.hid hvv
        clear hvv hv2 HV2
        have H3 := Lib.hid (H2.out.alloc (.cells #[] 5))
        have HE3 : Hid ((x2.alloc (.cells #[] 5)).ownsRow 0 5 1 (.slice (some ⟨x2.heap.size, 0, none⟩) 0 0) 0 []) := World.ownsRow_made x2 #[] 0 (Nat.zero_le _) (Nat.zero_le _) rfl
        go_upto_region 12 with (first
          | (at_builtin; refine wpList_append_holds rfl (.tmp 49) (.tmp 54) 23 rfl 5 i0 (.int .u8 0) 1 Tryd.underlying23 hi hz0 hz1 hz2 rfl (.slice (some ⟨x2.heap.size, 0, none⟩) 0 0) 0 [] rfl HE3.out g A mb cap (bcs l) rfl (by rw [bcs_length]; exact HLL.out) H3.out.holds (bcs_one _) (by unfold maxLen; omega) (by omega) ?_; intro A5 c5 x5 hown5 hgrow5 hat5))
        simp only [Nat.zero_add, List.nil_append] at hown5 hat5 ⊢
        have hz1' : x2.heap.size ≤ (x2.alloc (.cells #[] 5)).heap.size := by simp
        have hb5 : Below x2.heap.size x2 x5 := ((((Ch.refl [] x2).alloc _).below (by simp)).grown hgrow5 hz1' (by intro g hg; simp [Value.ownBlock] at hg; omega))
        have H5a := Lib.hid (H2.out.step hb5)
        have HO5 := Lib.hid (HO2.out.step hb5)
        have HOb : Hid (Own1 x5 x2.heap.size A5 mb c5 l) := ⟨hown5, by
          intro g hg
          rw [hg] at hat5
          simp [Value.ownBlock] at hat5
          omega, HLL.out⟩
        obtain ⟨g5, hg5, hgB⟩ := HOb.out.holds
        have H5 := Lib.hid (H5a.out.hold hg5)
        have hc5 : mb ≤ c5 := HOb.out.cap
        have HCV := Lib.hid (fun (x : World) (hx : Holds x g5 A5 (bcs l)) => convert_holds (c := c5) hx HLL.out)
        have hcv5 := HCV.out x5 hg5
        clear H2 HO2 H3 HE3 hown5 hgrow5 hat5 hb5 H5a HOb hg5 hgB hz1'
        go_upto_region 13 with (fail)
        clear hcv5
        go_cut [12] (fun v y => v = .bool (validB l) ∧ Hid (St w.heap.size w g5 A5 l y) ∧ Hid (OwnP y w1.heap.size V cv cs vs))
        case first =>
          by_cases hm2 : mb < 2
          · have hvb : validB l = false := by
              unfold validB
              rw [HLL.out, decide_eq_false (by omega)]
              rfl
            have HVB := Lib.hid hvb
            clear hvb
            go_wp2
            go_meet
            case rel => exact ⟨by rw [HVB.out], H5, HO5⟩
          · obtain ⟨q, hq⟩ : ∃ q, mb = q + 2 := ⟨mb - 2, by omega⟩
            have hsv := sealed_valid l q (HLL.out.trans hq)
            have hex := extract_take l q
            have hq1 : (mb : Int) - 2 = (q : Int) := by omega
            have hll : l.length = mb := HLL.out
            have hql : (q : Int) ≤ (mb : Int) := by omega
            clear hq
            generalize hzz : validB l = zz at *
            have HZZ := Lib.hid hzz
            clear hzz
            go_wp2_with fail
            refine (ref_sealed (l.take q) x5 (by rw [List.length_take]; omega)).mono ?_
            rintro e x6 ⟨rfl, hb6⟩
            have H6 := Lib.hid (H5.out.step hb6)
            have HO6 := Lib.hid (HO5.out.step hb6)
            clear H5 HO5 hb6
            go_wp2
            go_meet
            case rel => exact ⟨rfl, H6, HO6⟩
        case rest =>
          obtain ⟨rfl, H7, HO7⟩ := hcut
          generalize hzz : validB l = zz at *
          have HZZ := Lib.hid hzz
          clear hzz H5 HO5
          have H8 := Lib.hid H7.out.drew
          have HO8 := Lib.hid HO7.out.drew
          clear H7 HO7
          have hll : (sld l).length = mb + 2 := by rw [sld_length, HLL.out]
          have HSL := Lib.hid hll
          clear hll
          go_upto_region 14 with (fail)
          refine region_plan [(true, 0), (true, 2), (false, 1), (true, 3), (true, 4), (true, 5), (true, 7), (false, 6), (true, 8), (true, 9), (true, 10), (true, 11), (true, 13), (false, 12), (true, 14), (true, 15), (true, 16), (true, 17), (true, 20), (false, 18), (true, 19), (false, 21), (true, 22), (true, 23)]
            (fun _ => True) (by kernel_rfl) (by kernel_rfl) (by kernel_rfl) rfl trivial ?_
          generalize World.drew _ = y0 at *
          iterate 2 (refine Plan.take (v := ?_) rfl (by rfl) ?_ ?_; rotate_left 1; (focus (intro x hx; go_simp <;> (first | with_reducible rfl | rw [if_pos (by omega)]))); simp only [Act.put, List.setIfInBounds_toArray, List.set_cons_zero, List.set_cons_succ])
          refine Plan.loud rfl (fun K hK => ?_)
          go_simp
          refine (bits_on cs HO8.out.parts rfl (by omega) HCL.out v2 HVV.out).mono ?_
          rintro e y1 ⟨rfl, hb1⟩
          have H9 := Lib.hid (H8.out.step hb1)
          have HO9 := Lib.hid (HO8.out.step hb1)
          clear H8 HO8 hb1
          refine hK.out _ _ _ (fun x hx => hx) trivial ?_
          clear hK K
          iterate 4 (refine Plan.take (v := ?_) rfl (by rfl) ?_ ?_; rotate_left 1; (focus (intro x hx; go_simp <;> (first | with_reducible rfl | rw [if_pos (by omega)]))); simp only [Act.put, List.setIfInBounds_toArray, List.set_cons_zero, List.set_cons_succ])
          refine Plan.loud rfl (fun K hK => ?_)
          go_simp
          refine (table_on cs H9.out.tab HO9.out.parts rfl (by omega) HCL.out v2 HVV.out).mono ?_
          rintro e y2 ⟨rfl, hb2⟩
          have H10 := Lib.hid (H9.out.step hb2)
          have HO10 := Lib.hid (HO9.out.step hb2)
          clear H9 HO9 hb2
          refine hK.out _ _ _ (fun x hx => hx) trivial ?_
          clear hK K
          iterate 5 (refine Plan.take (v := ?_) rfl (by rfl) ?_ ?_; rotate_left 1; (focus (intro x hx; go_simp <;> (first | with_reducible rfl | rw [if_pos (by omega)]))); simp only [Act.put, List.setIfInBounds_toArray, List.set_cons_zero, List.set_cons_succ])
          refine Plan.loud rfl (fun K hK => ?_)
          go_simp
          refine (valid_on H10.out.tab H10.out.holds HLL.out hc5 (by omega) zz HZZ.out).mono ?_
          rintro e y3 ⟨rfl, hb3⟩
          have H11 := Lib.hid (H10.out.step hb3)
          have HO11 := Lib.hid (HO10.out.step hb3)
          clear H10 HO10 hb3
          refine hK.out _ _ _ (fun x hx => hx) trivial ?_
          clear hK K
          iterate 5 (refine Plan.take (v := ?_) rfl (by rfl) ?_ ?_; rotate_left 1; (focus (intro x hx; go_simp <;> (first | with_reducible rfl | rw [if_pos (by omega)]))); simp only [Act.put, List.setIfInBounds_toArray, List.set_cons_zero, List.set_cons_succ])
          refine Plan.loud rfl (fun K hK => ?_)
          go_simp
          refine (append_on H11.out.tab H11.out.holds HLL.out (by omega)).mono ?_
          rintro e y4 ⟨X, hX, rfl, hrow, hb4⟩
          have H12 := Lib.hid (H11.out.step hb4)
          have HO12 := Lib.hid (HO11.out.step hb4)
          have HR := Lib.hid hrow
          have HCX := Lib.hid (fun (x : World) (hx : Row x X (sld l)) => convert_holds (c := mb + 2) hx.holds HSL.out)
          clear H11 HO11 hb4 hrow hX
          refine hK.out (fun x => (convert 23 9 (.slice (some ⟨X, 0, none⟩) (mb + 2) (mb + 2))).run Tryd.prog x = .ok (.string ⟨(sld l).toArray⟩) x) _ _ (fun x hx => trivial) (HCX.out _ HR.out) ?_
          clear hK K
          iterate 1 (refine Plan.take (v := ?_) rfl (by rfl) ?_ ?_; rotate_left 1; (focus (intro x hx; go_simp <;> (first | with_reducible rfl | rw [if_pos (by omega)]))); simp only [Act.put, List.setIfInBounds_toArray, List.set_cons_zero, List.set_cons_succ])
          refine Plan.loud rfl (fun K hK => ?_)
          go_simp
          refine (ref_sealed l y4 (by have := HLL.out; omega)).mono ?_
          rintro e y5 ⟨rfl, hb5⟩
          have H13 := Lib.hid (H12.out.step hb5)
          have HO13 := Lib.hid (HO12.out.step hb5)
          replace HR := Lib.hid (HR.out.keep (Ch.of_below hb5) (by simp))
          clear H12 HO12 hb5
          refine hK.out _ _ _ (fun x hx => hx) (HCX.out _ HR.out) ?_
          clear hK K
          iterate 2 (refine Plan.take (v := ?_) rfl (by rfl) ?_ ?_; rotate_left 1; (focus (intro x hx; go_simp <;> (first | with_reducible rfl | rw [if_pos (by omega)]))); simp only [Act.put, List.setIfInBounds_toArray, List.set_cons_zero, List.set_cons_succ])
          refine Plan.done ?_
          clear HCX HR HSL
          have hcvE := HCV.out y5 H13.out.holds
          go_wp2
          go_loop [13, 14] (fun s i => ∃ q : Nat, q ≤ cs.length ∧ i = .int .i64 q ∧ s = .string ⟨(flat cs q).toArray⟩) (fun _ i => cs.length - (intOf i).toNat)
          case atStart => exact ⟨0, by omega, rfl, rfl⟩
          case round =>
            obtain ⟨q, hq, rfl, rfl⟩ := hrel
            by_cases hqc : q < cs.length
            · have hqv : q < vs.length := by rw [HO13.out.rows.len]; exact hqc
              obtain ⟨hv, hB⟩ := HO13.out.rows.own q vs[q] cs[q] (List.getElem?_eq_getElem hqv) (List.getElem?_eq_getElem hqc)
              obtain ⟨A', c', hform⟩ := own_form hv
              obtain ⟨b, o, g', A'', c'', rfl, hcell, hh⟩ := HO13.out.parts q cs[q] (List.getElem?_eq_getElem hqc)
              have hcvq := convert_holds (c := c'') hh rfl
              have HF := Lib.hid (flat_succ cs q hqc)
              have hfq : (flat cs q).length ≤ cs.flatten.length := by
                have h1 : cs.flatten = flat cs q ++ (cs.drop q).flatten := by
                  unfold flat
                  rw [← List.flatten_append, List.take_append_drop]
                rw [h1]; simp
              have hfq2 : (flat cs q).length + cs[q].length ≤ cs.flatten.length := by
                have h1 : cs.flatten = flat cs (q + 1) ++ (cs.drop (q + 1)).flatten := by
                  unfold flat
                  rw [← List.flatten_append, List.take_append_drop]
                rw [h1, List.length_append, HF.out, List.length_append]; omega
              have hjn := cat_two (flat cs q) cs[q]
              generalize flat cs q = F at *
              generalize cs[q] = p at *
              have hsum : ¬ 9223372036854775807 < F.length + p.length := by omega
              clear hv hB hform hh hfq hcvE
              go_wp2
              go_round
              case rel => exact ⟨q + 1, by omega, by go_num, by rw [HF.out]⟩
              case measure => simp [intOf]; omega
            · have hqq : q = cs.length := by omega
              subst hqq
              rw [flat_all]
              go_wp2
              go_ret
              exact ⟨rfl, H13.out.below⟩

end Go.Proofs.YtcboklkpfjefmaaDoor
