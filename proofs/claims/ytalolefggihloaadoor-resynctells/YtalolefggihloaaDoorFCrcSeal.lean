/-
  crc.Append and crc.Valid: bytes with their sum behind, in new memory; are the last two the sum of all others? What they answer; nothing that was there is turned.
-/
import Derived.Test.YtalolefggihloaaDoorFCrcCode
import Derived.Test.YtalolefggihloaaDoorFEager
import Derived.Deep.CutBlock
namespace Go.Proofs.YtalolefggihloaaDoor
set_option linter.unusedVariables false
set_option linter.unusedSimpArgs false
open Go.RowKit

/-- Parts of a call's own making: one slice. -/
theorem one_part {w : World} {g : Nat} {A : Option Addr} {c n : Nat} {l : List UInt8} (h : Holds w g A (bcs l)) (hn : l.length = n) : PartsAt (w.alloc (.cells #[.slice A n c] 32)) (some ⟨w.heap.size, 0, none⟩) [l] := by
  subst hn
  intro k m hk
  match k, hk with
  | 0, hk =>
    simp at hk
    subst hk
    exact ⟨w.heap.size, 0, g, A, c, rfl, (cell_alloc_new _ _ _ _ _ rfl).trans rfl, h.keep ((Ch.refl [] _).alloc _) (by simp)⟩

/-- The two bytes of a sum. -/
def hiB (v : BitVec 16) : UInt8 := UInt8.ofNat (v.toNat / 256)
def loB (v : BitVec 16) : UInt8 := UInt8.ofNat v.toNat
/-- Bytes with their sum. -/
def sld (l : List UInt8) : List UInt8 := l ++ [hiB (sum l), loB (sum l)]
theorem sld_length (l : List UInt8) : (sld l).length = l.length + 2 := by simp [sld]
theorem sld_sum (l : List UInt8) : sum (sld l) = 0#16 := (sealed _ _ _ _).2 (word_of _)

theorem fill_two (l : List UInt8) (n v : Nat) (hn : l.length = n) (hv : v < 65536) :
    ((fill (n + 2) l).toArray.setIfInBounds n (.int .u8 ((v : Int) / 256))).setIfInBounds (n + 1) (.int .u8 ((v : Int) % 256)) = (bcs (l ++ [UInt8.ofNat (v / 256), UInt8.ofNat v])).toArray := by
  subst hn
  have hb : (bcs l).length = l.length := bcs_length l
  have h1 : fill (l.length + 2) l = bcs l ++ [.int .u8 0, .int .u8 0] := by simp [fill, List.replicate]
  have h2 : bcs (l ++ [UInt8.ofNat (v / 256), UInt8.ofNat v]) = bcs l ++ [.int .u8 ((v : Int) / 256), .int .u8 ((v : Int) % 256)] := by
    rw [bcs_append]
    congr 1
    simp [bcs]
    omega
  rw [h1, h2, ← hb]
  simp [List.set_append]

set_option maxHeartbeats 800000 in
theorem append_any (g : Nat) (A : Option Addr) (n c : Nat) (l : List UInt8) (w : World) (ht : Tab w) (h : Holds w g A (bcs l)) (hn : l.length = n) (hl : n ≤ 1099511627774) :
    Calls Tryd.prog 24 #[.slice A n c] w fun e w' => e = .returned (.slice (some ⟨w.heap.size + 1, 0, none⟩) (n + 2) (n + 2)) ∧ Row w' (w.heap.size + 1) (sld l) ∧ Below w.heap.size w w' := by
  obtain ⟨i0, hi, hz0, hz1, hz2⟩ := info_parts info_byte
  have HP := Lib.hid (one_part (c := c) h hn)
  have HH := Lib.hid h
  have HN := Lib.hid hn
  have HTB := Lib.hid ht
  clear h hn ht
  go_enter Tryd.func24, Tryd.ntmps24
  go_wp2_with fail
  refine (table_any _ 1 [l] _ (HTB.out.keep ((Ch.refl [] _).alloc _) (by simp)) HP.out (by simp) (by simp [HN.out]; omega)).mono ?_
  rintro e w1 ⟨rfl, rfl⟩
  simp only [List.flatten_cons, List.flatten_nil, List.append_nil]
  have hz1' : w.heap.size < (w.alloc (.cells #[.slice A n c] 32)).heap.size := by simp
  have hbw : Below w.heap.size w (w.alloc (.cells #[.slice A n c] 32)) := ((Ch.refl [] w).alloc _).below (by simp)
  have hw1 : (w.alloc (.cells #[.slice A n c] 32)).heap.size = w.heap.size + 1 := by simp
  obtain ⟨w1, hW⟩ : ∃ w1, w1 = w.alloc (.cells #[.slice A n c] 32) := ⟨_, rfl⟩
  rw [← hW] at hbw hw1 ⊢
  have HH1 : Hid (Holds w1 g A (bcs l)) := HH.out.keep (Ch.of_below hbw) (by simp)
  clear hW hz1' HH HP HTB
  have hv := (sum l).isLt
  have HB : Hid (sld l = l ++ [hiB (sum l), loB (sum l)]) := rfl
  unfold hiB loB at HB
  generalize (sum l).toNat = v at *
  go_upto_region 3 with (first
    | (at_make; refine wpList_make_full _ rfl (.tmp 11) (.tmp 11) 32 rfl w1.heap.size 5 i0 (.int .u8 0) 1 Tryd.underlying32 hi hz0 hz1 .i64 .i64 _ _ (n + 2) rfl rfl (by go_num) (by go_num) (by rw [hz2]; omega) (by unfold maxLen; omega) (Nat.le_refl _) ?_; intro w2 hown2 hgrow2))
  have hrow := row_of_own hown2
  rw [show (Value.int IntKind.u8 0).cells = #[Value.int IntKind.u8 0] from rfl, toList_madeCells_one, Nat.mul_one, ← fill_none] at hrow
  have hb2 : Below w.heap.size w w2 := hbw.grown hgrow2 (by omega) (by simp)
  have HH2 : Hid (Holds w2 g A (bcs l)) := HH1.out.keep (Ch.of_below ((Below.refl w1.heap.size w1).grown hgrow2 (Nat.le_refl _) (by simp))) (by simp)
  rw [hw1] at hrow
  have HR := Lib.hid hrow
  have HSRC : Hid (0 < (bcs l).length → ∃ ad, A = some ad ∧ ∀ j v, (bcs l)[j]? = some v → w2.cell? (ad.add j) = some v) := by
    intro hl
    obtain ⟨_, o', rfl, hc⟩ := HH2.out hl
    exact ⟨_, rfl, fun j v hv => by rw [addr_add]; exact hc j v hv⟩
  have HF : Hid (0 + (bcs l).length ≤ (fill (n + 2) []).length) := by
    show _ ≤ _
    rw [bcs_length, fill_length _ _ (by simp), HN.out]; omega
  have HE : Hid ((bcs l).length = n) := (bcs_length _).trans HN.out
  have HM : Hid ((bcs l).length = Nat.min n (n + 2)) := HE.out.trans (Nat.min_eq_left (by omega)).symm
  have HNX : Hid (splice (fill (n + 2) []) 0 (bcs l) = fill (n + 2) l) := fill_splice (n + 2) [] l (by simp [HN.out])
  clear hrow hown2 hgrow2 HH1 HH2 hbw
  go_upto_region 4 with (first
    | ((with_reducible refine wpList_copy_splice rfl (.tmp 13) (.tmp 14) 32 32 rfl 5 Tryd.underlying32 size_byte _ _ _ _ _ _ rfl rfl (w.heap.size + 1) 0 (fill (n + 2) []) 5 HR.out (bcs l) HM.out (fun hl => ⟨rfl, HSRC.out hl⟩) HF.out (bcs_one _) w.heap.size w hb2 (by omega) ?_); intro w3 HR3 hb3; rw [HNX.out] at HR3; rw [HE.out]))
  have hc0 : w3.cell? ⟨w.heap.size + 1, n, none⟩ = some (.int .u8 0) := by
    have := HR3.out
    simp [World.cell?, this, fill, List.getElem?_append_right, bcs_length, HN.out]
  have hc1 : w3.cell? ⟨w.heap.size + 1, n + 1, none⟩ = some (.int .u8 0) := by
    have := HR3.out
    simp [World.cell?, this, fill, List.getElem?_append_right, bcs_length, HN.out]
  have hf0 : w3.frozen? ⟨w.heap.size + 1, n, none⟩ = false := frozen_of_row _ _ _ _ _ HR3.out
  have hf1 : w3.frozen? ⟨w.heap.size + 1, n + 1, none⟩ = false := frozen_of_row _ _ _ _ _ HR3.out
  clear HSRC HF HM HNX HR
  go_wp2
  go_ret
  refine ⟨rfl, ?_, ?_⟩
  · have h1 := heap_setCell_same w3 _ n _ _ (.int .u8 ((v : Int) / 256)) HR3.out
    have h2 := heap_setCell_same _ _ (n + 1) _ _ (.int .u8 ((v : Int) % 256)) h1
    refine h2.trans ?_
    rw [HB.out, ← fill_two l n v HN.out (by omega)]
  · exact (hb3.setCell (by show w.heap.size ≤ w.heap.size + 1; omega) _).setCell (by show w.heap.size ≤ w.heap.size + 1; omega) _

/-- Are the last two the sum of all others? -/
def validB (l : List UInt8) : Bool := decide (2 ≤ l.length) && decide (sum l = 0#16)

theorem valid_split (l : List UInt8) (h : 2 ≤ l.length) : l = l.take (l.length - 2) ++ [l[l.length - 2], l[l.length - 1]] := by
  conv => lhs; rw [← List.take_append_drop (l.length - 2) l]
  congr 1
  rw [List.drop_eq_getElem_cons (by omega), List.drop_eq_getElem_cons (by omega), List.drop_eq_nil_of_le (by omega)]
  simp [show l.length - 2 + 1 = l.length - 1 by omega]

theorem sum_is_word (s : BitVec 16) (a b : UInt8) : s = word a b ↔ s.toNat = a.toNat * 256 + b.toNat := by
  rw [← word_nat]
  exact ⟨fun h => by rw [h], fun h => BitVec.eq_of_toNat_eq h⟩

set_option maxHeartbeats 800000 in
theorem valid_any (g : Nat) (A : Option Addr) (n c : Nat) (l : List UInt8) (w : World) (ht : Tab w) (h : Holds w g A (bcs l)) (hn : l.length = n) (hc : n ≤ c) (hl : n ≤ 1099511627776) :
    Calls Tryd.prog 28 #[.slice A n c] w fun e w' => e = .returned (.bool (validB l)) ∧ Below w.heap.size w w' := by
  have HH := Lib.hid h
  have HN := Lib.hid hn
  have HTB := Lib.hid ht
  clear h hn ht
  by_cases h2 : n < 2
  · go_enter Tryd.func28, Tryd.ntmps28
    go_wp2
    go_ret
    refine ⟨?_, Below.refl _ _⟩
    have : ¬ 2 ≤ l.length := by rw [HN.out]; omega
    simp [validB, this]
  · obtain ⟨m, rfl⟩ : ∃ m, n = m + 2 := ⟨n - 2, by omega⟩
    have e1 : ((m + 2 : Nat) : Int) - 2 = (m : Int) := by omega
    obtain ⟨hg, o, rfl, hcells⟩ := HH.out (by rw [bcs_length, HN.out]; omega)
    have hm0 : m < l.length := by rw [HN.out]; omega
    have hm1 : m + 1 < l.length := by rw [HN.out]; omega
    have hca := hcells m _ (bcs_get l m hm0)
    have hcb := hcells (m + 1) _ (bcs_get l (m + 1) hm1)
    have HP := Lib.hid (one_part (w := w.drew) (c := c) (n := m) (l := l.take m) (by
      rw [show bcs (l.take m) = (bcs l).take m by simp [bcs]]
      exact (HH.out.take m).keep (Ch.refl [] w).drew (by simp)) (by rw [List.length_take, HN.out]; omega))
    have HV : Hid (validB l = decide ((sum (l.take m)).toNat = l[m].toNat * 256 + l[m + 1].toNat)) := by
      show _ = _
      have hs := valid_split l (by rw [HN.out]; omega)
      have h3 : l = l.take m ++ [l[m], l[m + 1]] := by
        simpa [HN.out] using hs
      have h4 : sum l = sumF 0xFFFF#16 (l.take m ++ [l[m], l[m + 1]]) := congrArg sum h3
      have h5 := sealed 0xFFFF#16 (l.take m) l[m] l[m + 1]
      have h6 : 2 ≤ l.length := by rw [HN.out]; omega
      unfold validB
      rw [decide_eq_true h6, Bool.true_and]
      rw [h4]
      exact decide_eq_decide.2 (h5.trans (sum_is_word _ _ _))
    have ha := l[m].toNat_lt
    have hb := l[m + 1].toNat_lt
    have hsl := (sum (l.take m)).isLt
    have hor : bits .or .u16 ((l[m].toNat : Int) * 256) (l[m + 1].toNat : Int) = ((l[m].toNat * 256 + l[m + 1].toNat : Nat) : Int) := by
      rw [← nat_join 8 (l[m].toNat * 256) l[m + 1].toNat (by omega) (by omega), ← u16_or_nat _ _ (by omega) (by omega)]
      rfl
    generalize l[m].toNat = a at *
    generalize l[m + 1].toNat = b at *
    have hmc : m ≤ c := by omega
    have hwa : IntKind.u16.wrap (a : Int) = (a : Int) := by rw [IntKind.wrap_u16]; omega
    have hwa2 : IntKind.u16.wrap ((a : Int) * 256) = (a : Int) * 256 := by rw [IntKind.wrap_u16]; omega
    have hwb : IntKind.u16.wrap (b : Int) = (b : Int) := by rw [IntKind.wrap_u16]; omega
    have hwr : IntKind.i64.wrap ((m : Int) + 1) = (m : Int) + 1 := by rw [IntKind.wrap_i64]; omega
    have ha' : a < 256 := ha
    have hb' : b < 256 := hb
    clear hcells hm0 hm1
    go_enter Tryd.func28, Tryd.ntmps28
    go_wp2
    refine region_plan [(true, 0), (true, 1), (true, 2), (true, 5), (true, 6), (true, 7), (true, 8), (true, 9), (true, 10), (true, 11), (true, 12), (true, 13), (true, 14), (true, 15), (true, 16), (true, 17), (false, 3), (false, 4), (true, 18), (true, 19)]
      (fun x => x.cell? ⟨g, o + m, none⟩ = some (.int .u8 (a : Int)) ∧ x.cell? ⟨g, o + (m + 1), none⟩ = some (.int .u8 (b : Int)))
      (by kernel_rfl) (by kernel_rfl) (by kernel_rfl) rfl ⟨hca, hcb⟩ ?_
    iterate 16 (refine Plan.take (v := ?_) rfl (by rfl) ?_ ?_; rotate_left 1; (focus (intro x hx; go_simp <;> (first | with_reducible rfl | rw [if_pos (by omega)]))); simp only [Act.put, List.setIfInBounds_toArray, List.set_cons_zero, List.set_cons_succ])
    refine Plan.loud rfl (fun K hK => ?_)
    go_simp
    refine hK.out _ _ _ (fun x hx => hx) ⟨?_, ?_⟩ ?_
    · exact (((Ch.refl [] w).drew.alloc _).cell (p := ⟨g, o + m, none⟩) hg (by simp)).trans hca
    · exact (((Ch.refl [] w).drew.alloc _).cell (p := ⟨g, o + (m + 1), none⟩) hg (by simp)).trans hcb
    clear hK K
    refine Plan.loud rfl (fun K hK => ?_)
    go_simp
    refine (table_any _ 1 [l.take m] _ (HTB.out.keep ((Ch.refl [] w).drew.alloc _) (by simp)) HP.out (by simp) (by simp; omega)).mono ?_
    rintro e w1 ⟨rfl, rfl⟩
    simp only [List.flatten_cons, List.flatten_nil, List.append_nil]
    refine hK.out _ _ _ (fun x hx => hx) ⟨?_, ?_⟩ ?_
    · exact (((Ch.refl [] w).drew.alloc _).cell (p := ⟨g, o + m, none⟩) hg (by simp)).trans hca
    · exact (((Ch.refl [] w).drew.alloc _).cell (p := ⟨g, o + (m + 1), none⟩) hg (by simp)).trans hcb
    clear hK K
    iterate 2 (refine Plan.take (v := ?_) rfl (by rfl) ?_ ?_; rotate_left 1; (focus (intro x hx; go_simp <;> (first | with_reducible rfl | rw [if_pos (by omega)]))); simp only [Act.put, List.setIfInBounds_toArray, List.set_cons_zero, List.set_cons_succ])
    refine Plan.done ?_
    go_wp2
    go_ret
    refine ⟨?_, ?_⟩
    · show Ending.returned (.bool (((sum (l.take m)).toNat : Int) == (a : Int) * 256 + (b : Int))) = _
      rw [HV.out]
      congr 2
      rw [Bool.eq_iff_iff, beq_iff_eq, decide_eq_true_iff]
      omega
    · exact ((Ch.refl [] w).drew.alloc _).below (by simp)

end Go.Proofs.YtalolefggihloaaDoor
