/-
  lamplightlaw06.WireEdits, walked: true, whatever came in.
-/
import Derived.Test.YthpalepkilmpiaaWireL
namespace Go.Proofs.Ythpalepkilmpiaa
set_option linter.unusedVariables false
set_option linter.unusedSimpArgs false
open Go.RowKit

theorem editM_get (l : List UInt8) (n : Int) (y : UInt8) (i : Nat) (hi : i < l.length) : (editM l n y)[i]? = some (if i = n.toNat % l.length then l[i] ^^^ y else l[i]) := by
  have hq : n.toNat % l.length < l.length := Nat.mod_lt _ (by omega)
  unfold editM
  rw [List.getElem?_eq_getElem hq]
  simp only
  by_cases h : i = n.toNat % l.length
  · rw [if_pos h]
    subst h
    rw [List.getElem?_set_self hq]
  · rw [if_neg h, List.getElem?_set_ne (fun e => h e.symm), List.getElem?_eq_getElem hi]
theorem editM_twice (l : List UInt8) (n : Int) (y : UInt8) : editM (editM l n y) n y = l := by
  apply List.ext_getElem?
  intro i
  rcases Nat.lt_or_ge i l.length with hi | hi
  · have h1 := editM_get (editM l n y) n y i (by rw [editM_length]; exact hi)
    have h2 := editM_get l n y i hi
    rw [List.getElem?_eq_getElem (by rw [editM_length]; exact hi)] at h2
    injection h2 with h2
    rw [h1, h2, editM_length, List.getElem?_eq_getElem hi]
    congr 1
    split
    · rw [UInt8.xor_assoc, UInt8.xor_self, UInt8.xor_zero]
    · rfl
  · rw [List.getElem?_eq_none (by rw [editM_length, editM_length]; exact hi), List.getElem?_eq_none hi]
/-- How many bytes of the first k an edit has turned. -/
def cnt (n : Int) (y : UInt8) (m k : Nat) : Nat := if n.toNat % m < k ∧ y ≠ 0 then 1 else 0
theorem cnt_zero (n : Int) (y : UInt8) (m : Nat) : cnt n y m 0 = 0 := by
  unfold cnt
  rw [if_neg (by omega)]
theorem cnt_le (n : Int) (y : UInt8) (m k : Nat) : cnt n y m k ≤ 1 := by
  unfold cnt
  split <;> omega
theorem cnt_same (n : Int) (y : UInt8) (m k : Nat) (h : k ≠ n.toNat % m ∨ y = 0) : cnt n y m (k + 1) = cnt n y m k := by
  unfold cnt
  rcases h with h | h
  · have : (n.toNat % m < k + 1 ∧ y ≠ 0) ↔ (n.toNat % m < k ∧ y ≠ 0) := by
      constructor <;> rintro ⟨h1, h2⟩ <;> exact ⟨by omega, h2⟩
    simp only [this]
  · rw [if_neg (fun hh => hh.2 h), if_neg (fun hh => hh.2 h)]
theorem cnt_more (n : Int) (y : UInt8) (m : Nat) (h : y ≠ 0) : cnt n y m (n.toNat % m + 1) = 1 ∧ cnt n y m (n.toNat % m) = 0 := by
  unfold cnt
  rw [if_pos ⟨by omega, h⟩, if_neg (by omega)]
  exact ⟨rfl, rfl⟩
theorem cnt_all (n : Int) (y : UInt8) (m : Nat) : cnt n y m m = if y ≠ 0 ∧ 0 < m then 1 else 0 := by
  unfold cnt
  rcases Nat.eq_zero_or_pos m with rfl | hm
  · rw [if_neg (by omega), if_neg (by omega)]
  · have := Nat.mod_lt n.toNat hm
    by_cases h : y = 0
    · rw [if_neg (fun hh => hh.2 h), if_neg (fun hh => hh.1 h)]
    · rw [if_pos ⟨this, h⟩, if_pos ⟨h, hm⟩]

set_option maxRecDepth 100000 in
set_option maxHeartbeats 3200000 in
theorem wireedits_walk (g : Nat) (A : Option Addr) (l0 : List UInt8) (n0 c : Nat) (N : Int) (y : UInt8) (w : World) (hh : Holds w g A (bcs l0)) (hn : l0.length = n0) (hc : n0 ≤ c) (hm : c ≤ 9223372036854775807) :
    Calls Try.prog 8 #[.slice A n0 c, .int .i64 N, .int .u8 (y.toNat : Int)] w fun e w' => e = .returned (.bool true) ∧ Below w.heap.size w w' := by
  obtain ⟨n, hnn⟩ : ∃ n, min n0 200 = n := ⟨_, rfl⟩
  obtain ⟨l, hl⟩ : ∃ l, l0.take 200 = l := ⟨_, rfl⟩
  have HL : Hid (l.length = n) := by show _ = _; rw [← hl, List.length_take]; omega
  have HH : Hid (Holds w g A (bcs l)) := by show Holds _ _ _ _; rw [← hl, bcs_take]; exact hh.take _
  have hn200 : n ≤ 200 := by omega
  have hnc : n ≤ c := by omega
  have HE := Lib.hid (editM_length l N y)
  have HCM : Hid (c ≤ maxLen) := by show _ ≤ _; unfold maxLen; omega
  clear hh hn hl
  go_enter Try.func8, Try.ntmps8
  go_wp2_with fail
  refine (shown_on w).mono ?_
  rintro e x0 ⟨rfl, hb0⟩
  have HB0 := Lib.hid hb0
  clear hb0
  go_wp2_with fail
  refine (few_on hc HCM.out).mono ?_
  rintro e x1 ⟨rfl, rfl⟩
  rw [hnn]
  clear hnn
  have HX1 := Lib.hid (heap_alloc_new x1 (.cells #[.int .i64 4, .int .i64 N, .int .u8 (y.toNat : Int), .slice none 0 0] 30))
  have HW1 := Lib.hid (new_below x1 (.cells #[.int .i64 4, .int .i64 N, .int .u8 (y.toNat : Int), .slice none 0 0] 30))
  go_wp2_with fail
  have HB2 : Hid (Below w.heap.size w (x1.alloc (.cells #[.int .i64 4, .int .i64 N, .int .u8 (y.toNat : Int), .slice none 0 0] 30))) := HB0.out.trans (HW1.out.mono HB0.out.size)
  have HFl : Hid (x1.heap.size < (x1.alloc (.cells #[.int .i64 4, .int .i64 N, .int .u8 (y.toNat : Int), .slice none 0 0] 30)).heap.size) := by show _ < _; simp
  clear HB0 HW1
  generalize x1.alloc (.cells #[.int .i64 4, .int .i64 N, .int .u8 (y.toNat : Int), .slice none 0 0] 30) = x2 at *
  generalize x1.heap.size = F at *
  refine (of_on (f := ⟨4, N, y, []⟩) (gB := 0) (AB := none) (bc := 0) (HH.out.keep (Ch.of_below HB2.out) (by simp)) HL.out (by omega) hnc HCM.out (Holds.nil _ _ _) (Nat.le_refl _) (Nat.zero_le _)).mono ?_
  rintro e x3 ⟨V, vs, cx, rfl, hrp, hb3⟩
  obtain ⟨gx, Ax, le, cx', rfl, _, hgx, _, hpe, hcx, _, hown⟩ := hrp.at 0 (show 0 < 1 by decide)
  have hle : editM l N y = le := by simpa [Fl.of] using hpe
  subst hle
  obtain ⟨ge, hge⟩ := own_ex_holds hown rfl
  have hcapE := own_cap (own_zero hown)
  have hmaxE := own_max (own_zero hown)
  rw [HE.out, HL.out] at hcx hcapE
  have HGE := Lib.hid hge
  have HCX := Lib.hid hcx
  have HGX := Lib.hid hgx
  have HCE := Lib.hid hcapE
  have HME := Lib.hid hmaxE
  have HB3 : Hid (Below w.heap.size w x3) := HB2.out.trans (hb3.mono HB2.out.size)
  have HX3 : Hid (x3.heap[F]? = some (.cells #[.int .i64 4, .int .i64 N, .int .u8 (y.toNat : Int), .slice none 0 0] 30 (0, 0))) := (hb3.block _ HFl.out).trans HX1.out
  clear hrp hb3 hown hge hgx hcapE hmaxE hpe HB2 HX1 HFl
  have hone : (Fl.of ⟨4, N, y, []⟩ l).length = 1 := rfl
  rw [hone]
  clear hone
  go_wp2
  clear hcx
  go_loopw [10, 11] (fun v i wr => ∃ k q : Nat, k ≤ n ∧ i = .int .i64 k ∧ v = .int .i64 q ∧ Hid (q = cnt N y n k) ∧ Hid (Below x3.heap.size x3 wr)) (fun _ i _ => n - (intOf i).toNat)
  case atStart => exact ⟨0, 0, Nat.zero_le _, rfl, rfl, (cnt_zero N y n).symm, Lib.hid (Below.refl _ _)⟩
  case round =>
    obtain ⟨k, q, hk, rfl, rfl, HQ, HB⟩ := hrel
    have hq1 : q ≤ 1 := by rw [HQ.out]; exact cnt_le _ _ _ _
    by_cases hlt : k < n
    · have i1 : (k : Int) < (n : Int) := by omega
      have hkl : k < l.length := by rw [HL.out]; exact hlt
      have hke : k < (editM l N y).length := by rw [HE.out]; exact hkl
      have hbd := HB.out.trans ((drew_below wr).mono HB.out.size)
      have hwd := HB3.out.trans (hbd.mono HB3.out.size)
      have hcx2 : wr.drew.cell? ⟨gx, 0, none⟩ = some (.slice Ax n cx') := (hbd.cell (p := ⟨gx, 0, none⟩) HGX.out).trans HCX.out
      obtain ⟨_, oe, rfl, hec⟩ := (HGE.out.keep (F := []) (Ch.of_below hbd) (by simp)) (by rw [bcs_length]; omega)
      obtain ⟨_, ol, rfl, hlc⟩ := (HH.out.keep (F := []) (Ch.of_below hwd) (by simp)) (by rw [bcs_length]; omega)
      have hlk := hlc k _ (bcs_get l k hkl)
      have hek := hec k _ (bcs_get _ k hke)
      have hget := editM_get l N y k hkl
      rw [List.getElem?_eq_getElem hke] at hget
      injection hget with hget
      rw [hget, HL.out] at hek
      clear hec hlc hget hbd hwd
      generalize (l[k]'hkl) = b at *
      by_cases hcase : k = N.toNat % n ∧ y ≠ 0
      · obtain ⟨hkq, hy⟩ := hcase
        rw [if_pos hkq] at hek
        have hne : ((b ^^^ y).toNat : Int) ≠ (b.toNat : Int) := by
          intro h
          have h2 : b ^^^ y = b := UInt8.toNat_inj.1 (by omega)
          apply hy
          have h3 : b ^^^ (b ^^^ y) = b ^^^ b := by rw [h2]
          rwa [← UInt8.xor_assoc, UInt8.xor_self, UInt8.zero_xor] at h3
        have hbn : (((b ^^^ y).toNat : Int) != (b.toNat : Int)) = true := by simpa using hne
        have hxx : bits .xor .u8 ((b ^^^ y).toNat : Int) (b.toNat : Int) = (y.toNat : Int) := by
          rw [xor_byte, UInt8.xor_comm b y, UInt8.xor_assoc, UInt8.xor_self, UInt8.xor_zero]
        have HQ1 : Hid (q = 0 ∧ 1 = cnt N y n (k + 1)) := by
          have h1 := cnt_more N y n hy
          rw [← hkq] at h1
          exact ⟨by rw [HQ.out]; exact h1.2, h1.1.symm⟩
        obtain ⟨rfl, hq2⟩ := HQ1.out
        have HQ2 := Lib.hid hq2
        clear hq2 HQ1 HQ hne hkq hy
        generalize ((b ^^^ y).toNat : Int) = be at *
        have HAll := Lib.hid (And.intro hcx2 (And.intro hek hlk))
        clear hcx2 hek hlk
        go_upto_region 11 with fail
        refine region_plan [(true, 0), (true, 1), (true, 2), (true, 3), (true, 4), (true, 5), (true, 6), (true, 7), (true, 8), (true, 9), (true, 10)]
          (fun x => x.cell? ⟨gx, 0, none⟩ = some (.slice (some ⟨ge, oe, none⟩) n cx') ∧ x.cell? ⟨ge, oe + k, none⟩ = some (.int .u8 be) ∧ x.cell? ⟨g, ol + k, none⟩ = some (.int .u8 (b.toNat : Int))) (by kernel_rfl) (by kernel_rfl) (by kernel_rfl) rfl HAll.out ?_
        iterate 11 (refine Plan.take (v := ?_) rfl (by rfl) ?_ ?_; rotate_left 1; (focus (intro x hx; go_simp <;> (first | with_reducible rfl | rw [if_pos (by omega)]))); simp only [Act.put, List.setIfInBounds_toArray, List.set_cons_zero, List.set_cons_succ])
        refine Plan.done ?_
        go_upto_region 13 with fail
        refine region_plan [(true, 0), (true, 1), (true, 2), (true, 3), (true, 4), (true, 5), (true, 6), (true, 7), (true, 8), (true, 9), (true, 10), (true, 11), (true, 12)]
          (fun x => x.cell? ⟨gx, 0, none⟩ = some (.slice (some ⟨ge, oe, none⟩) n cx') ∧ x.cell? ⟨ge, oe + k, none⟩ = some (.int .u8 be) ∧ x.cell? ⟨g, ol + k, none⟩ = some (.int .u8 (b.toNat : Int))) (by kernel_rfl) (by kernel_rfl) (by kernel_rfl) rfl HAll.out ?_
        iterate 13 (refine Plan.take (v := ?_) rfl (by rfl) ?_ ?_; rotate_left 1; (focus (intro x hx; go_simp <;> (first | with_reducible rfl | rw [if_pos (by omega)]))); simp only [Act.put, List.setIfInBounds_toArray, List.set_cons_zero, List.set_cons_succ])
        refine Plan.done ?_
        go_wp2
        go_simp
        exact ⟨⟨k + 1, by omega, by omega, 1, by omega, HQ2, Lib.hid (HB.out.trans (((drew_below wr).trans ((drew_below wr.drew).mono (Nat.le_refl _))).mono HB.out.size))⟩, by simp [intOf]; omega⟩
      · have hsame : (if k = N.toNat % n then b ^^^ y else b) = b := by
          by_cases h : k = N.toNat % n
          · rw [if_pos h]
            have hy : y = 0 := Classical.byContradiction fun hy => hcase ⟨h, hy⟩
            rw [hy, UInt8.xor_zero]
          · rw [if_neg h]
        rw [hsame] at hek
        have HQ2 : Hid (q = cnt N y n (k + 1)) := by
          show _ = _
          rw [cnt_same, HQ.out]
          by_cases h : k = N.toNat % n
          · exact .inr (Classical.byContradiction fun hy => hcase ⟨h, hy⟩)
          · exact .inl h
        clear hsame hcase HQ
        have HAll := Lib.hid (And.intro hcx2 (And.intro hek hlk))
        clear hcx2 hek hlk
        go_upto_region 11 with fail
        refine region_plan [(true, 0), (true, 1), (true, 2), (true, 3), (true, 4), (true, 5), (true, 6), (true, 7), (true, 8), (true, 9), (true, 10)]
          (fun x => x.cell? ⟨gx, 0, none⟩ = some (.slice (some ⟨ge, oe, none⟩) n cx') ∧ x.cell? ⟨ge, oe + k, none⟩ = some (.int .u8 (b.toNat : Int)) ∧ x.cell? ⟨g, ol + k, none⟩ = some (.int .u8 (b.toNat : Int))) (by kernel_rfl) (by kernel_rfl) (by kernel_rfl) rfl HAll.out ?_
        iterate 11 (refine Plan.take (v := ?_) rfl (by rfl) ?_ ?_; rotate_left 1; (focus (intro x hx; go_simp <;> (first | with_reducible rfl | rw [if_pos (by omega)]))); simp only [Act.put, List.setIfInBounds_toArray, List.set_cons_zero, List.set_cons_succ])
        refine Plan.done ?_
        go_wp2
        go_simp
        exact ⟨⟨k + 1, by omega, by omega, q, by omega, HQ2, Lib.hid (HB.out.trans ((drew_below wr).mono HB.out.size))⟩, by simp [intOf]; omega⟩
    · have hkn : k = n := by omega
      subst hkn
      have HQA : Hid (q = if y ≠ 0 ∧ 0 < k then 1 else 0) := by show _ = _; rw [HQ.out]; exact cnt_all N y k
      have HB4 := Lib.hid (HB3.out.trans (HB.out.mono HB3.out.size))
      have HCX4 : Hid (wr.cell? ⟨gx, 0, none⟩ = some (.slice Ax k cx')) := (HB.out.cell (p := ⟨gx, 0, none⟩) HGX.out).trans HCX.out
      have HGE4 := Lib.hid (HGE.out.keep (F := []) (Ch.of_below HB.out) (by simp))
      have HX4 : Hid (wr.heap[F]? = some (.cells #[.int .i64 4, .int .i64 N, .int .u8 (y.toNat : Int), .slice none 0 0] 30 (0, 0))) := (HB.out.block _ (Array.getElem?_eq_some_iff.1 HX3.out).1).trans HX3.out
      clear HQ HB HB3 HCX HGE HX3
      go_upto_region 15 with fail
      have hbox : wr.drew.heap[F]? = some (.cells #[.int .i64 4, .int .i64 N, .int .u8 (y.toNat : Int), .slice none 0 0] 30 (0, 0)) := HX4.out
      refine region_plan [(true, 0), (true, 1), (true, 2), (true, 3), (false, 4), (true, 5)]
        (fun x => x.cell? ⟨F, 0, none⟩ = some (.int .i64 4) ∧ x.cell? ⟨F, 1, none⟩ = some (.int .i64 N) ∧ x.cell? ⟨F, 2, none⟩ = some (.int .u8 (y.toNat : Int)) ∧ x.cell? ⟨F, 3, none⟩ = some (.slice none 0 0) ∧ x.cell? ⟨gx, 0, none⟩ = some (.slice Ax k cx')) (by kernel_rfl) (by kernel_rfl) (by kernel_rfl) rfl ⟨by simp [World.cell?, hbox], by simp [World.cell?, hbox], by simp [World.cell?, hbox], by simp [World.cell?, hbox], HCX4.out⟩ ?_
      clear hbox
      iterate 4 (refine Plan.take (v := ?_) rfl (by rfl) ?_ ?_; rotate_left 1; (focus (intro x hx; go_simp <;> (first | with_reducible rfl | rw [if_pos (by omega)]))); simp only [Act.put, List.setIfInBounds_toArray, List.set_cons_zero, List.set_cons_succ])
      have HB5 : Hid (Below w.heap.size w wr.drew) := HB4.out.trans ((drew_below wr).mono HB4.out.size)
      have HGE5 : Hid (Holds wr.drew ge Ax (bcs (editM l N y))) := HGE4.out.keep (F := []) (Ch.of_below (drew_below wr)) (by simp)
      have HX5 : Hid (wr.drew.heap[F]? = some (.cells #[.int .i64 4, .int .i64 N, .int .u8 (y.toNat : Int), .slice none 0 0] 30 (0, 0))) := HX4.out
      have HCX5 : Hid (wr.drew.cell? ⟨gx, 0, none⟩ = some (.slice Ax k cx')) := HCX4.out
      clear HB4 HGE4 HX4 HCX4
      generalize wr.drew = x4 at *
      refine Plan.loud rfl (fun K hK => ?_)
      go_simp
      refine (of_on (f := ⟨4, N, y, []⟩) (gB := 0) (AB := none) (bc := 0) HGE5.out (by rw [HE.out, HL.out]) (by omega) HCE.out HME.out (Holds.nil _ _ _) (Nat.le_refl _) (Nat.zero_le _)).mono ?_
      rintro e x5 ⟨Vy, vsy, cy, rfl, hry, hb5⟩
      have hry2 : Rp x5 x4.heap.size Vy 1 cy vsy [l] := by
        have h : Rp x5 x4.heap.size Vy 1 cy vsy [editM (editM l N y) N y] := hry
        rw [editM_twice] at h
        exact h
      have HRY := Lib.hid hry2
      have HB6 : Hid (Below w.heap.size w x5) := HB5.out.trans (hb5.mono HB5.out.size)
      have hx6 : x5.heap[F]? = some (.cells #[.int .i64 4, .int .i64 N, .int .u8 (y.toNat : Int), .slice none 0 0] 30 (0, 0)) := (hb5.block _ (Array.getElem?_eq_some_iff.1 HX5.out).1).trans HX5.out
      have hcx6 : x5.cell? ⟨gx, 0, none⟩ = some (.slice Ax k cx') := (hb5.cell (p := ⟨gx, 0, none⟩) (World.block_lt_of_cell? _ _ HCX5.out)).trans HCX5.out
      rw [show (Fl.of ⟨4, N, y, []⟩ (editM l N y)).length = 1 from rfl]
      refine hK.out _ _ _ (fun x hx => hx) ⟨by simp [World.cell?, hx6], by simp [World.cell?, hx6], by simp [World.cell?, hx6], by simp [World.cell?, hx6], hcx6⟩ ?_
      clear hK K hry hry2 hb5 hx6 hcx6 HB5 HGE5 HX5 HCX5
      iterate 1 (refine Plan.take (v := ?_) rfl (by rfl) ?_ ?_; rotate_left 1; (focus (intro x hx; go_simp <;> (first | with_reducible rfl | rw [if_pos (by omega)]))); simp only [Act.put, List.setIfInBounds_toArray, List.set_cons_zero, List.set_cons_succ])
      refine Plan.done ?_
      go_wp2_with fail
      refine (of_on (f := ⟨5, N, 0, []⟩) (gB := 0) (AB := none) (bc := 0) (HH.out.keep (Ch.of_below HB6.out) (by simp)) HL.out (by omega) hnc HCM.out (Holds.nil _ _ _) (Nat.le_refl _) (Nat.zero_le _)).mono ?_
      rintro e x6 ⟨Vz, vsz, cz, rfl, hrz, hb7⟩
      have hrz2 : Rp x6 x5.heap.size Vz 1 cz vsz [l.take N.toNat] := hrz
      rw [show (Fl.of ⟨5, N, 0, []⟩ l).length = 1 from rfl]
      have HB7 : Hid (Below w.heap.size w x6) := HB6.out.trans (hb7.mono HB6.out.size)
      obtain ⟨gy, Ay, ly, cy', rfl, _, _, _, hpy, hcy, _, howny⟩ := (HRY.out.step hb7).at 0 (by decide)
      obtain ⟨gz, Az, lz, cz', rfl, _, _, _, hpz, hcz, _, hownz⟩ := hrz2.at 0 (by decide)
      have hly : l = ly := by simpa using hpy
      have hlz : l.take N.toNat = lz := by simpa using hpz
      subst hly hlz
      have hv1 : (convert 28 9 (.slice Ay k cy')).run Try.prog x6.drew = .ok (.string ⟨l.toArray⟩) x6.drew := by
        have h := convert_own (own_zero (own_ft (B := 0) (T := []) howny (Ft.of_below (drew_below x6)) (by simp))) rfl
        rw [HL.out] at h
        exact h
      have hv2 : (convert 28 9 (.slice A k c)).run Try.prog x6.drew = .ok (.string ⟨l.toArray⟩) x6.drew := convert_holds (HH.out.keep (F := []) (Ch.of_below (HB7.out.trans ((drew_below x6).mono HB7.out.size))) (by simp)) HL.out
      obtain ⟨zl, hzl⟩ : ∃ zl, (l.take N.toNat).length = zl := ⟨_, rfl⟩
      have hzn : zl ≤ k := by rw [← hzl, List.length_take, HL.out]; omega
      have hzt : l.take zl = l.take N.toNat := by
        rw [← hzl, List.length_take]
        by_cases h : N.toNat ≤ l.length
        · rw [show min N.toNat l.length = N.toNat by omega]
        · rw [show min N.toNat l.length = l.length by omega, List.take_length, List.take_of_length_le (by omega)]
      have hv3 : (convert 28 9 (.slice Az zl cz')).run Try.prog x6.drew = .ok (.string ⟨(l.take zl).toArray⟩) x6.drew := by
        have h := convert_own (own_zero (own_ft (B := 0) (T := []) hownz (Ft.of_below (drew_below x6)) (by simp))) rfl
        rw [hzl] at h
        rw [hzt]
        exact h
      have hv4 : (convert 28 9 (.slice A zl c)).run Try.prog x6.drew = .ok (.string ⟨(l.take zl).toArray⟩) x6.drew := by
        refine convert_holds (g := g) ?_ (by rw [List.length_take, HL.out]; omega)
        rw [bcs_take]
        exact (HH.out.keep (F := []) (Ch.of_below (HB7.out.trans ((drew_below x6).mono HB7.out.size))) (by simp)).take _
      have hcy6 : x6.drew.cell? ⟨gy, 0, none⟩ = some (.slice Ay k cy') := by rw [HL.out] at hcy; exact hcy
      have hcz6 : x6.drew.cell? ⟨gz, 0, none⟩ = some (.slice Az zl cz') := by rw [hzl] at hcz; exact hcz
      clear hrz hrz2 hpy hpz howny hownz hcy hcz hb7 hzl hzt
      have hzc : (zl : Int) ≤ (c : Int) := by omega
      have hzk : ¬ ((k : Int) < (zl : Int)) := by omega
      go_upto_region 17 with fail
      refine region_plan [(true, 0), (true, 1), (true, 2), (true, 3), (true, 4), (true, 5), (true, 6), (true, 7), (true, 8), (true, 9), (true, 10), (true, 11), (true, 12), (true, 13), (true, 14), (true, 15), (true, 16), (true, 17), (true, 18), (true, 19), (true, 20), (true, 21), (true, 22), (true, 23), (true, 24), (true, 25), (true, 26), (true, 27), (true, 28), (true, 29), (true, 30), (true, 31), (true, 32), (true, 33), (true, 34), (true, 35), (true, 36), (true, 37), (true, 38), (true, 39)]
        (fun x => x.cell? ⟨gy, 0, none⟩ = some (.slice Ay k cy') ∧ x.cell? ⟨gz, 0, none⟩ = some (.slice Az zl cz') ∧ (convert 28 9 (.slice Ay k cy')).run Try.prog x = .ok (.string ⟨l.toArray⟩) x ∧ (convert 28 9 (.slice A k c)).run Try.prog x = .ok (.string ⟨l.toArray⟩) x ∧ (convert 28 9 (.slice Az zl cz')).run Try.prog x = .ok (.string ⟨(l.take zl).toArray⟩) x ∧ (convert 28 9 (.slice A zl c)).run Try.prog x = .ok (.string ⟨(l.take zl).toArray⟩) x) (by kernel_rfl) (by kernel_rfl) (by kernel_rfl) rfl ⟨hcy6, hcz6, hv1, hv2, hv3, hv4⟩ ?_
      clear hcy6 hcz6 hv1 hv2 hv3 hv4
      iterate 25 (first | (refine Plan.take (v := ?_) rfl (by rfl) ?_ ?_; rotate_left 1; (focus (intro x hx; go_simp <;> (first | with_reducible rfl | rw [if_pos (by omega)]))); simp only [Act.put, List.setIfInBounds_toArray, List.set_cons_zero, List.set_cons_succ]) | (refine Plan.skip rfl (by rfl) ?_; simp only [Act.put, List.setIfInBounds_toArray, List.set_cons_zero, List.set_cons_succ]))
      rw [show decide (k < zl) = false from decide_eq_false (by omega)]
      iterate 15 (first | (refine Plan.take (v := ?_) rfl (by rfl) ?_ ?_; rotate_left 1; (focus (intro x hx; go_simp <;> (first | with_reducible rfl | rw [if_pos (by omega)]))); simp only [Act.put, List.setIfInBounds_toArray, List.set_cons_zero, List.set_cons_succ]) | (refine Plan.skip rfl (by rfl) ?_; simp only [Act.put, List.setIfInBounds_toArray, List.set_cons_zero, List.set_cons_succ]))
      refine Plan.done ?_
      have HB8 : Hid (Below w.heap.size w x6.drew) := HB7.out.trans ((drew_below x6).mono HB7.out.size)
      by_cases hy : y = 0
      · have hq0 : q = 0 := by rw [HQA.out, if_neg (fun h => h.1 hy)]
        subst hq0 hy
        go_wp2
        go_ret
        exact ⟨rfl, HB8.out⟩
      · have hyi : ((y.toNat : Int) != 0) = true := by
          rw [bne_iff_ne]
          intro h
          exact hy (UInt8.toNat_inj.1 (by show y.toNat = 0; omega))
        by_cases hk0 : k = 0
        · have hq0 : q = 0 := by rw [HQA.out, if_neg (by omega)]
          subst hq0 hk0
          go_wp2
          go_ret
          exact ⟨rfl, HB8.out⟩
        · have hq0 : q = 1 := by rw [HQA.out, if_pos ⟨hy, by omega⟩]
          have hk1 : (0 : Int) < (k : Int) := by omega
          subst hq0
          go_wp2
          go_ret
          exact ⟨rfl, HB8.out⟩

theorem wireedits_nat (g : Nat) (A : Option Addr) (l0 : List UInt8) (n0 c : Nat) (N : Int) (x : Nat) (w : World) (hh : Holds w g A (bcs l0)) (hn : l0.length = n0) (hc : n0 ≤ c) (hm : c ≤ 9223372036854775807) (hx : x < 256) :
    Calls Try.prog 8 #[.slice A n0 c, .int .i64 N, .int .u8 (x : Int)] w fun e w' => e = .returned (.bool true) ∧ Below w.heap.size w w' := by
  have h := wireedits_walk g A l0 n0 c N (UInt8.ofNat x) w hh hn hc hm
  rwa [UInt8.toNat_ofNat_of_lt' hx] at h

end Go.Proofs.Ythpalepkilmpiaa
