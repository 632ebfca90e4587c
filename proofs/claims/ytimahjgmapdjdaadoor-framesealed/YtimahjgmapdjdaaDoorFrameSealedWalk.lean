/-
  lamplightlaw04.FrameSealed: whatever it is asked, true; nothing that was there is turned.
-/
import Derived.Test.YtimahjgmapdjdaaDoorFrameCutsWalk
import Derived.Test.YtimahjgmapdjdaaDoorFCrcStart
namespace Go.Proofs.YtimahjgmapdjdaaDoor
set_option linter.unusedVariables false
set_option linter.unusedSimpArgs false
open Go.RowKit

theorem sld_take (l : List UInt8) : (sld l).take l.length = l := by rw [sld, List.take_left' rfl]
theorem tellE_sld (l : List UInt8) : tellE (sld l) = if l.length < 5 then 2 else if agrees l then 0 else 3 := by
  unfold tellE
  rw [sld_length]
  by_cases h : l.length < 5
  · rw [if_pos (by omega), if_pos h]
  · rw [if_neg (by omega), if_neg h, if_neg (by rw [valid_sld]; decide), Nat.add_sub_cancel, sld_take]
theorem tellF_sld (l : List UInt8) (h : tellE (sld l) = 0) : tellF (sld l) = sayF l := by
  rw [tellF, if_pos h, sld_length, Nat.add_sub_cancel, sld_take]
theorem decE_sld (l : List UInt8) : decE (stf (sld l)) = if l.length < 5 then 2 else if agrees l then 0 else 3 := by rw [decE_ok (unst_stf _), tellE_sld]
theorem decF_sld (l : List UInt8) (h : ¬ l.length < 5) (ha : agrees l = true) : decF (stf (sld l)) = sayF l := by
  rw [decF_ok (unst_stf _), tellF_sld]
  rw [tellE_sld, if_neg h, if_pos ha]

set_option maxHeartbeats 4000000 in
set_option maxRecDepth 100000 in
theorem framesealed_walk (g : Nat) (A : Option Addr) (l0 : List UInt8) (len cap : Nat) (w : World) (ht : Tab w) (h : Holds w g A (bcs l0)) (hlen : l0.length = len) (hcap : len ≤ cap) (hmx : cap ≤ 9223372036854775807) :
    Calls Tryd.prog 6 #[.slice A len cap] w fun e w' => e = .returned (.bool true) ∧ Below w.heap.size w w' := by
  obtain ⟨m, hm60, hml, hmin⟩ := min_of len 60 60 rfl
  have HH := Lib.hid h
  have HL := Lib.hid hlen
  have HTB := Lib.hid ht
  clear h hlen ht
  go_enter Tryd.func6, Tryd.ntmps6
  go_wp2_with fail
  refine (shown_any w HTB.out).mono ?_
  rintro e x1 ⟨rfl, hb1⟩
  have H1 := Lib.hid (St.begin HTB.out HH.out hb1 m)
  have HLL : Hid ((l0.take m).length = m) := by show _ = _; rw [List.length_take, HL.out]; omega
  generalize l0.take m = l at *
  clear HH HL HTB hb1
  have hmc : m ≤ cap := by omega
  go_wp2_with fail
  refine (append_on H1.out.tab H1.out.holds HLL.out (by omega)).mono ?_
  rintro e x2 ⟨X, hX, rfl, hrow, hb2⟩
  have H2 := Lib.hid (H1.out.step hb2)
  have HR := Lib.hid hrow
  clear H1 hb2 hrow hX
  go_wp2_with fail
  refine (stuff_on _ _ _ _ _ _ HR.out.holds (by rw [sld_length, HLL.out]) (Nat.le_refl _) (by omega)).mono ?_
  rintro e x3 ⟨A3, n3, c3, rfl, ho, hb⟩
  have H3 := Lib.hid (H2.out.step hb)
  obtain ⟨g3, hg3, _⟩ := ho.holds
  have HO := Lib.hid hg3
  have HM := Lib.hid ho.len
  have hcap3 := ho.cap
  have hn3 : n3 ≤ 1000 := by
    have h1 := stf_length_le (sld l)
    rw [sld_length, HLL.out, ho.len] at h1
    omega
  clear hb H2 HR ho hg3
  go_wp2_with fail
  refine (decode_on H3.out.tab HO.out HM.out hcap3 (by omega)).mono ?_
  rintro e x4 ⟨f, er, A4, m4, c4, g4, hf, her, hm4, rfl, hh4, -, hb⟩
  have H4 := Lib.hid (H3.out.step hb)
  rw [decE_sld, HLL.out] at her
  clear hb H3 HO HM
  by_cases h5 : m < 5
  · rw [if_pos h5] at her
    subst her
    clear hf hm4 hh4
    have h5' : (m : Int) < 5 := by omega
    have H5 := Lib.hid (H4.out.alloc (.cells #[.int .u8 (f.a : Int), .int .u8 (f.k : Int), .int .u8 (f.s : Int), .int .u8 (f.q : Int), .int .u8 (f.c : Int), .slice A4 m4 c4] 24))
    go_wp2
    go_ret
    exact ⟨rfl, H5.out.below⟩
  rw [if_neg h5] at her
  have h5' : ¬ (m : Int) < 5 := by omega
  cases ha : agrees l
  · rw [ha] at her
    simp only [Bool.false_eq_true, if_false] at her
    subst her
    obtain ⟨b0, b1, b2, b3, b4, r, rfl⟩ := five_of l (by rw [HLL.out]; omega)
    rw [agrees_cons] at ha
    have hr : r.length + 5 = m := HLL.out
    have HA := Lib.hid ha
    have H5 := Lib.hid (H4.out.alloc (.cells #[.int .u8 (f.a : Int), .int .u8 (f.k : Int), .int .u8 (f.s : Int), .int .u8 (f.q : Int), .int .u8 (f.c : Int), .slice A4 m4 c4] 24))
    clear hf hm4 hh4 ha H4
    go_upto_region 4 with fail
    generalize (x4.alloc (.cells #[.int .u8 (f.a : Int), .int .u8 (f.k : Int), .int .u8 (f.s : Int), .int .u8 (f.q : Int), .int .u8 (f.c : Int), .slice A4 m4 c4] 24)) = x5 at *
    obtain ⟨hgl, o, rfl, hcell⟩ := H5.out.holds (by simp [bcs])
    have q0 : x5.cell? ⟨g, o, none⟩ = some (.int .u8 (b0.toNat : Int)) := hcell 0 _ rfl
    have q1 : x5.cell? ⟨g, o + 1, none⟩ = some (.int .u8 (b1.toNat : Int)) := hcell 1 _ rfl
    have q3 : x5.cell? ⟨g, o + 3, none⟩ = some (.int .u8 (b3.toNat : Int)) := hcell 3 _ rfl
    have q4 : x5.cell? ⟨g, o + 4, none⟩ = some (.int .u8 (b4.toNat : Int)) := hcell 4 _ rfl
    have hlt0 : b0.toNat < 256 := b0.toNat_lt
    have hlt1 : b1.toNat < 256 := b1.toNat_lt
    have hlt3 : b3.toNat < 256 := b3.toNat_lt
    have hlt4 : b4.toNat < 256 := b4.toNat_lt
    generalize b0.toNat = n0 at *
    generalize b1.toNat = n1 at *
    generalize b3.toNat = n3' at *
    generalize b4.toNat = n4 at *
    generalize r.length = rl at *
    have hz0 : (0 : Int) < (m : Int) := by omega
    have hz1 : (1 : Int) < (m : Int) := by omega
    have hz3 : (3 : Int) < (m : Int) := by omega
    have hz4 : (4 : Int) < (m : Int) := by omega
    clear hcell
    go_wp2
    all_goals go_ret
    all_goals refine ⟨?_, H5.out.below⟩
    all_goals first
      | rfl
      | (show Ending.returned (.bool (!decide ((m : Int) ≤ 29))) = _
         rw [decide_eq_false]
         · rfl
         · intro h29
           have h1 : rightB n0 n1 (n3' % 2) (n3' / 2) rl = true := by rw [rightB_iff]; omega
           have h2 : decide (n4 = rl) = true := by rw [decide_eq_true_iff]; omega
           have h3 := HA.out
           rw [h1, h2] at h3
           cases h3)
  · rw [ha] at her -- last arm
    simp only [if_true] at her
    subst her
    rw [decF_sld l (by rw [HLL.out]; exact h5) ha] at hf
    obtain ⟨b0, b1, b2, b3, b4, r, rfl⟩ := five_of l (by rw [HLL.out]; omega)
    rw [agrees_cons, Bool.and_eq_true, decide_eq_true_iff, rightB_iff] at ha
    rw [say_cons] at hf
    have hr : r.length + 5 = m := HLL.out
    subst hf
    have hm4' : m4 = r.length := hm4
    have hh4' : Holds x4 g4 A4 (bcs r) := hh4
    have hlt2 : b2.toNat < 256 := b2.toNat_lt
    have hlt3 : b3.toNat < 256 := b3.toNat_lt
    have h32 : (b3.toNat % 2) + 2 * (b3.toNat / 2) = b3.toNat := by omega
    clear hm4 hh4
    generalize hq3 : b3.toNat % 2 = q3 at *
    generalize hrr : b3.toNat / 2 = rr at *
    subst hm4'
    have H5 := Lib.hid (H4.out.alloc (.cells #[.int .u8 (b0.toNat : Int), .int .u8 (b1.toNat : Int), .int .u8 (b2.toNat : Int), .int .u8 (q3 : Int), .int .u8 (rr : Int), .slice A4 r.length c4] 24))
    have HZ := Lib.hid (heap_alloc_new x4 (.cells #[.int .u8 (b0.toNat : Int), .int .u8 (b1.toNat : Int), .int .u8 (b2.toNat : Int), .int .u8 (q3 : Int), .int .u8 (rr : Int), .slice A4 r.length c4] 24))
    have HH4 := Lib.hid (hh4'.keep ((Ch.refl [] x4).alloc (.cells #[.int .u8 (b0.toNat : Int), .int .u8 (b1.toNat : Int), .int .u8 (b2.toNat : Int), .int .u8 (q3 : Int), .int .u8 (rr : Int), .slice A4 r.length c4] 24)) (by simp))
    clear H4 hh4' hq3 hrr
    go_upto_region 4 with fail
    generalize (x4.alloc (.cells #[.int .u8 (b0.toNat : Int), .int .u8 (b1.toNat : Int), .int .u8 (b2.toNat : Int), .int .u8 (q3 : Int), .int .u8 (rr : Int), .slice A4 r.length c4] 24)) = x5 at *
    generalize x4.heap.size = Z at *
    obtain ⟨hgl, o, rfl, hcell⟩ := H5.out.holds (by simp [bcs])
    have HDR : Hid (Holds x5 g (some ⟨g, o, none⟩) (bcs (b0 :: b1 :: b2 :: b3 :: b4 :: r))) := H5.out.holds
    have q0 : x5.drew.cell? ⟨g, o, none⟩ = some (.int .u8 (b0.toNat : Int)) := hcell 0 _ rfl
    have q1 : x5.drew.cell? ⟨g, o + 1, none⟩ = some (.int .u8 (b1.toNat : Int)) := hcell 1 _ rfl
    have q2 : x5.drew.cell? ⟨g, o + 2, none⟩ = some (.int .u8 (b2.toNat : Int)) := hcell 2 _ rfl
    have q3c : x5.drew.cell? ⟨g, o + 3, none⟩ = some (.int .u8 (b3.toNat : Int)) := hcell 3 _ rfl
    have q4 : x5.drew.cell? ⟨g, o + 4, none⟩ = some (.int .u8 (b4.toNat : Int)) := hcell 4 _ rfl
    obtain ⟨z0, z1, z2, z3, z4, z5, -⟩ := row6_facts (x := x5.drew) HZ.out
    have hlt0 : b0.toNat < 256 := b0.toNat_lt
    have hlt1 : b1.toNat < 256 := b1.toNat_lt
    have hlt4 : b4.toNat < 256 := b4.toNat_lt
    have HRL : Hid (r.length = r.length) := rfl
    generalize b0.toNat = n0 at *
    generalize b1.toNat = n1 at *
    generalize b2.toNat = n2 at *
    generalize b3.toNat = n3' at *
    generalize b4.toNat = n4 at *
    generalize hrl : r.length = rl at *
    replace HRL := Lib.hid hrl
    clear hrl hmin
    subst hr
    obtain rfl : n4 = rl := ha.2
    have hz0 : (0 : Int) < (n4 : Int) + 5 := by omega
    have hz1 : (1 : Int) < (n4 : Int) + 5 := by omega
    have hz2 : (2 : Int) < (n4 : Int) + 5 := by omega
    have hz3 : (3 : Int) < (n4 : Int) + 5 := by omega
    have hz4 : (4 : Int) < (n4 : Int) + 5 := by omega
    have hq1 : q3 ≤ 1 := ha.1.2.2.1
    have hr1 : rr ≤ 1 := ha.1.2.2.2.1
    have hw1 : IntKind.u8.wrap (2 * (rr : Int)) = 2 * (rr : Int) := by rw [IntKind.wrap_u8]; omega
    have hw2 : IntKind.u8.wrap ((q3 : Int) + 2 * (rr : Int)) = (q3 : Int) + 2 * (rr : Int) := by rw [IntKind.wrap_u8]; omega
    subst h32
    have q3d : x5.drew.cell? ⟨g, o + 3, none⟩ = some (.int .u8 ((q3 : Int) + 2 * (rr : Int))) := q3c
    clear ha hcell
    by_cases hc5 : cap = 5
    · have hr0 : n4 = 0 := by omega
      subst hc5 hr0
      have HS : Hid (x5.drew.cell? ⟨g, o, none⟩ = some (.int .u8 (n0 : Int)) ∧ x5.drew.cell? ⟨g, o + 1, none⟩ = some (.int .u8 (n1 : Int)) ∧ x5.drew.cell? ⟨g, o + 2, none⟩ = some (.int .u8 (n2 : Int)) ∧ x5.drew.cell? ⟨g, o + 3, none⟩ = some (.int .u8 ((q3 : Int) + 2 * (rr : Int))) ∧ x5.drew.cell? ⟨g, o + 4, none⟩ = some (.int .u8 0) ∧ x5.drew.cell? ⟨Z, 0, none⟩ = some (.int .u8 (n0 : Int)) ∧ x5.drew.cell? ⟨Z, 1, none⟩ = some (.int .u8 (n1 : Int)) ∧ x5.drew.cell? ⟨Z, 2, none⟩ = some (.int .u8 (n2 : Int)) ∧ x5.drew.cell? ⟨Z, 3, none⟩ = some (.int .u8 (q3 : Int)) ∧ x5.drew.cell? ⟨Z, 4, none⟩ = some (.int .u8 (rr : Int)) ∧ x5.drew.cell? ⟨Z, 5, none⟩ = some (.slice A4 0 c4) ∧ (convert 22 9 (.slice A4 0 c4)).run Tryd.prog x5.drew = .ok (.string ⟨r.toArray⟩) x5.drew ∧ (convert 22 9 (.slice (some ⟨g, o, none⟩) (0) (0))).run Tryd.prog x5.drew = .ok (.string ⟨r.toArray⟩) x5.drew) :=
        ⟨q0, q1, q2, q3d, q4, z0, z1, z2, z3, z4, z5, convert_holds (HH4.out.keep (Ch.refl [] x5).drew (by simp)) HRL.out, convert_holds (l := r) (by have h0 : r = [] := List.eq_nil_of_length_eq_zero HRL.out; rw [h0]; exact Holds.nil x5.drew g _) (by have := HRL.out; omega)⟩
      clear q0 q1 q2 q3c q3d q4 z0 z1 z2 z3 z4 z5
      go_upto_region 9 with fail
      refine region_plan [(true, 0), (true, 1), (true, 2), (true, 3), (true, 4), (true, 5), (true, 6), (true, 7), (true, 8), (true, 9), (true, 10), (true, 11), (true, 12), (true, 13), (true, 14), (true, 15), (true, 16), (true, 17), (true, 18), (true, 19), (true, 20), (true, 21), (true, 22), (true, 23), (true, 24), (true, 25), (true, 26), (true, 27), (true, 28), (true, 29), (true, 30), (true, 31), (true, 32), (true, 33), (true, 34), (true, 35), (true, 36), (true, 37), (true, 38), (true, 39), (true, 40), (true, 41), (true, 42), (true, 43), (true, 44), (true, 45), (true, 46), (true, 47), (true, 48), (true, 49), (true, 50), (true, 51), (true, 52), (true, 53), (true, 54), (true, 55), (true, 56)]
        (fun x => x.cell? ⟨g, o, none⟩ = some (.int .u8 (n0 : Int)) ∧ x.cell? ⟨g, o + 1, none⟩ = some (.int .u8 (n1 : Int)) ∧ x.cell? ⟨g, o + 2, none⟩ = some (.int .u8 (n2 : Int)) ∧ x.cell? ⟨g, o + 3, none⟩ = some (.int .u8 ((q3 : Int) + 2 * (rr : Int))) ∧ x.cell? ⟨g, o + 4, none⟩ = some (.int .u8 0) ∧ x.cell? ⟨Z, 0, none⟩ = some (.int .u8 (n0 : Int)) ∧ x.cell? ⟨Z, 1, none⟩ = some (.int .u8 (n1 : Int)) ∧ x.cell? ⟨Z, 2, none⟩ = some (.int .u8 (n2 : Int)) ∧ x.cell? ⟨Z, 3, none⟩ = some (.int .u8 (q3 : Int)) ∧ x.cell? ⟨Z, 4, none⟩ = some (.int .u8 (rr : Int)) ∧ x.cell? ⟨Z, 5, none⟩ = some (.slice A4 0 c4) ∧ (convert 22 9 (.slice A4 0 c4)).run Tryd.prog x = .ok (.string ⟨r.toArray⟩) x ∧ (convert 22 9 (.slice (some ⟨g, o, none⟩) (0) (0))).run Tryd.prog x = .ok (.string ⟨r.toArray⟩) x)
        (by kernel_rfl) (by kernel_rfl) (by kernel_rfl) rfl HS.out ?_
      iterate 57 (first | (refine Plan.take (v := ?_) rfl (by rfl) ?_ ?_; rotate_left 1; (focus (intro x hx; go_simp <;> (first | with_reducible rfl | rw [if_pos (by omega)]))); simp only [Act.put, List.setIfInBounds_toArray, List.set_cons_zero, List.set_cons_succ]) | (refine Plan.skip rfl (by rfl) ?_; simp only [Act.put, List.setIfInBounds_toArray, List.set_cons_zero, List.set_cons_succ]))
      refine Plan.done ?_
      go_wp2
      go_ret
      exact ⟨rfl, H5.out.below.trans (((Ch.refl [] x5).drew.below (by simp)).mono H5.out.below.size)⟩
    · have hd := HDR.out.drop 5 cap (by simp [bcs]) (by simp [bcs]; have := HRL.out; omega)
      rw [if_neg hc5, Option.map_some, addr_add, show (bcs (b0 :: b1 :: b2 :: b3 :: b4 :: r)).drop 5 = bcs r from rfl] at hd
      have HD := Lib.hid hd
      clear hd
      have HS : Hid (x5.drew.cell? ⟨g, o, none⟩ = some (.int .u8 (n0 : Int)) ∧ x5.drew.cell? ⟨g, o + 1, none⟩ = some (.int .u8 (n1 : Int)) ∧ x5.drew.cell? ⟨g, o + 2, none⟩ = some (.int .u8 (n2 : Int)) ∧ x5.drew.cell? ⟨g, o + 3, none⟩ = some (.int .u8 ((q3 : Int) + 2 * (rr : Int))) ∧ x5.drew.cell? ⟨g, o + 4, none⟩ = some (.int .u8 (n4 : Int)) ∧ x5.drew.cell? ⟨Z, 0, none⟩ = some (.int .u8 (n0 : Int)) ∧ x5.drew.cell? ⟨Z, 1, none⟩ = some (.int .u8 (n1 : Int)) ∧ x5.drew.cell? ⟨Z, 2, none⟩ = some (.int .u8 (n2 : Int)) ∧ x5.drew.cell? ⟨Z, 3, none⟩ = some (.int .u8 (q3 : Int)) ∧ x5.drew.cell? ⟨Z, 4, none⟩ = some (.int .u8 (rr : Int)) ∧ x5.drew.cell? ⟨Z, 5, none⟩ = some (.slice A4 n4 c4) ∧ (convert 22 9 (.slice A4 n4 c4)).run Tryd.prog x5.drew = .ok (.string ⟨r.toArray⟩) x5.drew ∧ (convert 22 9 (.slice (some ⟨g, o + 5, none⟩) (n4) (cap - 5))).run Tryd.prog x5.drew = .ok (.string ⟨r.toArray⟩) x5.drew) :=
        ⟨q0, q1, q2, q3d, q4, z0, z1, z2, z3, z4, z5, convert_holds (HH4.out.keep (Ch.refl [] x5).drew (by simp)) HRL.out, convert_holds (l := r) (HD.out.keep (Ch.refl [] x5).drew (by simp)) (by have := HRL.out; omega)⟩
      clear q0 q1 q2 q3c q3d q4 z0 z1 z2 z3 z4 z5
      go_upto_region 9 with fail
      refine region_plan [(true, 0), (true, 1), (true, 2), (true, 3), (true, 4), (true, 5), (true, 6), (true, 7), (true, 8), (true, 9), (true, 10), (true, 11), (true, 12), (true, 13), (true, 14), (true, 15), (true, 16), (true, 17), (true, 18), (true, 19), (true, 20), (true, 21), (true, 22), (true, 23), (true, 24), (true, 25), (true, 26), (true, 27), (true, 28), (true, 29), (true, 30), (true, 31), (true, 32), (true, 33), (true, 34), (true, 35), (true, 36), (true, 37), (true, 38), (true, 39), (true, 40), (true, 41), (true, 42), (true, 43), (true, 44), (true, 45), (true, 46), (true, 47), (true, 48), (true, 49), (true, 50), (true, 51), (true, 52), (true, 53), (true, 54), (true, 55), (true, 56)]
        (fun x => x.cell? ⟨g, o, none⟩ = some (.int .u8 (n0 : Int)) ∧ x.cell? ⟨g, o + 1, none⟩ = some (.int .u8 (n1 : Int)) ∧ x.cell? ⟨g, o + 2, none⟩ = some (.int .u8 (n2 : Int)) ∧ x.cell? ⟨g, o + 3, none⟩ = some (.int .u8 ((q3 : Int) + 2 * (rr : Int))) ∧ x.cell? ⟨g, o + 4, none⟩ = some (.int .u8 (n4 : Int)) ∧ x.cell? ⟨Z, 0, none⟩ = some (.int .u8 (n0 : Int)) ∧ x.cell? ⟨Z, 1, none⟩ = some (.int .u8 (n1 : Int)) ∧ x.cell? ⟨Z, 2, none⟩ = some (.int .u8 (n2 : Int)) ∧ x.cell? ⟨Z, 3, none⟩ = some (.int .u8 (q3 : Int)) ∧ x.cell? ⟨Z, 4, none⟩ = some (.int .u8 (rr : Int)) ∧ x.cell? ⟨Z, 5, none⟩ = some (.slice A4 n4 c4) ∧ (convert 22 9 (.slice A4 n4 c4)).run Tryd.prog x = .ok (.string ⟨r.toArray⟩) x ∧ (convert 22 9 (.slice (some ⟨g, o + 5, none⟩) (n4) (cap - 5))).run Tryd.prog x = .ok (.string ⟨r.toArray⟩) x)
        (by kernel_rfl) (by kernel_rfl) (by kernel_rfl) rfl HS.out ?_
      iterate 57 (first | (refine Plan.take (v := ?_) rfl (by rfl) ?_ ?_; rotate_left 1; (focus (intro x hx; go_simp <;> (first | with_reducible rfl | rw [if_pos (by omega)]))); simp only [Act.put, List.setIfInBounds_toArray, List.set_cons_zero, List.set_cons_succ]) | (refine Plan.skip rfl (by rfl) ?_; simp only [Act.put, List.setIfInBounds_toArray, List.set_cons_zero, List.set_cons_succ]))
      refine Plan.done ?_
      go_wp2
      go_ret
      exact ⟨rfl, H5.out.below.trans (((Ch.refl [] x5).drew.below (by simp)).mono H5.out.below.size)⟩

end Go.Proofs.YtimahjgmapdjdaaDoor
