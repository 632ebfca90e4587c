/-
  lamplightref04.Right and lamplightref04.Decode: what they answer.
-/
import Derived.Test.YtalolefggihloaaDoorFrameO
import Derived.Test.YtalolefggihloaaDoorFCrcSealed
import Derived.Test.YtalolefggihloaaDoorFStuffRef
import Derived.Laws.DeepStrings4
namespace Go.Proofs.YtalolefggihloaaDoor
set_option linter.unusedVariables false
set_option linter.unusedSimpArgs false
open Go.RowKit

set_option maxHeartbeats 2000000 in
theorem refright_on {a k s q c : Nat} {l : List UInt8} {w : World} (hl : l.length ≤ 1000000) (v : Bool) (hv : v = rightB a k q c l.length) :
    Calls Tryd.prog 34 #[.agg #[.int .u8 a, .int .u8 k, .int .u8 s, .int .u8 q, .int .u8 c, .string ⟨l.toArray⟩]] w fun e w' => e = .returned (.bool v) ∧ Below w.heap.size w w' := by
  have HV := Lib.hid hv
  clear hv
  generalize hn : l.length = n at *
  have HN := Lib.hid hn
  have hsz : (ByteArray.mk l.toArray).size = n := by rw [← hn]; simp [ByteArray.size]
  clear hn
  go_enter Tryd.func34, Tryd.ntmps34
  go_wp2
  all_goals go_ret
  all_goals refine ⟨?_, new_below _ _⟩
  all_goals first
    | (show Ending.returned (.bool false) = _; rw [HV.out, show rightB a k q c n = false by rw [← Bool.not_eq_true, rightB_iff]; omega])
    | (show Ending.returned (.bool (decide ((n : Int) ≤ 24))) = _; rw [HV.out]; congr 2; rw [Bool.eq_iff_iff, decide_eq_true_iff, rightB_iff]; omega)

theorem sld_iff (u : List UInt8) (h : 2 ≤ u.length) : sld (u.take (u.length - 2)) = u ↔ validB u = true := by
  constructor
  · intro he
    rw [← he]
    exact valid_sld _
  · intro hv
    have hs := valid_split u h
    generalize u.take (u.length - 2) = p at *
    generalize u[u.length - 2] = x at *
    generalize u[u.length - 1] = y at *
    have h0 : sum u = 0#16 := by
      unfold validB at hv
      rw [Bool.and_eq_true, decide_eq_true_iff, decide_eq_true_iff] at hv
      exact hv.2
    rw [hs] at h0
    have h1 := (sealed 0xFFFF#16 p x y).1 h0
    have h2 := (sum_is_word _ x y).1 h1
    have hx := x.toNat_lt
    have hy := y.toNat_lt
    have e1 : hiB (sum p) = x := by
      unfold hiB
      have : (sum p).toNat / 256 = x.toNat := by rw [show (sum p).toNat = _ from h2]; omega
      rw [this]
      simp
    have e2 : loB (sum p) = y := by
      unfold loB
      rw [show (sum p).toNat = _ from h2]
      apply UInt8.toNat_inj.1
      simp
    rw [sld, e1, e2]
    exact hs.symm

theorem extract_take (l : List UInt8) (k : Nat) : (ByteArray.mk l.toArray).extract 0 k = ByteArray.mk (l.take k).toArray := by
  apply ByteArray.ext
  rw [ByteArray.data_extract]
  simp
theorem extract_drop (l : List UInt8) (k n : Nat) (hn : l.length = n) : (ByteArray.mk l.toArray).extract k n = ByteArray.mk (l.drop k).toArray := by
  apply ByteArray.ext
  rw [ByteArray.data_extract]
  simp [← hn]
  exact List.take_of_length_le (by simp)
theorem ref_struct2 : ∃ fs, Tryd.prog.underlying 45 = some (.struct fs) := ⟨_, Tryd.underlying45⟩
abbrev noRef : Array Value := #[.int .u8 0, .int .u8 0, .int .u8 0, .int .u8 0, .int .u8 0, .string ⟨#[]⟩]
/-- What the document's Decode answers. -/
def RefPost (w : World) (l : List UInt8) (e : Ending) (w' : World) : Prop :=
  ∃ (f : Fr) (er : Nat), f = decF l ∧ er = decE l ∧ e = .returned (.tuple #[.agg #[.int .u8 (f.a : Int), .int .u8 (f.k : Int), .int .u8 (f.s : Int), .int .u8 (f.q : Int), .int .u8 (f.c : Int), .string ⟨f.b.toArray⟩], .int .i64 (er : Int)]) ∧ Below w.heap.size w w'
/-- The result's row, and nothing that was there turned. -/
structure Sj (w x : World) : Prop where
  below : Below w.heap.size w x
  box : x.heap[w.heap.size]? = some (.cells noRef 45 (0, 0))
theorem Sj.start (w : World) : Sj w (w.alloc (.cells noRef 45)) := ⟨new_below _ _, heap_alloc_new w _⟩
theorem Sj.step {w x y : World} (h : Sj w x) (hb : Below x.heap.size x y) : Sj w y := ⟨h.below.trans (hb.mono h.below.size), (hb.block _ (Array.getElem?_eq_some_iff.1 h.box).1).trans h.box⟩
theorem ref_none {w x : World} {l : List UInt8} {er : Nat} {e : Ending} (h : Sj w x) (he : er = decE l) (hf : decF l = Fr.none)
    (hr : e = .returned (.tuple #[.agg noRef, .int .i64 (er : Int)])) : RefPost w l e (put6 x w.heap.size (.int .u8 0) (.int .u8 0) (.int .u8 0) (.int .u8 0) (.int .u8 0) (.string ⟨#[]⟩)) :=
  ⟨Fr.none, er, hf.symm, he, hr, below6 h.below⟩

theorem drew_below2' (x : World) : Below x.heap.size x x.drew := (Ch.refl [] x).drew.below (by simp)

set_option maxHeartbeats 4000000 in
set_option maxRecDepth 100000 in
theorem refdecode_on (l : List UInt8) (w : World) (hl : l.length ≤ 100000) : Calls Tryd.prog 21 #[.string ⟨l.toArray⟩] w (RefPost w l) := by
  have H0 := Lib.hid (Sj.start w)
  go_enter Tryd.func21, Tryd.ntmps21
  go_wp2_with fail
  refine (ref_unstuff l _ (by omega)).mono ?_
  rintro e x1 ⟨rfl, hb⟩
  have H1 := Lib.hid (H0.out.step hb)
  clear hb H0
  obtain ⟨r0, r1, r2, r3, r4, r5, f0, f1, f2, f3, f4, f5⟩ := row6_facts H1.out.box
  by_cases hu : uErr l = 0
  · rw [hu]
    have hul : (uOut l).length ≤ 100000 := by have := uOut_le l; omega
    have HD : Hid (decE l = tellE (uOut l)) := by show _ = _; simp [decE, hu]
    have HDF : Hid (decF l = tellF (uOut l)) := by show _ = _; simp [decF, hu]
    clear hu
    generalize uOut l = u at *
    generalize hn : u.length = n at *
    have HN := Lib.hid hn
    have hsz : (ByteArray.mk u.toArray).size = n := by rw [← hn]; simp [ByteArray.size]
    clear hn
    by_cases h7 : n < 7
    · have HT : Hid (tellE u = 2) := by show _ = _; rw [tellE, if_pos (by rw [HN.out]; exact h7)]
      have h7' : (n : Int) < 7 := by omega
      go_wp2
      refine bodyPost_ret (results_row_tmp rfl _ _ w.heap.size 45 _ _ rfl (set6 H1.out.box) ref_struct ref_size) rfl ?_
      exact ref_none (er := 2) H1.out (by rw [HD.out, HT.out]) (by rw [HDF.out, tellF, HT.out]; rfl) rfl
    · have h7' : ¬ (n : Int) < 7 := by omega
      have hex := extract_take u (n - 2)
      have HPL : Hid ((u.take (n - 2)).length = n - 2) := by show _ = _; rw [List.length_take, HN.out]; omega
      have HSI : Hid (sld (u.take (n - 2)) = u ↔ validB u = true) := by
        have := sld_iff u (by rw [HN.out]; omega)
        rw [HN.out] at this
        exact this
      have HT : Hid (tellE u = if validB u = false then 4 else if agrees (u.take (n - 2)) then 0 else 3) := by
        show _ = _
        rw [tellE, if_neg (by rw [HN.out]; exact h7), HN.out]
      have HTF : Hid (tellE u = 0 → tellF u = sayF (u.take (n - 2))) := by
        intro h0
        rw [tellF, if_pos h0, HN.out]
      generalize u.take (n - 2) = p at *
      cases hv : validB u
      · rw [hv] at HT HSI
        have hne : sld p ≠ u := fun h => by have := HSI.out.1 h; cases this
        have hn2 : (sld p == u) = false := by rw [beq_eq_false_iff_ne]; exact hne
        have hn3 : (sld p != u) = true := by rw [bne_iff_ne]; exact hne
        go_wp2_with fail
        refine (ref_sealed p x1 (by rw [HPL.out]; omega)).mono ?_
        rintro e x2 ⟨rfl, hb⟩
        have H2 := Lib.hid (H1.out.step hb)
        clear hb H1 r0 r1 r2 r3 r4 r5 f0 f1 f2 f3 f4 f5
        obtain ⟨r0, r1, r2, r3, r4, r5, f0, f1, f2, f3, f4, f5⟩ := row6_facts H2.out.box
        go_wp2
        refine bodyPost_ret (results_row_tmp rfl _ _ w.heap.size 45 _ _ rfl (set6 H2.out.box) ref_struct ref_size) rfl ?_
        exact ref_none (er := 4) H2.out (by rw [HD.out, HT.out]; rfl) (by rw [HDF.out, tellF, HT.out]; rfl) rfl
      · rw [hv] at HT HSI
        have hsl : sld p = u := HSI.out.2 rfl
        go_wp2_with fail
        refine (ref_sealed p x1 (by rw [HPL.out]; omega)).mono ?_
        rintro e x2 ⟨rfl, hb⟩
        rw [hsl]
        have H2 := Lib.hid (H1.out.step hb)
        clear hb H1 r0 r1 r2 r3 r4 r5 f0 f1 f2 f3 f4 f5 hsl
        obtain ⟨b0, b1, b2, b3, b4, r, rfl⟩ := five_of p (by rw [HPL.out]; omega)
        have i0 : ∀ h : 0 < (ByteArray.mk (b0 :: b1 :: b2 :: b3 :: b4 :: r).toArray).size, ((ByteArray.mk (b0 :: b1 :: b2 :: b3 :: b4 :: r).toArray)[0]'h).toNat = b0.toNat := fun _ => rfl
        have i1 : ∀ h : 1 < (ByteArray.mk (b0 :: b1 :: b2 :: b3 :: b4 :: r).toArray).size, ((ByteArray.mk (b0 :: b1 :: b2 :: b3 :: b4 :: r).toArray)[1]'h).toNat = b1.toNat := fun _ => rfl
        have i2 : ∀ h : 2 < (ByteArray.mk (b0 :: b1 :: b2 :: b3 :: b4 :: r).toArray).size, ((ByteArray.mk (b0 :: b1 :: b2 :: b3 :: b4 :: r).toArray)[2]'h).toNat = b2.toNat := fun _ => rfl
        have i3 : ∀ h : 3 < (ByteArray.mk (b0 :: b1 :: b2 :: b3 :: b4 :: r).toArray).size, ((ByteArray.mk (b0 :: b1 :: b2 :: b3 :: b4 :: r).toArray)[3]'h).toNat = b3.toNat := fun _ => rfl
        have i4 : ∀ h : 4 < (ByteArray.mk (b0 :: b1 :: b2 :: b3 :: b4 :: r).toArray).size, ((ByteArray.mk (b0 :: b1 :: b2 :: b3 :: b4 :: r).toArray)[4]'h).toNat = b4.toNat := fun _ => rfl
        have hps : (ByteArray.mk (b0 :: b1 :: b2 :: b3 :: b4 :: r).toArray).size = n - 2 := by rw [← HPL.out]; rfl
        have hex5 : (ByteArray.mk (b0 :: b1 :: b2 :: b3 :: b4 :: r).toArray).extract 5 (n - 2) = ByteArray.mk r.toArray := extract_drop _ 5 _ HPL.out
        have HAG := Lib.hid (agrees_cons b0 b1 b2 b3 b4 r)
        have HSY := Lib.hid (say_cons b0 b1 b2 b3 b4 r)
        have HRL : Hid (r.length + 5 = n - 2) := HPL.out
        have hb4 : b4.toNat < 256 := b4.toNat_lt
        have hb3 : b3.toNat < 256 := b3.toNat_lt
        have m1 : (b3.toNat : Int).tmod 2 = ((b3.toNat % 2 : Nat) : Int) := by rw [Int.tmod_eq_emod_of_nonneg (by omega)]; omega
        have m2 : (b3.toNat : Int) % 2 = ((b3.toNat % 2 : Nat) : Int) := by omega
        have d1 : (b3.toNat : Int).tdiv 2 = ((b3.toNat / 2 : Nat) : Int) := by rw [Int.tdiv_eq_ediv_of_nonneg (by omega)]; omega
        have d2 : (b3.toNat : Int) / 2 = ((b3.toNat / 2 : Nat) : Int) := by omega
        have w4 : IntKind.i64.wrap (b4.toNat : Int) = (b4.toNat : Int) := by rw [IntKind.wrap_i64]; omega
        have w1 : IntKind.u8.wrap ((b3.toNat % 2 : Nat) : Int) = ((b3.toNat % 2 : Nat) : Int) := by rw [IntKind.wrap_u8]; omega
        have w2 : IntKind.u8.wrap ((b3.toNat / 2 : Nat) : Int) = ((b3.toNat / 2 : Nat) : Int) := by rw [IntKind.wrap_u8]; omega
        generalize ByteArray.mk (b0 :: b1 :: b2 :: b3 :: b4 :: r).toArray = P at *
        generalize b3.toNat % 2 = q3 at *
        generalize b3.toNat / 2 = rr at *
        go_upto_region 9 with fail
        refine region_plan [(true, 0), (true, 1), (true, 2), (true, 3), (true, 4), (true, 5), (true, 6), (true, 7), (true, 8), (true, 9), (true, 10), (true, 11), (true, 12), (true, 13), (true, 14), (false, 15), (false, 16)]
          (fun x => True)
          (by kernel_rfl) (by kernel_rfl) (by kernel_rfl) rfl trivial ?_
        iterate 15 (refine Plan.take (v := ?_) rfl (by rfl) ?_ ?_; rotate_left 1; (focus (intro x hx; go_simp <;> (first | with_reducible rfl | rw [if_pos (by omega)]))); simp only [Act.put, List.setIfInBounds_toArray, List.set_cons_zero, List.set_cons_succ])
        refine Plan.loud rfl (fun K hK => ?_)
        go_simp
        refine hK.out _ _ _ (fun x hx => hx) trivial ?_
        clear hK K
        refine Plan.loud rfl (fun K hK => ?_)
        go_simp
        refine hK.out _ _ _ (fun x hx => hx) trivial ?_
        clear hK K
        refine Plan.done ?_
        have HJ := Lib.hid ((H2.out.step (new_below x2 (.cells #[.int .u8 (b0.toNat : Int), .int .u8 (b1.toNat : Int), .int .u8 (b2.toNat : Int), .int .u8 (q3 : Int), .int .u8 (rr : Int), .string ⟨r.toArray⟩] 45))).step (drew_below2' _))
        have HZ : Hid ((x2.alloc (.cells #[.int .u8 (b0.toNat : Int), .int .u8 (b1.toNat : Int), .int .u8 (b2.toNat : Int), .int .u8 (q3 : Int), .int .u8 (rr : Int), .string ⟨r.toArray⟩] 45)).drew.heap[x2.heap.size]? = some (.cells #[.int .u8 (b0.toNat : Int), .int .u8 (b1.toNat : Int), .int .u8 (b2.toNat : Int), .int .u8 (q3 : Int), .int .u8 (rr : Int), .string ⟨r.toArray⟩] 45 (0, 0))) := heap_alloc_new x2 _
        have hZw : x2.heap.size ≠ w.heap.size := by
          have := (Array.getElem?_eq_some_iff.1 H2.out.box).1
          omega
        clear H2
        go_wp2_with fail
        generalize (x2.alloc (.cells #[.int .u8 (b0.toNat : Int), .int .u8 (b1.toNat : Int), .int .u8 (b2.toNat : Int), .int .u8 (q3 : Int), .int .u8 (rr : Int), .string ⟨r.toArray⟩] 45)).drew = x3 at *
        generalize x2.heap.size = Z at *
        generalize hrl : r.length = rl at *
        have HRN := Lib.hid hrl
        have hrs : (ByteArray.mk r.toArray).size = rl := by rw [← hrl]; simp [ByteArray.size]
        clear hrl
        cases hrt : rightB b0.toNat b1.toNat q3 rr rl
        · rw [HAG.out, hrt, Bool.false_and] at HT
          refine (refright_on (by have := HRN.out; have := HRL.out; omega) false (by rw [HRN.out, hrt])).mono ?_
          rintro e x4 ⟨rfl, hb⟩
          have HJ4 := Lib.hid (HJ.out.step hb)
          clear hb HJ HZ
          go_upto_region 11 with fail
          replace HJ4 := Lib.hid (HJ4.out.step (drew_below2' x4))
          refine region_plan [(true, 0), (true, 1), (true, 2), (true, 3), (true, 4), (true, 5), (true, 6), (true, 7), (true, 8), (true, 9), (true, 10)]
            (fun x => True) (by kernel_rfl) (by kernel_rfl) (by kernel_rfl) rfl trivial ?_
          iterate 11 (first | (refine Plan.take (v := ?_) rfl (by rfl) ?_ ?_; rotate_left 1; (focus (intro x hx; go_simp <;> (first | with_reducible rfl | rw [if_pos (by omega)]))); simp only [Act.put, List.setIfInBounds_toArray, List.set_cons_zero, List.set_cons_succ]) | (refine Plan.skip rfl (by rfl) ?_; simp only [Act.put, List.setIfInBounds_toArray, List.set_cons_zero, List.set_cons_succ]))
          refine Plan.done ?_
          generalize x4.drew = x5 at *
          obtain ⟨r0, r1, r2, r3, r4, r5, f0, f1, f2, f3, f4, f5⟩ := row6_facts HJ4.out.box
          go_wp2
          refine bodyPost_ret (results_row_tmp rfl _ _ w.heap.size 45 _ _ rfl (set6 HJ4.out.box) ref_struct ref_size) rfl ?_
          exact ref_none (er := 3) HJ4.out (by rw [HD.out, HT.out]; rfl) (by rw [HDF.out, tellF, HT.out]; rfl) rfl
        · rw [HAG.out, hrt, Bool.true_and] at HT
          refine (refright_on (by have := HRN.out; have := HRL.out; omega) true (by rw [HRN.out, hrt])).mono ?_
          rintro e x4 ⟨rfl, hb⟩
          have HJ4 := Lib.hid (HJ.out.step hb)
          replace HZ := Lib.hid ((hb.block _ (Array.getElem?_eq_some_iff.1 HZ.out).1).trans HZ.out)
          clear hb HJ
          go_upto_region 11 with fail
          replace HJ4 := Lib.hid (HJ4.out.step (drew_below2' x4))
          replace HZ : Hid (x4.drew.heap[Z]? = some (.cells #[.int .u8 (b0.toNat : Int), .int .u8 (b1.toNat : Int), .int .u8 (b2.toNat : Int), .int .u8 (q3 : Int), .int .u8 (rr : Int), .string ⟨r.toArray⟩] 45 (0, 0))) := HZ.out
          by_cases hcn : b4.toNat = rl
          · rw [decide_eq_true hcn] at HT
            subst hcn
            have hc1 : ((b4.toNat : Int) != (b4.toNat : Int)) = false := by rw [bne_eq_false_iff_eq]
            refine region_plan [(true, 0), (true, 1), (true, 2), (true, 3), (true, 4), (true, 5), (true, 6), (true, 7), (true, 8), (true, 9), (true, 10)]
              (fun x => x.cell? ⟨Z, 5, none⟩ = some (.string ⟨r.toArray⟩)) (by kernel_rfl) (by kernel_rfl) (by kernel_rfl) rfl ((cell_of_row _ _ 5 _ _ _ HZ.out).trans rfl) ?_
            iterate 11 (first | (refine Plan.take (v := ?_) rfl (by rfl) ?_ ?_; rotate_left 1; (focus (intro x hx; go_simp <;> (first | with_reducible rfl | rw [if_pos (by omega)]))); simp only [Act.put, List.setIfInBounds_toArray, List.set_cons_zero, List.set_cons_succ]) | (refine Plan.skip rfl (by rfl) ?_; simp only [Act.put, List.setIfInBounds_toArray, List.set_cons_zero, List.set_cons_succ]))
            refine Plan.done ?_
            generalize x4.drew = x5 at *
            obtain ⟨r0, r1, r2, r3, r4, r5, f0, f1, f2, f3, f4, f5⟩ := row6_facts HJ4.out.box
            obtain ⟨z0, z1, z2, z3, z4, z5, -⟩ := row6_facts HZ.out
            go_wp2
            refine bodyPost_ret (results_row_tmp rfl _ _ w.heap.size 45 _ _ rfl (set6 HJ4.out.box) ref_struct ref_size) rfl ?_
            have hF : decF l = ⟨b0.toNat, b1.toNat, b2.toNat, q3, rr, r⟩ := by rw [HDF.out, HTF.out HT.out, HSY.out]
            exact ⟨_, 0, hF.symm, by rw [HD.out, HT.out]; rfl, rfl, below6 HJ4.out.below⟩
          · rw [decide_eq_false hcn] at HT
            have hc1 : ((b4.toNat : Int) != (rl : Int)) = true := by rw [bne_iff_ne]; omega
            have hc2 : ((b4.toNat : Int) == (rl : Int)) = false := by rw [beq_eq_false_iff_ne]; omega
            refine region_plan [(true, 0), (true, 1), (true, 2), (true, 3), (true, 4), (true, 5), (true, 6), (true, 7), (true, 8), (true, 9), (true, 10)]
              (fun x => x.cell? ⟨Z, 5, none⟩ = some (.string ⟨r.toArray⟩)) (by kernel_rfl) (by kernel_rfl) (by kernel_rfl) rfl ((cell_of_row _ _ 5 _ _ _ HZ.out).trans rfl) ?_
            iterate 11 (first | (refine Plan.take (v := ?_) rfl (by rfl) ?_ ?_; rotate_left 1; (focus (intro x hx; go_simp <;> (first | with_reducible rfl | rw [if_pos (by omega)]))); simp only [Act.put, List.setIfInBounds_toArray, List.set_cons_zero, List.set_cons_succ]) | (refine Plan.skip rfl (by rfl) ?_; simp only [Act.put, List.setIfInBounds_toArray, List.set_cons_zero, List.set_cons_succ]))
            refine Plan.done ?_
            generalize x4.drew = x5 at *
            obtain ⟨r0, r1, r2, r3, r4, r5, f0, f1, f2, f3, f4, f5⟩ := row6_facts HJ4.out.box
            go_wp2
            refine bodyPost_ret (results_row_tmp rfl _ _ w.heap.size 45 _ _ rfl (set6 HJ4.out.box) ref_struct ref_size) rfl ?_
            exact ref_none (er := 3) HJ4.out (by rw [HD.out, HT.out]; rfl) (by rw [HDF.out, tellF, HT.out]; rfl) rfl
  · have HE : Hid (decE l = uErr l) := by show _ = _; simp [decE, hu]
    have HF : Hid (decF l = Fr.none) := by show _ = _; simp [decF, hu]
    have hne : ((uErr l : Int) != 0) = true := by rw [bne_iff_ne]; omega
    generalize uErr l = er at *
    go_wp2
    refine bodyPost_ret (results_row_tmp rfl _ _ w.heap.size 45 _ _ rfl (set6 H1.out.box) ref_struct ref_size) rfl ?_
    exact ref_none H1.out HE.out.symm HF.out rfl

end Go.Proofs.YtalolefggihloaaDoor
