/-
  lamplightlaw04.few and lamplightref04.Of: what they answer.
-/
import Derived.Test.YtimahjgmapdjdaaDoorFrameD
namespace Go.Proofs.YtimahjgmapdjdaaDoor
set_option linter.unusedVariables false
set_option linter.unusedSimpArgs false
open Go.RowKit

theorem min_50 (n : Nat) : (if (50 : Int) < (n : Int) then (50 : Int) else (n : Int)) = ((min n 50 : Nat) : Int) := by
  by_cases h : (50 : Int) < (n : Int)
  · rw [if_pos h]; omega
  · rw [if_neg h]; omega

theorem row6_facts {x : World} {B : Nat} {t : TypeId} {u0 u1 u2 u3 u4 u5 : Value} (h : x.heap[B]? = some (.cells #[u0, u1, u2, u3, u4, u5] t (0, 0))) :
    x.cell? ⟨B, 0, none⟩ = some u0 ∧ x.cell? ⟨B, 1, none⟩ = some u1 ∧ x.cell? ⟨B, 2, none⟩ = some u2 ∧ x.cell? ⟨B, 3, none⟩ = some u3 ∧ x.cell? ⟨B, 4, none⟩ = some u4 ∧ x.cell? ⟨B, 5, none⟩ = some u5 ∧
      x.frozen? ⟨B, 0, none⟩ = false ∧ x.frozen? ⟨B, 1, none⟩ = false ∧ x.frozen? ⟨B, 2, none⟩ = false ∧ x.frozen? ⟨B, 3, none⟩ = false ∧ x.frozen? ⟨B, 4, none⟩ = false ∧ x.frozen? ⟨B, 5, none⟩ = false :=
  ⟨(cell_of_row _ _ 0 _ _ _ h).trans rfl, (cell_of_row _ _ 1 _ _ _ h).trans rfl, (cell_of_row _ _ 2 _ _ _ h).trans rfl, (cell_of_row _ _ 3 _ _ _ h).trans rfl, (cell_of_row _ _ 4 _ _ _ h).trans rfl, (cell_of_row _ _ 5 _ _ _ h).trans rfl, frozen_of_row _ _ _ _ _ h, frozen_of_row _ _ _ _ _ h, frozen_of_row _ _ _ _ _ h, frozen_of_row _ _ _ _ _ h, frozen_of_row _ _ _ _ _ h, frozen_of_row _ _ _ _ _ h⟩

def FewPost (w : World) (a k s q c : Nat) (l : List UInt8) (e : Ending) (w' : World) : Prop :=
  ∃ (A' : Option Addr) (m c' : Nat), e = .returned (.agg #[.int .u8 (a : Int), .int .u8 (k : Int), .int .u8 (s : Int), .int .u8 (q : Int), .int .u8 (c : Int), .slice A' m c']) ∧ Own1 w' w.heap.size A' m c' (l.take 50) ∧ Below w.heap.size w w'

set_option maxHeartbeats 1600000 in
theorem few_on {g a k s q c n cap : Nat} {A : Option Addr} {l : List UInt8} {w : World} (h : Holds w g A (bcs l)) (hn : l.length = n) (hc : n ≤ cap) :
    Calls Tryd.prog 11 #[.agg #[.int .u8 a, .int .u8 k, .int .u8 s, .int .u8 q, .int .u8 c, .slice A n cap]] w (FewPost w a k s q c l) := by
  obtain ⟨i0, hi, hz0, hz1, hz2⟩ := info_parts info_byte
  have HN := Lib.hid hn
  have HH := Lib.hid h
  clear h hn
  have hm50 := min_50 n
  have hml : min n 50 ≤ n := by omega
  have hml2 : min n 50 ≤ 50 := by omega
  have HL : Hid ((bcs (l.take 50)).length = min n 50) := by
    show _ = _
    rw [bcs_length, List.length_take, HN.out]
    omega
  generalize min n 50 = m at *
  have hmc : m ≤ cap := by omega
  obtain ⟨w2, hw2⟩ : ∃ w2, w2 = (w.alloc (.cells #[.int .u8 a, .int .u8 k, .int .u8 s, .int .u8 q, .int .u8 c, .slice A n cap] 24)).alloc (.cells noFrame 24) := ⟨_, rfl⟩
  have hsz : w2.heap.size = w.heap.size + 1 + 1 := by rw [hw2]; simp
  have HO := Lib.hid (Own1.empty w2)
  have HB := Lib.hid (new_below2 w (.cells #[.int .u8 a, .int .u8 k, .int .u8 s, .int .u8 q, .int .u8 c, .slice A n cap] 24) (.cells noFrame 24))
  have HF := Lib.hid (heap_alloc2_old w (.cells #[.int .u8 a, .int .u8 k, .int .u8 s, .int .u8 q, .int .u8 c, .slice A n cap] 24) (.cells noFrame 24))
  have HR := Lib.hid (heap_alloc2_new w (.cells #[.int .u8 a, .int .u8 k, .int .u8 s, .int .u8 q, .int .u8 c, .slice A n cap] 24) (.cells noFrame 24))
  rw [← hw2] at HB HF HR
  have HS : Hid (Holds (w2.alloc (.cells #[] 5)) g A (bcs (l.take 50))) := by
    show Holds _ _ _ _
    rw [bcs_take]
    exact ((HH.out.take 50).keep (Ch.of_below HB.out) (by simp)).keep ((Ch.refl [] w2).alloc _) (by simp)
  have hsz2 : (w2.alloc (.cells #[] 5)).heap.size = w.heap.size + 1 + 1 + 1 := by simp [hsz]
  rw [hsz] at HO
  go_enter Tryd.func11, Tryd.ntmps11
  go_wp2_with (at_builtin; rw [← hw2]; refine wpList_append_holds rfl (.tmp 3) (.tmp 10) 22 rfl 5 i0 (.int .u8 0) 1 Tryd.underlying22 hi hz0 hz1 hz2 rfl (.slice (some ⟨w.heap.size + 1 + 1, 0, none⟩) 0 0) 0 (bcs []) rfl HO.out.own g A m cap (bcs (l.take 50)) rfl HL.out HS.out (bcs_one _) (by unfold maxLen; omega) (by omega) ?_; intro A' c' w' hown hgr hat; rw [← bcs_append, List.nil_append] at hown; have HG := Lib.hid (HO.out.grown (by omega) hgr hown (by rw [← bcs_length, HL.out]; omega) hat); clear hown hgr hat; have HP := Lib.hid ((HG.out.2.block w.heap.size (by omega)).trans ((Below.heap_alloc w2 _ w.heap.size (by omega)).trans HF.out)); have HQ := Lib.hid ((HG.out.2.block (w.heap.size + 1) (by omega)).trans ((Below.heap_alloc w2 _ (w.heap.size + 1) (by omega)).trans HR.out)); have pp := row6_facts HP.out; have qq := row6_facts HQ.out; obtain ⟨p0, p1, p2, p3, p4, p5, t0, t1, t2, t3, t4, t5⟩ := pp; obtain ⟨q0, q1, q2, q3, q4, q5, u0, u1, u2, u3, u4, u5⟩ := qq)
  have hG1 := HG.out.1
  rw [Nat.zero_add] at hG1
  have hrow : (w'.setCell ⟨w.heap.size, 5, none⟩ (.slice A' m c')).heap[w.heap.size + 1]? = some (.cells noFrame 24 (0, 0)) := (Below.heap_setCell w' ⟨w.heap.size, 5, none⟩ (.slice A' m c') (w.heap.size + 1) (by show w.heap.size + 1 ≠ w.heap.size; omega)).trans HQ.out
  have hch : Ch [w.heap.size, w.heap.size + 1] w' (put6 (w'.setCell ⟨w.heap.size, 5, none⟩ (.slice A' m c')) (w.heap.size + 1) (.int .u8 a) (.int .u8 k) (.int .u8 s) (.int .u8 q) (.int .u8 c) (.slice A' m c')) :=
    ((Ch.refl _ w').setCell (p := ⟨w.heap.size, 5, none⟩) (by simp) _).trans ((ch6 _ _ _ _ _ _ _ _).mono (by simp))
  refine bodyPost_ret (results_row rfl _ _ (w.heap.size + 1) 24 _ _ rfl (set6 hrow) frame_struct frame_size) rfl ?_
  refine ⟨A', m, c', rfl, ⟨own_ch hG1.own hch (fun g hg => ?_), fun g hg => ?_, hG1.len⟩, ?_⟩
  · have := hG1.from_ g hg
    simp
    omega
  · have := hG1.from_ g hg
    omega
  · have h1 : Below w.heap.size w w' := (HB.out.alloc (by omega) _).trans (HG.out.2.mono (by omega))
    exact h1.trans (hch.belowAt (by simp) h1.size)

theorem ref_struct : ∃ fs, Tryd.prog.underlying 43 = some (.struct fs) := ⟨_, Tryd.underlying43⟩
theorem ref_size : (Tryd.prog.info? 43).map (·.size) = some 6 := by kernel_rfl

theorem of_on {g a k s q c n cap : Nat} {A : Option Addr} {l : List UInt8} {w : World} (h : Holds w g A (bcs l)) (hn : l.length = n) :
    Calls Tryd.prog 18 #[.agg #[.int .u8 a, .int .u8 k, .int .u8 s, .int .u8 q, .int .u8 c, .slice A n cap]] w
      fun e w' => e = .returned (.agg #[.int .u8 a, .int .u8 k, .int .u8 s, .int .u8 q, .int .u8 c, .string ⟨l.toArray⟩]) ∧ Below w.heap.size w w' := by
  have hcv := convert_holds (c := cap) (h.keep (((Ch.refl [] w).alloc (.cells #[.int .u8 a, .int .u8 k, .int .u8 s, .int .u8 q, .int .u8 c, .slice A n cap] 24)).alloc (.cells #[.int .u8 0, .int .u8 0, .int .u8 0, .int .u8 0, .int .u8 0, .string ⟨#[]⟩] 43)) (by simp)) hn
  clear h hn
  go_enter Tryd.func18, Tryd.ntmps18
  go_wp2
  exact bodyPost_ret (results_row rfl _ _ (w.heap.size + 1) 43 _ _ rfl (heap_alloc2_new w _ _) ref_struct ref_size) rfl ⟨rfl, new_below2 _ _ _⟩

end Go.Proofs.YtimahjgmapdjdaaDoor
