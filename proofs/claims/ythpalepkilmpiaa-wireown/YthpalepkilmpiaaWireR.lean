/-
  lamplightlaw06.ref and lamplightref06.Of, New, as they stand: what they answer.
-/
import Derived.Test.YthpalepkilmpiaaWireL
import Derived.Test.YthpalepkilmpiaaFLast
import Derived.Laws.DeepStrings4
namespace Go.Proofs.Ythpalepkilmpiaa
set_option linter.unusedVariables false
set_option linter.unusedSimpArgs false
open Go.RowKit

theorem extract_take (l : List UInt8) (k : Nat) : (ByteArray.mk l.toArray).extract 0 k = ByteArray.mk (l.take k).toArray := by
  apply ByteArray.ext
  rw [ByteArray.data_extract]
  simp
theorem extract_drop (l : List UInt8) (k n : Nat) (hn : l.length = n) : (ByteArray.mk l.toArray).extract k n = ByteArray.mk (l.drop k).toArray := by
  apply ByteArray.ext
  rw [ByteArray.data_extract]
  simp [← hn]
  exact List.take_of_length_le (by simp)

/-- A fault, as the document has it. -/
def Fl.str (f : Fl) : Value := .agg #[.int .i64 f.k, .int .i64 f.n, .int .u8 (f.y.toNat : Int), .string ⟨f.b.toArray⟩]

set_option maxRecDepth 20000 in
set_option maxHeartbeats 800000 in
theorem ref_on {w : World} {gB bc : Nat} {AB : Option Addr} {f : Fl} (hB : Holds w gB AB (bcs f.b)) : Calls Try.prog 16 #[.agg #[.int .i64 f.k, .int .i64 f.n, .int .u8 (f.y.toNat : Int), .slice AB f.b.length bc]] w fun e w' => e = .returned f.str ∧ Below w.heap.size w w' := by
  cases f with
  | mk k n y b =>
  simp only [Fl.str] at *
  have hcv : (convert 28 9 (.slice AB b.length bc)).run Try.prog ((w.alloc (.cells #[.int .i64 k, .int .i64 n, .int .u8 (y.toNat : Int), .slice AB b.length bc] 30)).alloc (.cells #[.int .i64 0, .int .i64 0, .int .u8 0, .string ⟨#[]⟩] 40)) = .ok (.string ⟨b.toArray⟩) _ :=
    convert_holds ((hB.keep (Ch.of_below (new_below w _)) (by simp)).keep (Ch.of_below (new_below _ _)) (by simp)) rfl
  clear hB
  generalize b.length = bl at *
  go_enter Try.func16, Try.ntmps16
  go_wp2
  refine bodyPost_ret (results_cell_row rfl _ _ (w.heap.size + 1) 40 _ _ _ rfl (by have h := heap_alloc_new (w.alloc (.cells #[.int .i64 k, .int .i64 n, .int .u8 (y.toNat : Int), .slice AB bl bc] 30)) (.cells #[.int .i64 k, .int .i64 n, .int .u8 (y.toNat : Int), .string ⟨b.toArray⟩] 40); simpa using h) Try.underlying40 rfl (by kernel_rfl)) rfl ⟨rfl, (new_below w _).trans ((new_below _ _).mono (by simp))⟩

theorem own_made (w : World) (cs : Array Value) (e : TypeId) (B n : Nat) (hB : B ≤ w.heap.size) (hn : cs.size = n) (hm : n ≤ maxLen) : (w.alloc (.cells cs e)).ownsRow B e 1 (.slice (some ⟨w.heap.size, 0, none⟩) n n) n cs.toList := by
  subst hn
  exact ⟨by simp, .inr ⟨w.heap.size, cs.size, cs, rfl, hB, heap_alloc_new w _, Nat.le_refl _, hm, by simp, List.take_of_length_le (by simp)⟩⟩

/-- What the document's Of answers: the rows, as texts. -/
def TextsPost (w : World) (ps : List (List UInt8)) (e : Ending) (w' : World) : Prop :=
  ∃ V c, e = .returned (.slice V ps.length c) ∧ w'.ownsRow w.heap.size 9 1 (.slice V ps.length c) ps.length (scs ps) ∧ Below w.heap.size w w'

theorem edit_cat (l : List UInt8) (q : Nat) (hq : q < l.length) (b : UInt8) : ByteArray.mk (l.take q).toArray ++ ByteArray.mk [b].toArray ++ ByteArray.mk (l.drop (q + 1)).toArray = ByteArray.mk (l.set q b).toArray := by
  rw [cat_two, cat_two, List.set_eq_take_append_cons_drop, if_pos hq, List.append_assoc]
  rfl
set_option maxRecDepth 20000 in
set_option maxHeartbeats 1600000 in
theorem refof_on {w : World} {l : List UInt8} {f : Fl} (hle : l.length ≤ 1000000) : Calls Try.prog 15 #[f.str, .string ⟨l.toArray⟩] w (TextsPost w (f.of l)) := by
  have hsz : (ByteArray.mk l.toArray).size = l.length := by simp [ByteArray.size]
  cases f with
  | mk k N y b =>
  simp only [Fl.str]
  have HB1 := Lib.hid (new_below w (.cells #[.int .i64 k, .int .i64 N, .int .u8 (y.toNat : Int), .string ⟨b.toArray⟩] 40))
  have HSZ : Hid ((w.alloc (.cells #[.int .i64 k, .int .i64 N, .int .u8 (y.toNat : Int), .string ⟨b.toArray⟩] 40)).heap.size = w.heap.size + 1) := by show _ = _; simp
  have HF : Hid (∀ (x : World) (ps : List (List UInt8)) (m g : Nat) (cs : Array Value), Below w.heap.size w x → cs.toList = scs ps → ps.length = m → m ≤ 2 → x.heap.size = g → TextsPost w ps (.returned (.slice (some ⟨g, 0, none⟩) m m)) (x.alloc (.cells cs 9))) := by
    intro x ps m g cs hb h1 h2 h3 h4
    subst h2 h4
    have hcs : cs.size = ps.length := by
      have := congrArg List.length h1
      rw [scs_length] at this
      simpa using this
    refine ⟨_, _, rfl, ?_, hb.trans ((new_below x _).mono hb.size)⟩
    rw [← h1]
    exact own_made x cs 9 w.heap.size ps.length hb.size hcs (by unfold maxLen; omega)
  by_cases k1 : k = 1
  · subst k1
    go_enter Try.func15, Try.ntmps15
    go_wp2
    go_ret
    exact ⟨none, 0, rfl, World.ownsRow_nil _ _ _ _, HB1.out⟩
  by_cases k2 : k = 2
  · subst k2
    go_enter Try.func15, Try.ntmps15
    go_wp2
    go_ret
    exact HF.out _ _ _ _ _ HB1.out rfl rfl (by decide) HSZ.out
  by_cases k4 : k = 4
  · subst k4
    by_cases hl : l = []
    · subst hl
      go_enter Try.func15, Try.ntmps15
      go_wp2
      go_ret
      exact HF.out _ _ _ _ _ HB1.out rfl rfl (by decide) HSZ.out
    · have hne : l.isEmpty = false := by simpa using hl
      have hl0 : 0 < l.length := List.length_pos_iff.2 hl
      obtain ⟨p, hp⟩ : ∃ p : Nat, (if N < 0 then 0 else N) = (p : Int) := ⟨N.toNat, by split <;> omega⟩
      have HP : Hid (p = N.toNat) := by
        show _ = _
        split at hp <;> omega
      obtain ⟨q, hq⟩ : ∃ q : Nat, p % l.length = q := ⟨_, rfl⟩
      have hqn : q < l.length := by rw [← hq]; exact Nat.mod_lt _ hl0
      have hrem : ((p : Int)).tmod (l.length : Int) = (q : Int) := by rw [← hq]; rfl
      have HE : Hid (editM l N y = l.set q (l[q]'hqn ^^^ y)) := by
        show _ = _
        unfold editM
        rw [← HP.out, hq, List.getElem?_eq_getElem hqn]
      have HX := Lib.hid (xor_byte (l[q]'hqn) y)
      have hidx : ∀ h : q < (ByteArray.mk l.toArray).size, ((ByteArray.mk l.toArray)[q]'h).toNat = (l[q]'hqn).toNat := fun h => rfl
      obtain ⟨be, hbe⟩ : ∃ be, l[q]'hqn ^^^ y = be := ⟨_, rfl⟩
      rw [hbe] at HE HX
      clear hbe
      have HC := Lib.hid (edit_cat l q hqn be)
      have ht := extract_take l q
      have hd := extract_drop l (q + 1) l.length rfl
      have hqi : (q : Int) < (l.length : Int) := by omega
      have hqs : IntKind.i64.wrap ((q : Int) + 1) = (q : Int) + 1 := by rw [IntKind.wrap_i64]; omega
      have hqe : (q : Int) + 1 ≤ (l.length : Int) := by omega
      clear hq
      go_enter Try.func15, Try.ntmps15
      go_upto_region 10 with fail
      have hbx := heap_alloc_new w (.cells #[.int .i64 4, .int .i64 N, .int .u8 (y.toNat : Int), .string ⟨b.toArray⟩] 40)
      have hy2 : (w.alloc (.cells #[.int .i64 4, .int .i64 N, .int .u8 (y.toNat : Int), .string ⟨b.toArray⟩] 40)).drew.cell? ⟨w.heap.size, 2, none⟩ = some (.int .u8 (y.toNat : Int)) := by
        show World.cell? (w.alloc _) _ = _
        rw [cell_alloc_new w _ _ _ _ rfl]
        rfl
      have HB2 : Hid (Below w.heap.size w (w.alloc (.cells #[.int .i64 4, .int .i64 N, .int .u8 (y.toNat : Int), .string ⟨b.toArray⟩] 40)).drew) := HB1.out.trans ((drew_below _).mono HB1.out.size)
      have HS2 : Hid ((w.alloc (.cells #[.int .i64 4, .int .i64 N, .int .u8 (y.toNat : Int), .string ⟨b.toArray⟩] 40)).drew.heap.size = w.heap.size + 1) := HSZ.out
      refine region_plan [(true, 0), (true, 1), (true, 2), (true, 3), (true, 4), (true, 6), (true, 7), (true, 12), (true, 13), (true, 14), (true, 15), (false, 5), (true, 8), (false, 9), (true, 10), (true, 11), (true, 16), (false, 17), (true, 18)]
        (fun x => x.cell? ⟨w.heap.size, 2, none⟩ = some (.int .u8 (y.toNat : Int))) (by kernel_rfl) (by kernel_rfl) (by kernel_rfl) rfl hy2 ?_
      clear hbx HB1 HSZ
      generalize (w.alloc (.cells #[.int .i64 4, .int .i64 N, .int .u8 (y.toNat : Int), .string ⟨b.toArray⟩] 40)).drew = x1 at *
      have HY := Lib.hid hy2
      clear hy2
      iterate 11 (refine Plan.take (v := ?_) rfl (by rfl) ?_ ?_; rotate_left 1; (focus (intro x hx; go_simp <;> (first | with_reducible rfl | rw [if_pos (by omega)]))); simp only [Act.put, List.setIfInBounds_toArray, List.set_cons_zero, List.set_cons_succ])
      refine Plan.loud rfl (fun K hK => ?_)
      go_simp
      refine hK.out _ _ _ (fun x hx => hx) HY.out ?_
      clear hK K
      iterate 1 (refine Plan.take (v := ?_) rfl (by rfl) ?_ ?_; rotate_left 1; (focus (intro x hx; go_simp <;> (first | with_reducible rfl | rw [if_pos (by omega)]))); simp only [Act.put, List.setIfInBounds_toArray, List.set_cons_zero, List.set_cons_succ])
      rw [HX.out]
      refine Plan.loud rfl (fun K hK => ?_)
      go_simp
      have hcv : (convert 28 9 (.slice (some ⟨x1.heap.size, 0, none⟩) 1 1)).run Try.prog (x1.alloc (.cells #[.int .u8 (be.toNat : Int)] 5)) = .ok (.string ⟨[be].toArray⟩) _ :=
        convert_holds (l := [be]) (Holds.of_row (cs := bcs [be]) (heap_alloc_new x1 _)) rfl
      have hy3 : (x1.alloc (.cells #[.int .u8 (be.toNat : Int)] 5)).cell? ⟨w.heap.size, 2, none⟩ = some (.int .u8 (y.toNat : Int)) := ((new_below x1 _).cell (p := ⟨w.heap.size, 2, none⟩) (by have := HS2.out; show w.heap.size < _; omega)).trans HY.out
      have HB3 : Hid (Below w.heap.size w (x1.alloc (.cells #[.int .u8 (be.toNat : Int)] 5))) := HB2.out.trans ((new_below x1 _).mono HB2.out.size)
      refine hK.out (fun x => x.cell? ⟨w.heap.size, 2, none⟩ = some (.int .u8 (y.toNat : Int)) ∧ (convert 28 9 (.slice (some ⟨x1.heap.size, 0, none⟩) 1 1)).run Try.prog x = .ok (.string ⟨[be].toArray⟩) x) _ _ (fun x hx => hx.1) ⟨hy3, hcv⟩ ?_
      clear hK K
      have HT3 := Lib.hid hy3
      have HHb : Hid (Holds (x1.alloc (.cells #[.int .u8 (be.toNat : Int)] 5)) x1.heap.size (some ⟨x1.heap.size, 0, none⟩) (bcs [be])) := Holds.of_row (cs := bcs [be]) (heap_alloc_new x1 _)
      have HLT : Hid (w.heap.size < (x1.alloc (.cells #[.int .u8 (be.toNat : Int)] 5)).heap.size) := by have := HS2.out; show w.heap.size < _; simp; omega
      clear hy3 hcv HY HB2
      generalize x1.alloc (.cells #[.int .u8 (be.toNat : Int)] 5) = x2 at *
      iterate 1 (refine Plan.take (v := ?_) rfl (by rfl) ?_ ?_; rotate_left 1; (focus (intro x hx; go_simp <;> (first | with_reducible rfl | rw [if_pos (by omega)]))); simp only [Act.put, List.setIfInBounds_toArray, List.set_cons_zero, List.set_cons_succ])
      (refine Plan.take (v := ?_) rfl (by rfl) ?_ ?_; rotate_left 1; (focus (intro x hx; go_simp; rw [if_neg (by omega)])); simp only [Act.put, List.setIfInBounds_toArray, List.set_cons_zero, List.set_cons_succ])
      (refine Plan.take (v := ?_) rfl (by rfl) ?_ ?_; rotate_left 1; (focus (intro x hx; go_simp; rw [if_neg (by omega)])); simp only [Act.put, List.setIfInBounds_toArray, List.set_cons_zero, List.set_cons_succ])
      rw [HC.out]
      refine Plan.loud rfl (fun K hK => ?_)
      go_simp
      have HFin := Lib.hid (HF.out x2 [l.set q be] 1 x2.heap.size #[.string ⟨(l.set q be).toArray⟩] HB3.out rfl rfl (by decide) rfl)
      refine hK.out _ _ _ (fun x hx => hx) ⟨((new_below x2 _).cell (p := ⟨w.heap.size, 2, none⟩) HLT.out).trans HT3.out, convert_holds (HHb.out.keep (Ch.of_below (new_below x2 _)) (by simp)) rfl⟩ ?_
      clear hK K
      iterate 1 (refine Plan.take (v := ?_) rfl (by rfl) ?_ ?_; rotate_left 1; (focus (intro x hx; go_simp <;> (first | with_reducible rfl | rw [if_pos (by omega)]))); simp only [Act.put, List.setIfInBounds_toArray, List.set_cons_zero, List.set_cons_succ])
      refine Plan.done ?_
      go_wp2
      go_ret
      show TextsPost w [editM l N y] _ _
      rw [HE.out]
      exact HFin.out
  by_cases k5 : k = 5
  · subst k5
    obtain ⟨p, hp⟩ : ∃ p : Nat, (if N < 0 then 0 else N) = (p : Int) := ⟨N.toNat, by split <;> omega⟩
    obtain ⟨q, hq⟩ : ∃ q : Nat, (if l.length < p then (l.length : Int) else (p : Int)) = (q : Int) := ⟨min p l.length, by split <;> omega⟩
    have HQ : Hid (l.take N.toNat = l.take q) := by
      show _ = _
      have h1 : q = min N.toNat l.length := by split at hp <;> split at hq <;> omega
      rw [h1]
      by_cases h : N.toNat ≤ l.length
      · rw [show min N.toNat l.length = N.toNat by omega]
      · rw [show min N.toNat l.length = l.length by omega, List.take_length, List.take_of_length_le (by omega)]
    have ht := extract_take l q
    have hql : (q : Int) ≤ (l.length : Int) := by split at hq <;> omega
    go_enter Try.func15, Try.ntmps15
    go_wp2
    go_ret
    exact HF.out _ _ _ _ _ HB1.out (by show _ = scs [l.take N.toNat]; rw [HQ.out]; rfl) rfl (by decide) HSZ.out
  by_cases k6 : k = 6
  · subst k6
    have hszb : (ByteArray.mk b.toArray).size = b.length := by simp [ByteArray.size]
    obtain ⟨q, hq⟩ : ∃ q : Nat, (if (64 : Int) < (b.length : Int) then (64 : Int) else (b.length : Int)) = (q : Int) := ⟨min b.length 64, by split <;> omega⟩
    have HQ : Hid (b.take 64 = b.take q) := by
      show _ = _
      have h1 : q = min b.length 64 := by split at hq <;> omega
      rw [h1]
      by_cases h : 64 ≤ b.length
      · rw [show min b.length 64 = 64 by omega]
      · rw [show min b.length 64 = b.length by omega, List.take_length, List.take_of_length_le (by omega)]
    have ht := extract_take b q
    have hqb : (q : Int) ≤ (b.length : Int) := by split at hq <;> omega
    go_enter Try.func15, Try.ntmps15
    go_wp2
    go_ret
    exact HF.out _ _ _ _ _ HB1.out (by show _ = scs [b.take 64, l]; rw [HQ.out]; rfl) rfl (by decide) HSZ.out
  have b1 : (k == 1) = false := by simpa using k1
  have b2 : (k == 2) = false := by simpa using k2
  have b4 : (k == 4) = false := by simpa using k4
  have b5 : (k == 5) = false := by simpa using k5
  have b6 : (k == 6) = false := by simpa using k6
  have HO : Hid ((Fl.mk k N y b).of l = [l]) := by
    show _ = _
    unfold Fl.of
    rw [if_neg k1, if_neg k2, if_neg k4, if_neg k5, if_neg k6]
  rw [HO.out]
  go_enter Try.func15, Try.ntmps15
  go_wp2
  go_ret
  exact HF.out _ _ _ _ _ HB1.out rfl rfl (by decide) HSZ.out

end Go.Proofs.Ythpalepkilmpiaa
