/-
  wire's start, times, edited and Of, as they landed: what they answer.
-/
import Derived.Test.YthpalepkilmpiaaWireA
import Derived.StillTailTactics
namespace Go.Proofs.Ythpalepkilmpiaa
set_option linter.unusedVariables false
set_option linter.unusedSimpArgs false
open Go.RowKit

set_option maxRecDepth 20000 in
theorem start_on {w : World} {n c : Nat} {A : Option Addr} {N : Int} (hn : n ≤ c) (hc : c ≤ maxLen) : Calls Try.prog 24 #[.slice A n c, .int .i64 N] w fun e w' => e = .returned (.slice A (min N.toNat n) c) ∧ w' = w := by
  obtain ⟨p, hp⟩ : ∃ p : Nat, (if N < 0 then 0 else N) = (p : Int) := ⟨N.toNat, by split <;> omega⟩
  obtain ⟨q, hq⟩ : ∃ q : Nat, (if (n : Int) < (p : Int) then (n : Int) else (p : Int)) = (q : Int) := ⟨min p n, by split <;> omega⟩
  have HQ : Hid (q = min N.toNat n) := by
    show _ = _
    split at hp <;> split at hq <;> omega
  have HPV : Hid (p = N.toNat) := by
    show _ = _
    split at hp <;> omega
  have hqc : (q : Int) ≤ (c : Int) := by
    have := HQ.out
    omega
  have hcm : c ≤ 9223372036854775807 := by unfold maxLen at hc; omega
  go_enter Try.func24, Try.ntmps24
  go_wp2
  all_goals go_ret
  all_goals have hpv := HPV.out
  all_goals exact ⟨congrArg (fun m => Ending.returned (.slice A m c)) (by omega), rfl⟩

theorem times_on {w : World} {k N : Int} {y : UInt8} {V : Value} : Calls Try.prog 25 #[.agg #[.int .i64 k, .int .i64 N, .int .u8 (y.toNat : Int), V]] w fun e w' => e = .returned (.int .i64 ((if k = 3 then min N.toNat 16 else 0 : Nat) : Int)) ∧ Below w.heap.size w w' := by
  by_cases h3 : k = 3
  · subst h3
    obtain ⟨p, hp⟩ : ∃ p : Nat, (if N < 0 then 0 else N) = (p : Int) := ⟨N.toNat, by split <;> omega⟩
    obtain ⟨q, hq⟩ : ∃ q : Nat, (if (16 : Int) < (p : Int) then (16 : Int) else (p : Int)) = (q : Int) := ⟨min p 16, by split <;> omega⟩
    have HQ : Hid (q = min N.toNat 16) := by
      show _ = _
      split at hp <;> split at hq <;> omega
    go_enter Try.func25, Try.ntmps25
    go_wp2
    go_ret
    rw [← HQ.out]
    exact ⟨rfl, new_below _ _⟩
  · have hb : (k != 3) = true := by simpa using h3
    go_enter Try.func25, Try.ntmps25
    go_wp2
    go_ret
    exact ⟨rfl, new_below _ _⟩

theorem Pa.one {w : World} {g n c : Nat} {A : Option Addr} {l : List UInt8} {t : TypeId} (h : Holds w g A (bcs l)) (hn : l.length = n) (b : Nat) (hb : w.heap.size = b) : Pa (w.alloc (.cells #[.slice A n c] t)) (some ⟨b, 0, none⟩) [l] := by
  subst hn hb
  intro k p hk
  cases k with
  | zero =>
    simp at hk
    subst hk
    exact ⟨w.heap.size, 0, g, A, c, rfl, by rw [cell_alloc_new w _ _ _ _ rfl]; rfl, h.keep (Ch.of_below (new_below w _)) (by simp)⟩
  | succ k => simp at hk
theorem Pa.two {w : World} {g n c g' n' c' : Nat} {A A' : Option Addr} {l l' : List UInt8} {t : TypeId} (h : Holds w g A (bcs l)) (hn : l.length = n) (h' : Holds w g' A' (bcs l')) (hn' : l'.length = n') (b : Nat) (hb : w.heap.size = b) : Pa (w.alloc (.cells #[.slice A n c, .slice A' n' c'] t)) (some ⟨b, 0, none⟩) [l, l'] := by
  subst hn hn' hb
  intro k p hk
  cases k with
  | zero =>
    simp at hk
    subst hk
    exact ⟨w.heap.size, 0, g, A, c, rfl, by rw [cell_alloc_new w _ _ _ _ rfl]; rfl, h.keep (Ch.of_below (new_below w _)) (by simp)⟩
  | succ k =>
    cases k with
    | zero =>
      simp at hk
      subst hk
      exact ⟨w.heap.size, 0, g', A', c', rfl, by rw [cell_alloc_new w _ _ _ _ rfl]; rfl, h'.keep (Ch.of_below (new_below w _)) (by simp)⟩
    | succ k => simp at hk

/-- One row, of which a byte is written. -/
theorem Rp.edit {w : World} {B c : Nat} {V : Option Addr} {vs : List Value} {l : List UInt8} (h : Rp w B V 1 c vs [l]) (k : Nat) (hk : k < l.length) : ∃ g gb c', V = some ⟨g, 0, none⟩ ∧ w.cell? ⟨g, 0, none⟩ = some (.slice (some ⟨gb, 0, none⟩) l.length c') ∧ w.cell? ⟨gb, k, none⟩ = some (.int .u8 (l[k].toNat : Int)) ∧ w.frozen? ⟨gb, k, none⟩ = false ∧ B ≤ gb ∧
    ∀ b : UInt8, Rp (w.setCell ⟨gb, k, none⟩ (.int .u8 (b.toNat : Int))) B V 1 c vs [l.set k b] := by
  obtain ⟨g, A, l', c', hV, hB, hg, hv, hp, hcell, hfz, hown⟩ := h.at 0 (by decide)
  simp at hp
  subst hp
  rcases hown.2 with ⟨_, h0⟩ | ⟨gb, cap, cur, hA, hb, hh, h1, h2, h3, h4⟩
  · omega
  · injection hA with hA _ hc
    subst hA hc
    have hBI : BlockIn w gb [5] := ⟨_, _, _, hh, by simp⟩
    refine ⟨g, gb, c', hV, hcell, ?_, hown.frozenAt k, hb, fun b => ?_⟩
    · rw [hown.cellAt k (by omega), bcs_get l k hk]
    · have hft : Ft B [5] w (w.setCell ⟨gb, k, none⟩ (.int .u8 (b.toNat : Int))) := Ft.of_ch ((Ch.refl [gb] w).setCell (by simp) _) (fun x hx _ => by simp at hx; subst hx; exact ⟨hb, hBI⟩)
      refine ⟨own_ft h.outer hft (by decide), rfl, ⟨by have := h.rows.len; simpa using this, fun j v p hv' hp' => ?_⟩⟩
      have hj : j = 0 := by
        cases j with
        | zero => rfl
        | succ j => simp at hp'
      subst hj
      rw [hv] at hv'
      injection hv' with hv'
      simp at hp'
      subst hv' hp'
      have := (hown.stored k (.int .u8 (b.toNat : Int))).1
      rw [show (bcs l).set k (.int .u8 (b.toNat : Int)) = bcs (l.set k b) by simp [bcs, List.map_set]] at this
      rw [List.length_set]
      exact this

set_option maxRecDepth 20000 in
set_option maxHeartbeats 800000 in
theorem edited_on {w : World} {g n c : Nat} {A : Option Addr} {l : List UInt8} {k N : Int} {y : UInt8} {V : Value} (h : Holds w g A (bcs l)) (hn : l.length = n) (hle : n ≤ 1000000) :
    Calls Try.prog 23 #[.agg #[.int .i64 k, .int .i64 N, .int .u8 (y.toNat : Int), V], .slice A n c] w (RowsPost w [editM l N y]) := by
  have H := Lib.hid h
  have HN := Lib.hid hn
  clear h hn
  go_enter Try.func23, Try.ntmps23
  go_wp2_with fail
  have HB1 := Lib.hid (new_below w (.cells #[.int .i64 k, .int .i64 N, .int .u8 (y.toNat : Int), V] 30))
  have HX1 := Lib.hid (heap_alloc_new w (.cells #[.int .i64 k, .int .i64 N, .int .u8 (y.toNat : Int), V] 30))
  have HSZ : Hid ((w.alloc (.cells #[.int .i64 k, .int .i64 N, .int .u8 (y.toNat : Int), V] 30)).heap.size = w.heap.size + 1) := by show _ = _; simp
  generalize w.alloc (.cells #[.int .i64 k, .int .i64 N, .int .u8 (y.toNat : Int), V] 30) = w1 at *
  refine (copies_on (Pa.one (t := 28) (H.out.keep (Ch.of_below HB1.out) (by simp)) HN.out _ HSZ.out) rfl (by simp) (by simp; rw [HN.out]; exact hle)).mono ?_
  rintro e x1 ⟨V', vs, c', rfl, hrp, hb⟩
  have HB2 : Hid (Below w1.heap.size w1 x1) := (new_below w1 _).trans (hb.mono (by simp))
  have HR : Hid (Rp x1 w.heap.size V' 1 c' vs [l]) := hrp.mono (by have := HSZ.out; simp; omega)
  have HBX : Hid (Below w.heap.size w x1) := HB1.out.trans (HB2.out.mono (by have := HSZ.out; omega))
  have HX2 : Hid (x1.heap[w.heap.size]? = some (.cells #[.int .i64 k, .int .i64 N, .int .u8 (y.toNat : Int), V] 30 (0, 0))) := (HB2.out.block _ (by have := HSZ.out; omega)).trans HX1.out
  have e1 : x1.cell? ⟨w.heap.size, 1, none⟩ = some (.int .i64 N) := by have h := HX2.out; simp [World.cell?, h]
  have e2 : x1.cell? ⟨w.heap.size, 2, none⟩ = some (.int .u8 (y.toNat : Int)) := by have h := HX2.out; simp [World.cell?, h]
  clear hrp hb HB1 HB2 HX1 HX2 HSZ
  generalize hBE : w.heap.size = B at *
  have HBE := Lib.hid hBE
  clear hBE
  by_cases hn0 : n = 0
  · have hl : l = [] := List.eq_nil_of_length_eq_zero (by rw [HN.out]; exact hn0)
    subst hn0
    go_wp2
    go_ret
    have hE : editM l N y = l := by rw [hl]; rfl
    rw [hE]
    have hBE := HBE.out
    subst hBE
    exact ⟨V', vs, c', rfl, HR.out, HBX.out⟩
  · obtain ⟨p, hp⟩ : ∃ p : Nat, (if N < 0 then 0 else N) = (p : Int) := ⟨N.toNat, by split <;> omega⟩
    have HP : Hid (p = N.toNat) := by
      show _ = _
      split at hp <;> omega
    obtain ⟨q, hq⟩ : ∃ q : Nat, p % n = q := ⟨_, rfl⟩
    have hqn : q < n := by rw [← hq]; exact Nat.mod_lt _ (by omega)
    have hql : q < l.length := by rw [HN.out]; exact hqn
    have hrem : ((p : Int)).tmod (n : Int) = (q : Int) := by rw [← hq]; rfl
    obtain ⟨gO, gb, c2, rfl, k1, k2, k3, k4, k5⟩ := (HR.out.step (drew_below x1)).edit q hql
    rw [HN.out] at k1
    have HK5 := Lib.hid (k5 (l[q]'hql ^^^ y))
    have HE : Hid (editM l N y = l.set q (l[q]'hql ^^^ y)) := by
      show _ = _
      unfold editM
      rw [← HP.out, HN.out, hq, List.getElem?_eq_getElem hql]
    have HX := Lib.hid (xor_byte (l[q]'hql) y)
    have hn1 : (0 : Int) < (n : Int) := by omega
    have hqi : (q : Int) < (n : Int) := by omega
    clear k5 hq
    generalize (l[q]'hql) = b at *
    go_upto_region 3 with fail
    replace e1 : x1.drew.cell? ⟨B, 1, none⟩ = some (.int .i64 N) := e1
    replace e2 : x1.drew.cell? ⟨B, 2, none⟩ = some (.int .u8 (y.toNat : Int)) := e2
    go_still_tail 15, (by kernel_rfl)
    change wpList _ _ _ _ _ x1.drew
    go_wp2
    go_ret
    rw [HX.out, HE.out]
    have hBE := HBE.out
    subst hBE
    exact ⟨_, vs, c', rfl, HK5.out, (HBX.out.trans ((drew_below x1).mono HBX.out.size)).trans (((Ch.refl [gb] x1.drew).setCell (p := ⟨gb, q, none⟩) (by simp) _).belowAt (by simp; exact k4) HBX.out.size)⟩

/-- What Of answers. -/
theorem of_on {w : World} {g n c gB bc : Nat} {A AB : Option Addr} {l : List UInt8} {f : Fl} (h : Holds w g A (bcs l)) (hn : l.length = n) (hle : n ≤ 1000000) (hc : n ≤ c) (hcm : c ≤ maxLen) (hB : Holds w gB AB (bcs f.b)) (hbc : f.b.length ≤ bc) (hbm : bc ≤ maxLen) :
    Calls Try.prog 14 #[.agg #[.int .i64 f.k, .int .i64 f.n, .int .u8 (f.y.toNat : Int), .slice AB f.b.length bc], .slice A n c] w (RowsPost w (f.of l)) := by
  have H := Lib.hid h
  have HB := Lib.hid hB
  have HN := Lib.hid hn
  clear h hn hB
  cases f with
  | mk k N y b =>
  simp only at hbc HB ⊢
  have HB1 := Lib.hid (new_below w (.cells #[.int .i64 k, .int .i64 N, .int .u8 (y.toNat : Int), .slice AB b.length bc] 30))
  have HSZ : Hid ((w.alloc (.cells #[.int .i64 k, .int .i64 N, .int .u8 (y.toNat : Int), .slice AB b.length bc] 30)).heap.size = w.heap.size + 1) := by show _ = _; simp
  have HH1 := Lib.hid (H.out.keep (Ch.of_below HB1.out) (by simp))
  have HHB := Lib.hid (HB.out.keep (Ch.of_below HB1.out) (by simp))
  have fin : ∀ (ps : List (List UInt8)) (e : Ending) (w' : World), RowsPost ((w.alloc (.cells #[.int .i64 k, .int .i64 N, .int .u8 (y.toNat : Int), .slice AB b.length bc] 30))) ps e w' → RowsPost w ps e w' := by
    rintro ps e w' ⟨V, vs, c', h1, h2, h3⟩
    exact ⟨V, vs, c', h1, h2.mono HB1.out.size, HB1.out.trans (h3.mono HB1.out.size)⟩
  have fin2 : ∀ (ps : List (List UInt8)) (e : Ending) (w' : World) (o : Obj), RowsPost ((w.alloc (.cells #[.int .i64 k, .int .i64 N, .int .u8 (y.toNat : Int), .slice AB b.length bc] 30)).alloc o) ps e w' → RowsPost w ps e w' := by
    rintro ps e w' o ⟨V, vs, c', h1, h2, h3⟩
    exact fin _ _ _ ⟨V, vs, c', h1, h2.mono (by simp), (new_below _ _).trans (h3.mono (by simp))⟩
  have HF := Lib.hid fin
  have HF2 := Lib.hid fin2
  clear fin fin2 H HB
  by_cases k1 : k = 1
  · subst k1
    go_enter Try.func14, Try.ntmps14
    go_wp2
    go_ret
    exact ⟨none, [], 0, rfl, Rp.nil _ _, HB1.out⟩
  by_cases k2 : k = 2
  · subst k2
    go_enter Try.func14, Try.ntmps14
    go_wp2_with fail
    refine (copies_on (Pa.two (t := 28) HH1.out HN.out HH1.out HN.out _ HSZ.out) rfl (by simp) (by simp; rw [HN.out]; exact hle)).mono ?_
    rintro e x1 hp
    replace hp := HF2.out _ _ _ _ hp
    obtain ⟨V, vs, c', rfl, hrp, hb⟩ := hp
    have HR := Lib.hid hrp
    clear hrp
    go_wp2
    go_ret
    exact ⟨V, vs, c', rfl, HR.out, hb⟩
  by_cases k4 : k = 4
  · subst k4
    go_enter Try.func14, Try.ntmps14
    go_wp2_with fail
    refine (edited_on HH1.out HN.out hle).mono ?_
    rintro e x1 hp
    replace hp := HF.out _ _ _ hp
    obtain ⟨V, vs, c', rfl, hrp, hb⟩ := hp
    have HR := Lib.hid hrp
    clear hrp
    go_wp2
    go_ret
    exact ⟨V, vs, c', rfl, HR.out, hb⟩
  by_cases k5 : k = 5
  · subst k5
    go_enter Try.func14, Try.ntmps14
    go_wp2_with fail
    refine (start_on hc hcm).mono ?_
    rintro e x1 ⟨rfl, rfl⟩
    go_wp2_with fail
    have HT : Hid (Holds (w.alloc (.cells #[.int .i64 5, .int .i64 N, .int .u8 (y.toNat : Int), .slice AB b.length bc] 30)) g A (bcs (l.take N.toNat))) := by
      show Holds _ _ _ _
      rw [bcs_take]
      exact HH1.out.take _
    refine (copies_on (Pa.one (t := 28) HT.out (by rw [List.length_take, HN.out]) _ HSZ.out) rfl (by simp) (by simp; rw [HN.out]; omega)).mono ?_
    rintro e x1 hp
    replace hp := HF2.out _ _ _ _ hp
    obtain ⟨V, vs, c', rfl, hrp, hb⟩ := hp
    have HR := Lib.hid hrp
    clear hrp
    go_wp2
    go_ret
    exact ⟨V, vs, c', rfl, HR.out, hb⟩
  by_cases k6 : k = 6
  · subst k6
    go_enter Try.func14, Try.ntmps14
    go_wp2_with fail
    refine (start_on hbc hbm).mono ?_
    rintro e x1 ⟨rfl, rfl⟩
    go_wp2_with fail
    have HT : Hid (Holds (w.alloc (.cells #[.int .i64 6, .int .i64 N, .int .u8 (y.toNat : Int), .slice AB b.length bc] 30)) gB AB (bcs (b.take 64))) := by
      show Holds _ _ _ _
      rw [bcs_take]
      exact HHB.out.take _
    refine (copies_on (Pa.two (t := 28) HT.out (by rw [List.length_take]) HH1.out HN.out _ HSZ.out) rfl (by simp) (by simp; rw [HN.out]; omega)).mono ?_
    rintro e x1 hp
    replace hp := HF2.out _ _ _ _ hp
    obtain ⟨V, vs, c', rfl, hrp, hb⟩ := hp
    have HR := Lib.hid hrp
    clear hrp
    go_wp2
    go_ret
    exact ⟨V, vs, c', rfl, HR.out, hb⟩
  have b1 : (k == 1) = false := by simpa using k1
  have b2 : (k == 2) = false := by simpa using k2
  have b4 : (k == 4) = false := by simpa using k4
  have b5 : (k == 5) = false := by simpa using k5
  have b6 : (k == 6) = false := by simpa using k6
  have HO : Hid ((Fl.mk k N y b).of l = [l]) := by
    show _ = _
    unfold Fl.of
    rw [if_neg k1, if_neg k2, if_neg k4, if_neg k5, if_neg k6]
  rw [HO.out]
  go_enter Try.func14, Try.ntmps14
  go_wp2_with fail
  refine (copies_on (Pa.one (t := 28) HH1.out HN.out _ HSZ.out) rfl (by simp) (by simp; rw [HN.out]; exact hle)).mono ?_
  rintro e x1 hp
  replace hp := HF2.out _ _ _ _ hp
  obtain ⟨V, vs, c', rfl, hrp, hb⟩ := hp
  have HR := Lib.hid hrp
  clear hrp
  go_wp2
  go_ret
  exact ⟨V, vs, c', rfl, HR.out, hb⟩

end Go.Proofs.Ythpalepkilmpiaa
