/-
  The landed module in memory: its slave and its buttons lie in its block, by value; what shows, holds, obey answer.
-/
import Derived.Test.YtdcnmbglbopgdaaModSa
import Derived.Test.YtdcnmbglbopgdaaButK
import Derived.Test.YtdcnmbglbopgdaaModC
namespace Go.Proofs.Ytdcnmbglbopgdaa
set_option linter.unusedVariables false
set_option linter.unusedSimpArgs false
open Go.RowKit

/-- A module's cells: q: its buttons, as they lie; V: what is pending. -/
abbrev mall (m : Mo) (q : Bs) (V : Value) : Array Value := #[.int .u8 (m.s.ses : Int), .int .u8 (m.s.tell : Int), .int .u8 (m.s.nx : Int), .int .u8 (m.s.addr : Int), V,
  .bool (q 0).d, .bool (q 0).t, .int .i64 (q 0).s, .bool (q 1).d, .bool (q 1).t, .int .i64 (q 1).s, .bool (q 2).d, .bool (q 2).t, .int .i64 (q 2).s, .bool (q 3).d, .bool (q 3).t, .int .i64 (q 3).s,
  .bool m.lit, .bool m.lat, .int .u16 (m.tok : Int), .int .u16 (m.qty : Int), .int .u16 (m.most : Int)]
/-- A module at D; what is pending lies in a block of which P is said. -/
structure Mv (w : World) (P : Nat → Prop) (D : Nat) (m : Mo) (q : Bs) : Prop where
  at_ : ∃ A c, w.heap[D]? = some (.cells (mall m q (.slice A m.s.pend.length c)) 90 (0, 0)) ∧ w.ownsRow 0 5 1 (.slice A m.s.pend.length c) m.s.pend.length (bcs m.s.pend) ∧ ∀ b ∈ ablk A, P b
theorem Mv.lt {w : World} {P : Nat → Prop} {D : Nat} {m : Mo} {q : Bs} (h : Mv w P D m q) : D < w.heap.size := by
  obtain ⟨A, c, k1, _⟩ := h.at_
  exact (Array.getElem?_eq_some_iff.1 k1).1
theorem Mv.step {w y : World} {P : Nat → Prop} {D : Nat} {m : Mo} {q : Bs} (h : Mv w P D m q) (hb : Below w.heap.size w y) : Mv y P D m q := by
  obtain ⟨A, c, k1, k2, k3⟩ := h.at_
  exact ⟨A, c, (hb.block D h.lt).trans k1, own_ft (B := 0) (T := []) k2 (Ft.of_below hb) (by simp), k3⟩
/-- Another block than its own is written. -/
theorem Mv.off {w y : World} {P : Nat → Prop} {D X : Nat} {m : Mo} {q : Bs} {cs : Array Value} {t : TypeId} {fz : Nat × Nat} (h : Mv w P D m q) (hx : w.heap[X]? = some (.cells cs t fz)) (h1 : t ≠ 90) (h2 : t ≠ 5) (hc : Ch [X] w y) : Mv y P D m q := by
  obtain ⟨A, c, k1, k2, k3⟩ := h.at_
  have hf : Ft 0 [t] w y := Ft.of_ch hc (fun k hk _ => by simp at hk; subst hk; exact ⟨Nat.zero_le _, _, _, _, hx, by simp⟩)
  exact ⟨A, c, hf.keep k1 (by simpa using Ne.symm h1), own_ft k2 hf (by simpa using Ne.symm h2), k3⟩
/-- Its cells. -/
structure Mcs (w : World) (D : Nat) (m : Mo) : Prop where
  c0 : w.cell? ⟨D, 0, none⟩ = some (.int .u8 (m.s.ses : Int))
  c17 : w.cell? ⟨D, 17, none⟩ = some (.bool m.lit)
  c18 : w.cell? ⟨D, 18, none⟩ = some (.bool m.lat)
  c19 : w.cell? ⟨D, 19, none⟩ = some (.int .u16 (m.tok : Int))
  c20 : w.cell? ⟨D, 20, none⟩ = some (.int .u16 (m.qty : Int))
  c21 : w.cell? ⟨D, 21, none⟩ = some (.int .u16 (m.most : Int))
  fz : ∀ i, w.frozen? ⟨D, i, none⟩ = false
theorem Mv.cs {w : World} {P : Nat → Prop} {D : Nat} {m : Mo} {q : Bs} (h : Mv w P D m q) : Mcs w D m := by
  obtain ⟨A, c, k, _⟩ := h.at_
  constructor
  all_goals first | (simp [World.cell?, k]; done) | (intro i; simp [World.frozen?, k])
/-- Some of its display's cells are set. -/
theorem Mv.put {w : World} {P : Nat → Prop} {D : Nat} {m : Mo} {q : Bs} (h : Mv w P D m q) (l : List (Nat × Value)) (m' : Mo) (hs : m'.s = m.s) (hc : ∀ V, setsA l (mall m q V) = mall m' q V) : Mv (sets D l w) P D m' q ∧ Ch [D] w (sets D l w) := by
  obtain ⟨A, c, k1, k2, k3⟩ := h.at_
  obtain ⟨h1, h2⟩ := sets_row l k1
  rw [hc] at h1
  have hf : Ft 0 [90] w (sets D l w) := Ft.of_ch h2 (fun y hy _ => by simp at hy; subst hy; exact ⟨Nat.zero_le _, _, _, _, k1, by simp⟩)
  exact ⟨⟨A, c, by rw [hs]; exact h1, by rw [hs]; exact own_ft k2 hf (by decide), k3⟩, h2⟩
/-- .. seen as a slave's block. -/
def uvS (P : Nat → Prop) (m : Mo) (q : Bs) : Emb.Uv := ⟨fun i => (mall m q undef).getD i undef, P⟩
theorem Mv.sv {w : World} {P : Nat → Prop} {D : Nat} {m : Mo} {q : Bs} (h : Mv w P D m q) : Emb.Sv (uvS P m q) w 0 D m.s := by
  obtain ⟨A, c, k1, k2, k3⟩ := h.at_
  exact ⟨Nat.zero_le _, A, c, k1, k2, k3⟩
theorem Mv.of_sv {y : World} {P : Nat → Prop} {D : Nat} {m : Mo} {q : Bs} {s' : Sl} (h : Emb.Sv (uvS P m q) y 0 D s') : Mv y P D { m with s := s' } q := by
  obtain ⟨A, c, k1, k2, k3⟩ := h.at_
  exact ⟨A, c, k1, k2, k3⟩
/-- .. seen as buttons' block. -/
def uvB (m : Mo) (q : Bs) (V : Value) : Nat → Value := fun i => (mall m q V).getD i undef
theorem Mv.kb {w : World} {D : Nat} {m : Mo} {q : Bs} {V : Value} (k : w.heap[D]? = some (.cells (mall m q V) 90 (0, 0))) : Emb.Kb (uvB m q V) w D q := by
  refine ⟨_, k, rfl, fun j hj => ?_, fun i hi ho => ?_⟩
  · match j, hj with
    | 0, _ => exact ⟨rfl, rfl, rfl⟩
    | 1, _ => exact ⟨rfl, rfl, rfl⟩
    | 2, _ => exact ⟨rfl, rfl, rfl⟩
    | 3, _ => exact ⟨rfl, rfl, rfl⟩
  · unfold uvB
    have h22 : (mall m q V).size = 22 := rfl
    rw [Array.getElem?_eq_getElem (by rw [h22]; exact hi), Array.getD, dif_pos (by rw [h22]; exact hi)]
    rfl
theorem kb_row {y : World} {D : Nat} {m : Mo} {q q' : Bs} {V : Value} (h : Emb.Kb (uvB m q V) y D q') : y.heap[D]? = some (.cells (mall m q' V) 90 (0, 0)) := by
  obtain ⟨cur, k1, k2, k3, k4⟩ := h.ex
  have e : cur = mall m q' V := by
    apply Array.ext_getElem?
    intro i
    rcases Nat.lt_or_ge i 22 with hi | hi
    · obtain ⟨a1, a2, a3⟩ := k3 0 (by omega)
      obtain ⟨b1, b2, b3⟩ := k3 1 (by omega)
      obtain ⟨c1, c2, c3⟩ := k3 2 (by omega)
      obtain ⟨d1, d2, d3⟩ := k3 3 (by omega)
      match i, hi with
      | 0, _ => exact (k4 0 (by omega) (by omega)).trans rfl
      | 1, _ => exact (k4 1 (by omega) (by omega)).trans rfl
      | 2, _ => exact (k4 2 (by omega) (by omega)).trans rfl
      | 3, _ => exact (k4 3 (by omega) (by omega)).trans rfl
      | 4, _ => exact (k4 4 (by omega) (by omega)).trans rfl
      | 5, _ => exact a1
      | 6, _ => exact a2
      | 7, _ => exact a3
      | 8, _ => exact b1
      | 9, _ => exact b2
      | 10, _ => exact b3
      | 11, _ => exact c1
      | 12, _ => exact c2
      | 13, _ => exact c3
      | 14, _ => exact d1
      | 15, _ => exact d2
      | 16, _ => exact d3
      | 17, _ => exact (k4 17 (by omega) (by omega)).trans rfl
      | 18, _ => exact (k4 18 (by omega) (by omega)).trans rfl
      | 19, _ => exact (k4 19 (by omega) (by omega)).trans rfl
      | 20, _ => exact (k4 20 (by omega) (by omega)).trans rfl
      | 21, _ => exact (k4 21 (by omega) (by omega)).trans rfl
      | z + 22, hz => exact absurd hz (by omega)
    · rw [Array.getElem?_eq_none (by omega), Array.getElem?_eq_none (by show 22 ≤ i; exact hi)]
  rw [k1, e]
/-- Its buttons turned. -/
theorem Mv.buttons {w y : World} {P : Nat → Prop} {D : Nat} {m : Mo} {q q' : Bs} {A : Option Addr} {c : Nat} (k1 : w.heap[D]? = some (.cells (mall m q (.slice A m.s.pend.length c)) 90 (0, 0))) (k2 : w.ownsRow 0 5 1 (.slice A m.s.pend.length c) m.s.pend.length (bcs m.s.pend)) (k3 : ∀ b ∈ ablk A, P b)
    (hk : Emb.Kb (uvB m q (.slice A m.s.pend.length c)) y D q') (hc : Ch [D] w y) (f : Bs) : Mv y P D { m with f := f } q' := by
  have hf : Ft 0 [90] w y := Ft.of_ch hc (fun z hz _ => by simp at hz; subst hz; exact ⟨Nat.zero_le _, _, _, _, k1, by simp⟩)
  exact ⟨A, c, kb_row hk, own_ft k2 hf (by decide), k3⟩

set_option maxRecDepth 20000 in
set_option maxHeartbeats 1600000 in
theorem kshows_on {w : World} {P : Nat → Prop} {D t : Nat} {m : Mo} {q : Bs} (h : Mv w P D m q) : Calls Try.prog 53 #[.pointer (some ⟨D, 0, none⟩), .int .u16 (t : Int)] w fun e y => e = .returned (.bool (m.same t)) ∧ y = w := by
  have c17 := h.cs.c17
  have c19 := h.cs.c19
  have HSM : Hid (m.same t = (m.lit && decide (m.tok = t))) := rfl
  clear h
  generalize m.same t = r at *
  generalize m.lit = lt at *
  generalize m.tok = tk at *
  cases lt with
  | false =>
    go_enter Try.func53, Try.ntmps53
    go_wp2
    go_ret
    exact ⟨by rw [HSM.out]; rfl, rfl⟩
  | true =>
    have hs : r = ((tk : Int) == (t : Int)) := by
      rw [HSM.out]
      by_cases hq : tk = t
      · subst hq; simp
      · have : ((tk : Int) == (t : Int)) = false := by simp; omega
        rw [this]; simp [hq]
    have HE := Lib.hid hs
    clear hs HSM
    go_enter Try.func53, Try.ntmps53
    go_wp2
    go_ret
    exact ⟨by rw [HE.out]; rfl, rfl⟩

set_option maxRecDepth 20000 in
set_option maxHeartbeats 1600000 in
theorem kholds_on {w : World} {P : Nat → Prop} {D t : Nat} {m : Mo} {q : Bs} (h : Mv w P D m q) : Calls Try.prog 52 #[.pointer (some ⟨D, 0, none⟩), .int .u16 (t : Int)] w fun e y => e = .returned (.bool (m.same t && (!m.lat || decide (m.s.pend.length ≠ 0)))) ∧ y = w := by
  have c18 := h.cs.c18
  have H := Lib.hid h
  clear h
  generalize hst : m.same t = st at *
  have HST := Lib.hid hst
  clear hst
  generalize hla : m.lat = la at *
  clear hla
  generalize hpe : decide (m.s.pend.length ≠ 0) = pe at *
  have HPE := Lib.hid hpe
  clear hpe
  cases st with
  | false =>
    go_enter Try.func52, Try.ntmps52
    go_wp2_with fail
    refine (kshows_on H.out).mono ?_
    rintro e x ⟨rfl, rfl⟩
    rw [HST.out]
    go_wp2
    go_ret
    exact ⟨rfl, rfl⟩
  | true =>
    cases la with
    | false =>
      go_enter Try.func52, Try.ntmps52
      go_wp2_with fail
      refine (kshows_on H.out).mono ?_
      rintro e x ⟨rfl, rfl⟩
      rw [HST.out]
      go_wp2
      go_ret
      exact ⟨rfl, rfl⟩
    | true =>
      go_enter Try.func52, Try.ntmps52
      go_wp2_with fail
      refine (kshows_on H.out).mono ?_
      rintro e x ⟨rfl, rfl⟩
      rw [HST.out]
      go_wp2_with fail
      refine (Emb.spend_on H.out.sv).mono ?_
      rintro e x ⟨rfl, rfl⟩
      rw [HPE.out]
      go_wp2
      go_ret
      exact ⟨rfl, rfl⟩

/-- What obey makes of a module: a command of kind k, token t, quantity n. -/
def obeyMo (m : Mo) (k t n : Nat) : Mo :=
  if k = 1 ∧ ¬ (m.same t = true ∧ (m.lat = false ∨ m.s.pend.length ≠ 0)) then m.light t n
  else if k = 2 ∧ m.same t = true then m.dark else m

set_option maxRecDepth 20000 in
set_option maxHeartbeats 3200000 in
theorem kobey_on {w : World} {P : Nat → Prop} {D k t n : Nat} {m : Mo} {q : Bs} (h : Mv w P D m q) : Calls Try.prog 36 #[.pointer (some ⟨D, 0, none⟩), .agg #[.int .u8 (k : Int), .int .u16 (t : Int), .int .u16 (n : Int)]] w fun e y => e = .returned (.tuple #[]) ∧ Mv y P D (obeyMo m k t n) q ∧ Ch [D] w y := by
  have HB := new_below w (.cells #[.int .u8 (k : Int), .int .u16 (t : Int), .int .u16 (n : Int)] 60)
  have H := Lib.hid (h.step HB)
  have HC : Hid (Ch [D] w (w.alloc (.cells #[.int .u8 (k : Int), .int .u16 (t : Int), .int .u16 (n : Int)] 60))) := Lib.hid ((Ch.of_below HB).mono (by simp))
  have HM : Hid (obeyMo m k t n = if k = 1 ∧ ¬ (m.same t = true ∧ (m.lat = false ∨ m.s.pend.length ≠ 0)) then m.light t n else if k = 2 ∧ m.same t = true then m.dark else m) := rfl
  have p0 : (w.alloc (.cells #[.int .u8 (k : Int), .int .u16 (t : Int), .int .u16 (n : Int)] 60)).cell? ⟨w.heap.size, 0, none⟩ = some (.int .u8 (k : Int)) := (cell_alloc_new w _ _ _ 0 rfl).trans rfl
  have p1 : (w.alloc (.cells #[.int .u8 (k : Int), .int .u16 (t : Int), .int .u16 (n : Int)] 60)).cell? ⟨w.heap.size, 1, none⟩ = some (.int .u16 (t : Int)) := (cell_alloc_new w _ _ _ 1 rfl).trans rfl
  have p2 : (w.alloc (.cells #[.int .u8 (k : Int), .int .u16 (t : Int), .int .u16 (n : Int)] 60)).cell? ⟨w.heap.size, 2, none⟩ = some (.int .u16 (n : Int)) := (cell_alloc_new w _ _ _ 2 rfl).trans rfl
  clear h HB
  generalize obeyMo m k t n = m2 at *
  go_enter Try.func36, Try.ntmps36
  go_upto_region 1 with fail
  generalize w.alloc (.cells #[.int .u8 (k : Int), .int .u16 (t : Int), .int .u16 (n : Int)] 60) = x at *
  generalize w.heap.size = X at *
  by_cases hk1 : k = 1
  · subst hk1
    by_cases hh : m.same t = true ∧ (m.lat = false ∨ m.s.pend.length ≠ 0)
    · have HR : Hid (m2 = m) := by show _ = _; rw [HM.out, if_neg (by rintro ⟨_, h⟩; exact h hh), if_neg (by rintro ⟨h, _⟩; cases h)]
      have hd : (m.same t && (!m.lat || decide (m.s.pend.length ≠ 0))) = true := by
        rw [hh.1]
        rcases hh.2 with h | h
        · rw [h]; rfl
        · simp [h]
      clear HM hh
      go_wp2_with fail
      refine (kholds_on H.out).mono ?_
      rintro e x ⟨rfl, rfl⟩
      rw [hd]
      clear hd
      go_wp2
      go_end0
      rw [HR.out]
      exact ⟨rfl, H.out, HC.out⟩
    · have HR : Hid (m2 = m.light t n) := by show _ = _; rw [HM.out, if_pos ⟨rfl, hh⟩]
      have hd : (m.same t && (!m.lat || decide (m.s.pend.length ≠ 0))) = false := by
        cases h1 : m.same t with
        | false => rfl
        | true =>
          cases h2 : m.lat with
          | false => exact absurd ⟨h1, .inl h2⟩ hh
          | true =>
            have : ¬ m.s.pend.length ≠ 0 := fun h3 => hh ⟨h1, .inr h3⟩
            simpa using this
      clear HM hh
      have hc := H.out.cs
      have d17 := hc.c17
      have d18 := hc.c18
      have d19 := hc.c19
      have d20 := hc.c20
      have d21 := hc.c21
      have f17 := hc.fz 17
      have f18 := hc.fz 18
      have f19 := hc.fz 19
      have f20 := hc.fz 20
      have f21 := hc.fz 21
      clear hc
      have HS := Lib.hid (H.out.put [(17, .bool true), (18, .bool false), (19, .int .u16 (t : Int)), (20, .int .u16 (n : Int)), (21, .int .u16 (n : Int))] (m.light t n) rfl (fun V => rfl))
      go_wp2_with fail
      refine (kholds_on H.out).mono ?_
      rintro e x ⟨rfl, rfl⟩
      rw [hd]
      clear hd
      go_wp2
      go_end0
      rw [HR.out]
      exact ⟨rfl, HS.out.1, HC.out.trans HS.out.2⟩
  · have hk1' : ((k : Int) == 1) = false := by simp; omega
    rw [if_neg (by rintro ⟨h, _⟩; exact hk1 h)] at HM
    by_cases hk2 : k = 2
    · subst hk2
      generalize hst : m.same t = st at *
      have HST := Lib.hid hst
      clear hst
      cases st with
      | false =>
        have HR : Hid (m2 = m) := by show _ = _; rw [HM.out, if_neg (by rintro ⟨_, h⟩; cases h)]
        clear HM hk1 hk1'
        go_wp2_with fail
        refine (kshows_on H.out).mono ?_
        rintro e x ⟨rfl, rfl⟩
        rw [HST.out]
        go_wp2
        go_end0
        rw [HR.out]
        exact ⟨rfl, H.out, HC.out⟩
      | true =>
        have HR : Hid (m2 = m.dark) := by show _ = _; rw [HM.out, if_pos ⟨rfl, rfl⟩]
        clear HM hk1 hk1'
        have hc := H.out.cs
        have d17 := hc.c17
        have d18 := hc.c18
        have d19 := hc.c19
        have d20 := hc.c20
        have d21 := hc.c21
        have f17 := hc.fz 17
        have f18 := hc.fz 18
        have f19 := hc.fz 19
        have f20 := hc.fz 20
        have f21 := hc.fz 21
        clear hc
        have HS := Lib.hid (H.out.put [(17, .bool false), (18, .bool false), (19, .int .u16 0), (20, .int .u16 0), (21, .int .u16 0)] m.dark rfl (fun V => rfl))
        go_wp2_with fail
        refine (kshows_on H.out).mono ?_
        rintro e x ⟨rfl, rfl⟩
        rw [HST.out]
        go_wp2
        go_end0
        rw [HR.out]
        exact ⟨rfl, HS.out.1, HC.out.trans HS.out.2⟩
    · have hk2' : ((k : Int) == 2) = false := by simp; omega
      have HR : Hid (m2 = m) := by show _ = _; rw [HM.out, if_neg (by rintro ⟨h, _⟩; exact hk2 h)]
      clear HM hk1 hk2
      go_wp2
      go_end0
      rw [HR.out]
      exact ⟨rfl, H.out, HC.out⟩
end Go.Proofs.Ytdcnmbglbopgdaa
