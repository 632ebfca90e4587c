/-
  The program's buttons in memory: what Set, Pressed, Down, Reset answer.
-/
import Derived.Test.YtdcnmbglbopgdaaButC
import Derived.Test.YtdcnmbglbopgdaaFClone
import Derived.Deep.DeepCutAuto
import Derived.Deep.MidRow
namespace Go.Proofs.Ytdcnmbglbopgdaa
set_option linter.unusedVariables false
set_option linter.unusedSimpArgs false
open Go.RowKit

def kb1 (e : Bt) : List Value := [.bool e.d, .bool e.t, .int .i64 e.s]
/-- The cells of one. -/
structure Kcell (cur : Array Value) (k : Nat) (e : Bt) : Prop where
  d : cur[k * 3]? = some (.bool e.d)
  t : cur[k * 3 + 1]? = some (.bool e.t)
  s : cur[k * 3 + 2]? = some (.int .i64 e.s)
/-- Four buttons q at D. -/
structure Kb (w : World) (D : Nat) (q : Bs) : Prop where
  ex : ∃ cur, w.heap[D]? = some (.cells cur 33 (0, 0)) ∧ cur.size = 12 ∧ ∀ k, k < 4 → Kcell cur k (q k)
theorem Kb.lt {w : World} {D : Nat} {q : Bs} (h : Kb w D q) : D < w.heap.size := by
  obtain ⟨cur, k1, _⟩ := h.ex
  exact (Array.getElem?_eq_some_iff.1 k1).1
theorem Kb.of_eq {w w' : World} {D : Nat} {q : Bs} (h : Kb w D q) (hb : w'.heap[D]? = w.heap[D]?) : Kb w' D q := by
  obtain ⟨cur, k1, k2⟩ := h.ex
  exact ⟨⟨cur, hb.trans k1, k2⟩⟩
theorem Kb.step {w w' : World} {D : Nat} {q : Bs} (h : Kb w D q) (hb : Below w.heap.size w w') : Kb w' D q := h.of_eq (hb.block D h.lt)
theorem Kb.cell {w : World} {D : Nat} {q : Bs} (h : Kb w D q) {k : Nat} (hk : k < 4) :
    w.cell? ⟨D, k * 3, none⟩ = some (.bool (q k).d) ∧ w.cell? ⟨D, k * 3 + 1, none⟩ = some (.bool (q k).t) ∧ w.cell? ⟨D, k * 3 + 2, none⟩ = some (.int .i64 (q k).s) := by
  obtain ⟨cur, k1, _, k3⟩ := h.ex
  obtain ⟨q1, q2, q3⟩ := k3 k hk
  refine ⟨?_, ?_, ?_⟩ <;> simp [World.cell?, k1, q1, q2, q3]
theorem Kb.fz {w : World} {D : Nat} {q : Bs} (h : Kb w D q) (i : Nat) : w.frozen? ⟨D, i, none⟩ = false := by
  obtain ⟨cur, k1, _⟩ := h.ex
  simp [World.frozen?, k1]
theorem Kb.zero (w : World) : Kb (w.alloc (.cells bz 33)) w.heap.size zeroB := by
  refine ⟨⟨bz, heap_alloc_new w _, rfl, fun k hk => ?_⟩⟩
  match k, hk with
  | 0, _ => exact ⟨rfl, rfl, rfl⟩
  | 1, _ => exact ⟨rfl, rfl, rfl⟩
  | 2, _ => exact ⟨rfl, rfl, rfl⟩
  | 3, _ => exact ⟨rfl, rfl, rfl⟩
/-- A whole one is written into its place. -/
theorem Kb.whole {w : World} {D k : Nat} {q : Bs} (h : Kb w D q) (hk : k < 4) (e : Bt) :
    Kb (w.setCells D (k * 3) (kb1 e)) D (upB q k e) ∧ Ch [D] w (w.setCells D (k * 3) (kb1 e)) ∧ w.there D (k * 3) 3 := by
  obtain ⟨cur, k1, k2, k3⟩ := h.ex
  obtain ⟨h1, cur', h2, h3, h4, h5⟩ := setCells_heap (kb1 e) (k * 3) w cur k1
  have hlen : (kb1 e).length = 3 := rfl
  rw [hlen] at h4 h5
  have hsz : k * 3 + 3 ≤ cur.size := by rw [k2]; omega
  refine ⟨⟨cur', h2, by rw [h3, k2], fun j hj => ?_⟩, h1, fun j hj => ?_⟩
  · unfold upB
    split
    · rename_i hkj
      subst hkj
      refine ⟨?_, ?_, ?_⟩
      · have := h5 0 (by omega) hsz; simpa [kb1] using this
      · have := h5 1 (by omega) hsz; simpa [kb1] using this
      · have := h5 2 (by omega) hsz; simpa [kb1] using this
    · rename_i hkj
      obtain ⟨q1, q2, q3⟩ := k3 j hj
      exact ⟨by rw [h4 _ (by omega)]; exact q1, by rw [h4 _ (by omega)]; exact q2, by rw [h4 _ (by omega)]; exact q3⟩
  · refine ⟨?_, h.fz _⟩
    simp [World.cell?, k1]
    omega
theorem state_size : (Try.prog.info? 30).map (·.size) = some 3 := by kernel_rfl

set_option maxRecDepth 20000 in
set_option maxHeartbeats 1600000 in
theorem kknown_on {w : World} {b : Int} (hb : BI b) : Calls Try.prog 38 #[.int .i64 b] w fun e w' => e = .returned (.bool (decide (0 ≤ b ∧ b ≤ 3))) ∧ w' = w := by
  by_cases h0 : 0 ≤ b
  · by_cases h3 : b < 4
    · have hd : Hid (decide (0 ≤ b ∧ b ≤ 3) = true) := by show _ = _; simp; omega
      generalize decide (0 ≤ b ∧ b ≤ 3) = r at *
      clear hb
      go_enter Try.func38, Try.ntmps38
      go_wp2
      go_ret
      exact ⟨by rw [hd.out]; rfl, rfl⟩
    · have hd : Hid (decide (0 ≤ b ∧ b ≤ 3) = false) := by show _ = _; simp; omega
      generalize decide (0 ≤ b ∧ b ≤ 3) = r at *
      clear hb
      go_enter Try.func38, Try.ntmps38
      go_wp2
      go_ret
      exact ⟨by rw [hd.out]; rfl, rfl⟩
  · have hd : Hid (decide (0 ≤ b ∧ b ≤ 3) = false) := by show _ = _; simp; omega
    generalize decide (0 ≤ b ∧ b ≤ 3) = r at *
    clear hb
    go_enter Try.func38, Try.ntmps38
    go_wp2
    go_ret
    exact ⟨by rw [hd.out]; rfl, rfl⟩

set_option maxRecDepth 20000 in
set_option maxHeartbeats 1600000 in
theorem kset_on {w : World} {D : Nat} {q : Bs} {b now : Int} {d : Bool} (h : Kb w D q) (hb : BI b) :
    Calls Try.prog 16 #[.pointer (some ⟨D, 0, none⟩), .int .i64 b, .bool d, .int .i64 now] w fun e y => e = .returned (.int .i64 (setB q b d now).2) ∧ Kb y D (setB q b d now).1 ∧ Ch [D] w y := by
  by_cases hr : 0 ≤ b ∧ b ≤ 3
  · obtain ⟨n, rfl⟩ : ∃ n : Nat, b = (n : Int) := ⟨b.toNat, by omega⟩
    have hn : n ≤ 3 := by omega
    rw [setB_nat hn]
    have hlt : (n : Int) < 4 := by omega
    have hn4 : n < 4 := by omega
    have e0 := (h.cell (k := n) hn4).1
    have HS : Hid (∀ e : Bt, (q n).set d now = e → Kb (w.setCells D (n * 3) (kb1 e)) D (upB q n ((q n).set d now)) ∧ Ch [D] w (w.setCells D (n * 3) (kb1 e))) := by
      intro e he
      rw [he]
      exact ⟨(h.whole hn4 e).1, (h.whole hn4 e).2.1⟩
    have HT := Lib.hid (h.whole hn4 bt0).2.2
    have HK : Hid ((q n).set d now = q n → Kb w D (upB q n ((q n).set d now))) := by
      intro he
      rw [he]
      have : upB q n (q n) = q := by funext k; unfold upB; split
                                     · rename_i hk; rw [hk]
                                     · rfl
      rw [this]
      exact h
    obtain ⟨s, hs⟩ : ∃ s, (q n).set d now = s := ⟨_, rfl⟩
    rw [hs] at HS HK ⊢
    generalize upB q n s = q' at *
    cases d with
    | false =>
      have HB : Hid (s = bt0) := Lib.hid hs.symm
      clear hs
      go_enter Try.func16, Try.ntmps16
      go_wp2_with fail
      refine (kknown_on hb).mono ?_
      rintro e x ⟨rfl, rfl⟩
      rw [decide_eq_true hr]
      clear hb hr h
      go_wp2_with (refine wpList_store_mid rfl 30 (.tmp 23) (.tmp 22) rfl D (n * 3) (kb1 bt0).toArray rfl rfl HT.out state_size (by simp [kb1, Value.oneCell']) ?_)
      go_ret
      exact ⟨rfl, HS.out _ HB.out⟩
    | true =>
      cases hd : (q n).d with
      | false =>
        have HB : Hid (s = ⟨true, now, false⟩) := by
          show _ = _
          rw [← hs]
          unfold Bt.set
          rw [hd]
          rfl
        rw [hd] at e0
        clear hs hd
        go_enter Try.func16, Try.ntmps16
        go_wp2_with fail
        refine (kknown_on hb).mono ?_
        rintro e x ⟨rfl, rfl⟩
        rw [decide_eq_true hr]
        clear hb hr h
        go_wp2_with (refine wpList_store_mid rfl 30 (.tmp 33) (.tmp 32) rfl D (n * 3) (kb1 ⟨true, now, false⟩).toArray rfl rfl HT.out state_size (by simp [kb1, Value.oneCell']) ?_)
        go_ret
        exact ⟨rfl, HS.out _ HB.out⟩
      | true =>
        have HB : Hid (s = q n) := by
          show _ = _
          rw [← hs]
          unfold Bt.set
          rw [hd]
          rfl
        rw [hd] at e0
        clear hs hd
        go_enter Try.func16, Try.ntmps16
        go_wp2_with fail
        refine (kknown_on hb).mono ?_
        rintro e x ⟨rfl, rfl⟩
        rw [decide_eq_true hr]
        clear hb hr h
        go_wp2
        go_ret
        exact ⟨rfl, HK.out HB.out, Ch.refl _ _⟩
  · rw [setB_out hr]
    have H := Lib.hid h
    go_enter Try.func16, Try.ntmps16
    go_wp2_with fail
    refine (kknown_on hb).mono ?_
    rintro e x ⟨rfl, rfl⟩
    rw [decide_eq_false hr]
    clear hb hr h
    go_wp2
    go_ret
    exact ⟨rfl, H.out, Ch.refl _ _⟩
end Go.Proofs.Ytdcnmbglbopgdaa
