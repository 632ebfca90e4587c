/-
  (*wire.Wire).free, out and Take, as they landed: what they answer.
-/
import Derived.Test.YthpalepkilmpiaaWireD
namespace Go.Proofs.Ythpalepkilmpiaa
set_option linter.unusedVariables false
set_option linter.unusedSimpArgs false
open Go.RowKit

theorem freeN_at {rs : List Rw} {k : Nat} (h0 : ∀ j r, j < k → rs[j]? = some r → r.h = 0) (hk : ∀ r, rs[k]? = some r → 0 < r.h) (hl : k ≤ rs.length) : freeN rs = k := by
  unfold freeN
  induction rs generalizing k with
  | nil => simp at hl; subst hl; rfl
  | cons a t ih =>
    cases k with
    | zero =>
      have := hk a rfl
      rw [List.takeWhile_cons_of_neg (by simp; omega)]
      rfl
    | succ k =>
      have h1 := h0 0 a (by omega) rfl
      rw [List.takeWhile_cons_of_pos (by simp [h1]), List.length_cons, ih (k := k) (fun j r hj hr => h0 (j + 1) r (by omega) (by simpa using hr)) (fun r hr => hk r (by simpa using hr)) (by simpa using hl)]

/-- The cells of a row on its way. -/
theorem Wi.rowAt {w : World} {B D k : Nat} {room : Int} {rs : List Ro} (h : Wi w B D room rs) {r : Ro} (hr : rs[k]? = some r) : ∃ g o c A' c', w.cell? ⟨D, 1, none⟩ = some (.slice (some ⟨g, o, none⟩) rs.length c) ∧ r.v = .slice A' r.r.l.length c' ∧ w.cell? ⟨g, o + k * 2, none⟩ = some (.slice A' r.r.l.length c') ∧ w.cell? ⟨g, o + k * 2 + 1, none⟩ = some (.int .i64 (r.r.h : Int)) := by
  have hkl : k < rs.length := by
    rcases Nat.lt_or_ge k rs.length with h | h
    · exact h
    · rw [List.getElem?_eq_none h] at hr; cases hr
  obtain ⟨A, c, c0, c1, f1, hq⟩ := h.cells
  obtain ⟨g, o, rfl, _, _, _, hc, _, _⟩ := hq.at (by omega)
  obtain ⟨A', c', hv⟩ := ownB_form (h.row r (List.mem_of_getElem? hr))
  obtain ⟨h1, h2⟩ := rcs_get rs k r hr
  exact ⟨g, o, c, A', c', c1, hv, by rw [← hv]; exact hc _ _ h1, by rw [Nat.add_assoc]; exact hc _ _ h2⟩

set_option maxRecDepth 20000 in
set_option maxHeartbeats 800000 in
theorem free_on {w : World} {B D : Nat} {room : Int} {rs : List Ro} (h : Wi w B D room rs) (hrl : rs.length ≤ 1000000) : Calls Try.prog 27 #[.pointer (some ⟨D, 0, none⟩)] w fun e w' => e = .returned (.int .i64 (freeN (rs.map (·.r)) : Int)) ∧ Below w.heap.size w w' := by
  obtain ⟨A, c, c0, c1, f1, hq⟩ := h.cells
  have HW := Lib.hid h
  have HC1 := Lib.hid c1
  clear h hq c0 f1
  generalize hn : rs.length = n at *
  have HN := Lib.hid hn
  clear hn
  go_enter Try.func27, Try.ntmps27
  go_wp2
  go_loopw [10] (fun i wr => ∃ k : Nat, k ≤ n ∧ i = .int .i64 k ∧ Hid (Below w.heap.size w wr) ∧ Hid (∀ j r, j < k → (rs.map (·.r))[j]? = some r → r.h = 0)) (fun i _ => n - (intOf i).toNat)
  case atStart => exact ⟨0, Nat.zero_le _, rfl, Lib.hid (Below.refl _ _), fun j r hj => by omega⟩
  case round =>
    obtain ⟨k, hk, rfl, HB, HZ⟩ := hrel
    by_cases hlt : k < n
    · have hkr : k < rs.length := by rw [HN.out]; exact hlt
      have hlt' : (k : Int) < (n : Int) := by omega
      obtain ⟨r, hr⟩ : ∃ r, rs[k]? = some r := ⟨_, List.getElem?_eq_getElem hkr⟩
      obtain ⟨g, o, c', A', c2, e1, hv, e2, e3⟩ := (HW.out.step HB.out).rowAt hr
      have e0 : wr.cell? ⟨D, 1, none⟩ = some (.slice A n c) := (HB.out.cell (p := ⟨D, 1, none⟩) HW.out.lt).trans HC1.out
      rw [e0] at e1
      injection e1 with e1
      injection e1 with e1 e1' e1''
      subst e1
      have HR := Lib.hid hr
      have HV := Lib.hid hv
      clear e0 e1' e1'' c1 hr hv
      by_cases hz : r.r.h = 0
      · have HZ1 : Hid (∀ j s, j < k + 1 → (rs.map (·.r))[j]? = some s → s.h = 0) := by
          intro j s hj hs
          by_cases hjk : j = k
          · subst hjk
            rw [List.getElem?_map, HR.out] at hs
            injection hs with hs
            rw [← hs]
            exact hz
          · exact HZ.out j s (by omega) hs
        rw [hz] at e3
        generalize r.r.l.length = ln at *
        go_wp2
        go_roundw
        case rel => exact ⟨k + 1, by omega, by go_num, Lib.hid (HB.out.trans ((new_below wr _).mono HB.out.size)), HZ1⟩
        case measure => simp [intOf]; omega
      · have hz' : (0 : Int) < (r.r.h : Int) := by omega
        have HF : Hid (freeN (rs.map (·.r)) = k) := freeN_at HZ.out (fun s hs => by
          rw [List.getElem?_map, HR.out] at hs
          injection hs with hs
          rw [← hs]
          show 0 < r.r.h
          omega) (by rw [List.length_map]; omega)
        generalize r.r.l.length = ln at *
        go_wp2
        go_ret
        rw [HF.out]
        exact ⟨rfl, HB.out.trans ((new_below wr _).mono HB.out.size)⟩
    · have hkm : k = n := by omega
      subst hkm
      have e0 : wr.cell? ⟨D, 1, none⟩ = some (.slice A k c) := (HB.out.cell (p := ⟨D, 1, none⟩) HW.out.lt).trans HC1.out
      have HF : Hid (freeN (rs.map (·.r)) = k) := freeN_at HZ.out (fun s hs => by
        rw [List.getElem?_eq_none (by rw [List.length_map, HN.out]; exact Nat.le_refl _)] at hs
        cases hs) (by rw [List.length_map, HN.out]; exact Nat.le_refl _)
      clear c1
      go_wp2
      go_ret
      rw [HF.out]
      exact ⟨rfl, HB.out⟩

/-- 'clear' of the first k of a slice of one's own. -/
theorem clear_que {P : Program} {w : World} (t e ty : TypeId) (z : Value) (ht : P.underlying t = some (.slice e)) (hv : ∀ w, (zeroValue e).run P w = .ok z w) (h1 : ∀ u ∈ z.cells, u.oneCell' = true)
    {B size n c k g o' : Nat} {xs : List Value} (hzs : z.cells.size = size) (h : Que w B e size (some ⟨g, o', none⟩) n c xs) (hk0 : 0 < k) (hk : k ≤ n) (c2 : Nat) :
    ∃ vs : List Value, vs.length = k * size ∧ (Builtin.clear_ #[t] ty #[.slice (some ⟨g, o', none⟩) k c2]).run P w = .ok (.tuple #[]) (w.setCells g o' vs) := by
  have hcur : ∃ cur : Array Value, w.heap[g]? = some (.cells cur e (0, 0)) ∧ o' + k * size ≤ cur.size := by
    rcases h.2 with ⟨h1, _⟩ | ⟨g', o2, cur, h1, h2, h3, h4, h5, h6, h7⟩
    · cases h1
    · injection h1 with h1
      injection h1 with hg ho'
      subst hg ho'
      exact ⟨cur, h3, Nat.le_trans (Nat.add_le_add_left (Nat.mul_le_mul_right _ (Nat.le_trans hk h4)) _) h6⟩
  obtain ⟨cur, h3, h6⟩ := hcur
  subst hzs
  exact run_clear_wide (P := P) w t e ty z ht hv h1 g o' k c2 hk0 (fun j hj => by
    have : o' + j < cur.size := by omega
    simp [World.cell?, h3, this]) (fun j hj => by simp [World.frozen?, h3])

/-- Rows of which k are taken. -/
structure Ou (w : World) (rs : List Ro) (m k : Nat) (x : World) : Prop where
  outer : x.ownsRow w.heap.size 28 1 (.slice (some ⟨w.heap.size, 0, none⟩) m m) m ((rs.take k).map (·.v) ++ List.replicate (m - k) (.slice none 0 0))
  below : Below w.heap.size w x
theorem Ou.at {w x : World} {m k : Nat} {rs : List Ro} (h : Ou w rs m k x) (hk : k < m) (hm : m ≤ rs.length) : x.cell? ⟨w.heap.size, k, none⟩ = some (.slice none 0 0) ∧ x.frozen? ⟨w.heap.size, k, none⟩ = false := by
  refine ⟨?_, h.outer.frozenAt k⟩
  have hl : ((rs.take k).map (·.v)).length = k := by rw [List.length_map, List.length_take]; omega
  rw [h.outer.cellAt k (by omega), List.getElem?_append_right (by rw [hl]; exact Nat.le_refl _), hl, Nat.sub_self, List.getElem?_replicate, if_pos (by omega)]
theorem Ou.next {w x : World} {m k : Nat} {rs : List Ro} {r : Ro} (h : Ou w rs m k x) (hk : k < m) (hm : m ≤ rs.length) (hr : rs[k]? = some r) : Ou w rs m (k + 1) (x.setCell ⟨w.heap.size, k, none⟩ r.v) := by
  have hl : ((rs.take k).map (·.v)).length = k := by rw [List.length_map, List.length_take]; omega
  obtain ⟨h1, _⟩ := h.outer.stored k r.v
  refine ⟨?_, h.below.trans (((Ch.refl [w.heap.size] x).setCell (p := ⟨w.heap.size, k, none⟩) (by simp) _).belowAt (by simp) h.below.size)⟩
  rw [List.set_append_right _ _ (by rw [hl]; exact Nat.le_refl _), hl, Nat.sub_self, show m - k = (m - (k + 1)) + 1 by omega, List.replicate_succ, List.set_cons_zero] at h1
  rw [List.take_add_one, hr, List.map_append, List.append_assoc]
  exact h1

theorem zero_row (w : World) : (zeroValue 61).run Try.prog w = .ok (.agg #[.slice none 0 0, .int .i64 0]) w := by
  obtain ⟨i0, hi, hz0, hz1, hz2⟩ := info_parts info_row
  simp [zeroValue, typeInfo, hi, hz0]

/-- What out answers. -/
def OutPost (w : World) (B D : Nat) (room : Int) (rs : List Ro) (m : Nat) (e : Ending) (w' : World) : Prop :=
  ∃ V c vs, e = .returned (.slice V m c) ∧ Rp w' B V m c vs ((rs.take m).map (·.r.l)) ∧ Wi w' B D room (rs.drop m) ∧ Ft B [57, 61] w w'

set_option maxRecDepth 20000 in
set_option maxHeartbeats 800000 in
theorem out_on {w : World} {B D m : Nat} {room : Int} {rs : List Ro} (h : Wi w B D room rs) (hBw : B ≤ w.heap.size) (hrl : rs.length ≤ 1000000) (hm : m ≤ rs.length) (hm0 : 0 < m) : Calls Try.prog 26 #[.pointer (some ⟨D, 0, none⟩), .int .i64 (m : Int)] w (OutPost w B D room rs m) := by
  obtain ⟨i0, hi, hz0, hz1, hz2⟩ := info_parts info_bytes
  have HW := Lib.hid h
  clear h
  go_enter Try.func26, Try.ntmps26
  go_wp2_with (first
    | (at_make; refine wpList_make_full _ rfl (.tmp 7) (.tmp 7) 35 rfl w.heap.size 28 i0 (.slice none 0 0) 1 Try.underlying35 hi hz0 hz1 .i64 .i64 _ _ m rfl rfl rfl rfl (by rw [hz2]; omega) (by unfold maxLen; omega) (Nat.le_refl _) ?_; intro w1 hown1 hgrow1))
  have H0 : Hid (Ou w rs m 0 w1) := by
    refine ⟨?_, (Below.refl _ _).grown hgrow1 (Nat.le_refl _) (by simp)⟩
    rw [show (Value.slice none 0 0).cells = #[Value.slice none 0 0] from rfl, toList_madeCells_one, Nat.mul_one] at hown1
    exact hown1
  clear hown1 hgrow1
  go_loopw [11] (fun i wr => ∃ k : Nat, k ≤ m ∧ i = .int .i64 k ∧ Hid (Ou w rs m k wr)) (fun i _ => m - (intOf i).toNat)
  case atStart => exact ⟨0, Nat.zero_le _, rfl, H0⟩
  case round =>
    obtain ⟨k, hk, rfl, HO⟩ := hrel
    clear H0
    by_cases hlt : k < m
    · have hkr : k < rs.length := by omega
      have hlt' : (k : Int) < (m : Int) := by omega
      obtain ⟨r, hr⟩ : ∃ r, rs[k]? = some r := ⟨_, List.getElem?_eq_getElem hkr⟩
      obtain ⟨g, o, c', A', c2, e1, hv, e2, e3⟩ := (HW.out.step HO.out.below).rowAt hr
      obtain ⟨e4, e5⟩ := HO.out.at hlt hm
      have H1 := Lib.hid (HO.out.next hlt hm hr)
      rw [hv] at H1
      have hki : (k : Int) < (rs.length : Int) := by omega
      clear e3 hv hr
      generalize r.r.l.length = ln at *
      generalize rs.length = n at *
      go_wp2
      go_roundw
      case rel => exact ⟨k + 1, by omega, by go_num, H1⟩
      case measure => simp [intOf]; omega
    · have hkm : k = m := by omega
      subst hkm
      have HW1 := Lib.hid (HW.out.step HO.out.below)
      obtain ⟨A, c, c0, c1, f1, hq⟩ := HW1.out.cells
      obtain ⟨g, o, rfl, hBg, hgl, hbi, hcs, hfz, _⟩ := hq.at (by omega)
      have hcap := hq.cap
      have HQ := Lib.hid hq
      have hc1 : k ≤ c := by omega
      have hc2 : c ≤ 9223372036854775807 := by have := hcap.2; unfold maxLen at this; omega
      clear hcs hfz hq c0 hbi hgl hBg
      generalize hn : rs.length = n at *
      have HN := Lib.hid hn
      clear hn
      obtain ⟨vs, hvs, hcl⟩ := clear_que 55 61 0 (.agg #[.slice none 0 0, .int .i64 0]) Try.underlying55 zero_row (by simp [Value.cells, Value.oneCell']) rfl HQ.out hm0 hm c
      obtain ⟨hq2, hf2⟩ := HQ.out.wipe rfl k hm vs hvs
      have HQ2 := Lib.hid hq2
      have HF2 := Lib.hid hf2
      have d1 : (wr.setCells g o vs).cell? ⟨D, 1, none⟩ = some (.slice (some ⟨g, o, none⟩) n c) := by
        obtain ⟨Ax, cx, h4, _⟩ := HW1.out.que
        have h6 := hf2.keep h4 (by decide)
        have h5 : wr.cell? ⟨D, 1, none⟩ = (wr.setCells g o vs).cell? ⟨D, 1, none⟩ := by simp [World.cell?, h4, h6]
        rw [← h5]
        exact c1
      have d2 : (wr.setCells g o vs).frozen? ⟨D, 1, none⟩ = false := by
        obtain ⟨Ax, cx, h4, _⟩ := HW1.out.que
        have h6 := hf2.keep h4 (by decide)
        simp [World.frozen?, h6]
      clear hq2 hf2 hvs
      generalize wr.setCells g o vs = x2 at *
      have FIN : Hid (∀ (A2 : Option Addr) (c2 : Nat), Que x2 B 61 2 A2 (n - k) c2 ((rcs rs).drop (k * 2)) → OutPost w B D room rs k (.returned (.slice (some ⟨w.heap.size, 0, none⟩) k k)) (x2.setCell ⟨D, 1, none⟩ (.slice A2 (n - k) c2))) := by
        intro A2 c2 hq2
        have hnl := HN.out
        have hlen : (rs.drop k).length = n - k := by rw [List.length_drop, hnl]
        obtain ⟨h1, h2⟩ := HW1.out.turn (rs' := rs.drop k) (A' := A2) (c' := c2) HF2.out (by rw [hlen, rcs_drop]; exact hq2) (fun r hr => own_ft (HW1.out.row r (List.mem_of_mem_drop hr)) HF2.out (by decide)) (fun r hr => HW1.out.most r (List.mem_of_mem_drop hr)) (by have := HW1.out.room_.1; rw [hlen]; rw [hnl] at this; omega)
        rw [hlen] at h1 h2
        have ho := HO.out.outer
        rw [Nat.sub_self, List.replicate_zero, List.append_nil] at ho
        refine ⟨_, _, (rs.take k).map (·.v), rfl, ⟨own_ft (own_mono ho hBw) h2 (by decide), by rw [List.length_map, List.length_take]; omega, ⟨by simp, fun j v l hv hl => ?_⟩⟩, h1, (Ft.of_below HO.out.below).trans h2⟩
        rw [List.getElem?_map] at hv hl
        cases hj : (rs.take k)[j]? with
        | none => rw [hj] at hv; cases hv
        | some r =>
          rw [hj] at hv hl
          injection hv with hv
          injection hl with hl
          subst hv hl
          exact own_ft (HW1.out.row r (List.mem_of_mem_take (List.mem_of_getElem? hj))) h2 (by decide)
      have hkn' : (k : Int) ≤ (n : Int) := by omega
      have hkc' : (k : Int) ≤ (c : Int) := by omega
      by_cases hck : c = k
      · have HQ3 : Hid (Que x2 B 61 2 (some ⟨g, o, none⟩) (n - k) 0 ((rcs rs).drop (k * 2))) := by
          have := HQ2.out
          rw [if_pos hck, hck, Nat.sub_self] at this
          exact this
        clear HQ2
        subst hck
        go_wp2
        go_ret
        have h3 := FIN.out _ _ HQ3.out
        rw [show n - c = 0 by omega] at h3
        exact h3
      · have HQ3 : Hid (Que x2 B 61 2 (some ⟨g, o + k * 2, none⟩) (n - k) (c - k) ((rcs rs).drop (k * 2))) := by
          have := HQ2.out
          rw [if_neg hck] at this
          exact this
        clear HQ2
        go_wp2
        go_ret
        exact FIN.out _ _ HQ3.out

/-- The first one, held once less. -/
theorem Wi.dec {w : World} {B D : Nat} {room : Int} {r : Ro} {t : List Ro} (h : Wi w B D room (r :: t)) : ∃ g o c, w.cell? ⟨D, 1, none⟩ = some (.slice (some ⟨g, o, none⟩) (t.length + 1) c) ∧ w.cell? ⟨g, o + 1, none⟩ = some (.int .i64 (r.r.h : Int)) ∧ w.frozen? ⟨g, o + 1, none⟩ = false ∧
    Wi (w.setCell ⟨g, o + 1, none⟩ (.int .i64 ((r.r.h - 1 : Nat) : Int))) B D room (⟨r.v, ⟨r.r.l, r.r.h - 1⟩⟩ :: t) ∧ Ft B [61] w (w.setCell ⟨g, o + 1, none⟩ (.int .i64 ((r.r.h - 1 : Nat) : Int))) := by
  obtain ⟨A, c, h4, hq⟩ := h.que
  obtain ⟨g, o, rfl, hBg, hgl, hbi, hcs, hfz, hst⟩ := hq.at (by simp)
  have hft : Ft B [61] w (w.setCell ⟨g, o + 1, none⟩ (.int .i64 ((r.r.h - 1 : Nat) : Int))) := Ft.of_ch ((Ch.refl [g] w).setCell (by simp) _) (fun x hx _ => by simp at hx; subst hx; exact ⟨hBg, hbi⟩)
  refine ⟨g, o, c, by simp [World.cell?, h4], hcs 1 _ rfl, hfz _, ⟨h.le, ⟨_, c, hft.keep h4 (by decide), hst 1 (.int .i64 ((r.r.h - 1 : Nat) : Int))⟩, fun s hs => ?_, fun s hs => ?_, h.room_⟩, hft⟩
  · rcases List.mem_cons.1 hs with rfl | hs
    · exact own_ft (h.row r (by simp)) hft (by decide)
    · exact own_ft (h.row s (by simp [hs])) hft (by decide)
  · rcases List.mem_cons.1 hs with rfl | hs
    · have := h.most r (by simp)
      show r.r.h - 1 ≤ 16
      omega
    · exact h.most s (by simp [hs])

/-- What Take answers. -/
def TakePost (w : World) (B D : Nat) (room : Int) (rs : List Ro) (e : Ending) (w' : World) : Prop :=
  ∃ V n c vs rs', e = .returned (.slice V n c) ∧ Rp w' B V n c vs (takeM (rs.map (·.r))).1 ∧ Wi w' B D room rs' ∧ rs'.map (·.r) = (takeM (rs.map (·.r))).2 ∧ Ft B [57, 61] w w'

set_option maxRecDepth 20000 in
set_option maxHeartbeats 800000 in
theorem take_on {w : World} {B D : Nat} {room : Int} {rs : List Ro} (h : Wi w B D room rs) (hBw : B ≤ w.heap.size) (hrl : rs.length ≤ 1000000) : Calls Try.prog 19 #[.pointer (some ⟨D, 0, none⟩)] w (TakePost w B D room rs) := by
  cases rs with
  | nil =>
    obtain ⟨A, c, c0, c1, f1, hq⟩ := h.cells
    have HW := Lib.hid h
    clear h c0 hq
    simp only [List.length_nil] at c1
    go_enter Try.func19, Try.ntmps19
    go_wp2
    go_ret
    exact ⟨none, 0, 0, [], [], rfl, Rp.nil _ _, HW.out, rfl, Ft.refl _ _ _⟩
  | cons r t =>
    obtain ⟨g, o, c, A', c', c1, hv, e2, e3⟩ := h.rowAt (k := 0) (r := r) rfl
    rw [Nat.zero_mul, Nat.add_zero] at e2 e3
    have HW := Lib.hid h
    have HL : Hid ((r :: t).length = t.length + 1) := rfl
    rw [HL.out] at c1 hrl
    clear h e2 hv
    have hn1 : ((t.length : Int) + 1 == 0) = false := by rw [beq_eq_false_iff_ne]; omega
    have hn2 : (0 : Int) < (t.length : Int) + 1 := by omega
    by_cases hz : r.r.h = 0
    · have HF1 : Hid (freeN ((r :: t).map (·.r)) ≤ (r :: t).length) := by
        have := freeN_le ((r :: t).map (·.r))
        rw [List.length_map] at this
        exact this
      have HF0 : Hid (0 < freeN ((r :: t).map (·.r))) := freeN_pos _ hz
      have HPO : Hid (∀ e w1 w', Below w.heap.size w w1 → OutPost w1 B D room (r :: t) (freeN ((r :: t).map (·.r))) e w' → TakePost w B D room (r :: t) e w') := by
        rintro e w1 w' hb ⟨V, cc, vs, h1, h2, h3, h4⟩
        have hT := takeM_free (t.map (·.r)) hz
        rw [← List.map_cons] at hT
        refine ⟨V, _, cc, vs, _, h1, ?_, h3, ?_, (Ft.of_below hb).trans h4⟩
        · rw [hT, ← List.map_take, List.map_map]
          exact h2
        · rw [hT, List.map_drop]
      rw [hz] at e3
      generalize hlt : t.length = tl at *
      clear hlt
      go_enter Try.func19, Try.ntmps19
      go_wp2_with fail
      refine (free_on HW.out (by rw [HL.out]; exact hrl)).mono ?_
      rintro e x1 ⟨rfl, hb⟩
      have HW1 := Lib.hid (HW.out.step hb)
      have HB := Lib.hid hb
      clear hb c1 e3
      generalize freeN ((r :: t).map (·.r)) = m at *
      go_wp2_with fail
      refine (out_on HW1.out (Nat.le_trans hBw HB.out.size) (by rw [HL.out]; exact hrl) HF1.out HF0.out).mono ?_
      rintro e x2 hp
      replace hp := HPO.out _ _ _ HB.out hp
      obtain ⟨V, n', c', vs, rs', rfl, hr⟩ := hp
      have HR := Lib.hid hr
      clear hr
      go_wp2
      go_ret
      exact ⟨V, n', c', vs, rs', rfl, HR.out⟩
    · have hz' : (0 : Int) < (r.r.h : Int) := by omega
      obtain ⟨g', o', c2, d1, d2, d3, hw2, hf2⟩ := HW.out.dec
      rw [c1] at d1
      injection d1 with d1
      injection d1 with d1 _ d1'
      injection d1 with d1
      injection d1 with dg do_
      subst dg do_ d1'
      have HW2 := Lib.hid hw2
      have HF2 := Lib.hid hf2
      have HT : Hid (takeM ((r :: t).map (·.r)) = ([], ⟨r.r.l, r.r.h - 1⟩ :: t.map (·.r))) := by
        show _ = _
        exact takeM_held (r := r.r) (t.map (·.r)) (by omega)
      have hsub : IntKind.i64.wrap ((r.r.h : Int) - 1) = ((r.r.h - 1 : Nat) : Int) := by
        have := HW.out.most r (by simp)
        rw [IntKind.wrap_i64]
        omega
      clear hw2 hf2
      generalize hh : r.r.h = h at *
      generalize hlt : t.length = tl at *
      have hsub2 : ((h - 1 : Nat) : Int) = (h : Int) - 1 := by omega
      rw [hsub2] at HW2 HF2
      clear hlt
      go_enter Try.func19, Try.ntmps19
      go_wp2
      go_ret
      unfold TakePost
      rw [HT.out]
      exact ⟨none, 0, 0, [], ⟨r.v, ⟨r.r.l, h - 1⟩⟩ :: t, rfl, Rp.nil _ _, HW2.out, rfl, Ft.mono HF2.out (Nat.le_refl _) (by simp)⟩

end Go.Proofs.Ythpalepkilmpiaa
