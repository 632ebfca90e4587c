/-
  (*lamplightref06.Wire).Take, as it stands: what it answers.
-/
import Derived.Test.YthpalepkilmpiaaWireW
namespace Go.Proofs.Ythpalepkilmpiaa
set_option linter.unusedVariables false
set_option linter.unusedSimpArgs false
open Go.RowKit

theorem info_string : (Try.prog.info? 9).map (fun i => (i.zero, i.size, i.bytes)) = some (some (.string ⟨#[]⟩), 1, 16) := by kernel_rfl

theorem wcs_drop (qs : List Rw) : ∀ k, wcs (qs.drop k) = (wcs qs).drop (k * 2) := by
  induction qs with
  | nil => intro k; simp [wcs]
  | cons r rs ih =>
    intro k
    cases k with
    | zero => simp
    | succ k =>
      rw [List.drop_succ_cons, ih k, show (k + 1) * 2 = k * 2 + 2 by omega]
      rfl
/-- The first one: its cells; held once less; left out. -/
theorem Rf.first {w : World} {B R : Nat} {room : Int} {r : Rw} {t : List Rw} (h : Rf w B R room (r :: t)) : ∃ g o c, w.cell? ⟨R, 1, none⟩ = some (.slice (some ⟨g, o, none⟩) (t.length + 1) c) ∧ w.frozen? ⟨R, 1, none⟩ = false ∧ t.length + 1 ≤ c ∧ c ≤ maxLen ∧ w.cell? ⟨g, o, none⟩ = some (.string ⟨r.l.toArray⟩) ∧ w.cell? ⟨g, o + 1, none⟩ = some (.int .i64 (r.h : Int)) ∧ w.frozen? ⟨g, o + 1, none⟩ = false ∧
    Rf (w.setCell ⟨g, o + 1, none⟩ (.int .i64 ((r.h - 1 : Nat) : Int))) B R room (⟨r.l, r.h - 1⟩ :: t) ∧ Ft B [63] w (w.setCell ⟨g, o + 1, none⟩ (.int .i64 ((r.h - 1 : Nat) : Int))) ∧
    Que w B 63 2 (if c = 1 then some ⟨g, o, none⟩ else some ⟨g, o + 2, none⟩) t.length (c - 1) (wcs t) := by
  obtain ⟨A, c, h4, hq⟩ := h.que
  obtain ⟨g, o, rfl, hBg, hgl, hbi, hcs, hfz, hst⟩ := hq.at (by simp)
  have hft : Ft B [63] w (w.setCell ⟨g, o + 1, none⟩ (.int .i64 ((r.h - 1 : Nat) : Int))) := Ft.of_ch ((Ch.refl [g] w).setCell (by simp) _) (fun x hx _ => by simp at hx; subst hx; exact ⟨hBg, hbi⟩)
  have hd := hq.drop rfl 1 (by simp)
  exact ⟨g, o, c, by simp [World.cell?, h4], by simp [World.frozen?, h4], hq.cap.1, hq.cap.2, hcs 0 _ rfl, hcs 1 _ rfl, hfz _, ⟨h.le, ⟨_, c, hft.keep h4 (by decide), hst 1 (.int .i64 ((r.h - 1 : Nat) : Int))⟩⟩, hft, hd⟩

theorem Ft.late {B : Nat} {T : List TypeId} {a b c : World} (h : Ft B T a b) (k : Below a.heap.size b c) : Ft B T a c :=
  ⟨k.os.trans h.os, k.tape.trans h.tape, k.output.trans h.output, Nat.le_trans h.size k.size, fun i hi hb => (k.block i hi).trans (h.block i hi hb)⟩

/-- Of rows k are told. -/
structure Tk (w : World) (B R : Nat) (room : Int) (qs : List Rw) (k : Nat) (A : Option Addr) (c : Nat) (x : World) : Prop where
  rf : Rf x B R room (qs.drop k)
  own : x.ownsRow w.heap.size 9 1 (.slice A k c) k (scs ((qs.take k).map (·.l)))
  ft : Ft B [50, 63] w x
  zero : ∀ j r, j < k → qs[j]? = some r → r.h = 0
  le : k ≤ qs.length
/-- What the document's Take answers. -/
def RefTakePost (w : World) (B R : Nat) (room : Int) (qs : List Rw) (e : Ending) (w' : World) : Prop :=
  ∃ V n c, e = .returned (.slice V n c) ∧ n = (takeM qs).1.length ∧ w'.ownsRow w.heap.size 9 1 (.slice V n c) n (scs (takeM qs).1) ∧ Rf w' B R room (takeM qs).2 ∧ Ft B [50, 63] w w'

set_option maxRecDepth 100000 in
set_option maxHeartbeats 3200000 in
theorem reftake_on {w : World} {B R : Nat} {room : Int} {qs : List Rw} (hw : Rf w B R room qs) (hBw : B ≤ w.heap.size) (hql : qs.length ≤ 1000000) (h16 : ∀ r ∈ qs, r.h ≤ 16) :
    Calls Try.prog 20 #[.pointer (some ⟨R, 0, none⟩)] w (RefTakePost w B R room qs) := by
  obtain ⟨i0, hi, hz0, hz1, hz2⟩ := info_parts info_string
  have HB0 := Lib.hid (new_below w (.cells #[] 9))
  have HW0 := Lib.hid (hw.step HB0.out)
  have HO0 : Hid ((w.alloc (.cells #[] 9)).ownsRow w.heap.size 9 1 (.slice (some ⟨w.heap.size, 0, none⟩) 0 0) 0 []) := World.ownsRow_made w #[] 0 (Nat.le_refl _) (Nat.zero_le _) rfl
  have H16 := Lib.hid h16
  clear hw h16
  by_cases hheld : ∃ r t, qs = r :: t ∧ 0 < r.h
  · obtain ⟨r, t, rfl, hr⟩ := hheld
    have HT := Lib.hid (takeM_held t hr)
    obtain ⟨g, o, c, c1, f1, _, _, e0, e1, f2, hw2, hft2, _⟩ := HW0.out.first
    have HW2 := Lib.hid hw2
    have HF2 := Lib.hid hft2
    have hsub : IntKind.i64.wrap ((r.h : Int) - 1) = ((r.h - 1 : Nat) : Int) := by
      have := H16.out r (by simp)
      rw [IntKind.wrap_i64]
      omega
    have hr' : (0 : Int) < (r.h : Int) := by omega
    have hsub2 : ((r.h - 1 : Nat) : Int) = (r.h : Int) - 1 := by omega
    rw [hsub2] at HW2 HF2
    have hn1 : (0 : Int) < (t.length : Int) + 1 := by omega
    clear hw2 hft2 HW0 hql
    generalize hh : r.h = h at *
    generalize t.length = tl at *
    go_enter Try.func20, Try.ntmps20
    go_wp2
    go_ret
    unfold RefTakePost
    rw [HT.out]
    exact ⟨_, 0, 0, rfl, rfl, own_ft HO0.out HF2.out (by decide), HW2.out, (Ft.of_below HB0.out).trans (Ft.mono HF2.out (Nat.le_refl _) (by simp))⟩
  · have HN0 : Hid (∀ r t, qs = r :: t → r.h = 0) := by
      intro r t h
      by_cases hz : r.h = 0
      · exact hz
      · exact absurd ⟨r, t, h, by omega⟩ hheld
    have HK0 : Hid (Tk w B R room qs 0 (some ⟨w.heap.size, 0, none⟩) 0 (w.alloc (.cells #[] 9))) := ⟨by rw [List.drop_zero]; exact HW0.out, HO0.out, Ft.of_below HB0.out, fun j r hj => by omega, Nat.zero_le _⟩
    have HEnd : Hid (∀ k A c x, Tk w B R room qs k A c x → (∀ r, qs[k]? = some r → 0 < r.h) → RefTakePost w B R room qs (.returned (.slice A k c)) x) := by
      intro k A c x hk hx
      have hf : freeN qs = k := freeN_at hk.zero hx hk.le
      have hT : takeM qs = ((qs.take k).map (·.l), qs.drop k) := by
        cases hqs : qs with
        | nil => subst hqs; have := hk.le; simp at this; subst this; rfl
        | cons r t => rw [takeM_free t (HN0.out r t hqs), ← hqs, hf]
      refine ⟨A, k, c, rfl, ?_, ?_, ?_, hk.ft⟩
      · rw [hT, List.length_map, List.length_take]; have := hk.le; omega
      · rw [hT]; exact hk.own
      · rw [hT]; exact hk.rf
    have hgate : (∃ A c, (w.alloc (.cells #[] 9)).cell? ⟨R, 1, none⟩ = some (.slice A 0 c)) ∨ ∃ g o c, (w.alloc (.cells #[] 9)).cell? ⟨R, 1, none⟩ = some (.slice (some ⟨g, o, none⟩) qs.length c) ∧ 0 < qs.length ∧ (w.alloc (.cells #[] 9)).cell? ⟨g, o + 1, none⟩ = some (.int .i64 0) := by
      cases hqs : qs with
      | nil =>
        obtain ⟨A0, cc0, _, c1, _, _⟩ := HW0.out.cells
        rw [hqs] at c1
        exact .inl ⟨A0, cc0, c1⟩
      | cons r t =>
        right
        have hw1 := HW0.out
        rw [hqs] at hw1
        obtain ⟨g, o, c, c1, f1, _, _, e0, e1, f2, _⟩ := hw1.first
        rw [HN0.out r t hqs] at e1
        exact ⟨g, o, c, c1, by simp, e1⟩
    clear HW0 HO0 HB0 hheld
    have hmeas : ∀ (A : Option Addr) (k c : Nat), (match (Value.slice A k c) with | .slice _ n _ => qs.length - n | _ => 0) = qs.length - k := fun _ _ _ => rfl
    go_enter Try.func20, Try.ntmps20
    rcases hgate with ⟨A0, cc0, c1⟩ | ⟨g, o, c, c1', hq1, e1⟩
    go_wp2
    clear c1
    rotate_left 1
    have hq1' : (0 : Int) < (qs.length : Int) := by omega
    go_wp2
    clear c1' e1 hq1' hq1
    all_goals
      go_loopw [3] (fun v wr => ∃ (k c' : Nat) (A' : Option Addr), v = .slice A' k c' ∧ Hid (Tk w B R room qs k A' c' wr)) (fun v _ => match v with | .slice _ n _ => qs.length - n | _ => 0)
      case atStart => exact ⟨0, 0, _, rfl, HK0⟩
      case round =>
        obtain ⟨k, c', A', rfl, HT⟩ := hrel
        clear HK0
        have hkle := HT.out.le
        by_cases hend : ∀ r, qs[k]? = some r → 0 < r.h
        · have HE := Lib.hid hend
          by_cases hkl : k < qs.length
          · have hr := hend _ (List.getElem?_eq_getElem hkl)
            have hrf := HT.out.rf
            rw [List.drop_eq_getElem_cons hkl] at hrf
            obtain ⟨g, o, c, c1, f1, _, _, e0, e1, f2, _⟩ := hrf.first
            rw [List.length_drop] at c1
            have hlen : (0 : Int) < ((qs.length - (k + 1) + 1 : Nat) : Int) := by omega
            have hne : (((qs[k]'hkl).h : Int) == 0) = false := by rw [beq_eq_false_iff_ne]; omega
            clear hrf hend e0 f1 f2 hr
            generalize (qs[k]'hkl).h = h at *
            generalize qs.length - (k + 1) + 1 = nl at *
            go_wp2
            go_ret
            exact HEnd.out _ _ _ _ HT.out HE.out
          · have hrf := HT.out.rf
            rw [List.drop_eq_nil_of_le (by omega)] at hrf
            obtain ⟨A, c, _, c1, _, _⟩ := hrf.cells
            rw [List.length_nil] at c1
            clear hrf hend
            go_wp2
            go_ret
            exact HEnd.out _ _ _ _ HT.out HE.out
        · have hex : ∃ r, qs[k]? = some r ∧ r.h = 0 := by
            apply Classical.byContradiction
            intro hn
            exact hend fun r hr => by
              rcases Nat.eq_zero_or_pos r.h with h | h
              · exact absurd ⟨r, hr, h⟩ hn
              · exact h
          obtain ⟨r, hrk, hr0⟩ := hex
          have hkl : k < qs.length := by
            rcases Nat.lt_or_ge k qs.length with h | h
            · exact h
            · rw [List.getElem?_eq_none h] at hrk; cases hrk
          have hrf := HT.out.rf
          have hdc : qs.drop k = r :: qs.drop (k + 1) := by
            rw [List.drop_eq_getElem_cons hkl]
            rw [List.getElem?_eq_getElem hkl] at hrk
            injection hrk with hrk
            rw [hrk]
          rw [hdc] at hrf
          obtain ⟨g, o, c, c1, f1, hc1, hc2, e0, e1, f2, _, _, hq⟩ := hrf.first
          rw [hr0] at e1
          have hdl : (qs.drop (k + 1)).length = qs.length - (k + 1) := List.length_drop
          rw [hdl] at c1 hc1 hq
          have HQ := Lib.hid hq
          have HRF := Lib.hid hrf
          have HDL := Lib.hid hdl
          have HTK : Hid ((qs.take (k + 1)).map (·.l) = (qs.take k).map (·.l) ++ [r.l]) := by show _ = _; rw [List.take_add_one, hrk, List.map_append]; rfl
          have HZ : Hid (∀ j s, j < k + 1 → qs[j]? = some s → s.h = 0) := by
            intro j s hj hs
            by_cases hjk : j = k
            · subst hjk
              rw [hrk] at hs
              injection hs with hs
              rw [← hs]
              exact hr0
            · exact HT.out.zero j s (by omega) hs
          have hlen : (0 : Int) < ((qs.length - (k + 1) + 1 : Nat) : Int) := by omega
          have hl1 : (1 : Int) ≤ ((qs.length - (k + 1) + 1 : Nat) : Int) := by omega
          have hcm : c ≤ 9223372036854775807 := by unfold maxLen at hc2; omega
          have hsub1 : qs.length - (k + 1) + 1 - 1 = qs.length - (k + 1) := by omega
          clear hend hrf hdc hq hrk hdl f2
          have hxx := heap_alloc_new wr (.cells #[.string ⟨r.l.toArray⟩] 9)
          have HBx := Lib.hid (new_below wr (.cells #[.string ⟨r.l.toArray⟩] 9))
          have HHx : Hid (Holds (wr.alloc (.cells #[.string ⟨r.l.toArray⟩] 9)) wr.heap.size (some ⟨wr.heap.size, 0, none⟩) (scs [r.l])) := Holds.of_row (cs := scs [r.l]) hxx
          have HOx := Lib.hid (HT.out.own.alloc (.cells #[.string ⟨r.l.toArray⟩] 9))
          have HLx : Hid (w.heap.size ≤ (wr.alloc (.cells #[.string ⟨r.l.toArray⟩] 9)).heap.size) := Nat.le_trans HT.out.ft.size HBx.out.size
          clear hxx
          generalize hnl : qs.length - (k + 1) + 1 = nl at *
          go_upto_region 7 with (first
            | (at_builtin; refine wpList_append_wide rfl (.tmp 48) (.tmp 56) 37 rfl w.heap.size 9 i0 (.string ⟨#[]⟩) 1 16 Try.underlying37 hi hz0 hz1 hz2 rfl (by decide) (.slice A' k c') k _ rfl HOx.out wr.heap.size (some ⟨wr.heap.size, 0, none⟩) 1 1 (scs [r.l]) rfl rfl HHx.out (by simp [scs, Value.oneCell']) (by unfold maxLen; omega) (by omega) HLx.out ?_; intro A2 c2 x2 hown2 hgr2))
          have HF2 : Hid (Ft w.heap.size [9] wr x2) := (Ft.of_below HBx.out).trans (Ft.of_ch (F := (Value.slice A' k c').ownBlock.toList) ⟨hgr2.os, hgr2.tape, hgr2.output, hgr2.size, fun j hj hm => hgr2.block j hj (fun he => hm (by rw [← he]; simp))⟩ (fun y hy _ => by
            have hy' : (Value.slice A' k c').ownBlock = some y := by simpa using hy
            refine ⟨(HOx.out.lt y hy').1, ?_⟩
            rcases HOx.out.2 with ⟨hv, _⟩ | ⟨g', cap, cur, hv, _, hh, _⟩
            · rw [hv] at hy'; simp [Value.ownBlock] at hy'
            · rw [hv] at hy'
              simp [Value.ownBlock] at hy'
              subst hy'
              exact ⟨_, _, _, hh, by simp⟩))
          have HO2 : Hid (x2.ownsRow w.heap.size 9 1 (.slice A2 (k + 1) c2) (k + 1) (scs ((qs.take (k + 1)).map (·.l)))) := by
            show World.ownsRow _ _ _ _ _ _ _
            rw [HTK.out]
            simpa [scs] using hown2
          have HR2 := Lib.hid (HRF.out.ft HF2.out (by decide) (by decide))
          have c12 : x2.cell? ⟨R, 1, none⟩ = some (.slice (some ⟨g, o, none⟩) nl c) := by
            obtain ⟨Ax, cx, h4, _⟩ := HRF.out.que
            have h6 := HF2.out.keep h4 (by decide)
            have h5 : wr.cell? ⟨R, 1, none⟩ = x2.cell? ⟨R, 1, none⟩ := by simp [World.cell?, h4, h6]
            rw [← h5]
            exact c1
          have f12 : x2.frozen? ⟨R, 1, none⟩ = false := by
            obtain ⟨Ax, cx, h4, _⟩ := HRF.out.que
            have h6 := HF2.out.keep h4 (by decide)
            simp [World.frozen?, h6]
          have HQ2 := Lib.hid (HQ.out.ft HF2.out (by decide))
          have FIN : Hid (∀ A3 c3, Que x2 B 63 2 A3 (qs.length - (k + 1)) c3 (wcs (qs.drop (k + 1))) → Tk w B R room qs (k + 1) A2 c2 (x2.setCell ⟨R, 1, none⟩ (.slice A3 (qs.length - (k + 1)) c3))) := by
            intro A3 c3 hq3
            obtain ⟨h1, h2⟩ := HR2.out.turn (qs' := qs.drop (k + 1)) (A' := A3) (c' := c3) (Ft.refl _ _ _) (by rw [HDL.out]; exact hq3)
            rw [HDL.out] at h1 h2
            exact ⟨h1, own_ft HO2.out h2 (by decide), (HT.out.ft.late (HF2.out.below HT.out.ft.size)).trans h2, HZ.out, by omega⟩
          have hk1 : k + 1 ≤ qs.length := by omega
          clear hown2 hgr2 HHx HOx HBx HLx e0 e1 f1 c1 HRF HQ HR2 HO2 HF2 HTK HDL HZ
          by_cases hck : c = 1
          · have HQ3 : Hid (Que x2 B 63 2 (some ⟨g, o, none⟩) (qs.length - (k + 1)) 0 (wcs (qs.drop (k + 1)))) := by
              have := HQ2.out
              rw [if_pos hck, hck, Nat.sub_self] at this
              exact this
            have hnl1 : nl = 1 := by omega
            have hnl2 : qs.length - (k + 1) = 0 := by omega
            have H3 := Lib.hid (FIN.out _ _ HQ3.out)
            rw [hnl2] at H3
            clear HQ2 HQ3 FIN hnl hsub1
            subst hck hnl1
            go_wp2
            exact ⟨⟨k + 1, c2, A2, rfl, H3⟩, by show qs.length - (k + 1) < qs.length - k; omega⟩
          · have HQ3 : Hid (Que x2 B 63 2 (some ⟨g, o + 2, none⟩) (qs.length - (k + 1)) (c - 1) (wcs (qs.drop (k + 1)))) := by
              have := HQ2.out
              rw [if_neg hck] at this
              exact this
            have H3 := Lib.hid (FIN.out _ _ HQ3.out)
            have hnl3 : nl - 1 = qs.length - (k + 1) := by omega
            rw [← hnl3] at H3
            clear HQ2 HQ3 FIN hnl hsub1 hnl3
            go_wp2
            exact ⟨⟨k + 1, c2, A2, rfl, H3⟩, by show qs.length - (k + 1) < qs.length - k; omega⟩

end Go.Proofs.Ythpalepkilmpiaa
