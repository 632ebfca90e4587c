/-
  The program's poll: what New answers.
-/
import Derived.Test.YtkghbdikbbeoaaaPolKa
import Derived.Test.YtkghbdikbbeoaaaFClone
import Derived.Great.BuildSlice
namespace Go.Proofs.Ytkghbdikbbeoaaa
set_option linter.unusedVariables false
set_option linter.unusedSimpArgs false
open Go.RowKit

/-- While it is made: its row is one's own. -/
structure Kn (w : World) (R : Nat) (l : List Pe) : Prop where
  ex : ∃ A c, w.heap[R]? = some (.cells #[.slice A l.length c, .int .i64 (-1)] 54 (0, 0)) ∧ w.ownsRow R 58 3 (.slice A l.length c) l.length (pcs l)
theorem Kn.step {w w' : World} {R : Nat} {l : List Pe} (h : Kn w R l) (hb : Below w.heap.size w w') : Kn w' R l := by
  obtain ⟨A, c, k1, k2⟩ := h.ex
  exact ⟨A, c, (hb.block R (Array.getElem?_eq_some_iff.1 k1).1).trans k1, own_ft (B := 0) (T := []) k2 (Ft.of_below hb) (by simp)⟩
theorem Kn.ko {w : World} {R : Nat} {l : List Pe} (h : Kn w R l) : ∃ A g c, Ko w R w.heap.size R ⟨l, 0⟩ A g c := by
  obtain ⟨A, c, k1, k2⟩ := h.ex
  by_cases hl : 0 < l.length
  · obtain ⟨g, rfl, q1, q2⟩ := Prow.of_own k2 hl
    exact ⟨some ⟨g, 0, none⟩, g, c, Nat.le_refl _, (Array.getElem?_eq_some_iff.1 k1).1, Nat.le_refl _, k1, fun _ => ⟨rfl, q1, q2.lt, q2⟩⟩
  · exact ⟨A, 0, c, Nat.le_refl _, (Array.getElem?_eq_some_iff.1 k1).1, Nat.le_refl _, k1, fun h => absurd h hl⟩
theorem knew_snoc {l : List UInt8} {i : Nat} (hi : i < l.length) : newN (l.take (i + 1)) = addN (newN (l.take i)) l[i] := by
  unfold newN
  rw [List.take_add_one, List.getElem?_eq_getElem hi, List.foldl_append]
  rfl
/-- A slice of one of them. -/
theorem wp_oneMem {w : World} {o : Oper} {a : Act} {K : Act → World → Prop} {Q : Exit → Act → World → Prop} (x : Operand) (ho : o.op = .buildSlice 52 1 #[(0, x)]) {e : Pe} (hx : a.eval x = .agg #[.int .u8 (e.a : Int), .bool e.d, .int .i64 e.t])
    (h : K (a.put o.dst (.slice (some ⟨w.heap.size, 0, none⟩) 1 1)) (w.alloc (.cells (pc1 e).toArray 58))) : o.wp Try.prog a w K Q := by
  obtain ⟨i0, hi, hz0, hz1, hz2⟩ := info_parts info_member
  refine wp_buildSlice 52 58 1 #[(0, x)] ho (pc1 e).toArray i0 _ Try.underlying52 hi hz0 (by rw [hz1]; decide) (by rw [hz1]; decide) ?_ h
  rw [hz1]
  simp only [List.map_toArray, List.map_cons, List.map_nil, hx]
  first
    | kernel_rfl
    | (simp [go_sem]; done)
    | (simp [Instr.fill]; done)
theorem kfind_new {acc : List Nat} {a : Nat} : (findP (acc.map newPe) a = none ↔ a ∉ acc) := by
  have e : (acc.map newPe).map Pe.a = acc := by
    rw [List.map_map]
    exact (List.map_congr_left (fun a _ => rfl)).trans (List.map_id _)
  constructor
  · intro h hm
    exact findP_none h (by rw [e]; exact hm)
  · intro h
    exact findP_not (by rw [e]; exact h)
theorem knew_len (l : List UInt8) : (newN l).length ≤ l.length := by
  have := (newN_inv l [] List.nodup_nil (by simp)).2.2
  simpa [newN] using this

set_option maxRecDepth 20000 in
set_option maxHeartbeats 6400000 in
theorem knew_on {w : World} {g n c : Nat} {A : Option Addr} {l : List UInt8} (h : Holds w g A (bcs l)) (hn : l.length = n) (hm : n ≤ 40) (hc : n ≤ c) (hmx : c ≤ 9223372036854775807) : Calls Try.prog 11 #[.slice A n c] w fun e w' =>
    e = .returned (.pointer (some ⟨w.heap.size, 0, none⟩)) ∧ Kn w' w.heap.size ((newN l).map newPe) ∧ Below w.heap.size w w' := by
  have HH := Lib.hid h
  have HN := Lib.hid hn
  have HB0 := Lib.hid (new_below w (.cells #[.slice none 0 0, .int .i64 (-1)] 54))
  have HR0 : Hid (Kn (w.alloc (.cells #[.slice none 0 0, .int .i64 (-1)] 54)) w.heap.size ((newN (l.take 0)).map newPe)) := Lib.hid ⟨none, 0, heap_alloc_new w _, World.ownsRow_nil _ _ _ _⟩
  clear h hn
  go_enter Try.func11, Try.ntmps11
  go_wp2
  generalize w.alloc (.cells #[.slice none 0 0, .int .i64 (-1)] 54) = w1 at *
  obtain ⟨R, hR⟩ : ∃ R, w.heap.size = R := ⟨_, rfl⟩
  have HRE := Lib.hid hR
  rw [hR] at HR0 ⊢
  clear hR
  go_loopw [10] (fun j wr => ∃ (i : Nat), i ≤ n ∧ j = .int .i64 i ∧ Hid (Kn wr R ((newN (l.take i)).map newPe)) ∧ Hid (Below w.heap.size w wr)) (fun j _ => n - (intOf j).toNat)
  case atStart => exact ⟨0, Nat.zero_le _, rfl, HR0, HB0⟩
  case round =>
    clear HR0 HB0
    obtain ⟨i, hi, rfl, HR, HB⟩ := hrel
    rename World => x
    by_cases hlt : i < n
    · have hil : i < l.length := by rw [HN.out]; exact hlt
      have hlt1 : (i : Int) < (n : Int) := by omega
      have hx := HH.out (by rw [bcs_length]; omega)
      obtain ⟨hgw, o, rfl, hcell⟩ := hx
      have HE := Lib.hid (knew_snoc hil)
      have hb := (HB.out.cell (p := ⟨g, o + i, none⟩) hgw).trans (hcell i _ (bcs_get l i hil))
      have HAL : Hid ((newN (l.take i)).length ≤ 40) := Lib.hid (by have := knew_len (l.take i); rw [List.length_take] at this; omega)
      generalize l[i] = b at *
      obtain ⟨m, hm2⟩ : ∃ m, b.toNat = m := ⟨_, rfl⟩
      have HBM := Lib.hid hm2
      rw [hm2] at hb
      generalize newN (l.take i) = acc at *
      generalize hnx : newN (l.take (i + 1)) = nx at *
      have HNX := Lib.hid hnx
      clear hnx hm2 hcell hgw hil
      unfold addN at HE
      rw [HBM.out] at HE
      by_cases h0 : 0 < m
      rotate_left 1
      · have h0' : ¬ (1 : Int) ≤ (m : Int) := by omega
        have HRR : Hid (Kn x R ((newN (l.take (i + 1))).map newPe)) := by show Kn _ _ _; rw [HNX.out, HE.out, if_neg (by omega)]; exact HR.out
        clear h0
        go_wp2
        go_roundw
        case rel => exact ⟨i + 1, by omega, by go_num, HRR, HB⟩
        case measure => simp [intOf]; omega
      have h0' : (1 : Int) ≤ (m : Int) := by omega
      by_cases h32 : m < 32
      rotate_left 1
      · have h32' : ¬ (m : Int) ≤ 31 := by omega
        have HRR : Hid (Kn x R ((newN (l.take (i + 1))).map newPe)) := by show Kn _ _ _; rw [HNX.out, HE.out, if_neg (by omega)]; exact HR.out
        clear h0 h32
        go_wp2
        go_roundw
        case rel => exact ⟨i + 1, by omega, by go_num, HRR, HB⟩
        case measure => simp [intOf]; omega
      have h32' : (m : Int) ≤ 31 := by omega
      obtain ⟨Ak, gk, ck, hko⟩ := HR.out.ko
      go_wp2_with fail
      refine (kfind_on hko (by show (acc.map newPe).length ≤ 40; rw [List.length_map]; exact HAL.out)).mono ?_
      rintro e x2 ⟨rfl, rfl⟩
      clear hko
      cases hf : findP (acc.map newPe) m with
      | some k =>
        have hin : m ∈ acc := by
          by_cases hm3 : m ∈ acc
          · exact hm3
          · rw [kfind_new.2 hm3] at hf; cases hf
        have HRR : Hid (Kn x2 R ((newN (l.take (i + 1))).map newPe)) := by show Kn _ _ _; rw [HNX.out, HE.out, if_neg (fun h => h.2.2 hin)]; exact HR.out
        clear h0 h32 hf hin
        simp only [ptrP]
        go_wp2
        go_roundw
        case rel => exact ⟨i + 1, by omega, by go_num, HRR, HB⟩
        case measure => simp [intOf]; omega
      | none =>
        have hin : m ∉ acc := kfind_new.1 hf
        have HE2 : Hid (newN (l.take (i + 1)) = acc ++ [m]) := by show _ = _; rw [HNX.out, HE.out, if_pos ⟨h0, h32, hin⟩]
        clear h0 h32 hf hin HE hb
        simp only [ptrP]
        obtain ⟨A3, c3, k1, k2⟩ := HR.out.ex
        have r0 : x2.cell? ⟨R, 0, none⟩ = some (.slice A3 (acc.map newPe).length c3) := by simp [World.cell?, k1]
        have hRx : R < x2.heap.size := (Array.getElem?_eq_some_iff.1 k1).1
        have hb4 := new_below x2 (.cells (pc1 (newPe m)).toArray 58)
        have HB4 := Lib.hid (HB.out.trans (hb4.mono HB.out.size))
        have HO4 := Lib.hid (own_ft (B := 0) (T := []) k2 (Ft.of_below hb4) (by simp))
        have HK4 : Hid _ := Lib.hid ((hb4.block R hRx).trans k1)
        have HH4 : Hid (Holds (x2.alloc (.cells (pc1 (newPe m)).toArray 58)) x2.heap.size (some ⟨x2.heap.size, 0, none⟩) (pc1 (newPe m))) := Lib.hid (Holds.of_row (heap_alloc_new x2 _))
        generalize hlen : (acc.map newPe).length = len at *
        have HLEN := Lib.hid hlen
        clear hlen k1 k2 hb4 HR HB
        obtain ⟨i0, hi0, hz0, hz1, hz2⟩ := info_parts info_member
        go_wp2_with (first
          | (at_builtin; refine wpList_append_wide rfl (.tmp 30) (.tmp 33) 52 rfl R 58 i0 (.agg #[.int .u8 0, .bool false, .int .i64 0]) 3 16 Try.underlying52 hi0 hz0 hz1 hz2 rfl (by decide) _ len (pcs (acc.map newPe)) rfl HO4.out x2.heap.size (some ⟨x2.heap.size, 0, none⟩) 1 1 (pc1 (newPe m)) rfl rfl HH4.out (by intro u hu; simp [pc1] at hu; rcases hu with rfl | rfl | rfl <;> rfl) (by have h1 := HLEN.out; have h2 := HAL.out; rw [List.length_map] at h1; unfold maxLen; omega) (by have h1 := HLEN.out; have h2 := HAL.out; rw [List.length_map] at h1; omega) (Nat.le_of_lt (Array.getElem?_eq_some_iff.1 HK4.out).1) ?_)
          | (refine wpList_plain rfl fun K hK => wp_oneMem (.tmp 32) rfl (e := newPe m) rfl (hK _ _ ?_)))
        intro A5 c5 x5 ho5 hg5
        have hft5 := ft_grown HO4.out hg5
        have HK5 := Lib.hid (hft5.keep HK4.out (by decide))
        have HO5 := Lib.hid ho5
        have HB5 : Hid (Below w.heap.size w x5) := by
          have hbx := hft5.below (Nat.le_of_lt (Array.getElem?_eq_some_iff.1 HK4.out).1)
          rw [← HRE.out] at hbx
          exact HB4.out.trans hbx
        have g5 : x5.frozen? ⟨R, 0, none⟩ = false := by simp [World.frozen?, HK5.out]
        have g4 : x5.cell? ⟨R, 0, none⟩ = some (.slice A3 len c3) := by simp [World.cell?, HK5.out]
        have HRR : Hid (Kn (x5.setCell ⟨R, 0, none⟩ (.slice A5 (len + 1) c5)) R ((newN (l.take (i + 1))).map newPe)) := by
          obtain ⟨q1, q2⟩ := put_row (i := 0) (v := .slice A5 (len + 1) c5) HK5.out
          have hft : Ft 0 [54] x5 (x5.setCell ⟨R, 0, none⟩ (.slice A5 (len + 1) c5)) := Ft.of_ch q2 (fun y hy _ => by simp at hy; subst hy; exact ⟨Nat.zero_le _, _, _, _, HK5.out, by simp⟩)
          have e1 : (newN (l.take (i + 1))).map newPe = acc.map newPe ++ [newPe m] := by rw [HE2.out]; simp
          have e2 : ((newN (l.take (i + 1))).map newPe).length = len + 1 := by rw [e1, List.length_append, HLEN.out]; rfl
          refine ⟨A5, c5, ?_, ?_⟩
          · rw [e2, q1]; rfl
          · have := own_ft HO5.out hft (by decide)
            rw [e2, e1, pcs_append]
            exact this
        have HBB : Hid (Below w.heap.size w (x5.setCell ⟨R, 0, none⟩ (.slice A5 (len + 1) c5))) := by
          obtain ⟨_, q2⟩ := put_row (i := 0) (v := .slice A5 (len + 1) c5) HK5.out
          exact HB5.out.trans (q2.belowAt (by intro x hx; simp at hx; subst hx; exact Nat.le_of_eq HRE.out) HB5.out.size)
        clear ho5 hg5 hft5 HK5 HO5 HB5 HB4 HO4 HK4 HH4 hi0 hz0 hz1 hz2 r0 hRx
        go_wp2
        go_roundw
        case rel => exact ⟨i + 1, by omega, by go_num, HRR, HBB⟩
        case measure => simp [intOf]; omega
    · have hkn : n = i := by omega
      subst hkn
      have HRR : Hid (Kn x R ((newN l).map newPe)) := by
        have := HR.out
        rw [List.take_of_length_le (by rw [HN.out]; exact Nat.le_refl _)] at this
        exact this
      go_wp2
      go_ret
      have hb := HB.out
      rw [HRE.out] at hb ⊢
      exact ⟨rfl, HRR.out, hb⟩
end Go.Proofs.Ytkghbdikbbeoaaa
