/-
  lamplightref09.New, as it stands: what it answers.
-/
import Derived.Test.YtkghbdikbbeoaaaPolR
import Derived.Test.YtkghbdikbbeoaaaFClone
import Derived.Great.BuildSlice
namespace Go.Proofs.Ytkghbdikbbeoaaa
set_option linter.unusedVariables false
set_option linter.unusedSimpArgs false
open Go.RowKit

theorem info_peer9 : (Try.prog.info? 42).map (fun i => (i.zero, i.size, i.bytes)) = some (some (.agg #[.int .u8 0, .bool false, .int .i64 0]), 3, 16) := by kernel_rfl
/-- While it is made: its row is one's own. -/
structure Rn (w : World) (R : Nat) (l : List Pe) : Prop where
  ex : ∃ A c, w.heap[R]? = some (.cells #[.slice A l.length c, .int .i64 (-1)] 40 (0, 0)) ∧ w.ownsRow R 42 3 (.slice A l.length c) l.length (pcs l)
theorem Rn.step {w w' : World} {R : Nat} {l : List Pe} (h : Rn w R l) (hb : Below w.heap.size w w') : Rn w' R l := by
  obtain ⟨A, c, k1, k2⟩ := h.ex
  exact ⟨A, c, (hb.block R (Array.getElem?_eq_some_iff.1 k1).1).trans k1, own_ft (B := 0) (T := []) k2 (Ft.of_below hb) (by simp)⟩
theorem Rn.r9 {w : World} {R : Nat} {l : List Pe} (h : Rn w R l) : R9p w R R ⟨l, 0⟩ := by
  obtain ⟨A, c, k1, k2⟩ := h.ex
  by_cases hl : 0 < l.length
  · obtain ⟨g, rfl, q1, q2⟩ := Prow.of_own k2 hl
    exact ⟨Nat.le_refl _, some ⟨g, 0, none⟩, g, c, k1, fun _ => ⟨rfl, q1, q2⟩⟩
  · exact ⟨Nat.le_refl _, A, 0, c, k1, fun h => absurd h hl⟩
theorem newN_snoc {l : List UInt8} {i : Nat} (hi : i < l.length) : newN (l.take (i + 1)) = addN (newN (l.take i)) l[i] := by
  unfold newN
  rw [List.take_add_one, List.getElem?_eq_getElem hi, List.foldl_append]
  rfl
/-- A slice of one of them. -/
theorem wp_onePeer {w : World} {o : Oper} {a : Act} {K : Act → World → Prop} {Q : Exit → Act → World → Prop} (x : Operand) (ho : o.op = .buildSlice 38 1 #[(0, x)]) {e : Pe} (hx : a.eval x = .agg #[.int .u8 (e.a : Int), .bool e.d, .int .i64 e.t])
    (h : K (a.put o.dst (.slice (some ⟨w.heap.size, 0, none⟩) 1 1)) (w.alloc (.cells (pc1 e).toArray 42))) : o.wp Try.prog a w K Q := by
  obtain ⟨i0, hi, hz0, hz1, hz2⟩ := info_parts info_peer9
  refine wp_buildSlice 38 42 1 #[(0, x)] ho (pc1 e).toArray i0 _ Try.underlying38 hi hz0 (by rw [hz1]; decide) (by rw [hz1]; decide) ?_ h
  rw [hz1]
  simp only [List.map_toArray, List.map_cons, List.map_nil, hx]
  first
    | kernel_rfl
    | (simp [go_sem]; done)
    | (simp [Instr.fill]; done)
theorem find_new {acc : List Nat} {a : Nat} : (findP (acc.map newPe) a = none ↔ a ∉ acc) := by
  have e : (acc.map newPe).map Pe.a = acc := by
    rw [List.map_map]
    exact (List.map_congr_left (fun a _ => rfl)).trans (List.map_id _)
  constructor
  · intro h hm
    exact findP_none h (by rw [e]; exact hm)
  · intro h
    exact findP_not (by rw [e]; exact h)
theorem newN_len (l : List UInt8) : (newN l).length ≤ l.length := by
  have := (newN_inv l [] List.nodup_nil (by simp)).2.2
  simpa [newN] using this

set_option maxRecDepth 20000 in
set_option maxHeartbeats 6400000 in
theorem rnew_on {w : World} {g n c : Nat} {A : Option Addr} {l : List UInt8} (h : Holds w g A (bcs l)) (hn : l.length = n) (hm : n ≤ 40) (hc : n ≤ c) (hmx : c ≤ 9223372036854775807) : Calls Try.prog 12 #[.slice A n c] w fun e w' => e = .returned (.pointer (some ⟨w.heap.size, 0, none⟩)) ∧ R9p w' w.heap.size w.heap.size (newP l) ∧ Below w.heap.size w w' := by
  have HH := Lib.hid h
  have HN := Lib.hid hn
  have HB0 := Lib.hid (new_below w (.cells #[.slice none 0 0, .int .i64 (-1)] 40))
  have HR0 : Hid (Rn (w.alloc (.cells #[.slice none 0 0, .int .i64 (-1)] 40)) w.heap.size ((newN (l.take 0)).map newPe)) := Lib.hid ⟨none, 0, heap_alloc_new w _, World.ownsRow_nil _ _ _ _⟩
  clear h hn
  go_enter Try.func12, Try.ntmps12
  go_wp2
  generalize w.alloc (.cells #[.slice none 0 0, .int .i64 (-1)] 40) = w1 at *
  obtain ⟨R, hR⟩ : ∃ R, w.heap.size = R := ⟨_, rfl⟩
  have HRE := Lib.hid hR
  rw [hR] at HR0 ⊢
  clear hR
  go_loopw [4] (fun j wr => ∃ (i : Nat), i ≤ n ∧ j = .int .i64 i ∧ Hid (Rn wr R ((newN (l.take i)).map newPe)) ∧ Hid (Below w.heap.size w wr)) (fun j _ => n - (intOf j).toNat)
  case atStart => exact ⟨0, Nat.zero_le _, rfl, HR0, HB0⟩
  case round =>
    clear HR0 HB0
    obtain ⟨i, hi, rfl, HR, HB⟩ := hrel
    rename World => x
    by_cases hlt : i < n
    · have hil : i < l.length := by rw [HN.out]; exact hlt
      have hlt1 : (i : Int) < (n : Int) := by omega
      have hx := HH.out (by rw [bcs_length]; omega)
      obtain ⟨hgw, o, rfl, hcell⟩ := hx
      have HE := Lib.hid (newN_snoc hil)
      have hb := (HB.out.cell (p := ⟨g, o + i, none⟩) hgw).trans (hcell i _ (bcs_get l i hil))
      have HAL : Hid ((newN (l.take i)).length ≤ 40) := Lib.hid (by have := newN_len (l.take i); rw [List.length_take] at this; omega)
      generalize l[i] = b at *
      obtain ⟨m, hm2⟩ : ∃ m, b.toNat = m := ⟨_, rfl⟩
      have HBM := Lib.hid hm2
      rw [hm2] at hb
      generalize newN (l.take i) = acc at *
      generalize hnx : newN (l.take (i + 1)) = nx at *
      have HNX := Lib.hid hnx
      have HGW : Hid (g < R) := Lib.hid (by have := HRE.out; omega)
      clear hnx hm2 hcell hgw hil
      unfold addN at HE
      rw [HBM.out] at HE
      by_cases h0 : 0 < m
      rotate_left 1
      · have h0' : ¬ (0 : Int) < (m : Int) := by omega
        have HRR : Hid (Rn x R ((newN (l.take (i + 1))).map newPe)) := by show Rn _ _ _; rw [HNX.out, HE.out, if_neg (by omega)]; exact HR.out
        clear h0
        go_wp2
        go_roundw
        case rel => exact ⟨i + 1, by omega, by go_num, HRR, HB⟩
        case measure => simp [intOf]; omega
      have h0' : (0 : Int) < (m : Int) := by omega
      by_cases h32 : m < 32
      rotate_left 1
      · have h32' : ¬ (m : Int) < 32 := by omega
        have HRR : Hid (Rn x R ((newN (l.take (i + 1))).map newPe)) := by show Rn _ _ _; rw [HNX.out, HE.out, if_neg (by omega)]; exact HR.out
        clear h0 h32
        go_wp2
        go_roundw
        case rel => exact ⟨i + 1, by omega, by go_num, HRR, HB⟩
        case measure => simp [intOf]; omega
      have h32' : (m : Int) < 32 := by omega
      go_wp2_with fail
      refine (rfind_on HR.out.r9 (by show (acc.map newPe).length ≤ 40; rw [List.length_map]; exact HAL.out)).mono ?_
      rintro e x2 ⟨rfl, rfl⟩
      simp only
      cases hf : findP (acc.map newPe) m with
      | some k =>
        have hin : m ∈ acc := by
          by_cases hm3 : m ∈ acc
          · exact hm3
          · rw [find_new.2 hm3] at hf; cases hf
        have HRR : Hid (Rn x2 R ((newN (l.take (i + 1))).map newPe)) := by show Rn _ _ _; rw [HNX.out, HE.out, if_neg (fun h => h.2.2 hin)]; exact HR.out
        clear h0 h32 hf hin
        simp only [idxP]
        go_wp2
        go_roundw
        case rel => exact ⟨i + 1, by omega, by go_num, HRR, HB⟩
        case measure => simp [intOf]; omega
      | none =>
        have hin : m ∉ acc := find_new.1 hf
        have HE2 : Hid (newN (l.take (i + 1)) = acc ++ [m]) := by show _ = _; rw [HNX.out, HE.out, if_pos ⟨h0, h32, hin⟩]
        clear h0 h32 hf hin HE
        simp only [idxP]
        go_upto_region 6 with fail
        have HD := Lib.hid (drew_below x2)
        have HR3 := Lib.hid (HR.out.step HD.out)
        have HB3 := Lib.hid (HB.out.trans (HD.out.mono HB.out.size))
        obtain ⟨A3, c3, k1, k2⟩ := HR3.out.ex
        have HOW := Lib.hid k2
        have hb3 : x2.drew.cell? ⟨g, o + i, none⟩ = some (.int .u8 (m : Int)) := hb
        have r0 : x2.drew.cell? ⟨R, 0, none⟩ = some (.slice A3 (acc.map newPe).length c3) := by simp [World.cell?, k1]
        have HK1 := Lib.hid k1
        clear k1 k2 hb HR HB HD
        refine region_last 14 (.take 0 (.take 1 (.take 2 (.take 3 (.take 4 (.take 5 (.take 6 (.take 7 (.take 8 (.take 9 (.one 10 (.one 11 (.one 12 (.take 13 (.one 14 .done)))))))))))))))
          (fun y => y.cell? ⟨R, 0, none⟩ = some (.slice A3 (acc.map newPe).length c3) ∧ y.cell? ⟨g, o + i, none⟩ = some (.int .u8 (m : Int))) (by kernel_rfl) (by kernel_rfl) (by kernel_rfl) (by kernel_rfl) ⟨r0, hb3⟩ ?_
        have HS3 : Hid (x2.drew.cell? ⟨R, 0, none⟩ = some (.slice A3 (acc.map newPe).length c3) ∧ x2.drew.cell? ⟨g, o + i, none⟩ = some (.int .u8 (m : Int))) := Lib.hid ⟨r0, hb3⟩
        clear r0 hb3
        generalize x2.drew = x3 at *
        generalize hlen : (acc.map newPe).length = len at *
        have HLEN := Lib.hid hlen
        clear hlen
        iterate 10 (refine TreeL.take (v := ?_) (by kernel_rfl) rfl (by rfl) ?_ ?_; rotate_left 1; (focus (intro x hx; go_simp <;> (first | with_reducible rfl | rw [if_pos (by omega)]))); simp only [Act.put, List.setIfInBounds_toArray, List.set_cons_zero, List.set_cons_succ])
        refine TreeL.one (by decide) rfl (fun K hK => ?_)
        rw [if_pos (by rfl)]
        refine wp_onePeer (.tmp 43) rfl (e := newPe m) rfl ?_
        have hb4 := new_below x3 (.cells (pc1 (newPe m)).toArray 42)
        have HR4 := Lib.hid (HR3.out.step hb4)
        have HB4 := Lib.hid (HB3.out.trans (hb4.mono HB3.out.size))
        have HO4 := Lib.hid (own_ft (B := 0) (T := []) HOW.out (Ft.of_below hb4) (by simp))
        have HK4 : Hid _ := Lib.hid ((hb4.block R (Array.getElem?_eq_some_iff.1 HK1.out).1).trans HK1.out)
        have HH4 : Hid (Holds (x3.alloc (.cells (pc1 (newPe m)).toArray 42)) x3.heap.size (some ⟨x3.heap.size, 0, none⟩) (pc1 (newPe m))) := Lib.hid (Holds.of_row (heap_alloc_new x3 _))
        have HS4 : Hid ((x3.alloc (.cells (pc1 (newPe m)).toArray 42)).cell? ⟨R, 0, none⟩ = some (.slice A3 len c3) ∧ (x3.alloc (.cells (pc1 (newPe m)).toArray 42)).cell? ⟨g, o + i, none⟩ = some (.int .u8 (m : Int))) :=
          Lib.hid ⟨(hb4.cell (p := ⟨R, 0, none⟩) (World.block_lt_of_cell? _ _ HS3.out.1)).trans HS3.out.1, (hb4.cell (p := ⟨g, o + i, none⟩) (World.block_lt_of_cell? _ _ HS3.out.2)).trans HS3.out.2⟩
        refine hK.out _ _ _ (fun x hx => hx) HS4.out ?_
        clear hK K hb4 HR3 HB3 HOW HK1 HS3
        simp only [Act.put, List.setIfInBounds_toArray, List.set_cons_zero, List.set_cons_succ]
        generalize x3.alloc (.cells (pc1 (newPe m)).toArray 42) = x4 at *
        generalize x3.heap.size = G4 at *
        obtain ⟨i0, hi0, hz0, hz1, hz2⟩ := info_parts info_peer9
        refine TreeL.one (by decide) rfl (fun K hK => ?_)
        rw [if_pos (by rfl)]
        refine wp_append_wide (.tmp 38) (.tmp 44) 38 rfl R 42 i0 (.agg #[.int .u8 0, .bool false, .int .i64 0]) 3 16 Try.underlying38 hi0 hz0 hz1 hz2 rfl (by decide) _ len (pcs (acc.map newPe)) rfl HO4.out G4 (some ⟨G4, 0, none⟩) 1 1 (pc1 (newPe m)) rfl rfl HH4.out (by intro u hu; simp [pc1] at hu; rcases hu with rfl | rfl | rfl <;> rfl) ?_ ?_ ?_ ?_
        · have h1 := HLEN.out; have h2 := HAL.out; rw [List.length_map] at h1; unfold maxLen; omega
        · have h1 := HLEN.out; have h2 := HAL.out; rw [List.length_map] at h1; omega
        · exact Nat.le_of_lt (Array.getElem?_eq_some_iff.1 HK4.out).1
        intro A5 c5 x5 ho5 hg5
        have hft5 := ft_grown HO4.out hg5
        have HK5 := Lib.hid (hft5.keep HK4.out (by decide))
        have HO5 := Lib.hid ho5
        have HB5 : Hid (Below w.heap.size w x5) := by
          have hbx := hft5.below (Nat.le_of_lt (Array.getElem?_eq_some_iff.1 HK4.out).1)
          rw [← HRE.out] at hbx
          exact HB4.out.trans hbx
        have HS5 : Hid (x5.cell? ⟨R, 0, none⟩ = some (.slice A3 len c3) ∧ x5.cell? ⟨g, o + i, none⟩ = some (.int .u8 (m : Int))) :=
          Lib.hid ⟨by simp [World.cell?, HK5.out], (World.cell?_of_block (hft5.block g (World.block_lt_of_cell? _ _ HS4.out.2) (.inl HGW.out))).trans HS4.out.2⟩
        refine hK.out _ _ _ (fun x hx => hx) HS5.out ?_
        clear hK K ho5 hg5 hft5 HS4 HB4 HK4 HO4 HR4 HH4 hi0 hz0 hz1 hz2
        simp only [Act.put, List.setIfInBounds_toArray, List.set_cons_zero, List.set_cons_succ]
        refine TreeL.one (by decide) rfl (fun K hK => ?_)
        go_simp
        refine hK.out _ _ _ (fun x hx => hx) HS5.out ?_
        clear hK K
        iterate 1 (refine TreeL.take (v := ?_) (by kernel_rfl) rfl (by rfl) ?_ ?_; rotate_left 1; (focus (intro x hx; go_simp <;> (first | with_reducible rfl | rw [if_pos (by omega)]))); simp only [Act.put, List.setIfInBounds_toArray, List.set_cons_zero, List.set_cons_succ])
        refine TreeL.last rfl (fun K hK => ?_)
        have g4 := HS5.out.1
        have g5 : x5.frozen? ⟨R, 0, none⟩ = false := by simp [World.frozen?, HK5.out]
        go_simp
        refine hK.out _ _ (NoPanic.normal ?_)
        have HRR : Hid (Rn (x5.setCell ⟨R, 0, none⟩ (.slice A5 (len + 1) c5)) R ((newN (l.take (i + 1))).map newPe)) := by
          obtain ⟨q1, q2⟩ := put_row (i := 0) (v := .slice A5 (len + 1) c5) HK5.out
          have hft : Ft 0 [40] x5 (x5.setCell ⟨R, 0, none⟩ (.slice A5 (len + 1) c5)) := Ft.of_ch q2 (fun y hy _ => by simp at hy; subst hy; exact ⟨Nat.zero_le _, _, _, _, HK5.out, by simp⟩)
          have e1 : (newN (l.take (i + 1))).map newPe = acc.map newPe ++ [newPe m] := by rw [HE2.out]; simp
          have e2 : ((newN (l.take (i + 1))).map newPe).length = len + 1 := by rw [e1, List.length_append, HLEN.out]; rfl
          refine ⟨A5, c5, ?_, ?_⟩
          · rw [e2, q1]; rfl
          · have := own_ft HO5.out hft (by decide)
            rw [e2, e1, pcs_append]
            exact this
        have HBB : Hid (Below w.heap.size w (x5.setCell ⟨R, 0, none⟩ (.slice A5 (len + 1) c5))) := by
          obtain ⟨_, q2⟩ := put_row (i := 0) (v := .slice A5 (len + 1) c5) HK5.out
          exact HB5.out.trans (q2.belowAt (by intro x hx; simp at hx; subst hx; exact Nat.le_of_eq HRE.out) HB5.out.size)
        clear hK K g4 g5 HS5 HK5 HO5 HB5
        go_wp2
        go_roundw
        case rel => exact ⟨i + 1, by omega, by go_num, HRR, HBB⟩
        case measure => simp [intOf]; omega
    · have hkn : n = i := by omega
      subst hkn
      have HRR : Hid (R9p x R R (newP l)) := by
        have := HR.out.r9
        rw [List.take_of_length_le (by rw [HN.out]; exact Nat.le_refl _)] at this
        exact this
      go_wp2
      go_ret
      have hb := HB.out
      rw [HRE.out] at hb ⊢
      exact ⟨rfl, HRR.out, hb⟩

end Go.Proofs.Ytkghbdikbbeoaaa
