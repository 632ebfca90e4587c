/-
  lamplightlaw04.FrameOwn: whatever it is asked, true; nothing that was there is turned.
-/
import Derived.Test.YtimahjgmapdjdaaDoorFrameCutsWalk
namespace Go.Proofs.YtimahjgmapdjdaaDoor
set_option linter.unusedVariables false
set_option linter.unusedSimpArgs false
open Go.RowKit

/-- The frame, copied: its cells in the first new block, its bytes L in memory of their own; the table. -/
structure So (w : World) (g2 : Nat) (A2 : Option Addr) (L : List UInt8) (cs : Array Value) (x : World) : Prop where
  tab : Tab x
  holds : Holds x g2 A2 (bcs L)
  far : 0 < L.length → w.heap.size < g2
  below : Below w.heap.size w x
  box : x.heap[w.heap.size]? = some (.cells cs 24 (0, 0))
  pos : 0 < w.heap.size
theorem So.step {w x y : World} {g2 : Nat} {A2 : Option Addr} {L : List UInt8} {cs : Array Value} (h : So w g2 A2 L cs x) (hb : Below x.heap.size x y) : So w g2 A2 L cs y :=
  ⟨h.tab.keep (Ch.of_below hb) (by simp), h.holds.keep (Ch.of_below hb) (by simp), h.far, h.below.trans (hb.mono h.below.size), (hb.block _ (Array.getElem?_eq_some_iff.1 h.box).1).trans h.box, h.pos⟩
theorem So.alloc {w x : World} {g2 : Nat} {A2 : Option Addr} {L : List UInt8} {cs : Array Value} (h : So w g2 A2 L cs x) (o : Obj) : So w g2 A2 L cs (x.alloc o) := h.step (new_below _ _)
/-- Behind a change of a row that is neither. -/
theorem So.turn {w x y : World} {g2 X : Nat} {A2 : Option Addr} {L : List UInt8} {cs : Array Value} (h : So w g2 A2 L cs x) (hc : Ch [X] x y) (hX : w.heap.size < X) (hg : 0 < L.length → g2 ≠ X) : So w g2 A2 L cs y := by
  have h0 := h.pos
  refine ⟨h.tab.keep hc (by simp; omega), h.holds.keep hc (fun hp => ?_), h.far, h.below.trans (hc.belowAt (by simp; omega) h.below.size), (hc.block _ (Array.getElem?_eq_some_iff.1 h.box).1 (by simp; omega)).trans h.box, h0⟩
  have := hg (by simpa [bcs] using hp)
  simpa using this
theorem row_set {x : World} {X : Nat} {l : List UInt8} (h : Row x X l) (k : Nat) (b : UInt8) : Row (x.setCell ⟨X, k, none⟩ (.int .u8 (b.toNat : Int))) X (l.set k b) := by
  have := heap_setCell_same x X k _ _ (.int .u8 (b.toNat : Int)) h
  unfold Row
  rw [this]
  congr 2
  simp [bcs, List.map_set]
theorem row_frozen {x : World} {X : Nat} {l : List UInt8} (h : Row x X l) (k : Nat) : x.frozen? ⟨X, k, none⟩ = false := frozen_of_row _ _ _ _ _ h

theorem keep3 {w x : World} {g6 Z Y j : Nat} {A6 : Option Addr} {L : List UInt8} {cs : Array Value} {t : TypeId} (h : Holds x g6 A6 (bcs L) ∧ x.heap[Z]? = some (.cells cs t (0, 0)) ∧ Below w.heap.size w x) (hg : 0 < L.length → g6 ≠ Y) (hZ : Y < Z) (hw : w.heap.size < Y) (v : Value) :
    Holds (x.setCell ⟨Y, j, none⟩ v) g6 A6 (bcs L) ∧ (x.setCell ⟨Y, j, none⟩ v).heap[Z]? = some (.cells cs t (0, 0)) ∧ Below w.heap.size w (x.setCell ⟨Y, j, none⟩ v) := by
  have hch : Ch [Y] x (x.setCell ⟨Y, j, none⟩ v) := (Ch.refl [Y] x).setCell (by simp) v
  refine ⟨h.1.keep hch (fun hp => ?_), (hch.block _ (Array.getElem?_eq_some_iff.1 h.2.1).1 (by simp; omega)).trans h.2.1, h.2.2.trans (hch.belowAt (by simp; omega) h.2.2.size)⟩
  have := hg (by simpa [bcs] using hp)
  simpa using this

set_option maxHeartbeats 8000000 in
set_option maxRecDepth 100000 in
theorem frameown_walk (g a k s q c n cap : Nat) (A : Option Addr) (l : List UInt8) (w : World) (ht : Tab w) (h : Holds w g A (bcs l)) (hn : l.length = n) (hc : n ≤ cap) (hb : a < 256 ∧ k < 256 ∧ s < 256 ∧ q < 256 ∧ c < 256) :
    Calls Tryd.prog 7 #[.agg #[.int .u8 a, .int .u8 k, .int .u8 s, .int .u8 q, .int .u8 c, .slice A n cap]] w fun e w' => e = .returned (.bool true) ∧ Below w.heap.size w w' := by
  have hs := hb.2.2.1
  have HFT := Lib.hid hb
  have H0 := Lib.hid (Sl.start #[.int .u8 a, .int .u8 k, .int .u8 s, .int .u8 q, .int .u8 c, .slice A n cap] ht h)
  have HN := Lib.hid hn
  have HP := Lib.hid ht.1
  clear h ht hn hb
  go_enter Tryd.func7, Tryd.ntmps7
  go_wp2_with fail
  refine (shown_any _ H0.out.tab).mono ?_
  rintro e x1 ⟨rfl, hb⟩
  have H1 := Lib.hid (H0.out.step hb)
  clear hb H0
  obtain ⟨b0, b1, b2, b3, b4, b5, -⟩ := row6_facts H1.out.box
  go_wp2_with fail
  refine (few_on H1.out.holds HN.out hc).mono ?_
  rintro e x2 ⟨A2, m, c2, rfl, ho, hb⟩
  have H2 := Lib.hid (H1.out.step hb)
  obtain ⟨g2, hg2, hge⟩ := ho.holds
  have HO := Lib.hid hg2
  have HM := Lib.hid ho.len
  have HG : Hid (0 < (l.take 50).length → w.heap.size < g2) := fun hp => by
    have h1 := hge (by rw [← ho.len]; exact hp)
    have h2 := (Array.getElem?_eq_some_iff.1 H1.out.box).1
    omega
  have hmc := ho.cap
  clear hb H1 ho hg2 b0 b1 b2 b3 b4 b5 hge
  generalize l.take 50 = L at *
  obtain ⟨b0, b1, b2, b3, b4, b5, e0, e1, e2, e3, e4, e5⟩ := row6_facts H2.out.box
  go_upto_region 3 with fail
  have hch := ch6 x2 w.heap.size (.int .u8 a) (.int .u8 k) (.int .u8 s) (.int .u8 q) (.int .u8 c) (.slice A2 m c2)
  have H3 : Hid (So w g2 A2 L #[.int .u8 a, .int .u8 k, .int .u8 s, .int .u8 q, .int .u8 c, .slice A2 m c2] (put6 x2 w.heap.size (.int .u8 a) (.int .u8 k) (.int .u8 s) (.int .u8 q) (.int .u8 c) (.slice A2 m c2))) :=
    ⟨H2.out.tab.keep hch (by have := HP.out; simp; omega), HO.out.keep hch (fun hp => by have := HG.out (by simpa [bcs] using hp); simp; omega), HG.out, below6 H2.out.below, set6 H2.out.box, HP.out⟩
  clear hch H2 HO b0 b1 b2 b3 b4 b5 e0 e1 e2 e3 e4 e5
  unfold put6 at H3
  generalize ((((((x2.setCell ⟨w.heap.size, 0, none⟩ (.int .u8 a)).setCell ⟨w.heap.size, 1, none⟩ (.int .u8 k)).setCell ⟨w.heap.size, 2, none⟩ (.int .u8 s)).setCell ⟨w.heap.size, 3, none⟩ (.int .u8 q)).setCell ⟨w.heap.size, 4, none⟩ (.int .u8 c)).setCell ⟨w.heap.size, 5, none⟩ (.slice A2 m c2)) = x3 at *
  obtain ⟨b0, b1, b2, b3, b4, b5, -⟩ := row6_facts H3.out.box
  have hcv := convert_holds (c := c2) H3.out.holds HM.out
  cases hr : rightB a k q c m
  · have HR := Lib.hid hr
    clear hr
    go_wp2_with fail
    refine (encode_no (g := 0) HR.out).mono ?_
    rintro e x4 ⟨rfl, hb⟩
    have H4 := Lib.hid (H3.out.step hb)
    clear hb H3 b0 b1 b2 b3 b4 b5 hcv
    obtain ⟨b0, b1, b2, b3, b4, b5, -⟩ := row6_facts H4.out.box
    have hcn := convert_holds (c := 0) (n := 0) (l := []) (Holds.nil x4 0 none) rfl
    go_wp2
    go_loop [8] (fun i => i = .int .i64 0) (fun _ => 0)
    case atStart => rfl
    case round =>
      subst hrel
      go_wp2_with fail
      refine (encode_no (g := 0) HR.out).mono ?_
      rintro e x5 ⟨rfl, hb⟩
      have H5 := Lib.hid (H4.out.step hb)
      clear hb H4 b0 b1 b2 b3 b4 b5 hcn
      obtain ⟨b0, b1, b2, b3, b4, b5, -⟩ := row6_facts H5.out.box
      have hcn := convert_holds (c := 0) (n := 0) (l := []) (Holds.nil x5 0 none) rfl
      have hcv := convert_holds (c := c2) H5.out.holds HM.out
      go_wp2
      go_ret
      exact ⟨rfl, H5.out.below⟩
  · have HR := Lib.hid hr
    clear hr
    go_wp2_with fail
    refine (encode_yes H3.out.tab H3.out.holds HM.out HR.out hs).mono ?_
    rintro e x4 ⟨X, M, hX, hM, rfl, hrow, hb⟩
    have H4 := Lib.hid (H3.out.step hb)
    have HX : Hid (w.heap.size < X) := by
      have h2 := (Array.getElem?_eq_some_iff.1 H3.out.box).1
      show _ < _
      omega
    have HGX : Hid (0 < L.length → g2 ≠ X) := fun hp => by
      have h1 := (H3.out.holds (by rw [bcs_length]; exact hp)).1
      omega
    have HW := Lib.hid hrow
    clear hb hrow hX hcv H3 b0 b1 b2 b3 b4 b5
    have HF : Hid ((Fr.mk a k s q c L).Fits ∧ (Fr.mk a k s q c L).right = true) := ⟨⟨HFT.out.1, HFT.out.2.1, HFT.out.2.2.1, HFT.out.2.2.2.1, HFT.out.2.2.2.2⟩, by unfold Fr.right; rw [HM.out]; exact HR.out⟩
    have hM9 : 9 ≤ M ∧ M ≤ 1000 := by
      rw [hM, enc_length]
      have h1 := mid_le (Fr.mk a k s q c L)
      have h2 := (rightB_iff.1 HR.out).2.2.2.2
      have h3 := mid_ge (Fr.mk a k s q c L)
      have h4 : (Fr.mk a k s q c L).b.length = m := HM.out
      omega
    have HML := Lib.hid hM
    have hcx := convert_holds (c := M) HW.out.holds HML.out.symm
    obtain ⟨b0, b1, b2, b3, b4, b5, -⟩ := row6_facts H4.out.box
    generalize hE : (Fr.mk a k s q c L).enc = E at *
    have HE := Lib.hid hE
    clear hE hM
    go_wp2
    clear b0 b1 b2 b3 b4 b5 hcx
    go_loopw [8] (fun i wr => ∃ j : Nat, j ≤ M ∧ i = .int .i64 j ∧ ∃ ys : List UInt8, Hid (Row wr X ys) ∧ Hid (ys.length = M) ∧ Hid (So w g2 A2 L #[.int .u8 a, .int .u8 k, .int .u8 s, .int .u8 q, .int .u8 c, .slice A2 m c2] wr)) (fun i _ => M - (intOf i).toNat)
    case atStart => exact ⟨0, by omega, rfl, E, HW, HML.out.symm, H4⟩
    case round =>
      obtain ⟨j, hj, rfl, ys, HY, HYL, HSo⟩ := hrel
      by_cases hlt : j < M
      · have hjl : j < ys.length := by rw [HYL.out]; exact hlt
        have hcl := HY.out.cell j hjl
        have hfz := row_frozen HY.out j
        have HY2 : Hid (Row (World.setCell _ ⟨X, j, none⟩ (.int .u8 33)) X (ys.set j 33)) := row_set HY.out j 33
        have HS2 := Lib.hid (HSo.out.turn ((Ch.refl [X] _).setCell (p := ⟨X, j, none⟩) (by simp) (.int .u8 33)) HX.out HGX.out)
        have hlt' : (j : Int) < (M : Int) := by omega
        generalize ys[j].toNat = bj at *
        clear HY HSo
        go_wp2
        go_roundw
        case rel => exact ⟨j + 1, by omega, by go_num, _, HY2, (by show _ = _; rw [List.length_set]; exact HYL.out), HS2⟩
        case measure => simp [intOf]; omega
      · have hjM : j = M := by omega
        subst hjM
        clear HY HYL H4 HW
        obtain ⟨b0, b1, b2, b3, b4, b5, -⟩ := row6_facts HSo.out.box
        go_wp2_with fail
        refine (encode_yes HSo.out.tab HSo.out.holds HM.out HR.out hs).mono ?_
        rintro e x5 ⟨Y, M', hYX, hM', rfl, hrow, hb⟩
        rw [HE.out] at hM' hrow
        obtain rfl : M' = j := hM'.trans HML.out.symm
        have H5 := Lib.hid (HSo.out.step hb)
        have HYw : Hid (w.heap.size < Y) := by
          have h2 := (Array.getElem?_eq_some_iff.1 HSo.out.box).1
          show _ < _
          omega
        have HW5 := Lib.hid hrow
        clear hb hrow hYX HSo hM' b0 b1 b2 b3 b4 b5
        obtain ⟨b0, b1, b2, b3, b4, b5, -⟩ := row6_facts H5.out.box
        have hcy := convert_holds (c := M') HW5.out.holds HML.out.symm
        have hcv := convert_holds (c := c2) H5.out.holds HM.out
        go_wp2_with fail
        have HMID : Hid ((Fr.mk a k s q c L).mid.length = M' - 1 - 1) := by
          have h1 := enc_length (Fr.mk a k s q c L)
          have h2 := HML.out
          rw [HE.out] at h1
          show _ = _
          omega
        refine (decode_on H5.out.tab (by have h1 := HW5.out; rw [← HE.out] at h1; exact enc_mid_holds h1) HMID.out (by omega) (by omega)).mono ?_
        rintro e x6 ⟨f, er, A6, m6, c6, g6, hf, her, hm6, rfl, hh6, hg6, hb⟩
        rw [decE_mid _ HF.out.1 HF.out.2] at her
        rw [decF_mid _ HF.out.1 HF.out.2] at hf
        subst her hf
        obtain rfl : m6 = m := hm6.trans HM.out
        have HG6 : Hid (0 < L.length → g6 ≠ Y) := fun hp => by
          have h1 := hg6 (by rw [← HM.out]; exact hp)
          have h2 := HW5.out.lt
          omega
        have hb' := hb.trans ((new_below x6 (.cells #[.int .u8 (a : Int), .int .u8 (k : Int), .int .u8 (s : Int), .int .u8 (q : Int), .int .u8 (c : Int), .slice A6 m6 c6] 24)).mono hb.size)
        have HZ := Lib.hid (heap_alloc_new x6 (.cells #[.int .u8 (a : Int), .int .u8 (k : Int), .int .u8 (s : Int), .int .u8 (q : Int), .int .u8 (c : Int), .slice A6 m6 c6] 24))
        have HZY : Hid (Y < x6.heap.size) := Nat.lt_of_lt_of_le HW5.out.lt hb.size
        have HH6 := Lib.hid (hh6.keep ((Ch.refl [] x6).alloc (.cells #[.int .u8 (a : Int), .int .u8 (k : Int), .int .u8 (s : Int), .int .u8 (q : Int), .int .u8 (c : Int), .slice A6 m6 c6] 24)) (by simp))
        have HW6 := Lib.hid (HW5.out.keep (Ch.of_below hb') (by simp))
        have HB6 := Lib.hid (H5.out.below.trans (hb'.mono H5.out.below.size))
        clear hb hb' hm6 hh6 hg6 HW5 H5 b0 b1 b2 b3 b4 b5 hcy hcv
        go_wp2
        generalize (x6.alloc (.cells #[.int .u8 (a : Int), .int .u8 (k : Int), .int .u8 (s : Int), .int .u8 (q : Int), .int .u8 (c : Int), .slice A6 m6 c6] 24)) = x7 at *
        generalize x6.heap.size = Z at *
        go_loopw [13] (fun i wr => ∃ j : Nat, j ≤ M' ∧ i = .int .i64 j ∧ ∃ ys : List UInt8, Hid (Row wr Y ys) ∧ Hid (ys.length = M') ∧ Hid (Holds wr g6 A6 (bcs L) ∧ wr.heap[Z]? = some (.cells #[.int .u8 (a : Int), .int .u8 (k : Int), .int .u8 (s : Int), .int .u8 (q : Int), .int .u8 (c : Int), .slice A6 m6 c6] 24 (0, 0)) ∧ Below w.heap.size w wr)) (fun i _ => M' - (intOf i).toNat)
        case atStart => exact ⟨0, by omega, rfl, E, HW6, HML.out.symm, ⟨HH6.out, HZ.out, HB6.out⟩⟩
        case round =>
          obtain ⟨j, hj, rfl, ys, HY, HYL, HSo⟩ := hrel
          by_cases hlt : j < M'
          · have hjl : j < ys.length := by rw [HYL.out]; exact hlt
            have hcl := HY.out.cell j hjl
            have hfz := row_frozen HY.out j
            have HY2 : Hid (Row (World.setCell _ ⟨Y, j, none⟩ (.int .u8 33)) Y (ys.set j 33)) := row_set HY.out j 33
            have HS2 := Lib.hid (keep3 (j := j) HSo.out HG6.out HZY.out HYw.out (.int .u8 33))
            have hlt' : (j : Int) < (M' : Int) := by omega
            generalize ys[j].toNat = bj at *
            clear HY HSo
            go_wp2
            go_roundw
            case rel => exact ⟨j + 1, by omega, by go_num, _, HY2, (by show _ = _; rw [List.length_set]; exact HYL.out), HS2⟩
            case measure => simp [intOf]; omega
          · have hjM : j = M' := by omega
            subst hjM
            obtain ⟨b0, b1, b2, b3, b4, b5, -⟩ := row6_facts HSo.out.2.1
            have hcz := convert_holds (c := c6) HSo.out.1 HM.out
            go_wp2
            go_ret
            exact ⟨rfl, HSo.out.2.2⟩

end Go.Proofs.YtimahjgmapdjdaaDoor
