/-
  The landed module's bytes: CommandBytes, EventBytes, ParseCommand, ParseEvent: what they answer. .. ParseCommand, ParseEvent. .. parse, ParseCommand, ParseEvent: what they answer.
-/
import Derived.Test.YtdcnmbglbopgdaaModC
import Derived.Test.YtdcnmbglbopgdaaFWtr
import Derived.Test.YtdcnmbglbopgdaaModKa
import Derived.Laws.ResultCell
import Derived.Laws.Rows
namespace Go.Proofs.Ytdcnmbglbopgdaa
set_option linter.unusedVariables false
set_option linter.unusedSimpArgs false
open Go.RowKit

set_option maxHeartbeats 400000 in
theorem kwu16_any (W g : Nat) (l : List UInt8) (x : Int) (w : World) (h : Wtr w W g l) (hl : l.length ≤ 549755813888) (hx0 : 0 ≤ x) (hx1 : x < 65536) :
    Calls Try.prog 57 #[.pointer (some ⟨W, 0, none⟩), .int .u16 x] w (WtPost w W g (l ++ be16 x.toNat)) := by
  have HW := Lib.hid h
  clear h
  have HC : Hid (#[Value.int .u8 (x / 256), Value.int .u8 (x % 256)] = (bcs (be16 x.toNat)).toArray) := by
    show _ = _
    simp [be16, bcs]
    omega
  go_enter Try.func57, Try.ntmps57
  go_wp2_with (go_at_call 68; refine (put_new W g 2 _ l (be16 x.toNat) w HW.out HC.out rfl (by omega)).mono ?_; rintro e w1 ⟨rfl, g1, hg1, hw1, hc1⟩)
  go_ret
  exact ⟨rfl, g1, hg1, hw1, hc1⟩

abbrev wcs3 (k t q : Nat) : Array Value := #[.int .u8 (k : Int), .int .u16 (t : Int), .int .u16 (q : Int)]
/-- While words are written: the words at X, the writer at W, what it has. -/
structure Wb (w : World) (X W k t q : Nat) (l : List UInt8) (x : World) : Prop where
  box : x.heap[X]? = some (.cells (wcs3 k t q) 102 (0, 0))
  below : Below w.heap.size w x
  le : w.heap.size ≤ X
  wt : ∃ g, Wtr x W g l ∧ X < g
  ltW : X < W
theorem Wb.cells {w x : World} {X W k t q : Nat} {l : List UInt8} (h : Wb w X W k t q l x) : x.cell? ⟨X, 0, none⟩ = some (.int .u8 (k : Int)) ∧ x.cell? ⟨X, 1, none⟩ = some (.int .u16 (t : Int)) ∧ x.cell? ⟨X, 2, none⟩ = some (.int .u16 (q : Int)) := by
  have hb := h.box
  refine ⟨?_, ?_, ?_⟩ <;> simp [World.cell?, hb]
theorem Wb.turn {w x y : World} {X W k t q g g' : Nat} {l l' : List UInt8} (h : Wb w X W k t q l x) (hX : X < g) (hw : Wtr y W g' l') (hg : g' = g ∨ x.heap.size ≤ g') (hc : Ch [W, g] x y) : Wb w X W k t q l' y := by
  have hl := h.le
  have hW := h.ltW
  have hx : X < x.heap.size := (Array.getElem?_eq_some_iff.1 h.box).1
  refine ⟨(hc.block X hx (by simp; omega)).trans h.box, ?_, hl, ⟨g', hw, by omega⟩, hW⟩
  exact h.below.trans ⟨hc.os, hc.tape, hc.output, hc.size, fun i hi => hc.block i (by have := h.below.size; omega) (by simp; omega)⟩
theorem ofNat_mod (n : Nat) : UInt8.ofNat (n % 256) = UInt8.ofNat n := by
  apply UInt8.toNat.inj
  simp
theorem txt5_be (k t q : Nat) : txt5 k t q = ((([] ++ be8 k) ++ be16 t) ++ be16 q) := by
  simp only [txt5, be8, be16, ofNat_mod]
  rfl
theorem own_row {w : World} {B g : Nat} {l : List UInt8} {n : Nat} (h : Row w g l) (hB : B ≤ g) (hn : l.length = n) (hm : n ≤ maxLen) : w.ownsRow B 5 1 (.slice (some ⟨g, 0, none⟩) n n) n (bcs l) := by
  subst hn
  refine ⟨by simp [bcs_length], .inr ⟨g, l.length, _, rfl, hB, h, Nat.le_refl _, hm, by simp [bcs_length], ?_⟩⟩
  simp [bcs_length, List.take_of_length_le]
def FivePost (w : World) (k t q : Nat) (e : Ending) (y : World) : Prop := ∃ A c, e = .returned (.slice A 5 c) ∧ y.ownsRow w.heap.size 5 1 (.slice A 5 c) 5 (bcs (txt5 k t q)) ∧ Below w.heap.size w y

set_option maxRecDepth 20000 in
set_option maxHeartbeats 3200000 in
theorem kwords_on {w : World} {k t q : Nat} (hk : k < 256) (ht : t < 65536) (hq : q < 65536) : Calls Try.prog 43 #[.agg (wcs3 k t q)] w (FivePost w k t q) := by
  have HP : Hid (∀ e y, (∃ A c, e = .returned (.slice A 5 c) ∧ y.ownsRow w.heap.size 5 1 (.slice A 5 c) 5 (bcs (txt5 k t q)) ∧ Below w.heap.size w y) → FivePost w k t q e y) := fun _ _ h => h
  have HK : Hid (k < 256 ∧ t < 65536 ∧ q < 65536) := ⟨hk, ht, hq⟩
  have HT := Lib.hid (txt5_be k t q)
  have HT5 := Lib.hid (txt5_len k t q)
  clear hk ht hq
  generalize FivePost w k t q = Q at *
  generalize txt5 k t q = L at *
  have hb1 := new_below w (.cells (wcs3 k t q) 102)
  have H1 : Hid ((w.alloc (.cells (wcs3 k t q) 102)).heap[w.heap.size]? = some (.cells (wcs3 k t q) 102 (0, 0)) ∧ Below w.heap.size w (w.alloc (.cells (wcs3 k t q) 102)) ∧ w.heap.size < (w.alloc (.cells (wcs3 k t q) 102)).heap.size) := Lib.hid ⟨heap_alloc_new w _, hb1, by simp⟩
  clear hb1
  go_enter Try.func43, Try.ntmps43
  go_upto_region 1 with fail
  generalize hx0 : w.alloc (.cells (wcs3 k t q) 102) = x0 at *
  clear hx0
  obtain ⟨X, hX⟩ : ∃ X, w.heap.size = X := ⟨_, rfl⟩
  have HX : Hid (w.heap.size ≤ X) := Lib.hid (by omega)
  have H2 : Hid (x0.drew.heap[X]? = some (.cells (wcs3 k t q) 102 (0, 0)) ∧ Below w.heap.size w x0.drew ∧ X < x0.drew.heap.size) := by
    have h := H1.out
    refine ⟨?_, h.2.1.trans ((drew_below x0).mono h.2.1.size), ?_⟩
    · rw [← hX]; exact h.1
    · rw [← hX]; exact h.2.2
  rw [hX]
  clear H1 hX
  have HSS : Hid (∀ y : World, y.heap[X]? = some (.cells (wcs3 k t q) 102 (0, 0)) → y.cell? ⟨X, 0, none⟩ = some (.int .u8 (k : Int)) ∧ y.cell? ⟨X, 1, none⟩ = some (.int .u16 (t : Int)) ∧ y.cell? ⟨X, 2, none⟩ = some (.int .u16 (q : Int))) := by
    intro y hy
    refine ⟨?_, ?_, ?_⟩ <;> simp [World.cell?, hy]
  refine region_plan [(true, 1), (true, 2), (true, 4), (true, 5), (true, 7), (true, 8), (false, 0), (false, 3), (false, 6), (false, 9), (false, 10), (true, 11)]
    (fun y => y.cell? ⟨X, 0, none⟩ = some (.int .u8 (k : Int)) ∧ y.cell? ⟨X, 1, none⟩ = some (.int .u16 (t : Int)) ∧ y.cell? ⟨X, 2, none⟩ = some (.int .u16 (q : Int))) (by kernel_rfl) (by kernel_rfl) (by kernel_rfl) rfl (HSS.out _ H2.out.1) ?_
  generalize x0.drew = x1 at *
  iterate 6 (refine Plan.take (v := ?_) rfl (by rfl) ?_ ?_; rotate_left 1; (focus (intro x hx; go_simp <;> (first | with_reducible rfl | rw [if_pos (by omega)]))); simp only [Act.put, List.setIfInBounds_toArray, List.set_cons_zero, List.set_cons_succ])
  refine Plan.loud rfl (fun K hK => ?_)
  go_simp
  have hb2 := new_below x1 (.cells #[.slice none 0 0] 123)
  have H3 : Hid (Wb w X x1.heap.size k t q [] (x1.alloc (.cells #[.slice none 0 0] 123))) := by
    have h := H2.out
    refine ⟨(hb2.block X h.2.2).trans h.1, h.2.1.trans (hb2.mono h.2.1.size), HX.out, ⟨x1.heap.size, ⟨.slice none 0 0, heap_alloc_new x1 _, World.ownsRow_nil _ _ _ _, .inl ⟨rfl, rfl⟩⟩, h.2.2⟩, h.2.2⟩
  refine hK.out _ _ _ (fun x hx => hx) (HSS.out _ H3.out.box) ?_
  clear hK K hb2 H2 HX
  generalize x1.alloc (.cells #[.slice none 0 0] 123) = x2 at *
  generalize x1.heap.size = W at *
  refine Plan.loud rfl (fun K hK => ?_)
  go_simp
  obtain ⟨g, hg, hgX⟩ := H3.out.wt
  refine (wu8_any W g [] (k : Int) x2 hg (by simp) (by omega) (by have := HK.out.1; omega)).mono ?_
  rintro e x3 ⟨rfl, g3, hg3, hw3, hc3⟩
  have H4 := Lib.hid (H3.out.turn hgX hw3 hg3 hc3)
  refine hK.out _ _ _ (fun x hx => hx) (HSS.out _ H4.out.box) ?_
  clear hK K hg hgX hg3 hw3 hc3 H3
  rw [Int.toNat_natCast] at H4
  refine Plan.loud rfl (fun K hK => ?_)
  go_simp
  obtain ⟨g, hg, hgX⟩ := H4.out.wt
  refine (kwu16_any W g _ (t : Int) x3 hg (by simp [be8]) (by omega) (by have := HK.out.2.1; omega)).mono ?_
  rintro e x4 ⟨rfl, g3, hg3, hw3, hc3⟩
  have H5 := Lib.hid (H4.out.turn hgX hw3 hg3 hc3)
  refine hK.out _ _ _ (fun x hx => hx) (HSS.out _ H5.out.box) ?_
  clear hK K hg hgX hg3 hw3 hc3 H4
  rw [Int.toNat_natCast] at H5
  refine Plan.loud rfl (fun K hK => ?_)
  go_simp
  obtain ⟨g, hg, hgX⟩ := H5.out.wt
  refine (kwu16_any W g _ (q : Int) x4 hg (by simp [be8, be16]) (by omega) (by have := HK.out.2.2; omega)).mono ?_
  rintro e x5 ⟨rfl, g3, hg3, hw3, hc3⟩
  have H6 := Lib.hid (H5.out.turn hgX hw3 hg3 hc3)
  refine hK.out _ _ _ (fun x hx => hx) (HSS.out _ H6.out.box) ?_
  clear hK K hg hgX hg3 hw3 hc3 H5
  rw [Int.toNat_natCast, ← HT.out] at H6
  refine Plan.loud rfl (fun K hK => ?_)
  go_simp
  obtain ⟨g, hg, hgX⟩ := H6.out.wt
  refine (wdone_any W g _ x5 hg (by rw [HT5.out]; omega)).mono ?_
  rintro e x6 ⟨G, hG, rfl, hrow, hb6⟩
  rw [HT5.out]
  have HR := Lib.hid (own_row (B := w.heap.size) hrow (Nat.le_trans H6.out.below.size hG) HT5.out (by unfold maxLen; omega))
  have HB := Lib.hid (H6.out.below.trans (hb6.mono H6.out.below.size))
  refine hK.out _ _ _ (fun x hx => hx) (HSS.out _ ((hb6.block X (Array.getElem?_eq_some_iff.1 H6.out.box).1).trans H6.out.box)) ?_
  clear hK K hg hgX hrow hb6 H6 HSS HT HK hG
  iterate 1 (refine Plan.take (v := ?_) rfl (by rfl) ?_ ?_; rotate_left 1; (focus (intro x hx; go_simp <;> (first | with_reducible rfl | rw [if_pos (by omega)]))); simp only [Act.put, List.setIfInBounds_toArray, List.set_cons_zero, List.set_cons_succ])
  refine Plan.done ?_
  go_wp2
  exact HP.out _ _ ⟨_, _, rfl, HR.out, HB.out⟩

set_option maxRecDepth 20000 in
set_option maxHeartbeats 1600000 in
theorem kcbytes_on {w : World} {k t q : Nat} (hk : k < 256) (ht : t < 65536) (hq : q < 65536) : Calls Try.prog 24 #[.agg #[.int .u8 (k : Int), .int .u16 (t : Int), .int .u16 (q : Int)]] w (FivePost w k t q) := by
  have HP : Hid (∀ e y, (∃ A c, e = .returned (.slice A 5 c) ∧ y.ownsRow w.heap.size 5 1 (.slice A 5 c) 5 (bcs (txt5 k t q)) ∧ Below w.heap.size w y) → FivePost w k t q e y) := fun _ _ h => h
  have HK : Hid (k < 256 ∧ t < 65536 ∧ q < 65536) := ⟨hk, ht, hq⟩
  have HB := Lib.hid (new_below w (.cells (wcs3 k t q) 60))
  clear hk ht hq
  generalize FivePost w k t q = Q at *
  go_enter Try.func24, Try.ntmps24
  go_wp2_with fail
  refine (kwords_on HK.out.1 HK.out.2.1 HK.out.2.2).mono ?_
  rintro e y ⟨A, c, rfl, h1, h2⟩
  have H1 := Lib.hid (own_mono h1 HB.out.size)
  have H2 := Lib.hid (HB.out.trans (h2.mono HB.out.size))
  clear h1 h2 HB
  go_wp2
  exact HP.out _ _ ⟨_, _, rfl, H1.out, H2.out⟩
set_option maxRecDepth 20000 in
set_option maxHeartbeats 1600000 in
theorem kebytes_on {w : World} {k t q : Nat} (hk : k < 256) (ht : t < 65536) (hq : q < 65536) : Calls Try.prog 25 #[.agg #[.int .u8 (k : Int), .int .u16 (t : Int), .int .u16 (q : Int)]] w (FivePost w k t q) := by
  have HP : Hid (∀ e y, (∃ A c, e = .returned (.slice A 5 c) ∧ y.ownsRow w.heap.size 5 1 (.slice A 5 c) 5 (bcs (txt5 k t q)) ∧ Below w.heap.size w y) → FivePost w k t q e y) := fun _ _ h => h
  have HK : Hid (k < 256 ∧ t < 65536 ∧ q < 65536) := ⟨hk, ht, hq⟩
  have HB := Lib.hid (new_below w (.cells (wcs3 k t q) 61))
  clear hk ht hq
  generalize FivePost w k t q = Q at *
  go_enter Try.func25, Try.ntmps25
  go_wp2_with fail
  refine (kwords_on HK.out.1 HK.out.2.1 HK.out.2.2).mono ?_
  rintro e y ⟨A, c, rfl, h1, h2⟩
  have H1 := Lib.hid (own_mono h1 HB.out.size)
  have H2 := Lib.hid (HB.out.trans (h2.mono HB.out.size))
  clear h1 h2 HB
  go_wp2
  exact HP.out _ _ ⟨_, _, rfl, H1.out, H2.out⟩
end Go.Proofs.Ytdcnmbglbopgdaa
namespace Go.Proofs.Ytdcnmbglbopgdaa
open Go.RowKit

theorem ku8_on {w : World} {R g : Nat} {k : UInt8} {l : List UInt8} (h : Rdr w R g (k :: l)) :
    Calls Try.prog 61 #[.pointer (some ⟨R, 0, none⟩)] w fun e y => e = .returned (.tuple #[.int .u8 (k.toNat : Int), .int .i64 0]) ∧ Rdr y R g l ∧ Ch [R] w y := by
  refine (u8_ok R g _ w h (by simp)).mono ?_
  rintro e y ⟨rfl, h1, h2⟩
  refine ⟨?_, h1, h2⟩
  simp [num]
set_option maxHeartbeats 400000 in
theorem ku16_on {w : World} {R g M : Nat} {a b : UInt8} {l : List UInt8} (h : Rdr w R g (a :: b :: l)) (hM : a.toNat * 256 + b.toNat = M) :
    Calls Try.prog 62 #[.pointer (some ⟨R, 0, none⟩)] w fun e y => e = .returned (.tuple #[.int .u16 (M : Int), .int .i64 0]) ∧ Rdr y R g l ∧ Ch [R] w y := by
  have HR := Lib.hid h
  clear h
  have hN : num ((a :: b :: l).take 2) = a.toNat * 256 + b.toNat := by simp [num]
  have HN : Hid (num ((a :: b :: l).take 2) = M) := Lib.hid (hN.trans hM)
  have ha := a.toNat_lt
  have hb := b.toNat_lt
  have hM2 : M < 65536 := by omega
  clear hN hM ha hb
  go_enter Try.func62, Try.ntmps62
  go_wp2_with (go_at_call 71; refine (number_ok R g _ 2 _ HR.out (by simp) (by omega)).mono ?_; rintro e w1 ⟨rfl, hrd, hch⟩; rw [HN.out])
  go_ret2
  exact ⟨rfl, hrd, hch⟩

set_option maxRecDepth 20000 in
set_option maxHeartbeats 1600000 in
theorem kindex_on {w : World} {K v : Nat} (h : w.heap[K]? = some (.cells #[.int .u8 1, .int .u8 2] 5 (0, 0))) :
    Calls Try.prog 70 #[.slice (some ⟨K, 0, none⟩) 2 2, .int .u8 (v : Int)] w fun e y => e = .returned (.int .i64 (if v = 1 then 0 else if v = 2 then 1 else -1)) ∧ y = w := by
  have c0 : w.cell? ⟨K, 0, none⟩ = some (.int .u8 1) := by simp [World.cell?, h]
  have c1 : w.cell? ⟨K, 1, none⟩ = some (.int .u8 2) := by simp [World.cell?, h]
  clear h
  have HR : Hid (∀ r : Int, (v = 1 → r = 0) → (v = 2 → r = 1) → (v ≠ 1 → v ≠ 2 → r = -1) → (if v = 1 then 0 else if v = 2 then 1 else -1 : Int) = r) := by
    intro r h1 h2 h3
    split
    · exact (h1 ‹_›).symm
    · split
      · exact (h2 ‹_›).symm
      · exact (h3 ‹_› ‹_›).symm
  generalize (if v = 1 then 0 else if v = 2 then 1 else -1 : Int) = r at *
  go_enter Try.func70, Try.ntmps70
  go_wp2
  go_loop [8] (fun i => ∃ k : Nat, k ≤ 2 ∧ i = .int .i64 k ∧ (0 < k → v ≠ 1) ∧ (1 < k → v ≠ 2)) (fun i => 2 - (intOf i).toNat)
  case atStart => exact ⟨0, by omega, rfl, by omega, by omega⟩
  case round =>
    obtain ⟨k, hk, rfl, h1, h2⟩ := hrel
    match k, hk with
    | 0, _ =>
      by_cases hv : v = 1
      · subst hv
        have HE := Lib.hid (HR.out 0 (fun _ => rfl) (by omega) (by omega))
        clear HR h1 h2
        go_wp2
        go_ret
        exact ⟨by rw [HE.out]; rfl, rfl⟩
      · have hv' : ((v : Int) == 1) = false := by simp; omega
        clear h1 h2
        go_wp2
        go_round
        case rel => exact ⟨1, by omega, rfl, by omega, by omega⟩
        case measure => simp [intOf]
    | 1, _ =>
      by_cases hv : v = 2
      · subst hv
        have HE := Lib.hid (HR.out 1 (by omega) (fun _ => rfl) (by omega))
        clear HR h1 h2
        go_wp2
        go_ret
        exact ⟨by rw [HE.out]; rfl, rfl⟩
      · have hv' : ((v : Int) == 2) = false := by simp; omega
        have hv1 : v ≠ 1 := h1 (by omega)
        clear h1 h2
        go_wp2
        go_round
        case rel => exact ⟨2, by omega, rfl, by omega, by omega⟩
        case measure => simp [intOf]
    | 2, _ =>
      have HE := Lib.hid (HR.out (-1) (fun h => absurd h (h1 (by omega))) (fun h => absurd h (h2 (by omega))) (fun _ _ => rfl))
      clear HR h1 h2
      go_wp2
      go_ret
      exact ⟨by rw [HE.out]; rfl, rfl⟩
    | z + 3, hz => exact absurd hz (by omega)
theorem kcontains_on {w : World} {K v : Nat} (h : w.heap[K]? = some (.cells #[.int .u8 1, .int .u8 2] 5 (0, 0))) :
    Calls Try.prog 59 #[.slice (some ⟨K, 0, none⟩) 2 2, .int .u8 (v : Int)] w fun e y => e = .returned (.bool (decide (v = 1 ∨ v = 2))) ∧ y = w := by
  have H := Lib.hid h
  clear h
  obtain ⟨r, hr⟩ : ∃ r : Int, (if v = 1 then 0 else if v = 2 then 1 else -1 : Int) = r := ⟨_, rfl⟩
  have HD : Hid (decide (v = 1 ∨ v = 2) = decide (0 ≤ r)) := by
    show _ = _
    rw [← hr]
    by_cases h1 : v = 1
    · simp [h1]
    · by_cases h2 : v = 2
      · simp [h2]
      · simp [h1, h2]
  have HR := Lib.hid hr
  clear hr
  rw [HD.out]
  go_enter Try.func59, Try.ntmps59
  go_wp2_with fail
  refine (kindex_on H.out).mono ?_
  rintro e y ⟨rfl, rfl⟩
  rw [HR.out]
  go_wp2
  go_ret
  exact ⟨rfl, rfl⟩
end Go.Proofs.Ytdcnmbglbopgdaa
namespace Go.Proofs.Ytdcnmbglbopgdaa
open Go.RowKit

theorem kresults_one {P : Program} {fn : Func} {p u : Tmp} {ty : TypeId} (h : fn.results = #[.cell p ty, .tmp u]) (tmps : Array Value) (w : World) (g : Nat) (t : TypeId) (cs : Array Value) (fr : Nat × Nat)
    (hp : tmps.getD p undef = .pointer (some ⟨g, 0, none⟩)) (hg : w.heap[g]? = some (.cells cs t fr))
    (hu : ∃ fs, P.underlying ty = some (.struct fs)) (hi : (P.info? ty).map (·.size) = some cs.size) :
    (results fn tmps).run P w = .ok (.tuple #[.agg cs, tmps.getD u undef]) w := by
  obtain ⟨fs, hu⟩ := hu
  have e : (results fn tmps).run P w = ((asAddr (tmps.getD p undef)).run P w).andThen fun a w₁ => ((loadVar ty a).run P w₁).andThen fun x w₂ => .ok (.tuple #[x, tmps.getD u undef]) w₂ := by
    simp only [results, h]
    simp [Sem.run_bind, Result.andThen]
  rw [e, hp]
  simp [asAddr, Result.andThen, run_loadVar_row w g t ty cs fr _ hg hu rfl hi]
theorem words_struct : ∃ fs, Try.prog.underlying 102 = some (.struct fs) := ⟨_, Try.underlying102⟩
theorem words_size : (Try.prog.info? 102).map (·.size) = some 3 := by kernel_rfl
theorem cmd_struct : ∃ fs, Try.prog.underlying 60 = some (.struct fs) := ⟨_, Try.underlying60⟩
theorem cmd_size : (Try.prog.info? 60).map (·.size) = some 3 := by kernel_rfl
theorem evt_struct : ∃ fs, Try.prog.underlying 61 = some (.struct fs) := ⟨_, Try.underlying61⟩
theorem evt_size : (Try.prog.info? 61).map (·.size) = some 3 := by kernel_rfl
/-- Three numbers in a row of their own, at S. -/
structure Wr3 (w : World) (ty : TypeId) (S k t q : Nat) (x : World) : Prop where
  row : x.heap[S]? = some (.cells (wcs3 k t q) ty (0, 0))
  below : Below w.heap.size w x
  le : w.heap.size ≤ S
theorem Wr3.step {w x y : World} {ty : TypeId} {S k t q : Nat} (h : Wr3 w ty S k t q x) (hb : Below x.heap.size x y) : Wr3 w ty S k t q y := ⟨(hb.block S (Array.getElem?_eq_some_iff.1 h.row).1).trans h.row, h.below.trans (hb.mono h.below.size), h.le⟩
theorem Wr3.ch {w x y : World} {ty : TypeId} {S R k t q : Nat} (h : Wr3 w ty S k t q x) (hc : Ch [R] x y) (hR : S < R) : Wr3 w ty S k t q y := by
  have hl := h.le
  exact ⟨(hc.block S (Array.getElem?_eq_some_iff.1 h.row).1 (by simp; omega)).trans h.row, below_ch h.below hc (by omega), hl⟩
theorem Wr3.fz {w x : World} {ty : TypeId} {S k t q : Nat} (h : Wr3 w ty S k t q x) (i : Nat) : x.frozen? ⟨S, i, none⟩ = false := by
  have := h.row
  simp [World.frozen?, this]
theorem Wr3.cell {w x : World} {ty : TypeId} {S k t q : Nat} (h : Wr3 w ty S k t q x) : x.cell? ⟨S, 0, none⟩ = some (.int .u8 (k : Int)) ∧ x.cell? ⟨S, 1, none⟩ = some (.int .u16 (t : Int)) ∧ x.cell? ⟨S, 2, none⟩ = some (.int .u16 (q : Int)) := by
  have hb := h.row
  refine ⟨?_, ?_, ?_⟩ <;> simp [World.cell?, hb]
theorem Wr3.set {w x : World} {ty : TypeId} {S k t q : Nat} (h : Wr3 w ty S k t q x) (k' t' q' : Nat) : Wr3 w ty S k' t' q' (sets S [(0, .int .u8 (k' : Int)), (1, .int .u16 (t' : Int)), (2, .int .u16 (q' : Int))] x) := by
  obtain ⟨h1, h2⟩ := sets_row [(0, .int .u8 (k' : Int)), (1, .int .u16 (t' : Int)), (2, .int .u16 (q' : Int))] h.row
  exact ⟨h1, below_ch h.below h2 h.le, h.le⟩
theorem Wr3.new (w : World) (ty : TypeId) : Wr3 w ty w.heap.size 0 0 0 (w.alloc (.cells #[.int .u8 0, .int .u16 0, .int .u16 0] ty)) := ⟨heap_alloc_new w _, new_below w _, Nat.le_refl _⟩

def KParsePost (w : World) (l : List UInt8) (e : Ending) (y : World) : Prop := e = .returned (.tuple #[.agg (wcs3 (parse5 l).1 (parse5 l).2.1 (parse5 l).2.2.1), .int .i64 (parse5 l).2.2.2]) ∧ Below w.heap.size w y
theorem parse5_short {l : List UInt8} (h : l.length < 5) : parse5 l = (0, 0, 0, 2) := by
  unfold parse5
  split
  · simp at h
  · rw [if_pos h]
theorem parse5_long {l : List UInt8} (h : 5 < l.length) : parse5 l = (0, 0, 0, 3) := by
  unfold parse5
  split
  · simp at h
  · rw [if_neg (by omega)]
theorem parse5_no {k a b c d : UInt8} (h : ¬ (k.toNat = 1 ∨ k.toNat = 2)) : parse5 [k, a, b, c, d] = (0, 0, 0, 3) := if_neg h
theorem parse5_yes {k a b c d : UInt8} (h : k.toNat = 1 ∨ k.toNat = 2) : parse5 [k, a, b, c, d] = (k.toNat, a.toNat * 256 + b.toNat, c.toNat * 256 + d.toNat, 0) := if_pos h
theorem five_of {l : List UInt8} (h : l.length = 5) : ∃ k a b c d, l = [k, a, b, c, d] := by
  match l, h with
  | [k, a, b, c, d], _ => exact ⟨k, a, b, c, d, rfl⟩

set_option maxRecDepth 20000 in
set_option maxHeartbeats 6400000 in
theorem kparse_on {w : World} {g n c K : Nat} {A : Option Addr} {l : List UInt8} (h : Holds w g A (bcs l)) (hn : l.length = n) (hK : w.heap[K]? = some (.cells #[.int .u8 1, .int .u8 2] 5 (0, 0))) :
    Calls Try.prog 44 #[.slice A n c, .slice (some ⟨K, 0, none⟩) 2 2] w (KParsePost w l) := by
  have HP : Hid (∀ e y r, parse5 l = r → e = .returned (.tuple #[.agg (wcs3 r.1 r.2.1 r.2.2.1), .int .i64 r.2.2.2]) → Below w.heap.size w y → KParsePost w l e y) := by
    rintro e y r rfl h1 h2
    exact ⟨h1, h2⟩
  generalize KParsePost w l = Q at *
  have H0 := Lib.hid (Wr3.new w 102)
  have hb := new_below w (.cells #[.int .u8 0, .int .u16 0, .int .u16 0] 102)
  have HH := Lib.hid (h.keep (F := []) (Ch.of_below hb) (by simp))
  have HK : Hid ((w.alloc (.cells #[.int .u8 0, .int .u16 0, .int .u16 0] 102)).heap[K]? = some (.cells #[.int .u8 1, .int .u8 2] 5 (0, 0))) := (hb.block K (Array.getElem?_eq_some_iff.1 hK).1).trans hK
  have HN := Lib.hid hn
  clear h hK hb hn
  go_enter Try.func44, Try.ntmps44
  go_upto_region 1 with fail
  generalize w.alloc (.cells #[.int .u8 0, .int .u16 0, .int .u16 0] 102) = x0 at *
  obtain ⟨S, hS⟩ : ∃ S, w.heap.size = S := ⟨_, rfl⟩
  rw [hS] at H0
  have HSW : Hid (w.heap.size ≤ S) := Lib.hid (by omega)
  rw [hS]
  clear hS
  by_cases hlt : n < 5
  · have HM := Lib.hid (parse5_short (l := l) (by rw [HN.out]; exact hlt))
    have hlt' : (n : Int) < 5 := by omega
    obtain ⟨r0, r1, r2⟩ := H0.out.cell
    have q0 := H0.out.fz 0
    have q1 := H0.out.fz 1
    have q2 := H0.out.fz 2
    clear hlt HN HH HK
    go_wp2
    have T := H0.out.set 0 0 0
    refine bodyPost_ret (kresults_one rfl _ _ S 102 _ _ rfl T.row words_struct words_size) rfl ?_
    exact HP.out _ _ _ HM.out rfl T.below
  have hlt' : ¬ (n : Int) < 5 := by omega
  by_cases hgt : 5 < n
  · have HM := Lib.hid (parse5_long (l := l) (by rw [HN.out]; exact hgt))
    have hgt' : (5 : Int) < (n : Int) := by omega
    obtain ⟨r0, r1, r2⟩ := H0.out.cell
    have q0 := H0.out.fz 0
    have q1 := H0.out.fz 1
    have q2 := H0.out.fz 2
    clear hlt hgt HN HH HK
    go_wp2
    have T := H0.out.set 0 0 0
    refine bodyPost_ret (kresults_one rfl _ _ S 102 _ _ rfl T.row words_struct words_size) rfl ?_
    exact HP.out _ _ _ HM.out rfl T.below
  have h5 : n = 5 := by omega
  subst h5
  obtain ⟨k, a, b, c2, d, rfl⟩ := five_of HN.out
  obtain ⟨hg, o, rfl, hcl⟩ := HH.out (by simp [bcs])
  have e0 := hcl 0 (.int .u8 (k.toNat : Int)) rfl
  rw [Nat.add_zero] at e0
  clear hcl hlt hlt' hgt HN
  by_cases hk : k.toNat = 1 ∨ k.toNat = 2
  rotate_left 1
  · have HM : Hid (parse5 [k, a, b, c2, d] = (0, 0, 0, 3)) := Lib.hid (parse5_no hk)
    obtain ⟨r0, r1, r2⟩ := H0.out.cell
    have q0 := H0.out.fz 0
    have q1 := H0.out.fz 1
    have q2 := H0.out.fz 2
    go_wp2_with fail
    refine (kcontains_on HK.out).mono ?_
    rintro e y ⟨rfl, rfl⟩
    rw [decide_eq_false hk]
    go_wp2
    have T := H0.out.set 0 0 0
    refine bodyPost_ret (kresults_one rfl _ _ S 102 _ _ rfl T.row words_struct words_size) rfl ?_
    exact HP.out _ _ _ HM.out rfl T.below
  have hM := parse5_yes (a := a) (b := b) (c := c2) (d := d) hk
  obtain ⟨tn, htn⟩ : ∃ tn, a.toNat * 256 + b.toNat = tn := ⟨_, rfl⟩
  obtain ⟨qn, hqn⟩ : ∃ qn, c2.toNat * 256 + d.toNat = qn := ⟨_, rfl⟩
  rw [htn, hqn] at hM
  have HM := Lib.hid hM
  have HTN := Lib.hid htn
  have HQN := Lib.hid hqn
  clear hM htn hqn
  go_wp2_with fail
  refine (kcontains_on HK.out).mono ?_
  rintro e y ⟨rfl, rfl⟩
  rw [decide_eq_true hk]
  clear hk HK
  go_wp2_with fail
  refine (read_any g _ c [k, a, b, c2, d] _ HH.out (by simp)).mono ?_
  rintro e x1 ⟨R, g', hR, hg', rfl, hrd, hb⟩
  have H1 := Lib.hid (H0.out.step hb)
  have HSR : Hid (S < R) := Lib.hid (Nat.lt_of_lt_of_le (Array.getElem?_eq_some_iff.1 H0.out.row).1 hR)
  have HR1 := Lib.hid hrd
  clear hR hg' hrd hb H0 HH e0 hg
  go_wp2_with fail
  refine (ku8_on HR1.out).mono ?_
  rintro e x2 ⟨rfl, h1, h2⟩
  have H2 := Lib.hid (H1.out.ch h2 HSR.out)
  have HR2 := Lib.hid h1
  clear h1 h2 H1 HR1
  go_wp2_with fail
  refine (ku16_on HR2.out HTN.out).mono ?_
  rintro e x3 ⟨rfl, h1, h2⟩
  have H3 := Lib.hid (H2.out.ch h2 HSR.out)
  have HR3 := Lib.hid h1
  clear h1 h2 H2 HR2
  go_wp2_with fail
  refine (ku16_on HR3.out HQN.out).mono ?_
  rintro e x4 ⟨rfl, h1, h2⟩
  have H4 := Lib.hid (H3.out.ch h2 HSR.out)
  clear h1 h2 H3 HR3
  generalize k.toNat = kn at *
  obtain ⟨r0, r1, r2⟩ := H4.out.cell
  have q0 := H4.out.fz 0
  have q1 := H4.out.fz 1
  have q2 := H4.out.fz 2
  go_wp2
  have T := H4.out.set kn tn qn
  refine bodyPost_ret (kresults_one rfl _ _ S 102 _ _ rfl T.row words_struct words_size) rfl ?_
  exact HP.out _ _ _ HM.out rfl T.below

set_option maxRecDepth 20000 in
set_option maxHeartbeats 3200000 in
theorem kpcommand_on {w : World} {g n c : Nat} {A : Option Addr} {l : List UInt8} (h : Holds w g A (bcs l)) (hn : l.length = n) : Calls Try.prog 26 #[.slice A n c] w (KParsePost w l) := by
  have HP : Hid (∀ e y r, parse5 l = r → e = .returned (.tuple #[.agg (wcs3 r.1 r.2.1 r.2.2.1), .int .i64 r.2.2.2]) → Below w.heap.size w y → KParsePost w l e y) := by
    rintro e y r rfl h1 h2
    exact ⟨h1, h2⟩
  generalize KParsePost w l = Q at *
  have H0 := Lib.hid (Wr3.new w 60)
  have hb := new_below w (.cells #[.int .u8 0, .int .u16 0, .int .u16 0] 60)
  have HH := Lib.hid (h.keep (F := []) (Ch.of_below hb) (by simp))
  have HN := Lib.hid hn
  clear h hb hn
  go_enter Try.func26, Try.ntmps26
  go_upto_region 1 with fail
  generalize w.alloc (.cells #[.int .u8 0, .int .u16 0, .int .u16 0] 60) = x0 at *
  obtain ⟨S, hS⟩ : ∃ S, w.heap.size = S := ⟨_, rfl⟩
  rw [hS] at H0
  have HSW : Hid (w.heap.size ≤ S) := Lib.hid (by omega)
  rw [hS]
  clear hS
  have hb1 := new_below x0 (.cells #[.int .u8 1, .int .u8 2] 5)
  have H1 := Lib.hid (H0.out.step hb1)
  have HH1 := Lib.hid (HH.out.keep (F := []) (Ch.of_below hb1) (by simp))
  have HK := Lib.hid (heap_alloc_new x0 (.cells #[.int .u8 1, .int .u8 2] 5))
  clear hb1 H0 HH
  go_wp2_with fail
  refine (kparse_on HH1.out HN.out HK.out).mono ?_
  rintro e x1 ⟨rfl, hb⟩
  have H2 := Lib.hid (H1.out.step hb)
  clear hb H1 HH1 HK HN
  obtain ⟨r, hr⟩ : ∃ r, parse5 l = r := ⟨_, rfl⟩
  have HR := Lib.hid hr
  rw [hr]
  clear hr
  obtain ⟨pk, pt, pq, pe⟩ := r
  simp only
  go_upto_region 2 with fail
  have H3 := Lib.hid (H2.out.step (new_below x1 (.cells (wcs3 pk pt pq) 102)))
  obtain ⟨r0, r1, r2⟩ := H3.out.cell
  have q0 := H3.out.fz 0
  have q1 := H3.out.fz 1
  have q2 := H3.out.fz 2
  clear H2
  go_wp2
  have T := H3.out.set pk pt pq
  refine bodyPost_ret (kresults_one rfl _ _ S 60 _ _ rfl T.row cmd_struct cmd_size) rfl ?_
  exact HP.out _ _ _ HR.out rfl T.below

set_option maxRecDepth 20000 in
set_option maxHeartbeats 3200000 in
theorem kpevent_on {w : World} {g n c : Nat} {A : Option Addr} {l : List UInt8} (h : Holds w g A (bcs l)) (hn : l.length = n) : Calls Try.prog 27 #[.slice A n c] w (KParsePost w l) := by
  have HP : Hid (∀ e y r, parse5 l = r → e = .returned (.tuple #[.agg (wcs3 r.1 r.2.1 r.2.2.1), .int .i64 r.2.2.2]) → Below w.heap.size w y → KParsePost w l e y) := by
    rintro e y r rfl h1 h2
    exact ⟨h1, h2⟩
  generalize KParsePost w l = Q at *
  have H0 := Lib.hid (Wr3.new w 61)
  have hb := new_below w (.cells #[.int .u8 0, .int .u16 0, .int .u16 0] 61)
  have HH := Lib.hid (h.keep (F := []) (Ch.of_below hb) (by simp))
  have HN := Lib.hid hn
  clear h hb hn
  go_enter Try.func27, Try.ntmps27
  go_upto_region 1 with fail
  generalize w.alloc (.cells #[.int .u8 0, .int .u16 0, .int .u16 0] 61) = x0 at *
  obtain ⟨S, hS⟩ : ∃ S, w.heap.size = S := ⟨_, rfl⟩
  rw [hS] at H0
  have HSW : Hid (w.heap.size ≤ S) := Lib.hid (by omega)
  rw [hS]
  clear hS
  have hb1 := new_below x0 (.cells #[.int .u8 1, .int .u8 2] 5)
  have H1 := Lib.hid (H0.out.step hb1)
  have HH1 := Lib.hid (HH.out.keep (F := []) (Ch.of_below hb1) (by simp))
  have HK := Lib.hid (heap_alloc_new x0 (.cells #[.int .u8 1, .int .u8 2] 5))
  clear hb1 H0 HH
  go_wp2_with fail
  refine (kparse_on HH1.out HN.out HK.out).mono ?_
  rintro e x1 ⟨rfl, hb⟩
  have H2 := Lib.hid (H1.out.step hb)
  clear hb H1 HH1 HK HN
  obtain ⟨r, hr⟩ : ∃ r, parse5 l = r := ⟨_, rfl⟩
  have HR := Lib.hid hr
  rw [hr]
  clear hr
  obtain ⟨pk, pt, pq, pe⟩ := r
  simp only
  go_upto_region 2 with fail
  have H3 := Lib.hid (H2.out.step (new_below x1 (.cells (wcs3 pk pt pq) 102)))
  obtain ⟨r0, r1, r2⟩ := H3.out.cell
  have q0 := H3.out.fz 0
  have q1 := H3.out.fz 1
  have q2 := H3.out.fz 2
  clear H2
  go_wp2
  have T := H3.out.set pk pt pq
  refine bodyPost_ret (kresults_one rfl _ _ S 61 _ _ rfl T.row evt_struct evt_size) rfl ?_
  exact HP.out _ _ _ HR.out rfl T.below
end Go.Proofs.Ytdcnmbglbopgdaa
