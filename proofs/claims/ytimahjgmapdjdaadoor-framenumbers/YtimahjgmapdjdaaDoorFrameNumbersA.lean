/-
  lamplightlaw04.FrameNumbers: whatever it is asked, true; nothing that was there is turned.
-/
import Derived.Test.YtimahjgmapdjdaaDoorFrameCutsWalk
namespace Go.Proofs.YtimahjgmapdjdaaDoor
set_option linter.unusedVariables false
set_option linter.unusedSimpArgs false
open Go.RowKit

/-- A frame of one's own, in block Fb, its bytes L in block Lb; the table. -/
structure Sn (w : World) (Lb Fb : Nat) (L : List UInt8) (cs : Array Value) (x : World) : Prop where
  tab : Tab x
  below : Below w.heap.size w x
  lit : Row x Lb L
  box : x.heap[Fb]? = some (.cells cs 24 (0, 0))
theorem Sn.step {w x y : World} {Lb Fb : Nat} {L : List UInt8} {cs : Array Value} (h : Sn w Lb Fb L cs x) (hb : Below x.heap.size x y) : Sn w Lb Fb L cs y :=
  ⟨h.tab.keep (Ch.of_below hb) (by simp), h.below.trans (hb.mono h.below.size), h.lit.keep (Ch.of_below hb) (by simp), (hb.block _ (Array.getElem?_eq_some_iff.1 h.box).1).trans h.box⟩
theorem Sn.alloc {w x : World} {Lb Fb : Nat} {L : List UInt8} {cs : Array Value} (h : Sn w Lb Fb L cs x) (o : Obj) : Sn w Lb Fb L cs (x.alloc o) := h.step (new_below _ _)
/-- As it begins: bytes and frame laid behind one another. -/
theorem Sn.start {w x : World} {L : List UInt8} {cs : Array Value} (ht : Tab x) (hb : Below w.heap.size w x) : Sn w x.heap.size (x.heap.size + 1) L cs ((x.alloc (.cells (bcs L).toArray 5)).alloc (.cells cs 24)) :=
  ⟨ht.keep (((Ch.refl [] x).alloc _).alloc _) (by simp), hb.trans ((new_below2 x _ _).mono hb.size), heap_alloc2_old x _ _, heap_alloc2_new x _ _⟩
/-- The frame that was told, in block Z. -/
structure Sy2 (Z g : Nat) (A : Option Addr) (L : List UInt8) (cs : Array Value) (x : World) : Prop where
  row : x.heap[Z]? = some (.cells cs 24 (0, 0))
  holds : Holds x g A (bcs L)
theorem Sy2.step {x y : World} {Z g : Nat} {A : Option Addr} {L : List UInt8} {cs : Array Value} (h : Sy2 Z g A L cs x) (hb : Below x.heap.size x y) : Sy2 Z g A L cs y :=
  ⟨(hb.block _ (Array.getElem?_eq_some_iff.1 h.row).1).trans h.row, h.holds.keep (Ch.of_below hb) (by simp)⟩
theorem Sy2.start {x : World} {g : Nat} {A : Option Addr} {L : List UInt8} {cs : Array Value} (h : Holds x g A (bcs L)) : Sy2 x.heap.size g A L cs (x.alloc (.cells cs 24)) :=
  ⟨heap_alloc_new x _, h.keep ((Ch.refl [] x).alloc _) (by simp)⟩

set_option maxHeartbeats 8000000 in
set_option maxRecDepth 100000 in
theorem numbers0 (i : Int) (n : Nat) (w : World) (ht : Tab w) (hn : n < 256) (hp1 : (bits .and .i64 i 65535).tmod 6 = 0) (hp2 : bits .and .i64 i 65535 % 6 = 0) :
    Calls Tryd.prog 5 #[.int .i64 i, .int .u8 (n : Int)] w fun e w' => e = .returned (.bool true) ∧ Below w.heap.size w w' := by
  have HT := Lib.hid ht
  clear ht
  by_cases h1 : n < 1
  · have HR : Hid (rightB n 2 1 0 2 = false) := by show _ = _; rw [← Bool.not_eq_true, rightB_iff]; omega
    have hi1 : ¬ (1 : Int) ≤ (n : Int) := by omega
    go_enter Tryd.func5, Tryd.ntmps5
    go_wp2_with fail
    refine (shown_any w HT.out).mono ?_
    rintro e x1 ⟨rfl, hb⟩
    have H0 : Hid (Sn w x1.heap.size (x1.heap.size + 1) [1, 2] #[.int .u8 (n : Int), .int .u8 2, .int .u8 9, .int .u8 1, .int .u8 0, .slice (some ⟨x1.heap.size, 0, none⟩) 2 2] ((x1.alloc (.cells #[.int .u8 1, .int .u8 2] 5)).alloc (.cells #[.int .u8 (n : Int), .int .u8 2, .int .u8 9, .int .u8 1, .int .u8 0, .slice (some ⟨x1.heap.size, 0, none⟩) 2 2] 24))) := Sn.start (L := [1, 2]) (HT.out.keep (Ch.of_below hb) (by simp)) hb
    clear hb
    go_wp2_with fail
    generalize ((x1.alloc (.cells #[.int .u8 1, .int .u8 2] 5)).alloc (.cells #[.int .u8 (n : Int), .int .u8 2, .int .u8 9, .int .u8 1, .int .u8 0, .slice (some ⟨x1.heap.size, 0, none⟩) 2 2] 24)) = x2 at *
    generalize x1.heap.size + 1 = Fb at *
    generalize x1.heap.size = Lb at *
    refine (encode_no (g := 0) (a := n) (k := 2) (s := 9) (q := 1) (c := 0) HR.out).mono ?_
    rintro e x3 ⟨rfl, hb⟩
    have H1 := Lib.hid (H0.out.step hb)
    clear hb H0
    obtain ⟨b0, b1, b2, b3, b4, b5, -⟩ := row6_facts H1.out.box
    go_wp2_with fail
    refine (right_no (a := n) (k := 2) (s := 9) (q := 1) (c := 0) HR.out).mono ?_
    rintro e x4 ⟨rfl, hb⟩
    replace H1 := Lib.hid (H1.out.step hb)
    clear hb b0 b1 b2 b3 b4 b5
    go_wp2
    go_ret
    exact ⟨rfl, H1.out.below⟩
    all_goals (have h9 : (!decide ((n : Int) ≤ 31)) = false := (by assumption); simp at h9 <;> omega)
  by_cases h2 : 31 < n
  · have HR : Hid (rightB n 2 1 0 2 = false) := by show _ = _; rw [← Bool.not_eq_true, rightB_iff]; omega
    have hi1 : (1 : Int) ≤ (n : Int) := by omega
    have hi2 : ¬ (n : Int) ≤ 31 := by omega
    go_enter Tryd.func5, Tryd.ntmps5
    go_wp2_with fail
    refine (shown_any w HT.out).mono ?_
    rintro e x1 ⟨rfl, hb⟩
    have H0 : Hid (Sn w x1.heap.size (x1.heap.size + 1) [1, 2] #[.int .u8 (n : Int), .int .u8 2, .int .u8 9, .int .u8 1, .int .u8 0, .slice (some ⟨x1.heap.size, 0, none⟩) 2 2] ((x1.alloc (.cells #[.int .u8 1, .int .u8 2] 5)).alloc (.cells #[.int .u8 (n : Int), .int .u8 2, .int .u8 9, .int .u8 1, .int .u8 0, .slice (some ⟨x1.heap.size, 0, none⟩) 2 2] 24))) := Sn.start (L := [1, 2]) (HT.out.keep (Ch.of_below hb) (by simp)) hb
    clear hb
    go_wp2_with fail
    generalize ((x1.alloc (.cells #[.int .u8 1, .int .u8 2] 5)).alloc (.cells #[.int .u8 (n : Int), .int .u8 2, .int .u8 9, .int .u8 1, .int .u8 0, .slice (some ⟨x1.heap.size, 0, none⟩) 2 2] 24)) = x2 at *
    generalize x1.heap.size + 1 = Fb at *
    generalize x1.heap.size = Lb at *
    refine (encode_no (g := 0) (a := n) (k := 2) (s := 9) (q := 1) (c := 0) HR.out).mono ?_
    rintro e x3 ⟨rfl, hb⟩
    have H1 := Lib.hid (H0.out.step hb)
    clear hb H0
    obtain ⟨b0, b1, b2, b3, b4, b5, -⟩ := row6_facts H1.out.box
    go_wp2_with fail
    refine (right_no (a := n) (k := 2) (s := 9) (q := 1) (c := 0) HR.out).mono ?_
    rintro e x4 ⟨rfl, hb⟩
    replace H1 := Lib.hid (H1.out.step hb)
    clear hb b0 b1 b2 b3 b4 b5
    go_wp2
    go_ret
    exact ⟨rfl, H1.out.below⟩
    all_goals (have h9 : (!decide ((n : Int) ≤ 31)) = false := (by assumption); simp at h9 <;> omega)
  have HR : Hid (rightB n 2 1 0 2 = true) := by show _ = _; rw [rightB_iff]; omega
  have hi1 : (1 : Int) ≤ (n : Int) := by omega
  have hi2 : (n : Int) ≤ 31 := by omega
  go_enter Tryd.func5, Tryd.ntmps5
  go_wp2_with fail
  refine (shown_any w HT.out).mono ?_
  rintro e x1 ⟨rfl, hb⟩
  have H0 : Hid (Sn w x1.heap.size (x1.heap.size + 1) [1, 2] #[.int .u8 (n : Int), .int .u8 2, .int .u8 9, .int .u8 1, .int .u8 0, .slice (some ⟨x1.heap.size, 0, none⟩) 2 2] ((x1.alloc (.cells #[.int .u8 1, .int .u8 2] 5)).alloc (.cells #[.int .u8 (n : Int), .int .u8 2, .int .u8 9, .int .u8 1, .int .u8 0, .slice (some ⟨x1.heap.size, 0, none⟩) 2 2] 24))) := Sn.start (L := [1, 2]) (HT.out.keep (Ch.of_below hb) (by simp)) hb
  clear hb
  go_wp2_with fail
  generalize ((x1.alloc (.cells #[.int .u8 1, .int .u8 2] 5)).alloc (.cells #[.int .u8 (n : Int), .int .u8 2, .int .u8 9, .int .u8 1, .int .u8 0, .slice (some ⟨x1.heap.size, 0, none⟩) 2 2] 24)) = x2 at *
  generalize x1.heap.size + 1 = Fb at *
  generalize x1.heap.size = Lb at *
  refine (encode_yes (a := n) (k := 2) (s := 9) (q := 1) (c := 0) (L := [1, 2]) H0.out.tab H0.out.lit.holds rfl HR.out (by omega)).mono ?_
  rintro e x3 ⟨X, M, hX, hM, rfl, hrow, hb⟩
  have H1 := Lib.hid (H0.out.step hb)
  have HW := Lib.hid hrow
  have hMM : 9 ≤ M ∧ M ≤ 1000 := by
    rw [hM, enc_length]
    have h1 := mid_le (Fr.mk n 2 9 1 0 [1, 2])
    have h2 := mid_ge (Fr.mk n 2 9 1 0 [1, 2])
    have h3 : (Fr.mk n 2 9 1 0 [1, 2]).b.length = 2 := rfl
    omega
  have HML := Lib.hid hM
  clear hb hrow hX hM H0
  go_wp2_with fail
  have HMID : Hid ((Fr.mk n 2 9 1 0 [1, 2]).mid.length = M - 1 - 1) := by
    have h1 := enc_length (Fr.mk n 2 9 1 0 [1, 2])
    have h2 := HML.out
    show _ = _
    omega
  have HF : Hid ((Fr.mk n 2 9 1 0 [1, 2]).Fits) := ⟨by show n < 256; omega, by show 2 < 256; omega, by show 9 < 256; omega, by show 1 < 256; omega, by show 0 < 256; omega⟩
  have HRT : Hid ((Fr.mk n 2 9 1 0 [1, 2]).right = true) := HR.out
  refine (decode_on H1.out.tab (enc_mid_holds HW.out) HMID.out (by omega) (by omega)).mono ?_
  rintro e x4 ⟨f, er, A4, m4, c4, g4, hf, her, hm4, rfl, hh4, -, hb⟩
  rw [decE_mid _ HF.out HRT.out] at her
  rw [decF_mid _ HF.out HRT.out] at hf
  subst her hf
  obtain rfl : m4 = 2 := hm4
  have H2 := Lib.hid ((H1.out.step hb).alloc (.cells #[.int .u8 (n : Int), .int .u8 2, .int .u8 9, .int .u8 1, .int .u8 0, .slice A4 2 c4] 24))
  have HY : Hid (Sy2 x4.heap.size g4 A4 [1, 2] #[.int .u8 (n : Int), .int .u8 2, .int .u8 9, .int .u8 1, .int .u8 0, .slice A4 2 c4] (x4.alloc (.cells #[.int .u8 (n : Int), .int .u8 2, .int .u8 9, .int .u8 1, .int .u8 0, .slice A4 2 c4] 24))) := Sy2.start hh4
  clear hb H1 HW hh4
  go_upto_region 29 with fail
  generalize (x4.alloc (.cells #[.int .u8 (n : Int), .int .u8 2, .int .u8 9, .int .u8 1, .int .u8 0, .slice A4 2 c4] 24)) = x5 at *
  generalize x4.heap.size = Z at *
  obtain ⟨b0, b1, b2, b3, b4, b5, -⟩ := row6_facts H2.out.box
  go_wp2_with fail
  refine (right_yes (a := n) (k := 2) (s := 9) (q := 1) (c := 0) HR.out).mono ?_
  rintro e x6 ⟨rfl, hb⟩
  replace H2 := Lib.hid (H2.out.step hb)
  replace HY := Lib.hid (HY.out.step hb)
  clear hb b0 b1 b2 b3 b4 b5
  obtain ⟨b0, b1, b2, b3, b4, b5, -⟩ := row6_facts H2.out.box
  obtain ⟨d0, d1, d2, d3, d4, d5, -⟩ := row6_facts HY.out.row
  have hc1 := convert_holds (c := 2) (n := 2) (l := [1, 2]) H2.out.lit.holds rfl
  have hc2 := convert_holds (c := c4) (n := 2) (l := [1, 2]) HY.out.holds rfl
  go_wp2
  go_ret
  exact ⟨rfl, H2.out.below⟩

set_option maxHeartbeats 8000000 in
set_option maxRecDepth 100000 in
theorem numbers1 (i : Int) (n : Nat) (w : World) (ht : Tab w) (hn : n < 256) (hp1 : (bits .and .i64 i 65535).tmod 6 = 1) (hp2 : bits .and .i64 i 65535 % 6 = 1) :
    Calls Tryd.prog 5 #[.int .i64 i, .int .u8 (n : Int)] w fun e w' => e = .returned (.bool true) ∧ Below w.heap.size w w' := by
  have HT := Lib.hid ht
  clear ht
  by_cases h1 : n < 1
  · have HR : Hid (rightB 5 n 1 0 2 = false) := by show _ = _; rw [← Bool.not_eq_true, rightB_iff]; omega
    have hi1 : ¬ (1 : Int) ≤ (n : Int) := by omega
    go_enter Tryd.func5, Tryd.ntmps5
    go_wp2_with fail
    refine (shown_any w HT.out).mono ?_
    rintro e x1 ⟨rfl, hb⟩
    have H0 : Hid (Sn w x1.heap.size (x1.heap.size + 1) [1, 2] #[.int .u8 5, .int .u8 (n : Int), .int .u8 9, .int .u8 1, .int .u8 0, .slice (some ⟨x1.heap.size, 0, none⟩) 2 2] ((x1.alloc (.cells #[.int .u8 1, .int .u8 2] 5)).alloc (.cells #[.int .u8 5, .int .u8 (n : Int), .int .u8 9, .int .u8 1, .int .u8 0, .slice (some ⟨x1.heap.size, 0, none⟩) 2 2] 24))) := Sn.start (L := [1, 2]) (HT.out.keep (Ch.of_below hb) (by simp)) hb
    clear hb
    go_wp2_with fail
    generalize ((x1.alloc (.cells #[.int .u8 1, .int .u8 2] 5)).alloc (.cells #[.int .u8 5, .int .u8 (n : Int), .int .u8 9, .int .u8 1, .int .u8 0, .slice (some ⟨x1.heap.size, 0, none⟩) 2 2] 24)) = x2 at *
    generalize x1.heap.size + 1 = Fb at *
    generalize x1.heap.size = Lb at *
    refine (encode_no (g := 0) (a := 5) (k := n) (s := 9) (q := 1) (c := 0) HR.out).mono ?_
    rintro e x3 ⟨rfl, hb⟩
    have H1 := Lib.hid (H0.out.step hb)
    clear hb H0
    obtain ⟨b0, b1, b2, b3, b4, b5, -⟩ := row6_facts H1.out.box
    go_wp2_with fail
    refine (right_no (a := 5) (k := n) (s := 9) (q := 1) (c := 0) HR.out).mono ?_
    rintro e x4 ⟨rfl, hb⟩
    replace H1 := Lib.hid (H1.out.step hb)
    clear hb b0 b1 b2 b3 b4 b5
    go_wp2
    go_ret
    exact ⟨rfl, H1.out.below⟩
    all_goals (have h9 : (!decide ((n : Int) ≤ 5)) = false := (by assumption); simp at h9 <;> omega)
  by_cases h2 : 5 < n
  · have HR : Hid (rightB 5 n 1 0 2 = false) := by show _ = _; rw [← Bool.not_eq_true, rightB_iff]; omega
    have hi1 : (1 : Int) ≤ (n : Int) := by omega
    have hi2 : ¬ (n : Int) ≤ 5 := by omega
    go_enter Tryd.func5, Tryd.ntmps5
    go_wp2_with fail
    refine (shown_any w HT.out).mono ?_
    rintro e x1 ⟨rfl, hb⟩
    have H0 : Hid (Sn w x1.heap.size (x1.heap.size + 1) [1, 2] #[.int .u8 5, .int .u8 (n : Int), .int .u8 9, .int .u8 1, .int .u8 0, .slice (some ⟨x1.heap.size, 0, none⟩) 2 2] ((x1.alloc (.cells #[.int .u8 1, .int .u8 2] 5)).alloc (.cells #[.int .u8 5, .int .u8 (n : Int), .int .u8 9, .int .u8 1, .int .u8 0, .slice (some ⟨x1.heap.size, 0, none⟩) 2 2] 24))) := Sn.start (L := [1, 2]) (HT.out.keep (Ch.of_below hb) (by simp)) hb
    clear hb
    go_wp2_with fail
    generalize ((x1.alloc (.cells #[.int .u8 1, .int .u8 2] 5)).alloc (.cells #[.int .u8 5, .int .u8 (n : Int), .int .u8 9, .int .u8 1, .int .u8 0, .slice (some ⟨x1.heap.size, 0, none⟩) 2 2] 24)) = x2 at *
    generalize x1.heap.size + 1 = Fb at *
    generalize x1.heap.size = Lb at *
    refine (encode_no (g := 0) (a := 5) (k := n) (s := 9) (q := 1) (c := 0) HR.out).mono ?_
    rintro e x3 ⟨rfl, hb⟩
    have H1 := Lib.hid (H0.out.step hb)
    clear hb H0
    obtain ⟨b0, b1, b2, b3, b4, b5, -⟩ := row6_facts H1.out.box
    go_wp2_with fail
    refine (right_no (a := 5) (k := n) (s := 9) (q := 1) (c := 0) HR.out).mono ?_
    rintro e x4 ⟨rfl, hb⟩
    replace H1 := Lib.hid (H1.out.step hb)
    clear hb b0 b1 b2 b3 b4 b5
    go_wp2
    go_ret
    exact ⟨rfl, H1.out.below⟩
    all_goals (have h9 : (!decide ((n : Int) ≤ 5)) = false := (by assumption); simp at h9 <;> omega)
  have HR : Hid (rightB 5 n 1 0 2 = true) := by show _ = _; rw [rightB_iff]; omega
  have hi1 : (1 : Int) ≤ (n : Int) := by omega
  have hi2 : (n : Int) ≤ 5 := by omega
  go_enter Tryd.func5, Tryd.ntmps5
  go_wp2_with fail
  refine (shown_any w HT.out).mono ?_
  rintro e x1 ⟨rfl, hb⟩
  have H0 : Hid (Sn w x1.heap.size (x1.heap.size + 1) [1, 2] #[.int .u8 5, .int .u8 (n : Int), .int .u8 9, .int .u8 1, .int .u8 0, .slice (some ⟨x1.heap.size, 0, none⟩) 2 2] ((x1.alloc (.cells #[.int .u8 1, .int .u8 2] 5)).alloc (.cells #[.int .u8 5, .int .u8 (n : Int), .int .u8 9, .int .u8 1, .int .u8 0, .slice (some ⟨x1.heap.size, 0, none⟩) 2 2] 24))) := Sn.start (L := [1, 2]) (HT.out.keep (Ch.of_below hb) (by simp)) hb
  clear hb
  go_wp2_with fail
  generalize ((x1.alloc (.cells #[.int .u8 1, .int .u8 2] 5)).alloc (.cells #[.int .u8 5, .int .u8 (n : Int), .int .u8 9, .int .u8 1, .int .u8 0, .slice (some ⟨x1.heap.size, 0, none⟩) 2 2] 24)) = x2 at *
  generalize x1.heap.size + 1 = Fb at *
  generalize x1.heap.size = Lb at *
  refine (encode_yes (a := 5) (k := n) (s := 9) (q := 1) (c := 0) (L := [1, 2]) H0.out.tab H0.out.lit.holds rfl HR.out (by omega)).mono ?_
  rintro e x3 ⟨X, M, hX, hM, rfl, hrow, hb⟩
  have H1 := Lib.hid (H0.out.step hb)
  have HW := Lib.hid hrow
  have hMM : 9 ≤ M ∧ M ≤ 1000 := by
    rw [hM, enc_length]
    have h1 := mid_le (Fr.mk 5 n 9 1 0 [1, 2])
    have h2 := mid_ge (Fr.mk 5 n 9 1 0 [1, 2])
    have h3 : (Fr.mk 5 n 9 1 0 [1, 2]).b.length = 2 := rfl
    omega
  have HML := Lib.hid hM
  clear hb hrow hX hM H0
  go_wp2_with fail
  have HMID : Hid ((Fr.mk 5 n 9 1 0 [1, 2]).mid.length = M - 1 - 1) := by
    have h1 := enc_length (Fr.mk 5 n 9 1 0 [1, 2])
    have h2 := HML.out
    show _ = _
    omega
  have HF : Hid ((Fr.mk 5 n 9 1 0 [1, 2]).Fits) := ⟨by show 5 < 256; omega, by show n < 256; omega, by show 9 < 256; omega, by show 1 < 256; omega, by show 0 < 256; omega⟩
  have HRT : Hid ((Fr.mk 5 n 9 1 0 [1, 2]).right = true) := HR.out
  refine (decode_on H1.out.tab (enc_mid_holds HW.out) HMID.out (by omega) (by omega)).mono ?_
  rintro e x4 ⟨f, er, A4, m4, c4, g4, hf, her, hm4, rfl, hh4, -, hb⟩
  rw [decE_mid _ HF.out HRT.out] at her
  rw [decF_mid _ HF.out HRT.out] at hf
  subst her hf
  obtain rfl : m4 = 2 := hm4
  have H2 := Lib.hid ((H1.out.step hb).alloc (.cells #[.int .u8 5, .int .u8 (n : Int), .int .u8 9, .int .u8 1, .int .u8 0, .slice A4 2 c4] 24))
  have HY : Hid (Sy2 x4.heap.size g4 A4 [1, 2] #[.int .u8 5, .int .u8 (n : Int), .int .u8 9, .int .u8 1, .int .u8 0, .slice A4 2 c4] (x4.alloc (.cells #[.int .u8 5, .int .u8 (n : Int), .int .u8 9, .int .u8 1, .int .u8 0, .slice A4 2 c4] 24))) := Sy2.start hh4
  clear hb H1 HW hh4
  go_upto_region 29 with fail
  generalize (x4.alloc (.cells #[.int .u8 5, .int .u8 (n : Int), .int .u8 9, .int .u8 1, .int .u8 0, .slice A4 2 c4] 24)) = x5 at *
  generalize x4.heap.size = Z at *
  obtain ⟨b0, b1, b2, b3, b4, b5, -⟩ := row6_facts H2.out.box
  go_wp2_with fail
  refine (right_yes (a := 5) (k := n) (s := 9) (q := 1) (c := 0) HR.out).mono ?_
  rintro e x6 ⟨rfl, hb⟩
  replace H2 := Lib.hid (H2.out.step hb)
  replace HY := Lib.hid (HY.out.step hb)
  clear hb b0 b1 b2 b3 b4 b5
  obtain ⟨b0, b1, b2, b3, b4, b5, -⟩ := row6_facts H2.out.box
  obtain ⟨d0, d1, d2, d3, d4, d5, -⟩ := row6_facts HY.out.row
  have hc1 := convert_holds (c := 2) (n := 2) (l := [1, 2]) H2.out.lit.holds rfl
  have hc2 := convert_holds (c := c4) (n := 2) (l := [1, 2]) HY.out.holds rfl
  go_wp2
  go_ret
  exact ⟨rfl, H2.out.below⟩

set_option maxHeartbeats 8000000 in
set_option maxRecDepth 100000 in
theorem numbers2 (i : Int) (n : Nat) (w : World) (ht : Tab w) (hn : n < 256) (hp1 : (bits .and .i64 i 65535).tmod 6 = 2) (hp2 : bits .and .i64 i 65535 % 6 = 2) :
    Calls Tryd.prog 5 #[.int .i64 i, .int .u8 (n : Int)] w fun e w' => e = .returned (.bool true) ∧ Below w.heap.size w w' := by
  have HT := Lib.hid ht
  clear ht
  have HR : Hid (rightB 5 2 1 0 2 = true) := by show _ = _; rw [rightB_iff]; omega
  go_enter Tryd.func5, Tryd.ntmps5
  go_wp2_with fail
  refine (shown_any w HT.out).mono ?_
  rintro e x1 ⟨rfl, hb⟩
  have H0 : Hid (Sn w x1.heap.size (x1.heap.size + 1) [1, 2] #[.int .u8 5, .int .u8 2, .int .u8 (n : Int), .int .u8 1, .int .u8 0, .slice (some ⟨x1.heap.size, 0, none⟩) 2 2] ((x1.alloc (.cells #[.int .u8 1, .int .u8 2] 5)).alloc (.cells #[.int .u8 5, .int .u8 2, .int .u8 (n : Int), .int .u8 1, .int .u8 0, .slice (some ⟨x1.heap.size, 0, none⟩) 2 2] 24))) := Sn.start (L := [1, 2]) (HT.out.keep (Ch.of_below hb) (by simp)) hb
  clear hb
  go_wp2_with fail
  generalize ((x1.alloc (.cells #[.int .u8 1, .int .u8 2] 5)).alloc (.cells #[.int .u8 5, .int .u8 2, .int .u8 (n : Int), .int .u8 1, .int .u8 0, .slice (some ⟨x1.heap.size, 0, none⟩) 2 2] 24)) = x2 at *
  generalize x1.heap.size + 1 = Fb at *
  generalize x1.heap.size = Lb at *
  refine (encode_yes (a := 5) (k := 2) (s := n) (q := 1) (c := 0) (L := [1, 2]) H0.out.tab H0.out.lit.holds rfl HR.out (by omega)).mono ?_
  rintro e x3 ⟨X, M, hX, hM, rfl, hrow, hb⟩
  have H1 := Lib.hid (H0.out.step hb)
  have HW := Lib.hid hrow
  have hMM : 9 ≤ M ∧ M ≤ 1000 := by
    rw [hM, enc_length]
    have h1 := mid_le (Fr.mk 5 2 n 1 0 [1, 2])
    have h2 := mid_ge (Fr.mk 5 2 n 1 0 [1, 2])
    have h3 : (Fr.mk 5 2 n 1 0 [1, 2]).b.length = 2 := rfl
    omega
  have HML := Lib.hid hM
  clear hb hrow hX hM H0
  go_wp2_with fail
  have HMID : Hid ((Fr.mk 5 2 n 1 0 [1, 2]).mid.length = M - 1 - 1) := by
    have h1 := enc_length (Fr.mk 5 2 n 1 0 [1, 2])
    have h2 := HML.out
    show _ = _
    omega
  have HF : Hid ((Fr.mk 5 2 n 1 0 [1, 2]).Fits) := ⟨by show 5 < 256; omega, by show 2 < 256; omega, by show n < 256; omega, by show 1 < 256; omega, by show 0 < 256; omega⟩
  have HRT : Hid ((Fr.mk 5 2 n 1 0 [1, 2]).right = true) := HR.out
  refine (decode_on H1.out.tab (enc_mid_holds HW.out) HMID.out (by omega) (by omega)).mono ?_
  rintro e x4 ⟨f, er, A4, m4, c4, g4, hf, her, hm4, rfl, hh4, -, hb⟩
  rw [decE_mid _ HF.out HRT.out] at her
  rw [decF_mid _ HF.out HRT.out] at hf
  subst her hf
  obtain rfl : m4 = 2 := hm4
  have H2 := Lib.hid ((H1.out.step hb).alloc (.cells #[.int .u8 5, .int .u8 2, .int .u8 (n : Int), .int .u8 1, .int .u8 0, .slice A4 2 c4] 24))
  have HY : Hid (Sy2 x4.heap.size g4 A4 [1, 2] #[.int .u8 5, .int .u8 2, .int .u8 (n : Int), .int .u8 1, .int .u8 0, .slice A4 2 c4] (x4.alloc (.cells #[.int .u8 5, .int .u8 2, .int .u8 (n : Int), .int .u8 1, .int .u8 0, .slice A4 2 c4] 24))) := Sy2.start hh4
  clear hb H1 HW hh4
  go_upto_region 29 with fail
  generalize (x4.alloc (.cells #[.int .u8 5, .int .u8 2, .int .u8 (n : Int), .int .u8 1, .int .u8 0, .slice A4 2 c4] 24)) = x5 at *
  generalize x4.heap.size = Z at *
  obtain ⟨b0, b1, b2, b3, b4, b5, -⟩ := row6_facts H2.out.box
  go_wp2_with fail
  refine (right_yes (a := 5) (k := 2) (s := n) (q := 1) (c := 0) HR.out).mono ?_
  rintro e x6 ⟨rfl, hb⟩
  replace H2 := Lib.hid (H2.out.step hb)
  replace HY := Lib.hid (HY.out.step hb)
  clear hb b0 b1 b2 b3 b4 b5
  obtain ⟨b0, b1, b2, b3, b4, b5, -⟩ := row6_facts H2.out.box
  obtain ⟨d0, d1, d2, d3, d4, d5, -⟩ := row6_facts HY.out.row
  have hc1 := convert_holds (c := 2) (n := 2) (l := [1, 2]) H2.out.lit.holds rfl
  have hc2 := convert_holds (c := c4) (n := 2) (l := [1, 2]) HY.out.holds rfl
  go_wp2
  go_ret
  exact ⟨rfl, H2.out.below⟩

set_option maxHeartbeats 8000000 in
set_option maxRecDepth 100000 in
theorem numbers3 (i : Int) (n : Nat) (w : World) (ht : Tab w) (hn : n < 256) (hp1 : (bits .and .i64 i 65535).tmod 6 = 3) (hp2 : bits .and .i64 i 65535 % 6 = 3) :
    Calls Tryd.prog 5 #[.int .i64 i, .int .u8 (n : Int)] w fun e w' => e = .returned (.bool true) ∧ Below w.heap.size w w' := by
  have HT := Lib.hid ht
  clear ht
  by_cases h1 : n < 2
  · have HR : Hid (rightB 5 2 n 0 2 = true) := by show _ = _; rw [rightB_iff]; omega
    have hi1 : (n : Int) < 2 := by omega
    go_enter Tryd.func5, Tryd.ntmps5
    go_wp2_with fail
    refine (shown_any w HT.out).mono ?_
    rintro e x1 ⟨rfl, hb⟩
    have H0 : Hid (Sn w x1.heap.size (x1.heap.size + 1) [1, 2] #[.int .u8 5, .int .u8 2, .int .u8 9, .int .u8 (n : Int), .int .u8 0, .slice (some ⟨x1.heap.size, 0, none⟩) 2 2] ((x1.alloc (.cells #[.int .u8 1, .int .u8 2] 5)).alloc (.cells #[.int .u8 5, .int .u8 2, .int .u8 9, .int .u8 (n : Int), .int .u8 0, .slice (some ⟨x1.heap.size, 0, none⟩) 2 2] 24))) := Sn.start (L := [1, 2]) (HT.out.keep (Ch.of_below hb) (by simp)) hb
    clear hb
    go_wp2_with fail
    generalize ((x1.alloc (.cells #[.int .u8 1, .int .u8 2] 5)).alloc (.cells #[.int .u8 5, .int .u8 2, .int .u8 9, .int .u8 (n : Int), .int .u8 0, .slice (some ⟨x1.heap.size, 0, none⟩) 2 2] 24)) = x2 at *
    generalize x1.heap.size + 1 = Fb at *
    generalize x1.heap.size = Lb at *
    refine (encode_yes (a := 5) (k := 2) (s := 9) (q := n) (c := 0) (L := [1, 2]) H0.out.tab H0.out.lit.holds rfl HR.out (by omega)).mono ?_
    rintro e x3 ⟨X, M, hX, hM, rfl, hrow, hb⟩
    have H1 := Lib.hid (H0.out.step hb)
    have HW := Lib.hid hrow
    have hMM : 9 ≤ M ∧ M ≤ 1000 := by
      rw [hM, enc_length]
      have h1 := mid_le (Fr.mk 5 2 9 n 0 [1, 2])
      have h2 := mid_ge (Fr.mk 5 2 9 n 0 [1, 2])
      have h3 : (Fr.mk 5 2 9 n 0 [1, 2]).b.length = 2 := rfl
      omega
    have HML := Lib.hid hM
    clear hb hrow hX hM H0
    go_wp2_with fail
    have HMID : Hid ((Fr.mk 5 2 9 n 0 [1, 2]).mid.length = M - 1 - 1) := by
      have h1 := enc_length (Fr.mk 5 2 9 n 0 [1, 2])
      have h2 := HML.out
      show _ = _
      omega
    have HF : Hid ((Fr.mk 5 2 9 n 0 [1, 2]).Fits) := ⟨by show 5 < 256; omega, by show 2 < 256; omega, by show 9 < 256; omega, by show n < 256; omega, by show 0 < 256; omega⟩
    have HRT : Hid ((Fr.mk 5 2 9 n 0 [1, 2]).right = true) := HR.out
    refine (decode_on H1.out.tab (enc_mid_holds HW.out) HMID.out (by omega) (by omega)).mono ?_
    rintro e x4 ⟨f, er, A4, m4, c4, g4, hf, her, hm4, rfl, hh4, -, hb⟩
    rw [decE_mid _ HF.out HRT.out] at her
    rw [decF_mid _ HF.out HRT.out] at hf
    subst her hf
    obtain rfl : m4 = 2 := hm4
    have H2 := Lib.hid ((H1.out.step hb).alloc (.cells #[.int .u8 5, .int .u8 2, .int .u8 9, .int .u8 (n : Int), .int .u8 0, .slice A4 2 c4] 24))
    have HY : Hid (Sy2 x4.heap.size g4 A4 [1, 2] #[.int .u8 5, .int .u8 2, .int .u8 9, .int .u8 (n : Int), .int .u8 0, .slice A4 2 c4] (x4.alloc (.cells #[.int .u8 5, .int .u8 2, .int .u8 9, .int .u8 (n : Int), .int .u8 0, .slice A4 2 c4] 24))) := Sy2.start hh4
    clear hb H1 HW hh4
    go_upto_region 29 with fail
    generalize (x4.alloc (.cells #[.int .u8 5, .int .u8 2, .int .u8 9, .int .u8 (n : Int), .int .u8 0, .slice A4 2 c4] 24)) = x5 at *
    generalize x4.heap.size = Z at *
    obtain ⟨b0, b1, b2, b3, b4, b5, -⟩ := row6_facts H2.out.box
    go_wp2_with fail
    refine (right_yes (a := 5) (k := 2) (s := 9) (q := n) (c := 0) HR.out).mono ?_
    rintro e x6 ⟨rfl, hb⟩
    replace H2 := Lib.hid (H2.out.step hb)
    replace HY := Lib.hid (HY.out.step hb)
    clear hb b0 b1 b2 b3 b4 b5
    obtain ⟨b0, b1, b2, b3, b4, b5, -⟩ := row6_facts H2.out.box
    obtain ⟨d0, d1, d2, d3, d4, d5, -⟩ := row6_facts HY.out.row
    have hc1 := convert_holds (c := 2) (n := 2) (l := [1, 2]) H2.out.lit.holds rfl
    have hc2 := convert_holds (c := c4) (n := 2) (l := [1, 2]) HY.out.holds rfl
    go_wp2
    go_ret
    exact ⟨rfl, H2.out.below⟩
  · have HR : Hid (rightB 5 2 n 0 2 = false) := by show _ = _; rw [← Bool.not_eq_true, rightB_iff]; omega
    have hi1 : ¬ (n : Int) < 2 := by omega
    go_enter Tryd.func5, Tryd.ntmps5
    go_wp2_with fail
    refine (shown_any w HT.out).mono ?_
    rintro e x1 ⟨rfl, hb⟩
    have H0 : Hid (Sn w x1.heap.size (x1.heap.size + 1) [1, 2] #[.int .u8 5, .int .u8 2, .int .u8 9, .int .u8 (n : Int), .int .u8 0, .slice (some ⟨x1.heap.size, 0, none⟩) 2 2] ((x1.alloc (.cells #[.int .u8 1, .int .u8 2] 5)).alloc (.cells #[.int .u8 5, .int .u8 2, .int .u8 9, .int .u8 (n : Int), .int .u8 0, .slice (some ⟨x1.heap.size, 0, none⟩) 2 2] 24))) := Sn.start (L := [1, 2]) (HT.out.keep (Ch.of_below hb) (by simp)) hb
    clear hb
    go_wp2_with fail
    generalize ((x1.alloc (.cells #[.int .u8 1, .int .u8 2] 5)).alloc (.cells #[.int .u8 5, .int .u8 2, .int .u8 9, .int .u8 (n : Int), .int .u8 0, .slice (some ⟨x1.heap.size, 0, none⟩) 2 2] 24)) = x2 at *
    generalize x1.heap.size + 1 = Fb at *
    generalize x1.heap.size = Lb at *
    refine (encode_no (g := 0) (a := 5) (k := 2) (s := 9) (q := n) (c := 0) HR.out).mono ?_
    rintro e x3 ⟨rfl, hb⟩
    have H1 := Lib.hid (H0.out.step hb)
    clear hb H0
    obtain ⟨b0, b1, b2, b3, b4, b5, -⟩ := row6_facts H1.out.box
    go_wp2_with fail
    refine (right_no (a := 5) (k := 2) (s := 9) (q := n) (c := 0) HR.out).mono ?_
    rintro e x4 ⟨rfl, hb⟩
    replace H1 := Lib.hid (H1.out.step hb)
    clear hb b0 b1 b2 b3 b4 b5
    go_wp2
    go_ret
    exact ⟨rfl, H1.out.below⟩
    all_goals (have h9 : (!decide ((n : Int) < 2)) = false := (by assumption); simp at h9 <;> omega)

set_option maxHeartbeats 8000000 in
set_option maxRecDepth 100000 in
theorem numbers4 (i : Int) (n : Nat) (w : World) (ht : Tab w) (hn : n < 256) (hp1 : (bits .and .i64 i 65535).tmod 6 = 4) (hp2 : bits .and .i64 i 65535 % 6 = 4) :
    Calls Tryd.prog 5 #[.int .i64 i, .int .u8 (n : Int)] w fun e w' => e = .returned (.bool true) ∧ Below w.heap.size w w' := by
  have HT := Lib.hid ht
  clear ht
  by_cases h1 : n < 2
  · have HR : Hid (rightB 5 2 1 n 2 = true) := by show _ = _; rw [rightB_iff]; omega
    have hi1 : (n : Int) < 2 := by omega
    go_enter Tryd.func5, Tryd.ntmps5
    go_wp2_with fail
    refine (shown_any w HT.out).mono ?_
    rintro e x1 ⟨rfl, hb⟩
    have H0 : Hid (Sn w x1.heap.size (x1.heap.size + 1) [1, 2] #[.int .u8 5, .int .u8 2, .int .u8 9, .int .u8 1, .int .u8 (n : Int), .slice (some ⟨x1.heap.size, 0, none⟩) 2 2] ((x1.alloc (.cells #[.int .u8 1, .int .u8 2] 5)).alloc (.cells #[.int .u8 5, .int .u8 2, .int .u8 9, .int .u8 1, .int .u8 (n : Int), .slice (some ⟨x1.heap.size, 0, none⟩) 2 2] 24))) := Sn.start (L := [1, 2]) (HT.out.keep (Ch.of_below hb) (by simp)) hb
    clear hb
    go_wp2_with fail
    generalize ((x1.alloc (.cells #[.int .u8 1, .int .u8 2] 5)).alloc (.cells #[.int .u8 5, .int .u8 2, .int .u8 9, .int .u8 1, .int .u8 (n : Int), .slice (some ⟨x1.heap.size, 0, none⟩) 2 2] 24)) = x2 at *
    generalize x1.heap.size + 1 = Fb at *
    generalize x1.heap.size = Lb at *
    refine (encode_yes (a := 5) (k := 2) (s := 9) (q := 1) (c := n) (L := [1, 2]) H0.out.tab H0.out.lit.holds rfl HR.out (by omega)).mono ?_
    rintro e x3 ⟨X, M, hX, hM, rfl, hrow, hb⟩
    have H1 := Lib.hid (H0.out.step hb)
    have HW := Lib.hid hrow
    have hMM : 9 ≤ M ∧ M ≤ 1000 := by
      rw [hM, enc_length]
      have h1 := mid_le (Fr.mk 5 2 9 1 n [1, 2])
      have h2 := mid_ge (Fr.mk 5 2 9 1 n [1, 2])
      have h3 : (Fr.mk 5 2 9 1 n [1, 2]).b.length = 2 := rfl
      omega
    have HML := Lib.hid hM
    clear hb hrow hX hM H0
    go_wp2_with fail
    have HMID : Hid ((Fr.mk 5 2 9 1 n [1, 2]).mid.length = M - 1 - 1) := by
      have h1 := enc_length (Fr.mk 5 2 9 1 n [1, 2])
      have h2 := HML.out
      show _ = _
      omega
    have HF : Hid ((Fr.mk 5 2 9 1 n [1, 2]).Fits) := ⟨by show 5 < 256; omega, by show 2 < 256; omega, by show 9 < 256; omega, by show 1 < 256; omega, by show n < 256; omega⟩
    have HRT : Hid ((Fr.mk 5 2 9 1 n [1, 2]).right = true) := HR.out
    refine (decode_on H1.out.tab (enc_mid_holds HW.out) HMID.out (by omega) (by omega)).mono ?_
    rintro e x4 ⟨f, er, A4, m4, c4, g4, hf, her, hm4, rfl, hh4, -, hb⟩
    rw [decE_mid _ HF.out HRT.out] at her
    rw [decF_mid _ HF.out HRT.out] at hf
    subst her hf
    obtain rfl : m4 = 2 := hm4
    have H2 := Lib.hid ((H1.out.step hb).alloc (.cells #[.int .u8 5, .int .u8 2, .int .u8 9, .int .u8 1, .int .u8 (n : Int), .slice A4 2 c4] 24))
    have HY : Hid (Sy2 x4.heap.size g4 A4 [1, 2] #[.int .u8 5, .int .u8 2, .int .u8 9, .int .u8 1, .int .u8 (n : Int), .slice A4 2 c4] (x4.alloc (.cells #[.int .u8 5, .int .u8 2, .int .u8 9, .int .u8 1, .int .u8 (n : Int), .slice A4 2 c4] 24))) := Sy2.start hh4
    clear hb H1 HW hh4
    go_upto_region 29 with fail
    generalize (x4.alloc (.cells #[.int .u8 5, .int .u8 2, .int .u8 9, .int .u8 1, .int .u8 (n : Int), .slice A4 2 c4] 24)) = x5 at *
    generalize x4.heap.size = Z at *
    obtain ⟨b0, b1, b2, b3, b4, b5, -⟩ := row6_facts H2.out.box
    go_wp2_with fail
    refine (right_yes (a := 5) (k := 2) (s := 9) (q := 1) (c := n) HR.out).mono ?_
    rintro e x6 ⟨rfl, hb⟩
    replace H2 := Lib.hid (H2.out.step hb)
    replace HY := Lib.hid (HY.out.step hb)
    clear hb b0 b1 b2 b3 b4 b5
    obtain ⟨b0, b1, b2, b3, b4, b5, -⟩ := row6_facts H2.out.box
    obtain ⟨d0, d1, d2, d3, d4, d5, -⟩ := row6_facts HY.out.row
    have hc1 := convert_holds (c := 2) (n := 2) (l := [1, 2]) H2.out.lit.holds rfl
    have hc2 := convert_holds (c := c4) (n := 2) (l := [1, 2]) HY.out.holds rfl
    go_wp2
    go_ret
    exact ⟨rfl, H2.out.below⟩
  · have HR : Hid (rightB 5 2 1 n 2 = false) := by show _ = _; rw [← Bool.not_eq_true, rightB_iff]; omega
    have hi1 : ¬ (n : Int) < 2 := by omega
    go_enter Tryd.func5, Tryd.ntmps5
    go_wp2_with fail
    refine (shown_any w HT.out).mono ?_
    rintro e x1 ⟨rfl, hb⟩
    have H0 : Hid (Sn w x1.heap.size (x1.heap.size + 1) [1, 2] #[.int .u8 5, .int .u8 2, .int .u8 9, .int .u8 1, .int .u8 (n : Int), .slice (some ⟨x1.heap.size, 0, none⟩) 2 2] ((x1.alloc (.cells #[.int .u8 1, .int .u8 2] 5)).alloc (.cells #[.int .u8 5, .int .u8 2, .int .u8 9, .int .u8 1, .int .u8 (n : Int), .slice (some ⟨x1.heap.size, 0, none⟩) 2 2] 24))) := Sn.start (L := [1, 2]) (HT.out.keep (Ch.of_below hb) (by simp)) hb
    clear hb
    go_wp2_with fail
    generalize ((x1.alloc (.cells #[.int .u8 1, .int .u8 2] 5)).alloc (.cells #[.int .u8 5, .int .u8 2, .int .u8 9, .int .u8 1, .int .u8 (n : Int), .slice (some ⟨x1.heap.size, 0, none⟩) 2 2] 24)) = x2 at *
    generalize x1.heap.size + 1 = Fb at *
    generalize x1.heap.size = Lb at *
    refine (encode_no (g := 0) (a := 5) (k := 2) (s := 9) (q := 1) (c := n) HR.out).mono ?_
    rintro e x3 ⟨rfl, hb⟩
    have H1 := Lib.hid (H0.out.step hb)
    clear hb H0
    obtain ⟨b0, b1, b2, b3, b4, b5, -⟩ := row6_facts H1.out.box
    go_wp2_with fail
    refine (right_no (a := 5) (k := 2) (s := 9) (q := 1) (c := n) HR.out).mono ?_
    rintro e x4 ⟨rfl, hb⟩
    replace H1 := Lib.hid (H1.out.step hb)
    clear hb b0 b1 b2 b3 b4 b5
    go_wp2
    go_ret
    exact ⟨rfl, H1.out.below⟩
    all_goals (have h9 : (!decide ((n : Int) < 2)) = false := (by assumption); simp at h9 <;> omega)

end Go.Proofs.YtimahjgmapdjdaaDoor
