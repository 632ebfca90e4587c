/-
  lamplightlaw04.FrameCuts: whatever it is asked, true; nothing that was there is turned.
-/
import Derived.Test.YtimahjgmapdjdaaDoorFrameS
namespace Go.Proofs.YtimahjgmapdjdaaDoor
set_option linter.unusedVariables false
set_option linter.unusedSimpArgs false
open Go.RowKit

/-- As a law of layer 4 begins: the table, the frame's own cells in the first new block, its bytes. -/
structure Sl (w : World) (g : Nat) (A : Option Addr) (l : List UInt8) (cs : Array Value) (x : World) : Prop where
  tab : Tab x
  holds : Holds x g A (bcs l)
  below : Below w.heap.size w x
  box : x.heap[w.heap.size]? = some (.cells cs 24 (0, 0))
theorem Sl.start {w : World} {g : Nat} {A : Option Addr} {l : List UInt8} (cs : Array Value) (ht : Tab w) (h : Holds w g A (bcs l)) : Sl w g A l cs (w.alloc (.cells cs 24)) :=
  ⟨ht.keep ((Ch.refl [] w).alloc _) (by simp), h.keep ((Ch.refl [] w).alloc _) (by simp), new_below _ _, heap_alloc_new w _⟩
theorem Sl.step {w x y : World} {g : Nat} {A : Option Addr} {l : List UInt8} {cs : Array Value} (h : Sl w g A l cs x) (hb : Below x.heap.size x y) : Sl w g A l cs y :=
  ⟨h.tab.keep (Ch.of_below hb) (by simp), h.holds.keep (Ch.of_below hb) (by simp), h.below.trans (hb.mono h.below.size), (hb.block _ (Array.getElem?_eq_some_iff.1 h.box).1).trans h.box⟩
theorem Sl.alloc {w x : World} {g : Nat} {A : Option Addr} {l : List UInt8} {cs : Array Value} (h : Sl w g A l cs x) (o : Obj) : Sl w g A l cs (x.alloc o) := h.step (new_below _ _)

/-- A row of bytes that was made, beside the table. -/
structure Sr (w : World) (X : Nat) (L : List UInt8) (x : World) : Prop where
  tab : Tab x
  row : Row x X L
  below : Below w.heap.size w x
theorem Sr.step {w x y : World} {X : Nat} {L : List UInt8} (h : Sr w X L x) (hb : Below x.heap.size x y) : Sr w X L y :=
  ⟨h.tab.keep (Ch.of_below hb) (by simp), h.row.keep (Ch.of_below hb) (by simp), h.below.trans (hb.mono h.below.size)⟩
theorem Sr.alloc {w x : World} {X : Nat} {L : List UInt8} (h : Sr w X L x) (o : Obj) : Sr w X L (x.alloc o) := h.step (new_below _ _)

theorem enc_mid_holds {x : World} {X : Nat} {F : Fr} (h : Row x X F.enc) : Holds x X (some ⟨X, 1, none⟩) (bcs F.mid) := by
  have := (h.drop 1 (by rw [enc_length]; omega)).take F.mid.length
  rw [← bcs_take, enc_mid] at this
  exact this
theorem enc_tail_holds {x : World} {X : Nat} {F : Fr} (h : Row x X F.enc) : Holds x X (some ⟨X, 1, none⟩) (bcs (F.mid ++ [126])) := h.drop 1 (by rw [enc_length]; omega)

set_option maxHeartbeats 4000000 in
set_option maxRecDepth 100000 in
theorem framecuts_walk (g a k s q c n cap : Nat) (A : Option Addr) (l : List UInt8) (i : Int) (w : World) (ht : Tab w) (h : Holds w g A (bcs l)) (hn : l.length = n) (hc : n ≤ cap) (hs : s < 256) :
    Calls Tryd.prog 4 #[.agg #[.int .u8 a, .int .u8 k, .int .u8 s, .int .u8 q, .int .u8 c, .slice A n cap], .int .i64 i] w fun e w' => e = .returned (.bool true) ∧ Below w.heap.size w w' := by
  have H0 := Lib.hid (Sl.start #[.int .u8 a, .int .u8 k, .int .u8 s, .int .u8 q, .int .u8 c, .slice A n cap] ht h)
  have HN := Lib.hid hn
  clear h ht hn
  go_enter Tryd.func4, Tryd.ntmps4
  go_wp2_with fail
  refine (shown_any _ H0.out.tab).mono ?_
  rintro e x1 ⟨rfl, hb⟩
  have H1 := Lib.hid (H0.out.step hb)
  clear hb H0
  obtain ⟨b0, b1, b2, b3, b4, b5, _⟩ := row6_facts H1.out.box
  go_wp2_with fail
  refine (few_on H1.out.holds HN.out hc).mono ?_
  rintro e x2 ⟨A2, m, c2, rfl, ho, hb⟩
  have H2 := Lib.hid (H1.out.step hb)
  obtain ⟨g2, hg2, _⟩ := ho.holds
  have HO := Lib.hid hg2
  have HM := Lib.hid ho.len
  clear hb H1 ho hg2 b0 b1 b2 b3 b4 b5
  generalize l.take 50 = L at *
  cases hr : rightB a k q c m
  · have HR := Lib.hid hr
    clear hr
    go_wp2_with fail
    refine (encode_no (g := 0) HR.out).mono ?_
    rintro e x3 ⟨rfl, hb⟩
    have H3 := Lib.hid (H2.out.step hb)
    clear hb H2
    go_wp2
    go_ret
    exact ⟨rfl, H3.out.below⟩
  · have HR := Lib.hid hr
    clear hr
    go_wp2_with fail
    refine (encode_yes H2.out.tab HO.out HM.out HR.out hs).mono ?_
    rintro e x3 ⟨X, M, hX, hM, rfl, hrow, hb⟩
    have H3 : Hid (Sr w X (Fr.mk a k s q c L).enc x3) := ⟨(H2.out.step hb).tab, hrow, (H2.out.step hb).below⟩
    clear hb H2 hrow hX HO
    generalize hF : Fr.mk a k s q c L = F at *
    rw [enc_length] at hM
    have h7 : 7 ≤ F.mid.length := by have := mid_ge F; omega
    have h31 : F.mid.length ≤ 1000 := by
      have h1 := mid_le F
      have h2 := (rightB_iff.1 HR.out).2.2.2.2
      have h3 : F.b.length = m := by rw [← hF]; exact HM.out
      omega
    have HK := Lib.hid (Eq.refl F.mid.length)
    generalize hK : F.mid.length = μ at *
    replace HK := Lib.hid hK
    clear hF HR HM hK
    subst hM
    have hmin : (if (7 : Int) < (μ : Int) then (7 : Int) else (μ : Int)) = 7 := by
      by_cases h : (7 : Int) < (μ : Int)
      · rw [if_pos h]
      · rw [if_neg h]; omega
    obtain ⟨p, hp, hp1, hp2⟩ := place_at i 7 (by omega)
    rw [show ((7 : Nat) : Int) = 7 from rfl] at hp1 hp2
    have hpm : p ≤ μ := by omega
    go_wp2_with fail
    refine (decode_on (l := F.mid.take p) H3.out.tab (by rw [bcs_take]; exact (enc_mid_holds H3.out.row).take p) (by rw [List.length_take, HK.out]; omega) (by omega) (by omega)).mono ?_
    rintro e x4 ⟨f4, er, A4, m4, c4, g4, -, her, -, rfl, -, -, hb⟩
    rw [decE_cut F p hp] at her
    subst her
    have H4 := Lib.hid ((H3.out.step hb).alloc (.cells #[.int .u8 (f4.a : Int), .int .u8 (f4.k : Int), .int .u8 (f4.s : Int), .int .u8 (f4.q : Int), .int .u8 (f4.c : Int), .slice A4 m4 c4] 24))
    clear hb H3
    go_wp2_with fail
    refine (decode_on (l := F.mid ++ [126]) H4.out.tab (enc_tail_holds H4.out.row) (by rw [List.length_append, HK.out]; rfl) (by omega) (by omega)).mono ?_
    rintro e x5 ⟨f5, er, A5, m5, c5, g5, -, her, -, rfl, -, -, hb⟩
    rw [decE_flag F] at her
    subst her
    have H5 := Lib.hid ((H4.out.step hb).alloc (.cells #[.int .u8 (f5.a : Int), .int .u8 (f5.k : Int), .int .u8 (f5.s : Int), .int .u8 (f5.q : Int), .int .u8 (f5.c : Int), .slice A5 m5 c5] 24))
    clear hb H4
    go_wp2
    go_ret
    exact ⟨rfl, H5.out.below⟩

end Go.Proofs.YtimahjgmapdjdaaDoor
