/-
  frame.Encode, as it landed: what it answers.
-/
import Derived.Test.YtalolefggihloaaDoorFrameB
import Derived.Test.YtalolefggihloaaDoorFStuffCodeA
namespace Go.Proofs.YtalolefggihloaaDoor
set_option linter.unusedVariables false
set_option linter.unusedSimpArgs false
open Go.RowKit

/-- What stays known: the table, a slice that is held, nothing that was there turned; the frame's own cells in block B. -/
structure Se (w : World) (g : Nat) (A : Option Addr) (L : List UInt8) (B : Nat) (cs : Array Value) (x : World) : Prop where
  tab : Tab x
  holds : Holds x g A (bcs L)
  below : Below w.heap.size w x
  box : x.heap[B]? = some (.cells cs 35 (0, 0))
theorem Se.step {w x y : World} {g B : Nat} {A : Option Addr} {L : List UInt8} {cs : Array Value} (h : Se w g A L B cs x) (hb : Below x.heap.size x y) : Se w g A L B cs y :=
  ⟨h.tab.keep (Ch.of_below hb) (by simp), h.holds.keep (Ch.of_below hb) (by simp), h.below.trans (hb.mono h.below.size), (hb.block B (Array.getElem?_eq_some_iff.1 h.box).1).trans h.box⟩
theorem Se.alloc {w x : World} {g B : Nat} {A : Option Addr} {L : List UInt8} {cs : Array Value} (h : Se w g A L B cs x) (o : Obj) : Se w g A L B cs (x.alloc o) := h.step (new_below _ _)
theorem Se.start {w : World} {g : Nat} {A : Option Addr} {L : List UInt8} (cs : Array Value) (ht : Tab w) (h : Holds w g A (bcs L)) : Se w g A L w.heap.size cs (w.alloc (.cells cs 35)) :=
  ⟨ht.keep ((Ch.refl [] w).alloc _) (by simp), h.keep ((Ch.refl [] w).alloc _) (by simp), new_below _ _, heap_alloc_new w _⟩
theorem Se.cell {w x : World} {g B : Nat} {A : Option Addr} {L : List UInt8} {cs : Array Value} (h : Se w g A L B cs x) (i : Nat) : x.cell? ⟨B, i, none⟩ = cs[i]? := by
  simp only [World.cell?, h.box]
  simp

theorem encode_no {g a k s q c n cap : Nat} {A : Option Addr} {w : World} (hr : rightB a k q c n = false) :
    Calls Tryd.prog 17 #[.agg #[.int .u8 a, .int .u8 k, .int .u8 s, .int .u8 q, .int .u8 c, .slice A n cap]] w fun e w' => e = .returned (.tuple #[.slice none 0 0, .int .i64 1]) ∧ Below w.heap.size w w' := by
  have HR := Lib.hid hr
  clear hr
  go_enter Tryd.func17, Tryd.ntmps17
  go_wp2_with fail
  refine (right_no HR.out).mono ?_
  rintro e x ⟨rfl, hb1⟩
  go_wp2
  go_ret2
  exact ⟨rfl, (new_below _ _).trans (hb1.mono (by simp))⟩

set_option maxHeartbeats 1600000 in
theorem encode_yes {g a k s q c n cap : Nat} {A : Option Addr} {L : List UInt8} {w : World} (ht : Tab w) (h : Holds w g A (bcs L)) (hn : L.length = n) (hr : rightB a k q c n = true) (hs : s < 256) :
    Calls Tryd.prog 17 #[.agg #[.int .u8 a, .int .u8 k, .int .u8 s, .int .u8 q, .int .u8 c, .slice A n cap]] w
      fun e w' => ∃ X m, w.heap.size ≤ X ∧ m = (Fr.mk a k s q c L).enc.length ∧ e = .returned (.tuple #[.slice (some ⟨X, 0, none⟩) m m, .int .i64 0]) ∧ Row w' X (Fr.mk a k s q c L).enc ∧ Below w.heap.size w w' := by
  have HN := Lib.hid hn
  have H0 := Lib.hid (Se.start #[.int .u8 a, .int .u8 k, .int .u8 s, .int .u8 q, .int .u8 c, .slice A n cap] ht h)
  have HR := Lib.hid hr
  obtain ⟨⟨ha1, ha2⟩, ⟨hk1, hk2⟩, hq, hc, hn24⟩ := rightB_iff.1 hr
  clear h ht hn hr
  go_enter Tryd.func17, Tryd.ntmps17
  go_wp2_with fail
  refine (right_yes HR.out).mono ?_
  rintro e x ⟨rfl, hb1⟩
  have H1 := Lib.hid (H0.out.step hb1)
  clear H0 hb1
  have HF : Hid (Holds (x.alloc (.cells #[.int .u8 126] 5)) x.heap.size (some ⟨x.heap.size, 0, none⟩) (bcs [126])) := lit_holds x [126]
  have H2 := Lib.hid (H1.out.alloc (.cells #[.int .u8 126] 5))
  have c0 := (H2.out.cell 0).trans rfl
  have c1 := (H2.out.cell 1).trans rfl
  have c2 := (H2.out.cell 2).trans rfl
  have c3 := (H2.out.cell 3).trans rfl
  have c4 := (H2.out.cell 4).trans rfl
  have c5 := (H2.out.cell 5).trans rfl
  clear H1
  go_wp2_with fail
  refine (tosend_on hq hc hn24).mono ?_
  rintro e x1 ⟨rfl, hb⟩
  have H3 := Lib.hid (H2.out.step hb)
  replace HF := Lib.hid (HF.out.keep (Ch.of_below hb) (by simp))
  clear hb c0 c1 c2 c3 c4 c5 H2
  go_wp2_with fail
  refine (sbytes_on (t := q + 2 * c) H3.out.holds HN.out (by omega) (by omega) (by omega) hs (by omega) (by omega)).mono ?_
  rintro e x2 ⟨X1, _, rfl, hrow, hb⟩
  have H4 := Lib.hid (H3.out.step hb)
  replace HF := Lib.hid (HF.out.keep (Ch.of_below hb) (by simp))
  have HR1 := Lib.hid hrow
  clear hb H3 hrow
  go_wp2_with fail
  refine (append_on H4.out.tab HR1.out.holds (by simp [plainB, HN.out]) (by omega)).mono ?_
  rintro e x3 ⟨X2, _, rfl, hrow, hb⟩
  have H5 := Lib.hid (H4.out.step hb)
  replace HF := Lib.hid (HF.out.keep (Ch.of_below hb) (by simp))
  have HR2 := Lib.hid hrow
  clear hb H4 hrow HR1
  go_wp2_with fail
  refine (stuff_on _ _ _ _ _ _ HR2.out.holds (by simp [sld_length, plainB, HN.out]) (Nat.le_refl _) (by omega)).mono ?_
  rintro e x4 ⟨A4, n4, c4, rfl, ho, hb⟩
  have H6 := Lib.hid (H5.out.step hb)
  replace HF := Lib.hid (HF.out.keep (Ch.of_below hb) (by simp))
  obtain ⟨g4, hg4, _⟩ := ho.holds
  have HG := Lib.hid hg4
  have HL4 := Lib.hid ho.len
  have hle : n4 ≤ 2 * (n + 7) := by
    have h1 := mid_le (Fr.mk a k s q c L)
    have h2 : n4 = (Fr.mk a k s q c L).mid.length := by rw [← ho.len, ← HN.out]; rfl
    have h3 : (Fr.mk a k s q c L).b.length = n := HN.out
    omega
  clear hb H5 HR2 hg4 ho
  go_wp2_with fail
  refine (join_parts _ _ _ _ _ (three_part HF.out rfl HG.out HL4.out HF.out rfl) rfl (by simp) (by simp only [List.flatten_cons, List.flatten_nil, List.append_nil, List.length_append, List.length_cons, List.length_nil, HL4.out]; omega)).mono ?_
  rintro e x5 ⟨X, hX, rfl, hrow, hb⟩
  have H7 := Lib.hid ((H6.out.alloc _).step hb)
  have HE : Hid (([[126], stf (sld (plainB a k s (q + 2 * c) n L)), [126]] : List (List UInt8)).flatten = (Fr.mk a k s q c L).enc) := by
    show _ = _
    simp [Fr.enc, Fr.mid, Fr.inner, Fr.plain, HN.out]
  have HX : Hid (w.heap.size ≤ X) := Nat.le_trans H6.out.below.size (Nat.le_trans (by simp) hX)
  rw [HE.out] at hrow
  have HW := Lib.hid hrow
  rw [HE.out]
  clear hrow hb hX
  generalize hM : (Fr.mk a k s q c L).enc.length = M at *
  have HM := Lib.hid hM
  clear hM
  go_wp2
  go_ret2
  exact ⟨X, M, HX.out, HM.out.symm, rfl, HW.out, H7.out.below⟩

end Go.Proofs.YtalolefggihloaaDoor
