/-
  lamplightlaw05.shown answers true, and turns nothing that was there.
-/
import Derived.Test.YtalolefggihloaaDoorResyncF
namespace Go.Proofs.YtalolefggihloaaDoor
set_option linter.unusedVariables false
set_option linter.unusedSimpArgs false
open Go.RowKit

/-- A decoder of one's own, beside the table. -/
structure Sd (w : World) (D : Nat) (d : Dc) (N : Nat) (x : World) : Prop where
  tab : Tab x
  dec : Dec x D d N
  below : Below w.heap.size w x
  le : w.heap.size ≤ D
theorem Sd.step {w x y : World} {D N : Nat} {d : Dc} (h : Sd w D d N x) (hb : Below x.heap.size x y) : Sd w D d N y :=
  ⟨h.tab.keep (Ch.of_below hb) (by simp), h.dec.keep (Ch.of_below hb) (by simp), h.below.trans (hb.mono h.below.size), h.le⟩
theorem Sd.turn {w x y : World} {D N N' : Nat} {d d' : Dc} (h : Sd w D d N x) (ht : Tab y) (hd : Dec y D d' N') (hc : Ch [D] x y) : Sd w D d' N' y :=
  ⟨ht, hd, h.below.trans (hc.belowAt (by simpa using h.le) h.below.size), h.le⟩
/-- Another block of one's own turned. -/
theorem Sd.other {w x y : World} {D N Z : Nat} {d : Dc} (h : Sd w D d N x) (hc : Ch [Z] x y) (hZ : w.heap.size ≤ Z) (h0 : 0 < w.heap.size) (hne : D ≠ Z) : Sd w D d N y :=
  ⟨h.tab.keep hc (by simp; omega), h.dec.keep hc (by simpa using hne), h.below.trans (hc.belowAt (by simpa using hZ) h.below.size), h.le⟩
/-- A zero decoder's cells. -/
abbrev zeroDec : Array Value := (dcs (fun _ => 0) (List.replicate 62 0) 0 false).toArray
theorem Dec.start (w : World) : Dec (w.alloc (.cells zeroDec 30)) w.heap.size Dc.zero 0 :=
  ⟨⟨List.replicate 62 0, ⟨heap_alloc_new w _, by simp⟩, rfl⟩, Ok.zero, fun _ => Nat.le_refl _⟩

theorem zero_info : (Tryd.prog.info? 30).map (fun i => i.zero) = some (some (.agg zeroDec)) := by kernel_rfl
theorem zero_ex : ∃ zs : Array Value, zs = zeroDec ∧ (∀ x, (zeroValue 30).run Tryd.prog x = .ok (.agg zs) x) ∧ zs.size = 76 ∧ ¬ zs = #[] := by
  refine ⟨zeroDec, rfl, fun x => ?_, by kernel_rfl, fun h => ?_⟩
  · cases hi : Tryd.prog.info? 30 with
    | none => have := zero_info; rw [hi] at this; cases this
    | some i =>
      have h := zero_info
      rw [hi] at h
      have h2 : i.zero = some (.agg zeroDec) := by simpa using h
      simp [zeroValue, typeInfo, hi, h2]
  · have h1 : zeroDec.size = 76 := by kernel_rfl
    rw [h] at h1
    cases h1

/-- A frame's bytes behind its first flag. -/
theorem feed_tail (F : Fr) (d : Dc) (hh : d.held = []) (ho : d.over = false) (hf : F.Fits) (hr : F.right = true) : d.feed (F.mid ++ [126]) = (d, [F]) := by
  have h := feed_enc F d hh ho hf hr
  have h1 : d.one 126 = (d, []) := by
    unfold Dc.one
    rw [if_pos rfl, ho, if_neg (by simp), if_pos hh]
  rw [Fr.enc, feed_cons, h1, List.nil_append] at h
  exact h

theorem Told.cell {w : World} {B n c : Nat} {A : Option Addr} {ts : List Tf} (h : Told w B (.slice A n c) n ts) (k : Nat) (hk : k < ts.length) : ∃ g, A = some ⟨g, 0, none⟩ ∧ B ≤ g ∧ g < w.heap.size ∧ (w.cell? ⟨g, k * 6, none⟩ = some (.int .u8 ((ts[k]).f.a : Int)) ∧ w.cell? ⟨g, k * 6 + 1, none⟩ = some (.int .u8 ((ts[k]).f.k : Int)) ∧ w.cell? ⟨g, k * 6 + 2, none⟩ = some (.int .u8 ((ts[k]).f.s : Int)) ∧ w.cell? ⟨g, k * 6 + 3, none⟩ = some (.int .u8 ((ts[k]).f.q : Int)) ∧ w.cell? ⟨g, k * 6 + 4, none⟩ = some (.int .u8 ((ts[k]).f.c : Int)) ∧ w.cell? ⟨g, k * 6 + 5, none⟩ = some (.slice (ts[k]).A (ts[k]).f.b.length (ts[k]).c)) := by
  have hn := h.len
  have hlt := h.own.lt
  rcases h.own.2 with ⟨_, h0⟩ | ⟨g, cap, cur, hv, hb, hh, h1, h2, h3, h4⟩
  · omega
  · injection hv with hA _ _
    subst hA
    have key : ∀ j, j < 6 → w.cell? ⟨g, k * 6 + j, none⟩ = (ts[k]).cells[j]? := by
      intro j hj
      have h5 := tcs_get ts k j hk hj
      have h6 : (tcs ts)[k * 6 + j]? = some ((ts[k]).cells[j]'(by show j < 6; exact hj)) := by rw [h5, List.getElem?_eq_getElem]
      have h7 := h.own.cells (g := g) rfl _ _ h6
      rw [addr_add, Nat.zero_add] at h7
      rw [h7, List.getElem?_eq_getElem]
    exact ⟨g, rfl, hb, (Array.getElem?_eq_some_iff.1 hh).1, key 0 (by decide), key 1 (by decide), key 2 (by decide), key 3 (by decide), key 4 (by decide), key 5 (by decide)⟩

abbrev sA : Fr := ⟨1, 3, 2, 0, 0, []⟩
abbrev sB : Fr := ⟨2, 2, 0, 0, 0, [120]⟩
abbrev sN : List UInt8 := [110, 111, 105, 115, 101]
theorem sA_right : sA.right = true := by decide
theorem sB_right : sB.right = true := by decide
theorem sA_fits : sA.Fits := ⟨by decide, by decide, by decide, by decide, by decide⟩
theorem sB_fits : sB.Fits := ⟨by decide, by decide, by decide, by decide, by decide⟩
theorem sA_len : sA.enc.length = 9 := by decide +kernel
theorem sB_len : sB.enc.length = 11 := by decide +kernel
theorem sN_dec : decE sN = 2 := by decide +kernel
def s1 : Dc := ⟨sN, false, fun _ => 0⟩
def s2 : Dc := ⟨[], false, bump (fun _ => 0) 2⟩
theorem s_one : Dc.zero.feed sN = (s1, []) := by
  have := feed_plain sN Dc.zero rfl rfl (by decide)
  rw [this]
  rfl
theorem s_two : s1.feed sA.enc = (s2, [sA]) := by
  have h1 : s1.one 126 = (s2, []) := by
    unfold Dc.one s1
    rw [if_pos rfl]
    simp only [Bool.false_eq_true, if_false, sN_dec]
    rfl
  rw [Fr.enc, feed_cons, h1, feed_tail sA s2 rfl rfl sA_fits sA_right]
  rfl
theorem s_three : s2.feed (sB.enc.drop 1) = (s2, [sB]) := by rw [enc_drop]; exact feed_tail sB s2 rfl rfl sB_fits sB_right

set_option maxHeartbeats 4000000 in
set_option maxRecDepth 100000 in
theorem shown_any (w : World) (ht : Tab w) : Calls Tryd.prog 9 #[] w fun e w' => e = .returned (.bool true) ∧ Below w.heap.size w w' := by
  have HTB := Lib.hid ht
  clear ht
  go_enter Tryd.func9, Tryd.ntmps9
  go_wp2_with fail
  refine (encode_yes (g := 0) (a := 1) (k := 3) (s := 2) (q := 0) (c := 0) (L := []) HTB.out (Holds.nil _ _ _) rfl rfl (by decide)).mono ?_
  rintro e x1 ⟨Xa, m, hX, hm, rfl, hrow, hb⟩
  rw [show (Fr.mk 1 3 2 0 0 []).enc.length = 9 from sA_len] at hm
  subst hm
  have HT1 := Lib.hid (HTB.out.keep (Ch.of_below hb) (by simp))
  have HW1 := Lib.hid hb
  have HR1 := Lib.hid hrow
  have HXa := Lib.hid hX
  clear hb hrow hX HTB
  go_upto_region 2 with fail
  have hcv := const_one x1 #[.int .u8 120] 1 1
  have HL2 := Lib.hid (heap_alloc_new x1 (.cells #[.int .u8 120] 5 (1, 2)))
  have HW2 := Lib.hid (new_below x1 (.cells #[.int .u8 120] 5 (1, 2)))
  go_wp2_with fail
  have HH2 : Hid (Holds (x1.alloc (.cells #[.int .u8 120] 5 (1, 2))) x1.heap.size (some ⟨x1.heap.size, 0, none⟩) (bcs [120])) := Holds.of_row HL2.out
  clear hcv
  generalize x1.alloc (.cells #[.int .u8 120] 5 (1, 2)) = x2 at *
  refine (encode_yes (a := 2) (k := 2) (s := 0) (q := 0) (c := 0) (L := [120]) (HT1.out.keep (Ch.of_below HW2.out) (by simp)) HH2.out rfl rfl (by decide)).mono ?_
  rintro e x3 ⟨Xb, m, hX, hm, rfl, hrow, hb⟩
  rw [show (Fr.mk 2 2 0 0 0 [120]).enc.length = 11 from sB_len] at hm
  subst hm
  have HT3 := Lib.hid ((HT1.out.keep (Ch.of_below HW2.out) (by simp)).keep (Ch.of_below hb) (by simp))
  have HW3 : Hid (Below w.heap.size w x3) := (HW1.out.trans (HW2.out.mono HW1.out.size)).trans (hb.mono (Nat.le_trans HW1.out.size HW2.out.size))
  have HR3 : Hid (Row x3 Xa sA.enc) := (HR1.out.keep (Ch.of_below HW2.out) (by simp)).keep (Ch.of_below hb) (by simp)
  have HB3 : Hid (Row x3 Xb sB.enc) := hrow
  clear hb hrow hX HT1 HW1 HR1 HL2 HW2 HH2
  obtain ⟨zs, hzs, hz, hzn, hz0⟩ := zero_ex
  have HZ := Lib.hid hzs
  clear hzs
  go_upto_region 6 with fail
  have HS4 : Hid (Sd w x3.heap.size Dc.zero 0 (x3.alloc (.cells zs 30))) := by
    rw [HZ.out]
    exact ⟨HT3.out.keep ((Ch.refl [] x3).alloc _) (by simp), Dec.start x3, HW3.out.alloc HW3.out.size _, HW3.out.size⟩
  have HR4 := Lib.hid (HR3.out.keep ((Ch.refl [] x3).alloc (.cells zs 30)) (by simp))
  have HB4 := Lib.hid (HB3.out.keep ((Ch.refl [] x3).alloc (.cells zs 30)) (by simp))
  have HXa3 := Lib.hid HR3.out.lt
  have HXb3 := Lib.hid HB3.out.lt
  clear HR3 HB3 HT3 HW3 hz hzn hz0 HZ
  generalize x3.alloc (.cells zs 30) = x4 at *
  generalize x3.heap.size = D at *
  have hcv := const_one x4 #[.int .u8 110, .int .u8 111, .int .u8 105, .int .u8 115, .int .u8 101] 5 5
  have HL5 := Lib.hid (heap_alloc_new x4 (.cells #[.int .u8 110, .int .u8 111, .int .u8 105, .int .u8 115, .int .u8 101] 5 (5, 6)))
  have HW5 := Lib.hid (new_below x4 (.cells #[.int .u8 110, .int .u8 111, .int .u8 105, .int .u8 115, .int .u8 101] 5 (5, 6)))
  go_wp2_with fail
  have HS5 := Lib.hid (HS4.out.step HW5.out)
  have HR5 := Lib.hid (HR4.out.keep (Ch.of_below HW5.out) (by simp))
  have HB5 := Lib.hid (HB4.out.keep (Ch.of_below HW5.out) (by simp))
  have HH5 : Hid (Holds (x4.alloc (.cells #[.int .u8 110, .int .u8 111, .int .u8 105, .int .u8 115, .int .u8 101] 5 (5, 6))) x4.heap.size (some ⟨x4.heap.size, 0, none⟩) (bcs sN)) := Holds.of_row HL5.out
  have HD4 := Lib.hid HS4.out.dec.lt
  clear hcv HS4 HR4 HB4 HL5 HW5
  generalize x4.alloc (.cells #[.int .u8 110, .int .u8 111, .int .u8 105, .int .u8 115, .int .u8 101] 5 (5, 6)) = x5 at *
  refine (feed_on (l := sN) HS5.out.tab HS5.out.dec HH5.out rfl (fun _ => by have := HD4.out; omega) (by decide)).mono ?_
  rintro e x6 ⟨A6, m6, c6, ts6, rfl, ho6, hf6, hm6, hd6, ht6, hc6⟩
  rw [s_one] at hf6 hd6
  have hm0 : m6 = 0 := by rw [← ho6.len, ← List.length_map (f := (·.f)), hf6]; rfl
  subst hm0
  have HS6 := Lib.hid (HS5.out.turn ht6 hd6 hc6)
  have HR6 := Lib.hid (HR5.out.keep hc6 (by have := HXa3.out; simp; omega))
  have HB6 := Lib.hid (HB5.out.keep hc6 (by have := HXb3.out; simp; omega))
  clear ho6 hf6 hm6 hd6 ht6 hc6 HS5 HR5 HB5 HH5
  go_wp2_with fail
  refine (held_on HS6.out.dec).mono ?_
  rintro e x7 ⟨rfl, rfl⟩
  rw [show (s1.held.length : Int) = 5 from rfl]
  go_wp2_with fail
  refine (feed_on (l := sA.enc) HS6.out.tab HS6.out.dec HR6.out.holds sA_len (fun _ => by have := HXa3.out; omega) (by decide)).mono ?_
  rintro e x8 ⟨A8, m8, c8, ts8, rfl, ho8, hf8, hm8, hd8, ht8, hc8⟩
  rw [s_two] at hf8 hd8
  have hl8 : ts8.length = 1 := by rw [← List.length_map (f := (·.f)), hf8]; rfl
  have hm1 : m8 = 1 := by rw [← ho8.len]; exact hl8
  subst hm1
  obtain ⟨t8, rfl⟩ := List.length_eq_one_iff.1 hl8
  have ht8f : t8.f = sA := by simpa using hf8
  have HS8 := Lib.hid (HS6.out.turn ht8 hd8 hc8)
  have HB8 := Lib.hid (HB6.out.keep hc8 (by have := HXb3.out; simp; omega))
  obtain ⟨G8, rfl, hG8, hG8l, -, -, hc82, -⟩ := ho8.cell 0 (by simp)
  have HC82 : Hid (x8.cell? ⟨G8, 2, none⟩ = some (.int .u8 2)) := by
    rw [show ([t8] : List Tf)[0] = t8 from rfl, ht8f] at hc82
    exact hc82
  have HG8 : Hid (D < G8 ∧ G8 < x8.heap.size) := ⟨Nat.lt_of_lt_of_le HS6.out.dec.lt hG8, hG8l⟩
  clear ho8 hf8 hm8 hd8 ht8 hc8 HS6 HR6 HB6 hl8 hc82 hG8 hG8l ht8f
  have hm11 : (if (11 : Int) < 1 then (11 : Int) else 1) = 1 := rfl
  go_wp2_with fail
  refine (feed_on (l := sB.enc.drop 1) HS8.out.tab HS8.out.dec (HB8.out.drop 1 (by rw [sB_len]; decide)) (by rw [List.length_drop, sB_len]) (fun _ => by have := HXb3.out; omega) (by rw [sA_len]; decide)).mono ?_
  rintro e x9 ⟨A9, m9, c9, ts9, rfl, ho9, hf9, hm9, hd9, ht9, hc9⟩
  rw [s_three] at hf9 hd9
  have hl9 : ts9.length = 1 := by rw [← List.length_map (f := (·.f)), hf9]; rfl
  have hm1 : m9 = 1 := by rw [← ho9.len]; exact hl9
  subst hm1
  obtain ⟨t9, rfl⟩ := List.length_eq_one_iff.1 hl9
  have ht9f : t9.f = sB := by simpa using hf9
  have HS9 := Lib.hid (HS8.out.turn ht9 hd9 hc9)
  have HG9 := Lib.hid HG8.out
  replace HC82 := Lib.hid ((hc9.cell (p := ⟨G8, 2, none⟩) HG8.out.2 (by have := HG8.out.1; simp; omega)).trans HC82.out)
  obtain ⟨G9, rfl, hG9, hG9l, -, -, -, -, -, hc95⟩ := ho9.cell 0 (by simp)
  have HI9 := Lib.hid ((ho9.in_ t9 (by simp)).holds)
  rw [show ([t9] : List Tf)[0] = t9 from rfl, ht9f] at hc95
  rw [ht9f] at HI9
  have HC95 : Hid (x9.cell? ⟨G9, 5, none⟩ = some (.slice t9.A 1 t9.c)) := hc95
  have HG9l := Lib.hid hG9l
  have HG8l : Hid (G8 < x9.heap.size) := Nat.lt_of_lt_of_le HG8.out.2 hc9.size
  clear ho9 hf9 hm9 hd9 ht9 hc9 HS8 HB8 hl9 hc95 hG9 hG9l ht9f
  go_wp2_with fail
  refine (errors_on HS9.out.dec).mono ?_
  rintro e x10 ⟨rfl, hb10⟩
  rw [show (ecs s2.errs).toArray = #[.int .i64 0, .int .i64 0, .int .i64 1, .int .i64 0, .int .i64 0, .int .i64 0, .int .i64 0, .int .i64 0, .int .i64 0, .int .i64 0, .int .i64 0, .int .i64 0] from rfl]
  have HS10 := Lib.hid (HS9.out.step hb10)
  have c1 := (hb10.cell (p := ⟨G8, 2, none⟩) HG8l.out).trans HC82.out
  have c2 := (hb10.cell (p := ⟨G9, 5, none⟩) HG9l.out).trans HC95.out
  have HI10 := Lib.hid (HI9.out.keep (Ch.of_below hb10) (by simp))
  have l1 : G8 < x10.heap.size := Nat.lt_of_lt_of_le HG8l.out hb10.size
  have l2 : G9 < x10.heap.size := Nat.lt_of_lt_of_le HG9l.out hb10.size
  clear hb10 HS9 HC82 HC95 HI9
  go_upto_region 11 with fail
  have HW11 := Lib.hid (new_below x10 (.cells #[.int .i64 0, .int .i64 0, .int .i64 1, .int .i64 0, .int .i64 0, .int .i64 0, .int .i64 0, .int .i64 0, .int .i64 0, .int .i64 0, .int .i64 0, .int .i64 0] 25))
  have HE11 := cell_alloc_new x10 #[.int .i64 0, .int .i64 0, .int .i64 1, .int .i64 0, .int .i64 0, .int .i64 0, .int .i64 0, .int .i64 0, .int .i64 0, .int .i64 0, .int .i64 0, .int .i64 0] 25 x10.heap.size 2 rfl
  replace HE11 := HE11.trans rfl
  have HS11 := Lib.hid (HS10.out.step HW11.out)
  replace c1 := (HW11.out.cell (p := ⟨G8, 2, none⟩) l1).trans c1
  replace c2 := (HW11.out.cell (p := ⟨G9, 5, none⟩) l2).trans c2
  have hcv := convert_holds (c := t9.c) (HI10.out.keep (Ch.of_below HW11.out) (by simp)) (n := 1) rfl
  clear HI10 HS10 HW11 l1 l2
  generalize x10.alloc (.cells #[.int .i64 0, .int .i64 0, .int .i64 1, .int .i64 0, .int .i64 0, .int .i64 0, .int .i64 0, .int .i64 0, .int .i64 0, .int .i64 0, .int .i64 0, .int .i64 0] 25) = x11 at *
  generalize x10.heap.size = E at *
  go_wp2_with fail
  refine (held_on HS11.out.dec).mono ?_
  rintro e x12 ⟨rfl, rfl⟩
  rw [show (s2.held.length : Int) = 0 from rfl]
  go_wp2
  go_ret
  exact ⟨rfl, HS11.out.below⟩

end Go.Proofs.YtalolefggihloaaDoor
