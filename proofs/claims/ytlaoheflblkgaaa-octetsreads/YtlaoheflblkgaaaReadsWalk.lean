/-
  lamplightlaw01.OctetsReads answers true, and turns nothing that was there: the walk.
-/
import Derived.Test.YtlaoheflblkgaaaReadsMath
import Derived.Test.YtlaoheflblkgaaaEager
import Derived.Deep.DeepCutAuto
import Derived.Deep.CutBlock
namespace Go.Proofs.Ytlaoheflblkgaaa
set_option linter.unusedVariables false
set_option linter.unusedSimpArgs false
open Go.RowKit

/-- The reader and the document's, with the same left. -/
structure RSt (w wr : World) (R g Z : Nat) (q : List UInt8) : Prop where
  r : Rdr wr R g q
  z : Ref wr Z q
  ne : R ≠ Z ∧ g ≠ Z
  from_ : w.heap.size ≤ R ∧ w.heap.size ≤ g ∧ w.heap.size ≤ Z
  len : q.length ≤ 200
  below : Below w.heap.size w wr

theorem RSt.keep {F : List Nat} {w wr w' : World} {R g Z : Nat} {q : List UInt8} (h : RSt w wr R g Z q) (hc : Ch F wr w') (hF : ∀ x ∈ F, x ≠ R ∧ x ≠ g ∧ x ≠ Z ∧ w.heap.size ≤ x) : RSt w w' R g Z q :=
  ⟨h.r.keep hc (fun hm => (hF _ hm).1 rfl) (fun hm => (hF _ hm).2.1 rfl), h.z.keep hc (fun hm => (hF _ hm).2.2.1 rfl), h.ne, h.from_, h.len, h.below.trans (hc.belowAt (fun x hx => (hF x hx).2.2.2) h.below.size)⟩

theorem own_keep {F : List Nat} {w w' : World} {v : Value} {n : Nat} {xs : List Value} {e : TypeId} (h : w.ownsRow 0 e 1 v n xs) (hc : Ch F w w') (hF : ∀ g, v.ownBlock = some g → g ∉ F) : w'.ownsRow 0 e 1 v n xs := by
  refine ⟨h.1, ?_⟩
  rcases h.2 with hn | ⟨g, cap, cur, rfl, hb, hh, r⟩
  · exact .inl hn
  · exact .inr ⟨g, cap, cur, rfl, hb, (hc.block g (Array.getElem?_eq_some_iff.1 hh).1 (hF g rfl)).trans hh, r⟩

theorem drI_le (q : List UInt8) (n : Int) : (drI q n).length ≤ q.length := by
  unfold drI dr
  split
  · exact Nat.le_refl _
  · split
    · simp
    · exact Nat.le_refl _
theorem tkI_le (q : List UInt8) (n : Int) : (tkI q n).length ≤ q.length := by
  unfold tkI tk
  split
  · simp
  · split
    · simp; omega
    · simp
/-- Both have taken the same. -/
theorem RSt.step {w wr w5 w6 : World} {R g Z : Nat} {q q' : List UInt8} (h : RSt w wr R g Z q) (hr : Rdr w5 R g q') (hc5 : Ch [R] wr w5) (hz : Ref w6 Z q') (hc6 : Ch [Z] w5 w6) (hl : q'.length ≤ q.length) : RSt w w6 R g Z q' := by
  have hn := h.ne
  have hf := h.from_
  have hb5 : Below w.heap.size w w5 := h.below.trans (hc5.belowAt (by simp; omega) h.below.size)
  exact ⟨hr.keep hc6 (by simp; omega) (by simp; omega), hz, hn, hf, Nat.le_trans hl h.len, hb5.trans (hc6.belowAt (by simp; omega) hb5.size)⟩

/-- What the switch leaves. -/
def Sw (w : World) (R g Z : Nat) (s11 s12 s13 s14 s15 s16 : Value) (wx : World) : Prop :=
  ∃ (q t : List UInt8) (E : Int), RSt w wx R g Z q ∧ s12 = .string ⟨t.toArray⟩ ∧ s14 = .int .i64 E ∧ s15 = .int .i64 E ∧
    ((s16 = .bool true ∧ s11 = .int .u32 (num t : Nat) ∧ t.length ≤ 4 ∧ s13 = .slice none 0 0) ∨
     (s16 = .bool false ∧ s11 = .int .u32 0 ∧ ∃ A c G, s13 = .slice A t.length c ∧ Told wx G A t ∧ t.length ≤ 200 ∧ G ≠ R ∧ G ≠ g ∧ G ≠ Z ∧ w.heap.size ≤ G))

/-- Steps as they come in. -/
def StepsAt (w : World) (P : Option Addr) (st : List (Int × Int)) : Prop :=
  ∀ k p, st[k]? = some p → ∃ b o, P = some ⟨b, o, none⟩ ∧ b < w.heap.size ∧ w.cell? ⟨b, o + k * 2, none⟩ = some (.int .i64 p.1) ∧ w.cell? ⟨b, o + k * 2 + 1, none⟩ = some (.int .i64 p.2)

set_option maxHeartbeats 4000000 in
set_option maxRecDepth 100000 in
theorem reads_walk (g0 : Nat) (A : Option Addr) (l0 : List UInt8) (len cap : Nat) (P : Option Addr) (n c : Nat) (st : List (Int × Int)) (w : World)
    (h : Holds w g0 A (bcs l0)) (hlen : l0.length = len) (hcap : len ≤ cap) (hmx : cap ≤ 9223372036854775807) (hst : StepsAt w P st) (hn : st.length = n) (hnm : n ≤ 9223372036854775807) :
    Calls Try.prog 3 #[.slice A len cap, .slice P n c] w fun e w' => e = .returned (.bool true) ∧ Below w.heap.size w w' := by
  obtain ⟨i0, hi, hz0, hz1, hz2⟩ := info_parts info_byte
  obtain ⟨m, hm2, hml, hmin⟩ := min_of len 200 200 rfl
  have HH := Lib.hid h
  have HL := Lib.hid hlen
  have HS := Lib.hid hst
  have HN := Lib.hid hn
  clear h hlen hst hn
  go_enter Try.func3, Try.ntmps3
  go_wp2_with fail
  refine (shown_any w).mono ?_
  rintro e w1 ⟨rfl, hb1⟩
  obtain ⟨l, hl⟩ : ∃ l, l = l0.take m := ⟨_, rfl⟩
  have HLL : Hid (l.length = m) := by show _ = _; rw [hl, List.length_take, HL.out]; omega
  have HBL : Hid ((bcs l).length = m) := by show _ = _; rw [bcs_length, HLL.out]
  have hmc : (m : Int) ≤ (cap : Int) := by omega
  have HH1 : Hid (Holds (w1.alloc (.cells #[] 5)) g0 A (bcs l)) := by
    rw [hl, show bcs (l0.take m) = (bcs l0).take m by simp [bcs]]
    exact ((HH.out.take m).keep (Ch.of_below hb1) (by simp)).keep ((Ch.refl [] w1).alloc _) (by simp)
  have HE1 : Hid ((w1.alloc (.cells #[] 5)).ownsRow 0 5 1 (.slice (some ⟨w1.heap.size, 0, none⟩) 0 0) 0 []) := World.ownsRow_made w1 #[] 0 (Nat.zero_le _) (Nat.zero_le _) rfl
  have hw1 : w.heap.size ≤ w1.heap.size := hb1.size
  have HB1 : Hid (Below w.heap.size w (w1.alloc (.cells #[] 5))) := hb1.alloc hw1 _
  clear hl HH HL hb1
  go_wp2_with (at_builtin; refine wpList_append_holds rfl (.tmp 23) (.tmp 28) 22 rfl 5 i0 (.int .u8 0) 1 Try.underlying22 hi hz0 hz1 hz2 rfl (.slice (some ⟨w1.heap.size, 0, none⟩) 0 0) 0 [] rfl HE1.out g0 A m cap (bcs l) rfl HBL.out HH1.out (bcs_one _) (by unfold maxLen; omega) (by omega) ?_; intro A2 c2 w2 hown2 hgrow2 hat2; simp only [Nat.zero_add, List.nil_append] at hown2 hat2; rw [Nat.zero_add])
  obtain ⟨go, hA2, hgo1, hgo2⟩ : ∃ go, A2 = some ⟨go, 0, none⟩ ∧ w1.heap.size ≤ go ∧ go < w2.heap.size := by
    rcases hown2.2 with ⟨hx, _⟩ | ⟨go, cp, cur, hx, _, hh, _⟩
    · rw [hx] at hat2
      simp [Value.ownBlock] at hat2
    · have hx' := hx
      injection hx with hA _ _
      rw [hx'] at hat2
      simp [Value.ownBlock] at hat2
      exact ⟨go, hA, by omega, (Array.getElem?_eq_some_iff.1 hh).1⟩
  subst hA2
  have hb2 : Below w.heap.size w w2 := HB1.out.grown hgrow2 (by simp; omega) (by intro x hx; simp [Value.ownBlock] at hx; omega)
  have HO2 := Lib.hid hown2
  have HH2 : Hid (Holds w2 go (some ⟨go, 0, none⟩) (bcs l)) := own_holds hown2 (by intro h hh; simp [Value.ownBlock] at hh; exact hh.symm)
  have hw2 : w.heap.size ≤ w2.heap.size := hb2.size
  clear hown2 hgrow2 hat2 HE1 HH1 HB1
  refine (read_len go _ m c2 l w2 HH2.out HLL.out (by omega)).mono ?_
  rintro e w3 ⟨R, g, hR, hg, rfl, hr3, hb3'⟩
  have hcv := convert_holds (c := c2) (HH2.out.keep (Ch.of_below hb3') (by simp)) HLL.out
  have hb3 : Below w.heap.size w w3 := hb2.trans (hb3'.mono hb2.size)
  have HO3 : Hid (w3.ownsRow 0 5 1 (.slice (some ⟨go, 0, none⟩) m c2) m (bcs l)) := own_keep HO2.out (Ch.of_below hb3') (by simp)
  have hRl := hr3.lt
  have hgl := hr3.glt
  have HR3 := Lib.hid hr3
  have HB3 := Lib.hid hb3
  have hw3 : w2.heap.size ≤ w3.heap.size := hb3'.size
  clear hr3 hb3 hb3' hb2 HH2 HO2
  have hch4 : Ch [] w3 (w3.alloc (.cells #[.string ⟨l.toArray⟩] 29)) := (Ch.refl [] w3).alloc _
  have HT4 : Hid (RSt w (w3.alloc (.cells #[.string ⟨l.toArray⟩] 29)) R g w3.heap.size l) :=
    ⟨HR3.out.keep hch4 (by simp) (by simp), heap_alloc_new w3 _, by omega, by omega, by rw [HLL.out]; exact hm2, HB3.out.alloc (by omega) _⟩
  have HO4 : Hid ((w3.alloc (.cells #[.string ⟨l.toArray⟩] 29)).ownsRow 0 5 1 (.slice (some ⟨go, 0, none⟩) m c2) m (bcs l)) := HO3.out.alloc _
  have hgoR : go ≠ R ∧ go ≠ g ∧ go ≠ w3.heap.size ∧ w.heap.size ≤ go := by omega
  have HGO := Lib.hid hgoR
  clear hch4 HO3 HR3 HB3 hgoR
  go_wp2
  generalize w3.heap.size = Z at *
  generalize w3.alloc (.cells #[.string ⟨l.toArray⟩] 29) = w4 at *
  clear hcv hR hg hRl hgl hgo1 hgo2 hw1 hw2 hw3
  go_loopw [9] (fun i wr => ∃ (k : Nat) (l' : List UInt8), k ≤ m ∧ i = .int .i64 k ∧ l'.length = m ∧ wr.ownsRow 0 5 1 (.slice (some ⟨go, 0, none⟩) m c2) m (bcs l') ∧ RSt w wr R g Z l) (fun i _ => m - (intOf i).toNat)
  case atStart => exact ⟨0, l, Nat.zero_le _, rfl, HLL.out, HO4.out, HT4.out⟩
  case round =>
    obtain ⟨k, l', hk, rfl, hl', hown, hT⟩ := hrel
    have HOr := Lib.hid hown
    have HTr := Lib.hid hT
    have HL' := Lib.hid hl'
    clear hown hT hl' HO4 HT4
    by_cases hlt : k < m
    · have hcell : wr.cell? ⟨go, k, none⟩ = some (.int .u8 ((l'[k]'(by have := HL'.out; omega)).toNat : Int)) := by
        rw [HOr.out.cellAt k (by omega)]
        have := HL'.out
        simp [bcs, hlt, this]
      have hfr := HOr.out.frozenAt k
      have hkz : (0 : Int) ≤ (k : Int) := by omega
      have hkm : (k : Int) < (m : Int) := by omega
      have HN1 := Lib.hid (HOr.out.stored k (.int .u8 63))
      generalize (l'[k]'(by have := HL'.out; omega)).toNat = ov at *
      go_wp2
      go_roundw
      case rel =>
        refine ⟨k + 1, l'.set k 63, by omega, by go_num, by simp [HL'.out], ?_, ?_⟩
        · have := HN1.out.1
          simpa [bcs, List.map_set] using this
        · refine HTr.out.keep (F := [go]) ((Ch.refl [go] wr).setCell (by simp) _) ?_
          have := HGO.out
          simp; omega
      case measure => simp [intOf]; omega
    · clear HOr HL'
      go_wp2
      go_loopw [10] (fun i wr => ∃ (k : Nat) (q : List UInt8), k ≤ n ∧ i = .int .i64 k ∧ RSt w wr R g Z q) (fun i _ => n - (intOf i).toNat)
      case atStart => exact ⟨0, l, Nat.zero_le _, rfl, HTr.out⟩
      case round =>
        obtain ⟨k2, q, hk2, rfl, hT⟩ := hrel
        have HT := Lib.hid hT
        clear hT HTr hk hlt
        by_cases hkn : k2 < n ∧ k2 < 50
        · obtain ⟨hk1, hk50⟩ := hkn
          have hnn := HN.out
          obtain ⟨⟨kd, nn⟩, hstk⟩ : ∃ p, st[k2]? = some p := ⟨_, List.getElem?_eq_getElem (by omega)⟩
          obtain ⟨b, o, hPe, hbw, hck, hcn⟩ := HS.out k2 _ hstk
          subst hPe
          have HCK := Lib.hid hck
          have HCN := Lib.hid hcn
          have hck1 : wr.cell? ⟨b, o + k2 * 2, none⟩ = some (.int .i64 kd) := (HT.out.below.cell (p := ⟨b, o + k2 * 2, none⟩) hbw).trans hck
          have hcn1 : wr.cell? ⟨b, o + k2 * 2 + 1, none⟩ = some (.int .i64 nn) := (HT.out.below.cell (p := ⟨b, o + k2 * 2 + 1, none⟩) hbw).trans hcn
          have hkz : (0 : Int) ≤ (k2 : Int) := by omega
          have hkl : (k2 : Int) < (n : Int) := by omega
          clear hnn hstk hck hcn
          have hk50i : (k2 : Int) < 50 := by omega
          go_upto_block 4 with (fail)
          go_cut [11, 12, 13, 14, 15, 16] (fun s11 s12 s13 s14 s15 s16 wx => Sw w R g Z s11 s12 s13 s14 s15 s16 wx)
          case first =>
            by_cases h1 : kd = 1
            · subst h1
              as_aux_lemma =>
              have hz := HT.out.z
              go_wp2_with fail
              refine (u8_tk R g q wr HT.out.r).mono ?_
              rintro e w5 ⟨rfl, hr5, hc5⟩
              have hz5 : Ref w5 Z q := hz.keep hc5 (by have := HT.out.ne; simp; omega)
              have hnl := num_tk_lt q 1
              generalize hNN : num (tk q 1) = NN at *
              have HNN := Lib.hid hNN
              clear hNN
              go_wp2_with fail
              refine (take_ref Z q 1 w5 hz5 (Nat.le_trans HT.out.len (by omega))).mono ?_
              rintro e w6 ⟨rfl, hz6, hc6⟩
              rw [show tkI q 1 = tk q 1 from tkI_nat q 1, show erI q 1 = er q 1 from erI_nat q 1]
              rw [show drI q 1 = dr q 1 from drI_nat q 1] at hz6
              have hT6 := HT.out.step hr5 hc5 hz6 hc6 (dr_le2 q 1)
              clear hr5 hc5 hz6 hc6 hz5 hz
              go_wp2_with fail
              go_meet
              case rel => exact ⟨_, tk q 1, er q 1, hT6, rfl, rfl, rfl, .inl ⟨rfl, by rw [HNN.out], Nat.le_trans (tk_le q 1) (by omega), rfl⟩⟩
            by_cases h2 : kd = 2
            · subst h2
              as_aux_lemma =>
              have hz := HT.out.z
              go_wp2_with fail
              refine (u16_tk R g q wr HT.out.r).mono ?_
              rintro e w5 ⟨rfl, hr5, hc5⟩
              have hz5 : Ref w5 Z q := hz.keep hc5 (by have := HT.out.ne; simp; omega)
              have hnl := num_tk_lt q 2
              generalize hNN : num (tk q 2) = NN at *
              have HNN := Lib.hid hNN
              clear hNN
              go_wp2_with fail
              refine (take_ref Z q 2 w5 hz5 (Nat.le_trans HT.out.len (by omega))).mono ?_
              rintro e w6 ⟨rfl, hz6, hc6⟩
              rw [show tkI q 2 = tk q 2 from tkI_nat q 2, show erI q 2 = er q 2 from erI_nat q 2]
              rw [show drI q 2 = dr q 2 from drI_nat q 2] at hz6
              have hT6 := HT.out.step hr5 hc5 hz6 hc6 (dr_le2 q 2)
              clear hr5 hc5 hz6 hc6 hz5 hz
              go_wp2_with fail
              go_meet
              case rel => exact ⟨_, tk q 2, er q 2, hT6, rfl, rfl, rfl, .inl ⟨rfl, by rw [HNN.out], Nat.le_trans (tk_le q 2) (by omega), rfl⟩⟩
            by_cases h3 : kd = 3
            · subst h3
              as_aux_lemma =>
              have hz := HT.out.z
              go_wp2_with fail
              refine (u32_tk R g q wr HT.out.r).mono ?_
              rintro e w5 ⟨rfl, hr5, hc5⟩
              have hz5 : Ref w5 Z q := hz.keep hc5 (by have := HT.out.ne; simp; omega)
              have hnl := num_tk_lt q 4
              generalize hNN : num (tk q 4) = NN at *
              have HNN := Lib.hid hNN
              clear hNN
              go_wp2_with fail
              refine (take_ref Z q 4 w5 hz5 (Nat.le_trans HT.out.len (by omega))).mono ?_
              rintro e w6 ⟨rfl, hz6, hc6⟩
              rw [show tkI q 4 = tk q 4 from tkI_nat q 4, show erI q 4 = er q 4 from erI_nat q 4]
              rw [show drI q 4 = dr q 4 from drI_nat q 4] at hz6
              have hT6 := HT.out.step hr5 hc5 hz6 hc6 (dr_le2 q 4)
              clear hr5 hc5 hz6 hc6 hz5 hz
              go_wp2_with fail
              go_meet
              case rel => exact ⟨_, tk q 4, er q 4, hT6, rfl, rfl, rfl, .inl ⟨rfl, by rw [HNN.out], Nat.le_trans (tk_le q 4) (by omega), rfl⟩⟩
            by_cases h4 : kd = 4
            · subst h4
              as_aux_lemma =>
              have hz := HT.out.z
              go_wp2_with fail
              refine (bytes_int R g q nn wr HT.out.r).mono ?_
              rintro e w5 ⟨A5, c5, G5, rfl, hG5, ht5, hr5, hc5⟩
              have hz5 : Ref w5 Z q := hz.keep hc5 (by have := HT.out.ne; simp; omega)
              have hb5 : Below w.heap.size w w5 := HT.out.below.trans (hc5.belowAt (by have := HT.out.from_; simp; omega) HT.out.below.size)
              have hcn5 : w5.cell? ⟨b, o + k2 * 2 + 1, none⟩ = some (.int .i64 nn) := (hb5.cell (p := ⟨b, o + k2 * 2 + 1, none⟩) hbw).trans HCN.out
              go_wp2_with fail
              refine (take_ref Z q nn w5 hz5 (Nat.le_trans HT.out.len (by omega))).mono ?_
              rintro e w6 ⟨rfl, hz6, hc6⟩
              have hT6 := HT.out.step hr5 hc5 hz6 hc6 (drI_le q nn)
              have hzl := HT.out.z.lt
              have hrl := HT.out.r.lt
              have hgl := HT.out.r.glt
              have hfr := HT.out.from_
              have hsz := HT.out.below.size
              have ht6 := ht5.keep hc6 (by simp; omega)
              have htl := Nat.le_trans (tkI_le q nn) HT.out.len
              clear hr5 hc5 hz6 hc6 hz5 hz ht5 hb5 hcn5
              go_wp2_with fail
              go_meet
              case rel => exact ⟨_, tkI q nn, erI q nn, hT6, rfl, rfl, rfl, .inr ⟨rfl, rfl, A5, c5, G5, rfl, ht6, htl, by omega, by omega, by omega, by omega⟩⟩
            by_cases h5 : kd = 5
            · subst h5
              as_aux_lemma =>
              have hz := HT.out.z
              go_wp2_with fail
              refine (rest_any R g q wr HT.out.r).mono ?_
              rintro e w5 ⟨G5, hG5, rfl, hrow5, hr5, hc5⟩
              have hz5 : Ref w5 Z q := hz.keep hc5 (by have := HT.out.ne; simp; omega)
              have hcz5 := hz5.cell
              have hbs : (ByteArray.mk q.toArray).size = q.length := rfl
              go_wp2_with fail
              refine (take_ref Z q (q.length : Int) w5 hz5 (Nat.le_trans HT.out.len (by omega))).mono ?_
              rintro e w6 ⟨rfl, hz6, hc6⟩
              rw [show tkI q (q.length : Int) = q from (tkI_nat q q.length).trans (tk_all q).1, show erI q (q.length : Int) = 0 from (erI_nat q q.length).trans (tk_all q).2.1]
              rw [show drI q (q.length : Int) = [] from (drI_nat q q.length).trans (tk_all q).2.2] at hz6
              have hT6 := HT.out.step hr5 hc5 hz6 hc6 (by simp)
              have hzl := HT.out.z.lt
              have hrl := HT.out.r.lt
              have hgl := HT.out.r.glt
              have hfr := HT.out.from_
              have hsz := HT.out.below.size
              have ht6 := (Told.of_row hrow5).keep hc6 (by simp; omega)
              have htl := HT.out.len
              clear hr5 hc5 hz6 hc6 hz5 hz hrow5 hcz5
              go_wp2_with fail
              go_meet
              case rel => exact ⟨_, q, 0, hT6, rfl, rfl, rfl, .inr ⟨rfl, rfl, _, q.length, G5, rfl, ht6, htl, by omega, by omega, by omega, by omega⟩⟩
            as_aux_lemma =>
            have hb1 : (kd == 1) = false := by simp [h1]
            have hb2 : (kd == 2) = false := by simp [h2]
            have hb3 : (kd == 3) = false := by simp [h3]
            have hb4 : (kd == 4) = false := by simp [h4]
            have hb5 : (kd == 5) = false := by simp [h5]
            have hT := HT.out
            have hf := hT.from_
            have hn' := hT.ne
            have hzz := hT.z.lt
            have hrr := hT.r.lt
            have hgg := hT.r.glt
            clear h1 h2 h3 h4 h5
            go_wp2_with fail
            go_meet
            case rel => exact ⟨q, [], 0, hT, rfl, rfl, rfl, .inr ⟨rfl, rfl, none, 0, wr.heap.size, rfl, Told.none_ _ _ _, by simp, by omega, by omega, by omega, hT.below.size⟩⟩
          case rest =>
            obtain ⟨q2, t, E, hT, rfl, rfl, rfl, hcase⟩ := hcut
            have HT2 := Lib.hid hT
            have hzc := hT.z.cell
            clear hT HT hck1 hcn1 HCK HCN
            have hEE : (E != E) = false := by simp
            rcases hcase with ⟨rfl, rfl, ht4, rfl⟩ | ⟨rfl, rfl, A5, c5, G5, rfl, htold, ht200, hG5⟩
            · have hqq : q2 = [] ∨ ∃ x q', q2 = x :: q' := by
                cases q2 with
                | nil => exact .inl rfl
                | cons x q' => exact .inr ⟨x, q', rfl⟩
              rcases hqq with hq0 | ⟨x0, q0, hq0⟩
              · subst hq0
                as_aux_lemma =>
                have hcd := (Ch.refl [] wc).drew
                have hrd : Rdr wc.drew R g [] := HT2.out.r.keep hcd (by simp) (by simp)
                have hTd : RSt w wc.drew R g Z [] := HT2.out.keep hcd (by simp)
                have HSS : Hid (wc.drew.cell? ⟨Z, 0, none⟩ = some (.string ⟨([] : List UInt8).toArray⟩)) := hzc
                clear hcd hzc HT2
                have HTd := Lib.hid hTd
                clear hTd
                go_wp2
                refine region_plan [(true, 0), (true, 1), (true, 2), (true, 3), (true, 4), (true, 5), (true, 6), (true, 7), (false, 8), (true, 9), (true, 10), (true, 11), (true, 12), (true, 13), (true, 14), (true, 15), (true, 16), (true, 17), (true, 18), (true, 19), (true, 20), (true, 21), (true, 22), (true, 23), (true, 25), (true, 26), (true, 27), (true, 28), (true, 29), (false, 24), (true, 30), (true, 31), (true, 32), (true, 33), (true, 36), (true, 37), (true, 38), (true, 39), (true, 40), (false, 34), (true, 35), (true, 41), (true, 42), (true, 43), (true, 44), (true, 47), (true, 48), (true, 49), (true, 50), (true, 51), (false, 45), (true, 46), (true, 52), (true, 53)]
                  (fun x => x.cell? ⟨Z, 0, none⟩ = some (.string ⟨([] : List UInt8).toArray⟩)) (by kernel_rfl) (by kernel_rfl) (by kernel_rfl) rfl HSS.out ?_
                iterate 8 (first | (refine Plan.take (v := ?_) rfl (by rfl) ?_ ?_; rotate_left 1; (focus (intro x hx; go_simp <;> with_reducible rfl)); simp only [Act.put, List.setIfInBounds_toArray, List.set_cons_zero, List.set_cons_succ]) | (refine Plan.skip rfl (by rfl) ?_; simp only [Act.put, List.setIfInBounds_toArray, List.set_cons_zero, List.set_cons_succ]))
                refine Plan.loud rfl (fun K hK => ?_)
                go_simp
                refine (number_ref t _ ht4).mono ?_
                rintro e w5 ⟨rfl, rfl⟩
                generalize num t = NT at *
                refine hK.out _ _ _ (fun x hx => hx) HSS.out ?_
                clear hK K
                iterate 20 (first | (refine Plan.take (v := ?_) rfl (by rfl) ?_ ?_; rotate_left 1; (focus (intro x hx; go_simp <;> with_reducible rfl)); simp only [Act.put, List.setIfInBounds_toArray, List.set_cons_zero, List.set_cons_succ]) | (refine Plan.skip rfl (by rfl) ?_; simp only [Act.put, List.setIfInBounds_toArray, List.set_cons_zero, List.set_cons_succ]))
                refine Plan.loud rfl (fun K hK => ?_)
                go_simp
                refine (left_any R g _ _ hrd).mono ?_
                rintro e w5 ⟨rfl, rfl⟩
                refine hK.out _ _ _ (fun x hx => hx) HSS.out ?_
                clear hK K
                iterate 9 (first | (refine Plan.take (v := ?_) rfl (by rfl) ?_ ?_; rotate_left 1; (focus (intro x hx; go_simp <;> with_reducible rfl)); simp only [Act.put, List.setIfInBounds_toArray, List.set_cons_zero, List.set_cons_succ]) | (refine Plan.skip rfl (by rfl) ?_; simp only [Act.put, List.setIfInBounds_toArray, List.set_cons_zero, List.set_cons_succ]))
                refine Plan.loud rfl (fun K hK => ?_)
                go_simp
                refine (done_nil R g _ hrd).mono ?_
                rintro e w5 ⟨rfl, rfl⟩
                refine hK.out _ _ _ (fun x hx => hx) HSS.out ?_
                clear hK K
                iterate 10 (first | (refine Plan.take (v := ?_) rfl (by rfl) ?_ ?_; rotate_left 1; (focus (intro x hx; go_simp <;> with_reducible rfl)); simp only [Act.put, List.setIfInBounds_toArray, List.set_cons_zero, List.set_cons_succ]) | (refine Plan.skip rfl (by rfl) ?_; simp only [Act.put, List.setIfInBounds_toArray, List.set_cons_zero, List.set_cons_succ]))
                refine Plan.loud rfl (fun K hK => ?_)
                go_simp
                refine (done_nil R g _ hrd).mono ?_
                rintro e w5 ⟨rfl, rfl⟩
                refine hK.out _ _ _ (fun x hx => hx) HSS.out ?_
                clear hK K
                iterate 3 (first | (refine Plan.take (v := ?_) rfl (by rfl) ?_ ?_; rotate_left 1; (focus (intro x hx; go_simp <;> with_reducible rfl)); simp only [Act.put, List.setIfInBounds_toArray, List.set_cons_zero, List.set_cons_succ]) | (refine Plan.skip rfl (by rfl) ?_; simp only [Act.put, List.setIfInBounds_toArray, List.set_cons_zero, List.set_cons_succ]))
                refine Plan.done ?_
                clear hrd HSS
                generalize wc.drew = wd at *
                go_wp2
                go_loop [21] (fun i => i = .int .i64 0) (fun _ => 0)
                case atStart => rfl
                case round =>
                  subst hrel
                  go_wp2
                  go_roundw
                  case rel => exact ⟨k2 + 1, _, by omega, by go_num, HTd.out⟩
                  case measure => simp [intOf]; omega
              · subst hq0
                as_aux_lemma =>
                have hcd := (Ch.refl [] wc).drew
                have hrd : Rdr wc.drew R g (x0 :: q0) := HT2.out.r.keep hcd (by simp) (by simp)
                have hTd : RSt w wc.drew R g Z (x0 :: q0) := HT2.out.keep hcd (by simp)
                have HSS : Hid (wc.drew.cell? ⟨Z, 0, none⟩ = some (.string ⟨(x0 :: q0).toArray⟩)) := hzc
                clear hcd hzc HT2
                have HTd := Lib.hid hTd
                clear hTd
                go_wp2
                refine region_plan [(true, 0), (true, 1), (true, 2), (true, 3), (true, 4), (true, 5), (true, 6), (true, 7), (false, 8), (true, 9), (true, 10), (true, 11), (true, 12), (true, 13), (true, 14), (true, 15), (true, 16), (true, 17), (true, 18), (true, 19), (true, 20), (true, 21), (true, 22), (true, 23), (true, 25), (true, 26), (true, 27), (true, 28), (true, 29), (false, 24), (true, 30), (true, 31), (true, 32), (true, 33), (true, 36), (true, 37), (true, 38), (true, 39), (true, 40), (false, 34), (true, 35), (true, 41), (true, 42), (true, 43), (true, 44), (true, 47), (true, 48), (true, 49), (true, 50), (true, 51), (false, 45), (true, 46), (true, 52), (true, 53)]
                  (fun x => x.cell? ⟨Z, 0, none⟩ = some (.string ⟨(x0 :: q0).toArray⟩)) (by kernel_rfl) (by kernel_rfl) (by kernel_rfl) rfl HSS.out ?_
                iterate 8 (first | (refine Plan.take (v := ?_) rfl (by rfl) ?_ ?_; rotate_left 1; (focus (intro x hx; go_simp <;> with_reducible rfl)); simp only [Act.put, List.setIfInBounds_toArray, List.set_cons_zero, List.set_cons_succ]) | (refine Plan.skip rfl (by rfl) ?_; simp only [Act.put, List.setIfInBounds_toArray, List.set_cons_zero, List.set_cons_succ]))
                refine Plan.loud rfl (fun K hK => ?_)
                go_simp
                refine (number_ref t _ ht4).mono ?_
                rintro e w5 ⟨rfl, rfl⟩
                generalize num t = NT at *
                refine hK.out _ _ _ (fun x hx => hx) HSS.out ?_
                clear hK K
                iterate 20 (first | (refine Plan.take (v := ?_) rfl (by rfl) ?_ ?_; rotate_left 1; (focus (intro x hx; go_simp <;> with_reducible rfl)); simp only [Act.put, List.setIfInBounds_toArray, List.set_cons_zero, List.set_cons_succ]) | (refine Plan.skip rfl (by rfl) ?_; simp only [Act.put, List.setIfInBounds_toArray, List.set_cons_zero, List.set_cons_succ]))
                refine Plan.loud rfl (fun K hK => ?_)
                go_simp
                refine (left_any R g _ _ hrd).mono ?_
                rintro e w5 ⟨rfl, rfl⟩
                refine hK.out _ _ _ (fun x hx => hx) HSS.out ?_
                clear hK K
                iterate 9 (first | (refine Plan.take (v := ?_) rfl (by rfl) ?_ ?_; rotate_left 1; (focus (intro x hx; go_simp <;> with_reducible rfl)); simp only [Act.put, List.setIfInBounds_toArray, List.set_cons_zero, List.set_cons_succ]) | (refine Plan.skip rfl (by rfl) ?_; simp only [Act.put, List.setIfInBounds_toArray, List.set_cons_zero, List.set_cons_succ]))
                refine Plan.loud rfl (fun K hK => ?_)
                go_simp
                refine (done_cons R g x0 q0 _ hrd).mono ?_
                rintro e w5 ⟨rfl, rfl⟩
                refine hK.out _ _ _ (fun x hx => hx) HSS.out ?_
                clear hK K
                iterate 10 (first | (refine Plan.take (v := ?_) rfl (by rfl) ?_ ?_; rotate_left 1; (focus (intro x hx; go_simp <;> with_reducible rfl)); simp only [Act.put, List.setIfInBounds_toArray, List.set_cons_zero, List.set_cons_succ]) | (refine Plan.skip rfl (by rfl) ?_; simp only [Act.put, List.setIfInBounds_toArray, List.set_cons_zero, List.set_cons_succ]))
                refine Plan.loud rfl (fun K hK => ?_)
                go_simp
                refine (done_cons R g x0 q0 _ hrd).mono ?_
                rintro e w5 ⟨rfl, rfl⟩
                refine hK.out _ _ _ (fun x hx => hx) HSS.out ?_
                clear hK K
                iterate 3 (first | (refine Plan.take (v := ?_) rfl (by rfl) ?_ ?_; rotate_left 1; (focus (intro x hx; go_simp <;> with_reducible rfl)); simp only [Act.put, List.setIfInBounds_toArray, List.set_cons_zero, List.set_cons_succ]) | (refine Plan.skip rfl (by rfl) ?_; simp only [Act.put, List.setIfInBounds_toArray, List.set_cons_zero, List.set_cons_succ]))
                refine Plan.done ?_
                clear hrd HSS
                generalize wc.drew = wd at *
                go_wp2
                go_loop [21] (fun i => i = .int .i64 0) (fun _ => 0)
                case atStart => rfl
                case round =>
                  subst hrel
                  go_wp2
                  go_roundw
                  case rel => exact ⟨k2 + 1, _, by omega, by go_num, HTd.out⟩
                  case measure => simp [intOf]; omega
            · have hqq : q2 = [] ∨ ∃ x q', q2 = x :: q' := by
                cases q2 with
                | nil => exact .inl rfl
                | cons x q' => exact .inr ⟨x, q', rfl⟩
              rcases hqq with hq0 | ⟨x0, q0, hq0⟩
              · subst hq0
                as_aux_lemma =>
                have hcd := (Ch.refl [] wc).drew
                have hrd : Rdr wc.drew R g [] := HT2.out.r.keep hcd (by simp) (by simp)
                have hTd : RSt w wc.drew R g Z [] := HT2.out.keep hcd (by simp)
                have HSS : Hid (wc.drew.cell? ⟨Z, 0, none⟩ = some (.string ⟨([] : List UInt8).toArray⟩) ∧ (convert 22 9 (.slice A5 t.length c5)).run Try.prog wc.drew = .ok (.string ⟨t.toArray⟩) wc.drew) := ⟨hzc, convert_holds (htold.keep hcd (by simp)).holds rfl⟩
                have HTo := Lib.hid (htold.keep hcd (by simp))
                clear hcd hzc HT2 htold
                have HTd := Lib.hid hTd
                clear hTd
                go_wp2
                refine region_plan [(true, 0), (true, 1), (true, 2), (true, 3), (true, 4), (true, 5), (true, 6), (true, 7), (false, 8), (true, 9), (true, 10), (true, 11), (true, 12), (true, 13), (true, 14), (true, 15), (true, 16), (true, 17), (true, 18), (true, 19), (true, 20), (true, 21), (true, 22), (true, 23), (true, 25), (true, 26), (true, 27), (true, 28), (true, 29), (false, 24), (true, 30), (true, 31), (true, 32), (true, 33), (true, 36), (true, 37), (true, 38), (true, 39), (true, 40), (false, 34), (true, 35), (true, 41), (true, 42), (true, 43), (true, 44), (true, 47), (true, 48), (true, 49), (true, 50), (true, 51), (false, 45), (true, 46), (true, 52), (true, 53)]
                  (fun x => x.cell? ⟨Z, 0, none⟩ = some (.string ⟨([] : List UInt8).toArray⟩) ∧ (convert 22 9 (.slice A5 t.length c5)).run Try.prog x = .ok (.string ⟨t.toArray⟩) x) (by kernel_rfl) (by kernel_rfl) (by kernel_rfl) rfl HSS.out ?_
                iterate 8 (first | (refine Plan.take (v := ?_) rfl (by rfl) ?_ ?_; rotate_left 1; (focus (intro x hx; go_simp <;> with_reducible rfl)); simp only [Act.put, List.setIfInBounds_toArray, List.set_cons_zero, List.set_cons_succ]) | (refine Plan.skip rfl (by rfl) ?_; simp only [Act.put, List.setIfInBounds_toArray, List.set_cons_zero, List.set_cons_succ]))
                refine Plan.loud rfl (fun K hK => ?_)
                go_simp
                refine hK.out _ _ _ (fun x hx => hx) HSS.out ?_
                clear hK K
                iterate 20 (first | (refine Plan.take (v := ?_) rfl (by rfl) ?_ ?_; rotate_left 1; (focus (intro x hx; go_simp <;> with_reducible rfl)); simp only [Act.put, List.setIfInBounds_toArray, List.set_cons_zero, List.set_cons_succ]) | (refine Plan.skip rfl (by rfl) ?_; simp only [Act.put, List.setIfInBounds_toArray, List.set_cons_zero, List.set_cons_succ]))
                refine Plan.loud rfl (fun K hK => ?_)
                go_simp
                refine (left_any R g _ _ hrd).mono ?_
                rintro e w5 ⟨rfl, rfl⟩
                refine hK.out _ _ _ (fun x hx => hx) HSS.out ?_
                clear hK K
                iterate 9 (first | (refine Plan.take (v := ?_) rfl (by rfl) ?_ ?_; rotate_left 1; (focus (intro x hx; go_simp <;> with_reducible rfl)); simp only [Act.put, List.setIfInBounds_toArray, List.set_cons_zero, List.set_cons_succ]) | (refine Plan.skip rfl (by rfl) ?_; simp only [Act.put, List.setIfInBounds_toArray, List.set_cons_zero, List.set_cons_succ]))
                refine Plan.loud rfl (fun K hK => ?_)
                go_simp
                refine (done_nil R g _ hrd).mono ?_
                rintro e w5 ⟨rfl, rfl⟩
                refine hK.out _ _ _ (fun x hx => hx) HSS.out ?_
                clear hK K
                iterate 10 (first | (refine Plan.take (v := ?_) rfl (by rfl) ?_ ?_; rotate_left 1; (focus (intro x hx; go_simp <;> with_reducible rfl)); simp only [Act.put, List.setIfInBounds_toArray, List.set_cons_zero, List.set_cons_succ]) | (refine Plan.skip rfl (by rfl) ?_; simp only [Act.put, List.setIfInBounds_toArray, List.set_cons_zero, List.set_cons_succ]))
                refine Plan.loud rfl (fun K hK => ?_)
                go_simp
                refine (done_nil R g _ hrd).mono ?_
                rintro e w5 ⟨rfl, rfl⟩
                refine hK.out _ _ _ (fun x hx => hx) HSS.out ?_
                clear hK K
                iterate 3 (first | (refine Plan.take (v := ?_) rfl (by rfl) ?_ ?_; rotate_left 1; (focus (intro x hx; go_simp <;> with_reducible rfl)); simp only [Act.put, List.setIfInBounds_toArray, List.set_cons_zero, List.set_cons_succ]) | (refine Plan.skip rfl (by rfl) ?_; simp only [Act.put, List.setIfInBounds_toArray, List.set_cons_zero, List.set_cons_succ]))
                refine Plan.done ?_
                clear hrd HSS
                generalize wc.drew = wd at *
                go_wp2
                go_loopw [21] (fun i wr => ∃ (j : Nat) (t' : List UInt8), j ≤ t.length ∧ i = .int .i64 j ∧ t'.length = t.length ∧ RSt w wr R g Z [] ∧ Told wr G5 A5 t') (fun i _ => t.length - (intOf i).toNat)
                case atStart => exact ⟨0, t, Nat.zero_le _, rfl, rfl, HTd.out, HTo.out⟩
                case round =>
                  obtain ⟨j, t', hj, rfl, ht', hT3, hto3⟩ := hrel
                  have HT3 := Lib.hid hT3
                  have HTo3 := Lib.hid hto3
                  have HT' := Lib.hid ht'
                  clear hT3 hto3 ht' HTd HTo
                  by_cases hjl : j < t.length
                  · have hjl' : j < t'.length := by rw [HT'.out]; exact hjl
                    obtain ⟨hA5, hrow5⟩ := HTo3.out.row (by omega)
                    subst hA5
                    have hcell := hrow5.cell j hjl'
                    have hfr : wr.frozen? ⟨G5, j, none⟩ = false := by unfold Row at hrow5; simp [World.frozen?, hrow5]
                    have HRW := Lib.hid hrow5
                    have hjz : (0 : Int) ≤ (j : Int) := by omega
                    have hjt : (j : Int) < (t.length : Int) := by omega
                    generalize t'[j].toNat = ov at *
                    clear hrow5 hjl'
                    go_wp2
                    go_roundw
                    case rel =>
                      refine ⟨j + 1, t'.set j 33, by omega, by go_num, by simp [HT'.out], ?_, ?_⟩
                      · refine HT3.out.keep (F := [G5]) ((Ch.refl [G5] wr).setCell (by simp) _) ?_
                        simp; omega
                      · refine Told.of_row ?_
                        have := HRW.out
                        unfold Row at this ⊢
                        simp only [World.setCell, Array.getElem?_modify, this]
                        simp [bcs, List.map_set]
                    case measure => simp [intOf]; omega
                  · go_wp2
                    go_roundw
                    case rel => exact ⟨k2 + 1, _, by omega, by go_num, HT3.out⟩
                    case measure => simp [intOf]; omega
              · subst hq0
                as_aux_lemma =>
                have hcd := (Ch.refl [] wc).drew
                have hrd : Rdr wc.drew R g (x0 :: q0) := HT2.out.r.keep hcd (by simp) (by simp)
                have hTd : RSt w wc.drew R g Z (x0 :: q0) := HT2.out.keep hcd (by simp)
                have HSS : Hid (wc.drew.cell? ⟨Z, 0, none⟩ = some (.string ⟨(x0 :: q0).toArray⟩) ∧ (convert 22 9 (.slice A5 t.length c5)).run Try.prog wc.drew = .ok (.string ⟨t.toArray⟩) wc.drew) := ⟨hzc, convert_holds (htold.keep hcd (by simp)).holds rfl⟩
                have HTo := Lib.hid (htold.keep hcd (by simp))
                clear hcd hzc HT2 htold
                have HTd := Lib.hid hTd
                clear hTd
                go_wp2
                refine region_plan [(true, 0), (true, 1), (true, 2), (true, 3), (true, 4), (true, 5), (true, 6), (true, 7), (false, 8), (true, 9), (true, 10), (true, 11), (true, 12), (true, 13), (true, 14), (true, 15), (true, 16), (true, 17), (true, 18), (true, 19), (true, 20), (true, 21), (true, 22), (true, 23), (true, 25), (true, 26), (true, 27), (true, 28), (true, 29), (false, 24), (true, 30), (true, 31), (true, 32), (true, 33), (true, 36), (true, 37), (true, 38), (true, 39), (true, 40), (false, 34), (true, 35), (true, 41), (true, 42), (true, 43), (true, 44), (true, 47), (true, 48), (true, 49), (true, 50), (true, 51), (false, 45), (true, 46), (true, 52), (true, 53)]
                  (fun x => x.cell? ⟨Z, 0, none⟩ = some (.string ⟨(x0 :: q0).toArray⟩) ∧ (convert 22 9 (.slice A5 t.length c5)).run Try.prog x = .ok (.string ⟨t.toArray⟩) x) (by kernel_rfl) (by kernel_rfl) (by kernel_rfl) rfl HSS.out ?_
                iterate 8 (first | (refine Plan.take (v := ?_) rfl (by rfl) ?_ ?_; rotate_left 1; (focus (intro x hx; go_simp <;> with_reducible rfl)); simp only [Act.put, List.setIfInBounds_toArray, List.set_cons_zero, List.set_cons_succ]) | (refine Plan.skip rfl (by rfl) ?_; simp only [Act.put, List.setIfInBounds_toArray, List.set_cons_zero, List.set_cons_succ]))
                refine Plan.loud rfl (fun K hK => ?_)
                go_simp
                refine hK.out _ _ _ (fun x hx => hx) HSS.out ?_
                clear hK K
                iterate 20 (first | (refine Plan.take (v := ?_) rfl (by rfl) ?_ ?_; rotate_left 1; (focus (intro x hx; go_simp <;> with_reducible rfl)); simp only [Act.put, List.setIfInBounds_toArray, List.set_cons_zero, List.set_cons_succ]) | (refine Plan.skip rfl (by rfl) ?_; simp only [Act.put, List.setIfInBounds_toArray, List.set_cons_zero, List.set_cons_succ]))
                refine Plan.loud rfl (fun K hK => ?_)
                go_simp
                refine (left_any R g _ _ hrd).mono ?_
                rintro e w5 ⟨rfl, rfl⟩
                refine hK.out _ _ _ (fun x hx => hx) HSS.out ?_
                clear hK K
                iterate 9 (first | (refine Plan.take (v := ?_) rfl (by rfl) ?_ ?_; rotate_left 1; (focus (intro x hx; go_simp <;> with_reducible rfl)); simp only [Act.put, List.setIfInBounds_toArray, List.set_cons_zero, List.set_cons_succ]) | (refine Plan.skip rfl (by rfl) ?_; simp only [Act.put, List.setIfInBounds_toArray, List.set_cons_zero, List.set_cons_succ]))
                refine Plan.loud rfl (fun K hK => ?_)
                go_simp
                refine (done_cons R g x0 q0 _ hrd).mono ?_
                rintro e w5 ⟨rfl, rfl⟩
                refine hK.out _ _ _ (fun x hx => hx) HSS.out ?_
                clear hK K
                iterate 10 (first | (refine Plan.take (v := ?_) rfl (by rfl) ?_ ?_; rotate_left 1; (focus (intro x hx; go_simp <;> with_reducible rfl)); simp only [Act.put, List.setIfInBounds_toArray, List.set_cons_zero, List.set_cons_succ]) | (refine Plan.skip rfl (by rfl) ?_; simp only [Act.put, List.setIfInBounds_toArray, List.set_cons_zero, List.set_cons_succ]))
                refine Plan.loud rfl (fun K hK => ?_)
                go_simp
                refine (done_cons R g x0 q0 _ hrd).mono ?_
                rintro e w5 ⟨rfl, rfl⟩
                refine hK.out _ _ _ (fun x hx => hx) HSS.out ?_
                clear hK K
                iterate 3 (first | (refine Plan.take (v := ?_) rfl (by rfl) ?_ ?_; rotate_left 1; (focus (intro x hx; go_simp <;> with_reducible rfl)); simp only [Act.put, List.setIfInBounds_toArray, List.set_cons_zero, List.set_cons_succ]) | (refine Plan.skip rfl (by rfl) ?_; simp only [Act.put, List.setIfInBounds_toArray, List.set_cons_zero, List.set_cons_succ]))
                refine Plan.done ?_
                clear hrd HSS
                generalize wc.drew = wd at *
                go_wp2
                go_loopw [21] (fun i wr => ∃ (j : Nat) (t' : List UInt8), j ≤ t.length ∧ i = .int .i64 j ∧ t'.length = t.length ∧ RSt w wr R g Z (x0 :: q0) ∧ Told wr G5 A5 t') (fun i _ => t.length - (intOf i).toNat)
                case atStart => exact ⟨0, t, Nat.zero_le _, rfl, rfl, HTd.out, HTo.out⟩
                case round =>
                  obtain ⟨j, t', hj, rfl, ht', hT3, hto3⟩ := hrel
                  have HT3 := Lib.hid hT3
                  have HTo3 := Lib.hid hto3
                  have HT' := Lib.hid ht'
                  clear hT3 hto3 ht' HTd HTo
                  by_cases hjl : j < t.length
                  · have hjl' : j < t'.length := by rw [HT'.out]; exact hjl
                    obtain ⟨hA5, hrow5⟩ := HTo3.out.row (by omega)
                    subst hA5
                    have hcell := hrow5.cell j hjl'
                    have hfr : wr.frozen? ⟨G5, j, none⟩ = false := by unfold Row at hrow5; simp [World.frozen?, hrow5]
                    have HRW := Lib.hid hrow5
                    have hjz : (0 : Int) ≤ (j : Int) := by omega
                    have hjt : (j : Int) < (t.length : Int) := by omega
                    generalize t'[j].toNat = ov at *
                    clear hrow5 hjl'
                    go_wp2
                    go_roundw
                    case rel =>
                      refine ⟨j + 1, t'.set j 33, by omega, by go_num, by simp [HT'.out], ?_, ?_⟩
                      · refine HT3.out.keep (F := [G5]) ((Ch.refl [G5] wr).setCell (by simp) _) ?_
                        simp; omega
                      · refine Told.of_row ?_
                        have := HRW.out
                        unfold Row at this ⊢
                        simp only [World.setCell, Array.getElem?_modify, this]
                        simp [bcs, List.map_set]
                    case measure => simp [intOf]; omega
                  · go_wp2
                    go_roundw
                    case rel => exact ⟨k2 + 1, _, by omega, by go_num, HT3.out⟩
                    case measure => simp [intOf]; omega
        · have hT := HT.out
          have hcd := (Ch.refl [] wr).drew
          have hrd : Rdr wr.drew R g q := hT.r.keep hcd (by simp) (by simp)
          have hzd : wr.drew.cell? ⟨Z, 0, none⟩ = some (.string ⟨q.toArray⟩) := hT.z.cell
          have hbd : Below w.heap.size w wr.drew := hT.below.drew
          have HZd := Lib.hid (hT.z.keep hcd (by simp))
          have HNE := Lib.hid hT.ne
          have HFR := Lib.hid hT.from_
          clear hT hcd HT
          by_cases hk1 : k2 < n
          all_goals
            as_aux_lemma =>
            go_wp2
            refine region_plan [(true, 0), (true, 1), (true, 2), (true, 5), (true, 6), (true, 7), (true, 8), (false, 3), (true, 4), (true, 9), (true, 10), (true, 11)] (fun x => x.cell? ⟨Z, 0, none⟩ = some (.string ⟨q.toArray⟩)) (by kernel_rfl) (by kernel_rfl) (by kernel_rfl) rfl hzd ?_
            iterate 7 (refine Plan.take (v := ?_) rfl (by rfl) ?_ ?_; rotate_left 1; (focus (intro x hx; go_simp <;> with_reducible rfl)); simp only [Act.put, List.setIfInBounds_toArray, List.set_cons_zero, List.set_cons_succ])
            refine Plan.loud rfl (fun K hK => ?_)
            go_simp
            refine (rest_any R g q _ hrd).mono ?_
            rintro e w8 ⟨G8, hG8, rfl, hrow8, hr8, hc8⟩
            have hcv8 := convert_row hrow8
            have hz8 := (HZd.out.keep hc8 (by have := HNE.out; simp; omega)).cell
            have hb8 : Below w.heap.size w w8 := hbd.trans (hc8.belowAt (by have := HFR.out; simp; omega) hbd.size)
            refine hK.out (fun x => x.cell? ⟨Z, 0, none⟩ = some (.string ⟨q.toArray⟩) ∧ (convert 22 9 (.slice (some ⟨G8, 0, none⟩) q.length q.length)).run Try.prog x = .ok (.string ⟨q.toArray⟩) x) _ _ (fun _ hx => hx.1) ⟨hz8, hcv8⟩ ?_
            clear hK K hcv8 hz8 hr8 hc8 hrow8
            iterate 4 (refine Plan.take (v := ?_) rfl (by rfl) ?_ ?_; rotate_left 1; (focus (intro x hx; go_simp <;> with_reducible rfl)); simp only [Act.put, List.setIfInBounds_toArray, List.set_cons_zero, List.set_cons_succ])
            refine Plan.done ?_
            go_wp2
            go_ret
            exact ⟨rfl, hb8⟩

end Go.Proofs.Ytlaoheflblkgaaa
